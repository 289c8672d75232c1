/- Parts of the proof of the text YtjdomibbaemdnaaGreatDoorZK42. -/
import Derived.Deep.RegionHeld3
import Derived.Test.YtjdomibbaemdnaaGreatDoorZK1
import Derived.Test.YtjdomibbaemdnaaGreatDoorZK11
import Derived.Test.YtjdomibbaemdnaaGreatDoorZK26
set_option linter.all false
set_option maxRecDepth 100000
set_option maxHeartbeats 8000000
namespace Go.Proofs.YtjdomibbaemdnaaGreatDoor
namespace R
theorem getD_lt {l:List Nat} {k:Nat} (h:k<l.length):l.getD k 0=l[k]:=by
 rw [List.getD_eq_getElem?_getD,List.getElem?_eq_getElem h];rfl
theorem ml (l:List Nat) (k d:Nat) (h:k<l.length):toN (l.set k d)+B ^ k*l.getD k 0=toN l+B ^ k*d:=by
 induction l generalizing k with
 | nil=>simp at h
 | cons a r ih =>
  cases k with
  | zero=>simp [toN];omega
  | succ k =>
   have h1:=ih k (by simpa using h)
   simp only [List.set_cons_succ,toN,List.getD_cons_succ,Nat.pow_succ]
   have h2:B*toN (r.set k d)+B*(B ^ k*r.getD k 0)=B*toN r+B*(B ^ k*d):=by rw [←Nat.mul_add,←Nat.mul_add,h1]
   rw [Nat.mul_comm (B ^ k) B,Nat.mul_assoc,Nat.mul_assoc]
   omega
theorem Dig.set {l:List Nat} (h:Dig l) (k:Nat) {d:Nat} (hd:d<1000000):Dig (l.set k d):=fun x hx=>by
 rcases List.mem_or_eq_of_mem_set hx with hx | rfl
 ·exact h x hx
 ·exact hd
theorem getD_set_ne (l:List Nat) (k m d:Nat) (h:k≠m):(l.set k d).getD m 0=l.getD m 0:=by
 rw [List.getD_eq_getElem?_getD,List.getD_eq_getElem?_getD,List.getElem?_set_ne h]
theorem eZ {x y:Nat} (hx:x<1000000) (hy:y<1000000):x*y≤999998000001:=by
 have:=Nat.mul_le_mul (show x≤999999 by omega) (show y≤999999 by omega)
 omega
theorem iH {o:List Nat} {k x y c:Nat} (hk:k<o.length) (ho:Dig o) (hx:x<1000000) (hy:y<1000000) (hc:c<1000000) :
  let t:=o.getD k 0+x*y+c
  t / 1000000<1000000∧t % 1000000<1000000∧toN (o.set k (t % 1000000))+B ^ (k+1)*(t / 1000000)=toN o+B ^ k*(x*y+c):=by
 intro t
 have h1:=eZ hx hy
 have h2:=ho.getD k
 have h3:t<1000000*1000000:=by show o.getD k 0+x*y+c<_;omega
 refine ⟨by omega,by omega,?_⟩
 have h4:=ml o k (t % 1000000) hk
 have h5:B ^ k*t=B ^ k*(t % 1000000)+B ^ (k+1)*(t / 1000000):=by
  rw [Nat.pow_succ,Nat.mul_assoc,←Nat.mul_add,dH]
  congr 1
  omega
 have h6:B ^ k*t=B ^ k*o.getD k 0+B ^ k*(x*y+c):=by
  rw [←Nat.mul_add];congr 1;show o.getD k 0+x*y+c=_;omega
 omega
end R
namespace R
open Go.RowKit
def Nats (w:World) (v:Value) (l:List Nat):Prop :=
 ∃ p cap,v = .slice p l.length cap∧l.length≤cap∧cap≤9223372036854775807 ∧
  (l ≠ []→∃ b off,p=some ⟨b,off,none⟩∧∀ i,i<l.length→w.cell? ⟨b,off+i,none⟩=some (.int .i64 (l.getD i 0:Nat)))
theorem Nats.next {w w':World} {v:Value} {l:List Nat} (h:Nats w v l) (hb:Below w.heap.size w w'):Nats w' v l:=by
 obtain ⟨p,cap,rfl,h1,h2,h3⟩:=h
 refine ⟨p,cap,rfl,h1,h2,fun hne => ?_⟩
 obtain ⟨b,off,e,hc⟩:=h3 hne
 exact ⟨b,off,e,fun i hi=>(hb.cell (World.block_lt_of_cell? w _ (hc i hi))).trans (hc i hi)⟩
theorem Nats.nil (w:World):Nats w (.slice none 0 0) []:=⟨none,0,rfl,Nat.le_refl _,by decide,fun h=>absurd rfl h⟩
theorem aK {l:List Nat} (h:Dig l):dg (toN l) <+: l:=by
 induction l using fz with
 | h0=>rw [show toN []=0 from rfl,av];exact List.prefix_refl _
 | hs m d ih =>
  by_cases hd:d=0
  ·subst hd
   rw [aQ,Nat.mul_zero,Nat.add_zero]
   exact (ih (fun x hx=>h x (by simp [hx]))).trans (List.prefix_append _ _)
  ·rw [m8 h (by rw [List.getLast?_concat];intro e;exact hd (Option.some.inj e))]
   exact List.prefix_refl _
theorem Nats.take {w:World} {p:Option Addr} {cap:Nat} {l m:List Nat} (h:Nats w (.slice p l.length cap) l) (hm:m <+: l):Nats w (.slice p m.length cap) m:=by
 obtain ⟨p',cap',he,h1,h2,h3⟩:=h
 simp only [Value.slice.injEq,true_and] at he
 obtain ⟨rfl,rfl⟩:=he
 refine ⟨p,cap,rfl,Nat.le_trans hm.length_le h1,h2,fun hne => ?_⟩
 obtain ⟨r,rfl⟩:=hm
 obtain ⟨b,off,e,hc⟩:=h3 (by simp [hne])
 refine ⟨b,off,e,fun i hi => ?_⟩
 rw [hc i (by rw [List.length_append];omega)]
 rw [List.getD_eq_getElem?_getD,List.getD_eq_getElem?_getD,List.getElem?_append_left hi]
def IsNat (w:World) (v:Value) (n:Nat):Prop:=Nats w v (dg n)
theorem IsNat.next {w w':World} {v:Value} {n:Nat} (h:IsNat w v n) (hb:Below w.heap.size w w'):IsNat w' v n:=Nats.next h hb
theorem Nats.of_cells {w:World} {b:Nat} {l:List Nat} {cap:Nat} (h1:l.length≤cap) (h2:cap≤9223372036854775807)
  (h:∀ i,i<l.length→w.cell? ⟨b,i,none⟩=some (.int .i64 (l.getD i 0:Nat))):Nats w (.slice (some ⟨b,0,none⟩) l.length cap) l :=
 ⟨_,cap,rfl,h1,h2,fun _=>⟨b,0,rfl,fun i hi=>by rw [Nat.zero_add];exact h i hi⟩⟩
theorem gJ:(Tryz.prog.info? 3).map (fun i=>(i.zero,i.size,i.bytes))=some (some (.int .i64 0),1,8):=by kernel_rfl
theorem bg {w:World} {base:Nat} {v:Value} {l:List Nat} {e:TypeId} (h:w.ownsRow base e 1 v l.length (l.map fun x=>Value.int .i64 (x:Nat))):Nats w v l:=by
 have h':=h
 obtain ⟨h1,h2⟩:=h
 rcases h2 with ⟨rfl,h3⟩ | ⟨g,cap,cur,rfl,hb,hh,hn,hcap,hsz,htk⟩
 ·have:l = []:=List.eq_nil_of_length_eq_zero h3
  subst this;exact Nats.nil w
 ·refine ⟨_,cap,rfl,hn,by unfold maxLen at hcap;omega,fun _=>⟨g,0,rfl,fun i hi => ?_⟩⟩
  have h3:=h'.cells (g:=g) rfl i (.int .i64 (l.getD i 0:Nat)) (by
   rw [List.getElem?_map,List.getElem?_eq_getElem hi,List.getD_eq_getElem?_getD,List.getElem?_eq_getElem hi];rfl)
  have hadd:(⟨g,0,none⟩:Addr).add i=⟨g,0+i,none⟩:=by unfold Addr.add;split <;> simp_all
  rwa [hadd] at h3
def ag (l:List Nat):List Value:=l.map fun x=>Value.int .i64 (x:Nat)
theorem bh (l:List Nat) (x:Nat):ag l ++ [Value.int .i64 (x:Nat)]=ag (l ++ [x]):=by simp [ag]
def Row (w:World) (g:Nat) (l:List Nat):Prop:=w.heap[g]? = some (.cells (ag l).toArray 3 (0,0))
theorem Row.cell {w:World} {g:Nat} {l:List Nat} (h:Row w g l) {i:Nat} (hi:i<l.length):w.cell? ⟨g,i,none⟩=some (.int .i64 (l.getD i 0:Nat)):=by
 rw [cell_of_row w g i _ _ (0,0) h]
 simp [ag,hi]
theorem Row.frozen {w:World} {g:Nat} {l:List Nat} (h:Row w g l) (i:Nat):w.frozen? ⟨g,i,none⟩=false:=by
 unfold Row at h
 simp [World.frozen?, h]
theorem Row.set {w:World} {g:Nat} {l:List Nat} (h:Row w g l) (i:Nat) (x:Nat):Row (w.setCell ⟨g,i,none⟩ (.int .i64 (x:Nat))) g (l.set i x):=by
 unfold Row at h ⊢
 simp [World.setCell,Array.getElem?_modify,h,ag,List.map_set]
theorem Row.lt {w:World} {g:Nat} {l:List Nat} (h:Row w g l):g<w.heap.size:=(Array.getElem?_eq_some_iff.1 h).1
theorem Row.nats {w:World} {g:Nat} {l:List Nat} (h:Row w g l) {cap:Nat} (h1:l.length≤cap) (h2:cap≤9223372036854775807):Nats w (.slice (some ⟨g,0,none⟩) l.length cap) l :=
 Nats.of_cells h1 h2 (fun _ hi=>h.cell hi)
theorem jE (n:Nat):(madeCells (Value.int .i64 0).cells (n*1)).toList=ag (List.replicate n 0):=by
 rw [Nat.mul_one]
 have h:(Value.int .i64 0).cells = #[.int .i64 0]:=by simp [Value.cells]
 rw [h,toList_madeCells_one]
 simp [ag]
theorem Row.of_made {w:World} {base g n:Nat} (h:w.ownsRow base 3 1 (.slice (some ⟨g,0,none⟩) n n) n (madeCells (Value.int .i64 0).cells (n*1)).toList):Row w g (List.replicate n 0):=by
 rcases h.2 with ⟨h1,_⟩ | ⟨g',cap,cur,h1,_,hh,_,_,hsz,htk⟩
 ·cases h1
 ·simp only [Value.slice.injEq,Option.some.injEq,Addr.mk.injEq,true_and,and_true] at h1
  obtain ⟨rfl,rfl⟩:=h1
  rw [jE,List.take_of_length_le (by simp [hsz])] at htk
  unfold Row
  rw [hh,←htk]
def RowC (w:World) (g:Nat) (l:List Nat):Prop:=∃ cur,w.heap[g]? = some (.cells cur 3 (0,0))∧cur.toList.take l.length=ag l
theorem RowC.cell {w:World} {g:Nat} {l:List Nat} (h:RowC w g l) {i:Nat} (hi:i<l.length):w.cell? ⟨g,i,none⟩=some (.int .i64 (l.getD i 0:Nat)):=by
 obtain ⟨cur,h1,h2⟩:=h
 rw [cell_of_row w g i _ _ (0,0) h1,←Array.getElem?_toList]
 have:(cur.toList.take l.length)[i]? = (ag l)[i]? := by rw [h2]
 rw [List.getElem?_take_of_lt hi] at this
 rw [this]
 simp [ag,hi]
theorem RowC.frozen {w:World} {g:Nat} {l:List Nat} (h:RowC w g l) (i:Nat):w.frozen? ⟨g,i,none⟩=false:=by
 obtain ⟨cur,h1,h2⟩:=h
 simp [World.frozen?, h1]
theorem RowC.set {w:World} {g:Nat} {l:List Nat} (h:RowC w g l) (i:Nat) (x:Nat):RowC (w.setCell ⟨g,i,none⟩ (.int .i64 (x:Nat))) g (l.set i x):=by
 obtain ⟨cur,h1,h2⟩:=h
 refine ⟨cur.setIfInBounds i (.int .i64 (x:Nat)),?_,?_⟩
 ·simp [World.setCell,Array.getElem?_modify,h1]
 ·rw [List.length_set,Array.toList_setIfInBounds,List.take_set,h2]
  simp [ag,List.map_set]
theorem RowC.lt {w:World} {g:Nat} {l:List Nat} (h:RowC w g l):g<w.heap.size:=by
 obtain ⟨cur,h1,h2⟩:=h
 exact (Array.getElem?_eq_some_iff.1 h1).1
theorem RowC.nats {w:World} {g:Nat} {l:List Nat} (h:RowC w g l) {cap:Nat} (h1:l.length≤cap) (h2:cap≤9223372036854775807):Nats w (.slice (some ⟨g,0,none⟩) l.length cap) l :=
 Nats.of_cells h1 h2 (fun _ hi=>h.cell hi)
theorem RowC.of_block {w w':World} {g:Nat} {l:List Nat} (h:RowC w g l) (hb:w'.heap[g]? = w.heap[g]?):RowC w' g l:=by
 obtain ⟨cur,h1,h2⟩:=h
 exact ⟨cur,hb.trans h1,h2⟩
theorem RowC.next {w w':World} {g B:Nat} {l:List Nat} (h:RowC w g l) (hb:Below B w w') (hg:g<B):RowC w' g l:=h.of_block (hb.block g hg)
theorem aC {a b:Nat} (h:a≤b):(dg a).length≤(dg b).length:=by
 rw [ak]
 exact Nat.lt_of_le_of_lt h ((ak b _).1 (Nat.le_refl _))
theorem aR {b:Nat} (h:b≠0):0<(dg b).length:=List.length_pos_iff.2 (fun e=>h ((cU b).1 e))
theorem IsNat.shape {w:World} {v:Value} {n:Nat} (h:IsNat w v n):∃ p cap,v = .slice p (dg n).length cap:=by
 obtain ⟨p,cap,e,_⟩:=h;exact ⟨p,cap,e⟩
theorem gK {a b:Nat} (h:(dg a).length<(dg b).length):a<b:=by
 have h1:=(ak a _).1 (Nat.le_refl _)
 have h2:¬ b<B ^ (dg a).length:=fun hc=>by have:=(ak b _).2 hc;omega
 omega
theorem gL (l:List Nat) (i:Nat) (h:i<l.length):toN l=toN (l.take i)+B ^ i*l.getD i 0+B ^ (i+1)*toN (l.drop (i+1)):=by
 conv=>lhs;rw [←List.take_append_drop (i+1) l]
 rw [bJ,aB l i h,List.length_take,Nat.min_eq_left (by omega)]
theorem eH {la lb:List Nat} {i:Nat} (ha:Dig la) (hia:i<la.length) (hib:i<lb.length) (hd:la.drop (i+1)=lb.drop (i+1)) (h:la.getD i 0<lb.getD i 0):toN la<toN lb:=by
 rw [gL la i hia,gL lb i hib,hd]
 have h1:=cI (ha.take i)
 rw [List.length_take,Nat.min_eq_left (by omega)] at h1
 have h2:B ^ i*la.getD i 0+B ^ i≤B ^ i*lb.getD i 0:=by rw [←Nat.mul_succ];exact Nat.mul_le_mul_left _ h
 omega
theorem kj {la o:List Nat} {b r j:Nat} (hj:j<la.length) (hl:o.length=la.length) (h:toN (la.drop (j+1))=b*toN (o.drop (j+1))+r) :
  toN (la.drop j)=b*toN ((o.set j ((r*1000000+la.getD j 0) / b)).drop j)+(r*1000000+la.getD j 0) % b:=by
 rw [ef hj,iV (by omega)]
 show la.getD j 0+B*toN _=b*((r*1000000+la.getD j 0) / b+B*toN _)+_
 rw [h]
 have e:=Nat.div_add_mod (r*1000000+la.getD j 0) b
 generalize (r*1000000+la.getD j 0) / b=q at *
 generalize (r*1000000+la.getD j 0) % b=s at *
 generalize toN (o.drop (j+1))=T at *
 have hB:B=1000000:=rfl
 rw [hB,Nat.mul_add b q,Nat.mul_add 1000000 (b*T) r]
 have:b*(1000000*T)=1000000*(b*T):=Nat.mul_left_comm _ _ _
 omega
theorem pJ {b r d:Nat} (hb0:0<b) (hb:b<1000000) (hr:r<b) (hd:d<1000000) :
  (r*1000000+d) / b<1000000∧(r*1000000+d) % b<b∧r*1000000+d<1000000000000:=by
 refine ⟨?_,Nat.mod_lt _ hb0,by omega⟩
 rw [Nat.div_lt_iff_lt_mul hb0]
 have:(r+1)*1000000≤b*1000000:=Nat.mul_le_mul_right _ hr
 omega
theorem cY (n i:Nat):(dg n).getD i 0=n / B ^ i % B:=by
 induction i generalizing n with
 | zero =>
  by_cases h:n=0
  ·subst h;rw [av];simp
  ·rw [de h];simp
 | succ i ih =>
  by_cases h:n=0
  ·subst h;rw [av];simp
  ·rw [de h,List.getD_cons_succ,ih,Nat.pow_succ,Nat.mul_comm,Nat.div_div_eq_div_mul]
theorem Nats.setCell {w:World} {v:Value} {l:List Nat} {base:Nat} (h:Nats w v l) (hf:Fresh base v) {a:Addr} (ha:a.block<base) (u:Value):Nats (w.setCell a u) v l:=by
 obtain ⟨p,cap,rfl,h1,h2,h3⟩:=h
 refine ⟨p,cap,rfl,h1,h2,fun hne => ?_⟩
 obtain ⟨b,off,e,hc⟩:=h3 hne
 refine ⟨b,off,e,fun i hi => ?_⟩
 have hb:base≤b:=hf b (by rw [e];rfl)
 exact (World.cell?_of_block (Below.heap_setCell _ _ _ _ (by show b≠a.block;omega))).trans (hc i hi)
theorem IsNat.setCell {w:World} {v:Value} {n base:Nat} (h:IsNat w v n) (hf:Fresh base v) {a:Addr} (ha:a.block<base) (u:Value):IsNat (w.setCell a u) v n:=Nats.setCell h hf ha u
theorem IsNat.unique {w:World} {v:Value} {m n:Nat} (h:IsNat w v m) (h':IsNat w v n):m=n:=by
 obtain ⟨p,cap,rfl,a1,a2,a3⟩:=h
 obtain ⟨p',cap',he,b1,b2,b3⟩:=h'
 simp only [Value.slice.injEq] at he
 obtain ⟨rfl,hl,rfl⟩:=he
 have e:dg m=dg n:=by
  refine List.ext_getElem hl (fun i h1 h2 => ?_)
  obtain ⟨b,off,e1,c1⟩:=a3 (by intro e;rw [e] at h1;simp at h1)
  obtain ⟨b',off',e2,c2⟩:=b3 (by intro e;rw [e] at h2;simp at h2)
  rw [e1] at e2
  simp only [Option.some.injEq,Addr.mk.injEq,and_true] at e2
  obtain ⟨rfl,rfl⟩:=e2
  have:=(c1 i h1).symm.trans (c2 i h2)
  simp only [Option.some.injEq,Value.int.injEq,true_and] at this
  rw [getD_lt h1,getD_lt h2] at this
  exact Int.ofNat.inj this
 have:=congrArg toN e
 rwa [ar,ar] at this
open Classical in
noncomputable def aX (w:World) (v:Value):Nat:=if h:∃ n,IsNat w v n then Classical.choose h else 0
theorem aL {w:World} {v:Value} {n:Nat} (h:IsNat w v n):aX w v=n:=by
 unfold aX
 have hx:∃ n,IsNat w v n:=⟨n,h⟩
 rw [dif_pos hx]
 exact (Classical.choose_spec hx).unique h
end R
namespace R
open Go.RowKit
theorem jf (p:Option Addr) (cap:Nat) (l:List Nat) (w:World) (h:Nats w (.slice p l.length cap) l) (hd:Dig l) :
  Calls Tryz.prog 143 #[.slice p l.length cap] w fun e w'=>e = .returned (.slice p (dg (toN l)).length cap)∧w=w':=by
 obtain ⟨p',cap',he,h1,h2,h3⟩:=h
 simp only [Value.slice.injEq,true_and] at he
 obtain ⟨rfl,rfl⟩:=he
 have H3:=Ha h3;clear h3
 have HD:=Ha hd;clear hd
 go_enter Tryz.func143,Tryz.ntmps143
 go_wp2
 go_loop [3] (fun x=>∃ k:Nat,k≤l.length∧x = .int .i64 k∧Hid (toN (l.take k)=toN l)) (fun x=>(intOf x).toNat)
 case atStart=>exact ⟨l.length,Nat.le_refl _,rfl,by show toN _=_;rw [List.take_length]⟩
 case round =>
  obtain ⟨k,hk,rfl,hv⟩:=hrel
  by_cases h0:k=0
  ·subst h0
   have he:=fK HD.out 0 hk hv.out (.inl rfl)
   have HE:=Ha (show (dg (toN l)).length=0 by rw [he];simp);clear he
   go_wp2
   go_ret
   exact ⟨by rw [HE.out];rfl,rfl⟩
  ·obtain ⟨b,off,rfl,hc⟩:=H3.out (by intro e;subst e;simp at hk;omega)
   have hc1:=hc (k - 1) (by omega)
   have HC:=Ha hc;clear hc
   obtain ⟨j,rfl⟩:∃ j,k=j+1:=⟨k - 1,by omega⟩
   rw [Nat.add_sub_cancel] at hc1
   have hs:=aB l j (by omega)
   have HS:=Ha hs;clear hs
   have hl:=Ha (fK HD.out (j+1) hk hv.out)
   have hj1:(0:Int)<((j+1:Nat):Int):=by omega
   have ej:((j+1:Nat):Int) - 1=(j:Int):=by omega
   obtain ⟨J,hJ⟩:∃ J,j+1=J:=⟨_,rfl⟩
   rw [hJ] at hj1 ej hk hl ⊢
   have HJ:=Ha hJ;clear hJ
   have hx:(j:Int)<(J:Int):=by have:=HJ.out;omega
   by_cases hz:l.getD j 0=0
   ·have hv2:Hid (toN (l.take j)=toN l):=by
     show toN (l.take j)=toN l
     rw [←hv.out,HS.out,hz];simp
    rw [hz] at hc1
    have HZ:=Ha hz;clear hz hl hv HS
    generalize l.length=n at *
    go_wp2
    go_round
    case rel=>exact ⟨j,by omega,rfl,hv2⟩
    case measure=>simp [intOf];omega
   ·have hz':(((l.getD j 0:Nat):Int)==0)=false:=by rw [beq_eq_false_iff_ne];omega
    have hr:(dg (toN l)).length=J:=by
     rw [hl.out (.inr (by rw [←HJ.out,Nat.add_sub_cancel];exact hz)),List.length_take];omega
    have HR:=Ha hr;clear hr hz hl hv HS
    generalize l.getD j 0=d at *
    generalize l.length=n at *
    go_wp2
    go_ret
    exact ⟨by rw [HR.out];rfl,rfl⟩
theorem cV (v:Value) (l:List Nat) (w:World) (h:Nats w v l) (hd:Dig l) :
  Calls Tryz.prog 143 #[v] w fun e w'=>w=w'∧∃ v',e = .returned v'∧Nats w v' (dg (toN l))∧v'.ownBlock=v.ownBlock:=by
 have h':=h
 obtain ⟨p,cap,rfl,h1,h2,h3⟩:=h
 refine (jf p cap l w h' hd).mono fun e w' ⟨he,hw⟩=>⟨hw,_,he,h'.take (aK hd),?_⟩
 cases p <;> rfl
theorem fL (v:Value) (l:List Nat) (i:Nat) (w:World) (h:Nats w v l) (_hi:i≤4611686018427387904) :
  Calls Tryz.prog 170 #[v,.int .i64 (i:Nat)] w fun e w'=>e = .returned (.int .i64 (l.getD i 0:Nat))∧w=w':=by
 obtain ⟨p,cap,rfl,h1,h2,h3⟩:=h
 by_cases hlt:i<l.length
 ·obtain ⟨b,off,rfl,hc⟩:=h3 (by intro e;subst e;simp at hlt)
  have hc':=hc i hlt
  clear hc
  generalize l.length=n at *
  generalize l.getD i 0=d at *
  go_enter Tryz.func170,Tryz.ntmps170
  go_wp2
  go_ret
  exact ⟨rfl,rfl⟩
 ·have e:l.getD i 0=0:=by rw [List.getD_eq_getElem?_getD,List.getElem?_eq_none (by omega)];rfl
  rw [e]
  generalize l.length=n at *
  clear h3 e
  go_enter Tryz.func170,Tryz.ntmps170
  go_wp2
  go_ret
  exact ⟨rfl,rfl⟩
theorem jg {l:List Nat} {j:Nat} (h:l.length≤j):l.getD j 0=0:=by rw [List.getD_eq_getElem?_getD,List.getElem?_eq_none h];rfl
theorem dy (l:List Nat) (j:Nat):toN (l.take (j+1))=toN (l.take j)+B ^ j*l.getD j 0:=by
 by_cases h:j<l.length
 ·exact aB l j h
 ·rw [jg (by omega),List.take_of_length_le (by omega),List.take_of_length_le (by omega),Nat.mul_zero,Nat.add_zero]
theorem dM {l:List Nat} {j:Nat} (h:j<l.length):l.drop j=l.getD j 0::l.drop (j+1):=by
 rw [List.drop_eq_getElem_cons h,getD_lt h]
theorem km (va vb:Value) (a b:Nat) (w:World) (ha:IsNat w va a) (hb:IsNat w vb b) :
  Calls Tryz.prog 122 #[va,vb] w fun e W'=>e = .returned (.int .i64 (bW a b))∧∃ n,W'=w.drewN n:=by
 obtain ⟨pa,ca,rfl,a1,a2,a3⟩:=ha
 obtain ⟨pb,cb,rfl,b1,b2,b3⟩:=hb
 have HA:=Ha a3;have HB:=Ha b3;clear a3 b3
 have HN:=Ha (Hb (ar a) (ar b))
 have HD:=Ha (Hb (aq a) (aq b))
 have hlt:=Ha (fun h=>gK (a:=a) (b:=b) h)
 have hgt:=Ha (fun h=>gK (a:=b) (b:=a) h)
 by_cases hne:(dg a).length=(dg b).length
 ·have HC:=Ha (show bW a b=bW (toN (dg a)) (toN (dg b)) by rw [ar,ar])
  generalize dg a=la at *
  generalize dg b=lb at *
  rw [HC.out]
  clear hlt hgt HN HC
  obtain ⟨n,hn⟩:∃ n,la.length=n:=⟨_,rfl⟩
  have hn2:lb.length=n:=by omega
  have HN:=Ha (Hb hn hn2)
  rw [hn] at a1 ⊢
  rw [hn2] at b1 ⊢
  clear hne hn hn2
  have hneq:((n:Int) != n)=false:=by simp
  go_enter Tryz.func122,Tryz.ntmps122
  go_wp2
  go_loopw [5] (fun x wr=>∃ j:Nat,j≤n∧x = .int .i64 ((j:Int) - 1)∧Hid (la.drop j=lb.drop j)∧∃ k,wr=w.drewN k) (fun x _=>(intOf x+1).toNat)
  case atStart=>exact ⟨n,Nat.le_refl _,rfl,by show _=_;rw [List.drop_of_length_le (by rw [HN.out.1];exact Nat.le_refl _),List.drop_of_length_le (by rw [HN.out.2];exact Nat.le_refl _)],0,rfl⟩
  case round =>
   obtain ⟨j,hj,rfl,hd,hk⟩:=hrel
   have HK:=Ha hk;clear hk
   by_cases hj0:j=0
   ·subst hj0
    have he:bW (toN la) (toN lb)=0:=kH (by have:=hd.out;rw [List.drop_zero,List.drop_zero] at this;rw [this])
    have HE:=Ha he;clear he
    go_wp2
    go_ret
    exact ⟨by rw [HE.out];rfl,HK.out⟩
   ·obtain ⟨i,rfl⟩:∃ i,j=i+1:=⟨j - 1,by omega⟩
    have hia:i<la.length:=by rw [HN.out.1];omega
    have hib:i<lb.length:=by rw [HN.out.2];omega
    obtain ⟨ba,oa,rfl,hca⟩:=HA.out (by intro e;rw [e] at hia;simp at hia)
    obtain ⟨bb,ob,rfl,hcb⟩:=HB.out (by intro e;rw [e] at hib;simp at hib)
    have xa:wr.cell? ⟨ba,oa+i,none⟩=some (.int .i64 (la.getD i 0:Nat)):=by obtain ⟨kk,e⟩:=HK.out;rw [e];exact hca i hia
    have xb:wr.cell? ⟨bb,ob+i,none⟩=some (.int .i64 (lb.getD i 0:Nat)):=by obtain ⟨kk,e⟩:=HK.out;rw [e];exact hcb i hib
    have e1:=Ha (fun h=>eH (la:=la) (lb:=lb) (i:=i) HD.out.1 hia hib hd.out h)
    have e2:=Ha (fun h=>eH (la:=lb) (lb:=la) (i:=i) HD.out.2 hib hia hd.out.symm h)
    have e3:Hid (la.getD i 0=lb.getD i 0→la.drop i=lb.drop i):=fun h=>by rw [dM hia,dM hib,h,hd.out]
    clear hca hcb hia hib hd
    generalize la.getD i 0=x at *
    generalize lb.getD i 0=y at *
    have ei:((i:Int)+1 - 1)=(i:Int):=by omega
    have hx1:(i:Int)<(n:Int):=by omega
    have next:∀ q,Hid (∃ n,(wr.drewN q)=w.drewN n):=fun q=>by obtain ⟨kk,e⟩:=HK.out;exact ⟨_,by rw [e,World.drewN_drewN]⟩
    have NX:=Ha next
    clear next HK
    rcases Nat.lt_trichotomy x y with hxy | hxy | hxy
    ·have g1:(x:Int)<y:=by omega
     have hf:Hid (bW (toN la) (toN lb) = -1):=dp (e1.out hxy)
     clear e1 e2 e3 hxy
     go_wp2
     go_quiet (fail)
     go_wp2
     go_ret
     exact ⟨by rw [hf.out];rfl,(NX.out _).out⟩
    ·subst hxy
     have h3:Hid (la.drop i=lb.drop i):=e3.out rfl
     have g1:¬ (x:Int)<x:=by omega
     clear e1 e2 e3
     go_wp2
     go_quiet (fail)
     have ya:(wr.drewN nq).cell? ⟨ba,oa+i,none⟩=some (.int .i64 (x:Nat)):=xa
     have yb:(wr.drewN nq).cell? ⟨bb,ob+i,none⟩=some (.int .i64 (x:Nat)):=xb
     have NX2:=Ha (fun q=>show Hid (∃ n,(wr.drewN nq).drewN q=w.drewN n) by rw [World.drewN_drewN];exact NX.out _)
     clear xa xb NX
     generalize wr.drewN nq=W2 at *
     go_wp2
     go_quiet (fail)
     go_wp2
     go_roundw
     case rel=>exact ⟨i,by omega,by go_num,h3,(NX2.out _).out⟩
     case measure=>simp [intOf]
    ·have g1:¬ (x:Int)<y:=by omega
     have g2:(y:Int)<x:=by omega
     have hf:Hid (bW (toN la) (toN lb)=1):=er (e2.out hxy)
     clear e1 e2 e3 hxy
     go_wp2
     go_quiet (fail)
     have ya:(wr.drewN nq).cell? ⟨ba,oa+i,none⟩=some (.int .i64 (x:Nat)):=xa
     have yb:(wr.drewN nq).cell? ⟨bb,ob+i,none⟩=some (.int .i64 (y:Nat)):=xb
     have NX2:=Ha (fun q=>show Hid (∃ n,(wr.drewN nq).drewN q=w.drewN n) by rw [World.drewN_drewN];exact NX.out _)
     clear xa xb NX
     generalize wr.drewN nq=W2 at *
     go_wp2
     go_quiet (fail)
     go_wp2
     go_ret
     exact ⟨by rw [hf.out];rfl,(NX2.out _).out⟩
 ·rcases Nat.lt_or_gt_of_ne hne with h | h
  ·have hc:=Ha (dp (hlt.out h))
   clear hlt hgt HN HD HA HB
   generalize (dg a).length=la at *
   generalize (dg b).length=lb at *
   have hn:((la:Int) != (lb:Int))=true:=by rw [bne_iff_ne];omega
   have g1:(la:Int)<lb:=by omega
   clear hne h
   go_enter Tryz.func122,Tryz.ntmps122
   go_wp2
   go_ret
   exact ⟨by rw [hc.out];rfl,0,rfl⟩
  ·have hc:=Ha (er (hgt.out h))
   clear hlt hgt HN HD HA HB
   generalize (dg a).length=la at *
   generalize (dg b).length=lb at *
   have hn:((la:Int) != (lb:Int))=true:=by rw [bne_iff_ne];omega
   have g1:¬ (la:Int)<lb:=by omega
   clear hne h
   go_enter Tryz.func122,Tryz.ntmps122
   go_wp2
   go_ret
   exact ⟨by rw [hc.out];rfl,0,rfl⟩
end R
namespace R
open Go.RowKit
theorem m9 (w:World) (e:TypeId) (base:Nat) (hb:base≤w.heap.size):(w.alloc (.cells #[] e)).ownsRow base e 1 (.slice (some ⟨w.heap.size,0,none⟩) 0 0) 0 (ag []):=by
 refine ⟨rfl,.inr ⟨w.heap.size,0,#[],rfl,hb,Array.getElem?_push_size,Nat.le_refl _,by decide,rfl,rfl⟩⟩
theorem ot {w:World} {base:Nat} {e:TypeId} {size:Nat} {v:Value} {n:Nat} {xs:List Value} (h:w.ownsRow base e size v n xs) (k:Nat):(w.drewN k).ownsRow base e size v n xs:=h
theorem uX {la lb o:List Nat} {j c:Nat} (hv:toN o+B ^ j*c=toN (la.take j)+toN (lb.take j)) (hl:o.length=j) :
  toN (o ++ [(la.getD j 0+lb.getD j 0+c) % 1000000])+B ^ (j+1)*((la.getD j 0+lb.getD j 0+c) / 1000000)=toN (la.take (j+1))+toN (lb.take (j+1)):=by
 rw [aQ,hl,dy la,dy lb,Nat.pow_succ,Nat.mul_assoc]
 generalize la.getD j 0=x at *
 generalize lb.getD j 0=y at *
 have e1:B ^ j*(x+y+c)=B ^ j*((x+y+c) % 1000000)+B ^ j*(B*((x+y+c) / 1000000)):=by
  rw [←Nat.mul_add];congr 1;rw [dH];omega
 rw [Nat.mul_add,Nat.mul_add] at e1
 omega
theorem kn (va vb:Value) (la lb:List Nat) (w:World) (ha:Nats w va la) (hb:Nats w vb lb) (da:Dig la) (db:Dig lb) (hla:la.length≤1000000) (hlb:lb.length≤1000000) :
  Calls Tryz.prog 124 #[va,vb] w fun e W'=>∃ v,e = .returned v∧IsNat W' v (toN la+toN lb)∧Fresh w.heap.size v∧Below w.heap.size w W':=by
 obtain ⟨M,hM⟩:∃ M,max la.length lb.length=M:=⟨_,rfl⟩
 have hm1:la.length≤M:=by rw [←hM];exact Nat.le_max_left _ _
 have hm2:lb.length≤M:=by rw [←hM];exact Nat.le_max_right _ _
 have hm3:M≤1000000:=by rw [←hM];exact Nat.max_le.2 ⟨hla,hlb⟩
 have HM:=Ha (show M=la.length∨M=lb.length by rw [←hM];omega)
 clear hM
 have cl1:=fun (j:Nat) W (h:Below w.heap.size w W) (hj:j≤1000001)=>fL va la j W (ha.next h) (by omega)
 have cl2:=fun (j:Nat) W (h:Below w.heap.size w W) (hj:j≤1000001)=>fL vb lb j W (hb.next h) (by omega)
 have CL:=Ha (Hb cl1 cl2)
 have HD:=Ha (Hb da db)
 obtain ⟨i0,hi,hz0,hz1,hz2⟩:=info_parts gJ
 have HI:=Ha (Hb hi (Hb hz0 (Hb hz1 hz2)));clear hi hz0 hz1 hz2
 obtain ⟨pa,ca,rfl,a1,a2,_⟩:=ha
 obtain ⟨pb,cb,rfl,b1,b2,_⟩:=hb
 clear da db cl1 cl2
 go_enter Tryz.func124,Tryz.ntmps124
 go_wp2
 have ho:=m9 w 3 w.heap.size (Nat.le_refl _)
 have hB0:Below w.heap.size w (w.alloc (.cells #[] 3)):=(Below.refl _ _).alloc (Nat.le_refl _) _
 generalize w.alloc (.cells #[] 3)=W0 at *
 go_loopw [5,6,7] (fun x y z wr=>∃ (c j:Nat) (o:List Nat),j≤M+1∧y = .int .i64 c∧z = .int .i64 j∧c≤1∧(j=M+1→c=0)∧o.length=j∧wr.ownsRow w.heap.size 3 1 x j (ag o)∧Hid (Dig o)∧Hid (toN o+B ^ j*c=toN (la.take j)+toN (lb.take j))∧Below w.heap.size w wr)
  (fun _ _ z _=>M+1 - (intOf z).toNat)
 case atStart=>exact ⟨0,0,[],Nat.zero_le _,rfl,rfl,by omega,by omega,rfl,ho,Dig.nil,by show toN []+B ^ 0*0=_;simp [toN],hB0⟩
 case round =>
  clear ho hB0
  obtain ⟨c,j,o,hj,rfl,rfl,hc,hc0,hlen,hown,hdig,hval,hbel⟩:=hrel
  have hsz:=hbel.size
  by_cases hcont:j<la.length∨j<lb.length∨0<c
  ·have hjM:j≤M:=by omega
   have hx:=HD.out.1.getD j
   have hy:=HD.out.2.getD j
   have HS:=Ha (uX hval.out hlen)
   have k1:=fun W h=>CL.out.1 j W h (by omega)
   have k2:=fun W h=>CL.out.2 j W h (by omega)
   have hlast:Hid (j=M→la.getD j 0+lb.getD j 0=0):=fun e=>by rw [jg (by omega),jg (by omega)]
   generalize la.getD j 0=x at *
   generalize lb.getD j 0=y at *
   have KK:=Ha (Hb k1 k2)
   have HT1:=Ha (show ((((x+y+c) / 1000000:Nat)):Int)=((x:Int)+(y:Int)+(c:Int)) / 1000000 by omega)
   have HT2:=Ha (show ((((x+y+c) % 1000000:Nat)):Int)=((x:Int)+(y:Int)+(c:Int)) % 1000000 by omega)
   have HO:=Ha hown
   have HB:=Ha hbel
   have hways:((j:Int)<(la.length:Int))∨(¬ ((j:Int)<(la.length:Int))∧(j:Int)<(lb.length:Int))∨(¬ ((j:Int)<(la.length:Int))∧¬ ((j:Int)<(lb.length:Int))∧0<(c:Int)):=by omega
   have HNX:=Ha (show j+1≤M+1∧(j+1=M+1→(x+y+c) / 1000000=0)∧(x+y+c) / 1000000≤1∧(x+y+c) % 1000000<1000000 from
    ⟨by omega,fun e=>by have:=hlast.out (by omega);omega,by omega,by omega⟩)
   clear k1 k2 hval hown hbel hcont hlast hc0
   generalize la.length=na at *
   generalize lb.length=nb at *
   rcases hways with g1 | ⟨g1,g2⟩ | ⟨g1,g2,g3⟩
   all_goals
    go_wp2_with fail
    refine (KK.out.1 _ HB.out).mono ?_
    rintro e w' ⟨rfl,rfl⟩
    go_wp2_with fail
    refine (KK.out.2 _ HB.out).mono ?_
    rintro e w' ⟨rfl,rfl⟩
    go_wp2_with (at_builtin;refine wpList_append_own _ rfl _ _ 82 rfl w.heap.size 3 i0 (.int .i64 0) 1 8 Tryz.underlying82 HI.out.1 HI.out.2.1 HI.out.2.2.1 HI.out.2.2.2 rfl (by decide) _ _ _ rfl (HO.out.alloc _) ⟨wr.heap.size,0,none⟩ 1 1 [.int .i64 (((x:Int)+(y:Int)+(c:Int)) % 1000000)] rfl rfl (cell_one_new _ _ _) (by simp [Value.oneCell']) (by unfold maxLen;omega) (by omega) (by simp;omega) ?_;intro v' w2 hown' hgrow _;have HO2:=Ha hown';have HG2:=Ha hgrow;clear hown' hgrow)
    go_roundw
    case rel =>
     obtain ⟨s1,s2,s3,s4⟩:=HNX.out
     refine ⟨(x+y+c) / 1000000,j+1,o ++ [(x+y+c) % 1000000],s1,by rw [HT1.out],by go_num,s3,s2,by simp [hlen],?_,hdig.out.append (Dig.one s4),HS.out,?_⟩
     ·rw [←bh,HT2.out];exact HO2.out
     ·exact (HB.out.alloc hsz _).grown HG2.out (by simp;omega) (fun k hk=>(HO.out.lt k hk).1)
    case measure=>simp [intOf];omega
  ·have g1:¬ ((j:Int)<(la.length:Int)):=by omega
   have g2:¬ ((j:Int)<(lb.length:Int)):=by omega
   have g3:¬ (0<(c:Int)):=by omega
   have hv:toN o=toN la+toN lb:=by
    have:=hval.out
    rw [List.take_of_length_le (by omega),List.take_of_length_le (by omega),show c=0 by omega,Nat.mul_zero,Nat.add_zero] at this
    exact this
   subst hlen
   have hn:=bg hown
   have ct:=cV _ _ _ hn hdig.out
   rw [hv] at ct
   have CT:=Ha ct
   have HO:=Ha hown
   have HB:=Ha hbel
   clear hval hown hbel ct hn hv hcont hc0
   generalize la.length=na at *
   generalize lb.length=nb at *
   go_wp2_with fail
   refine CT.out.mono ?_
   clear CT
   rintro e w' ⟨rfl,v',rfl,hN',ho'⟩
   go_wp2
   go_ret
   exact ⟨_,rfl,hN',fun k hk=>by have hk:v'.ownBlock=some k:=hk;rw [ho'] at hk;exact (HO.out.lt k hk).1,HB.out⟩
theorem sG {la lb o:List Nat} {j br:Nat} {n:Int} {d br':Nat} (hv:toN o+toN (lb.take j)=toN (la.take j)+B ^ j*br) (hl:o.length=j)
  (hd:(d:Int)=(la.getD j 0:Nat) - (lb.getD j 0:Nat) - br+1000000*br') (_hn:n=0) :
  toN (o ++ [d])+toN (lb.take (j+1))=toN (la.take (j+1))+B ^ (j+1)*br':=by
 rw [aQ,hl,dy la,dy lb,Nat.pow_succ,Nat.mul_assoc]
 generalize la.getD j 0=x at *
 generalize lb.getD j 0=y at *
 have e0:d+y+br=x+B*br':=by rw [dH];omega
 have e1:B ^ j*(d+y+br)=B ^ j*(x+B*br'):=by rw [e0]
 rw [Nat.mul_add,Nat.mul_add,Nat.mul_add] at e1
 omega
theorem jh (va vb:Value) (la lb:List Nat) (w:World) (ha:Nats w va la) (hb:Nats w vb lb) (da:Dig la) (db:Dig lb) (hla:la.length≤1000000) (hlb:lb.length≤la.length) (hle:toN lb≤toN la) :
  Calls Tryz.prog 171 #[va,vb] w fun e W'=>∃ g cap,e = .returned (.slice (some ⟨g,0,none⟩) (dg (toN la - toN lb)).length cap)∧IsNat W' (.slice (some ⟨g,0,none⟩) (dg (toN la - toN lb)).length cap) (toN la - toN lb)∧w.heap.size≤g∧Below w.heap.size w W':=by
 have cl2:=fun (j:Nat) W (h:Below w.heap.size w W) (hj:j≤1000001)=>fL vb lb j W (hb.next h) (by omega)
 have CL:=Ha cl2
 have HD:=Ha (Hb da db)
 obtain ⟨i0,hi,hz0,hz1,hz2⟩:=info_parts gJ
 have HI:=Ha (Hb hi (Hb hz0 (Hb hz1 hz2)));clear hi hz0 hz1 hz2
 obtain ⟨pa,ca,rfl,a1,a2,a3⟩:=ha
 obtain ⟨pb,cb,rfl,b1,b2,_⟩:=hb
 have HA:=Ha a3
 have HLE:=Ha hle
 clear da db cl2 a3 hle
 go_enter Tryz.func171,Tryz.ntmps171
 go_wp2
 have ho:=m9 w 3 w.heap.size (Nat.le_refl _)
 have hB0:Below w.heap.size w (w.alloc (.cells #[] 3)):=(Below.refl _ _).alloc (Nat.le_refl _) _
 generalize w.alloc (.cells #[] 3)=W0 at *
 go_loopw [5,6,7] (fun x y z wr=>∃ (c j:Nat) (o:List Nat),j≤la.length∧y = .int .i64 c∧z = .int .i64 j∧c≤1∧o.length=j∧wr.ownsRow w.heap.size 3 1 x j (ag o)∧Hid (x ≠ .slice none 0 0)∧Hid (Dig o)∧Hid (toN o+toN (lb.take j)=toN (la.take j)+B ^ j*c)∧Below w.heap.size w wr)
  (fun _ _ z _=>la.length - (intOf z).toNat)
 case atStart=>exact ⟨0,0,[],Nat.zero_le _,rfl,rfl,by omega,rfl,ho,(fun e=>by cases e),Dig.nil,by show toN []+_=_;simp [toN],hB0⟩
 case round =>
  clear ho hB0
  obtain ⟨c,j,o,hj,rfl,rfl,hc,hlen,hown,hnn,hdig,hval,hbel⟩:=hrel
  have hsz:=hbel.size
  by_cases hjl:j<la.length
  ·obtain ⟨ab,aoff,rfl,hca⟩:=HA.out (by intro e;subst e;simp at hjl)
   have hx:=HD.out.1.getD j
   have hy:=HD.out.2.getD j
   have ca0:=hca j hjl
   have cax:wr.cell? ⟨ab,aoff+j,none⟩=some (.int .i64 (la.getD j 0:Nat)):=(hbel.cell (p:=⟨ab,aoff+j,none⟩) (World.block_lt_of_cell? w _ ca0)).trans ca0
   clear ca0 hca
   have k2:∀ q,Calls Tryz.prog 170 #[.slice pb lb.length cb,.int .i64 (j:Nat)] (wr.drewN q) fun e w'=>e = .returned (.int .i64 (lb.getD j 0:Nat))∧w'=wr.drewN q:=fun q=>(CL.out j _ (hbel.trans (Below.drewK _ _ q)) (by omega)).mono (fun e w' (hh:_∧_)=>Hb hh.1 hh.2.symm)
   have HS:=Ha (fun d br' h=>sG (n:=0) (d:=d) (br':=br') hval.out hlen h rfl)
   generalize la.getD j 0=x at *
   generalize lb.getD j 0=y at *
   have KK:=Ha k2
   have HO:=Ha hown
   have HB:=Ha hbel
   clear k2 hval hown hbel
   have hj1:(j:Int)<(la.length:Int):=by omega
   generalize la.length=na at *
   go_wp2
   go_quiet ((go_at_call 170;exact Calls.quiet_of_same (KK.out _)))
   have HB1:=Ha (HB.out.trans (Below.drewK _ _ nq))
   have HO1:=Ha (ot HO.out nq)
   clear HB HO cax KK
   generalize wr.drewN nq=W1 at *
   have hsz1:=HB1.out.size
   by_cases hneg:x<y+c
   ·have g:((x:Int) - (y:Int) - (c:Int)<0):=by omega
    have HE:=Ha (show (((x+1000000 - y - c:Nat)):Int)=(x:Int) - (y:Int) - (c:Int)+1000000 by omega)
    have HV:=Ha (HS.out (x+1000000 - y - c) 1 (by omega))
    go_wp2_with (at_builtin;refine wpList_append_own _ rfl _ _ 82 rfl w.heap.size 3 i0 (.int .i64 0) 1 8 Tryz.underlying82 HI.out.1 HI.out.2.1 HI.out.2.2.1 HI.out.2.2.2 rfl (by decide) _ _ _ rfl (HO1.out.alloc _) ⟨W1.heap.size,0,none⟩ 1 1 [.int .i64 ((x:Int) - (y:Int) - (c:Int)+1000000)] rfl rfl (cell_one_new _ _ _) (by simp [Value.oneCell']) (by unfold maxLen;omega) (by omega) (by simp;omega) ?_;intro v' w2 hown' hgrow hiff;have HNN:=Ha (fun e=>hnn.out (hiff.1 e).1);clear hiff;have HO2:=Ha hown';have HG2:=Ha hgrow;clear hown' hgrow)
    go_roundw
    case rel =>
     refine ⟨1,j+1,o ++ [x+1000000 - y - c],by omega,rfl,by go_num,by omega,by simp [hlen],?_,HNN.out,hdig.out.append (Dig.one (by omega)),HV.out,?_⟩
     ·rw [←bh,HE.out];exact HO2.out
     ·exact (HB1.out.alloc hsz1 _).grown HG2.out (by simp;omega) (fun k hk=>(HO1.out.lt k hk).1)
    case measure=>simp [intOf];omega
   ·have g:¬ ((x:Int) - (y:Int) - (c:Int)<0):=by omega
    have HE:=Ha (show (((x - y - c:Nat)):Int)=(x:Int) - (y:Int) - (c:Int) by omega)
    have HV:=Ha (HS.out (x - y - c) 0 (by omega))
    go_wp2_with (at_builtin;refine wpList_append_own _ rfl _ _ 82 rfl w.heap.size 3 i0 (.int .i64 0) 1 8 Tryz.underlying82 HI.out.1 HI.out.2.1 HI.out.2.2.1 HI.out.2.2.2 rfl (by decide) _ _ _ rfl (HO1.out.alloc _) ⟨W1.heap.size,0,none⟩ 1 1 [.int .i64 ((x:Int) - (y:Int) - (c:Int))] rfl rfl (cell_one_new _ _ _) (by simp [Value.oneCell']) (by unfold maxLen;omega) (by omega) (by simp;omega) ?_;intro v' w2 hown' hgrow hiff;have HNN:=Ha (fun e=>hnn.out (hiff.1 e).1);clear hiff;have HO2:=Ha hown';have HG2:=Ha hgrow;clear hown' hgrow)
    go_roundw
    case rel =>
     refine ⟨0,j+1,o ++ [x - y - c],by omega,rfl,by go_num,by omega,by simp [hlen],?_,HNN.out,hdig.out.append (Dig.one (by omega)),HV.out,?_⟩
     ·rw [←bh,HE.out];exact HO2.out
     ·exact (HB1.out.alloc hsz1 _).grown HG2.out (by simp;omega) (fun k hk=>(HO1.out.lt k hk).1)
    case measure=>simp [intOf];omega
  ·have g1:¬ ((j:Int)<(la.length:Int)):=by omega
   have hv:toN o=toN la - toN lb:=by
    have h1:=hval.out
    rw [List.take_of_length_le (by omega),List.take_of_length_le (by omega)] at h1
    have h2:=cI hdig.out
    rw [hlen] at h2
    have h3:=HLE.out
    have h4:c=0∨c=1:=by omega
    rcases h4 with rfl | rfl
    ·omega
    ·rw [Nat.mul_one] at h1;omega
   subst hlen
   obtain ⟨g,cap,cur,rfl,hgb,hh,hn1,hcap,hsz2,htk⟩:=hown.2.resolve_left (fun e=>hnn.out e.1)
   have hn:=bg hown
   have ct:=jf _ _ _ _ hn hdig.out
   have hn2:=hn.take (aK hdig.out)
   rw [hv] at ct hn2
   have CT:=Ha ct
   have HN:=Ha hn2
   have HB:=Ha hbel
   have HG:=Ha hgb
   clear hval hown hbel ct hn hv hn2 hh hn1 hsz2 htk hgb
   generalize la.length=na at *
   generalize lb.length=nb at *
   generalize o.length=no at *
   go_wp2_with fail
   refine CT.out.mono ?_
   clear CT
   rintro e w' ⟨rfl,rfl⟩
   go_wp2
   go_ret
   exact ⟨g,cap,rfl,HN.out,HG.out,HB.out⟩
end R
end Go.Proofs.YtjdomibbaemdnaaGreatDoor
