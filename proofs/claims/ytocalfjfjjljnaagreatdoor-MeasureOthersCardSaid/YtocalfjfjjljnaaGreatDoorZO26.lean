/- Parts of the proof of the text YtocalfjfjjljnaaGreatDoorZO44. -/
import Derived.Deep.RegionHeld3
import Derived.Test.YtocalfjfjjljnaaGreatDoorZO1
import Derived.Test.YtocalfjfjjljnaaGreatDoorZO10
import Derived.Test.YtocalfjfjjljnaaGreatDoorZO9
set_option linter.all false
set_option maxRecDepth 100000
set_option maxHeartbeats 8000000
namespace Go.Proofs.YtocalfjfjjljnaaGreatDoor
namespace R
def B:Nat:=1000000
theorem dS:B=1000000:=rfl
theorem cS:0<B:=by decide
def toN:List Nat→Nat
 | []=>0
 | d::r=>d+B*toN r
def Dig (l:List Nat):Prop:=∀ x∈l,x<1000000
theorem Dig.nil:Dig []:=fun _ h=>by cases h
theorem Dig.cons {d:Nat} {l:List Nat} (h:d<1000000) (hl:Dig l):Dig (d::l):=fun x hx=>by
 rcases List.mem_cons.1 hx with rfl | hx
 ·exact h
 ·exact hl x hx
theorem Dig.head {d:Nat} {l:List Nat} (h:Dig (d::l)):d<1000000:=h d (by simp)
theorem Dig.tail {d:Nat} {l:List Nat} (h:Dig (d::l)):Dig l:=fun x hx=>h x (by simp [hx])
theorem Dig.take {l:List Nat} (h:Dig l) (k:Nat):Dig (l.take k):=fun x hx=>h x (List.mem_of_mem_take hx)
theorem Dig.drop {l:List Nat} (h:Dig l) (k:Nat):Dig (l.drop k):=fun x hx=>h x (List.mem_of_mem_drop hx)
theorem Dig.append {l m:List Nat} (h:Dig l) (h':Dig m):Dig (l++m):=fun x hx=>by
 rcases List.mem_append.1 hx with hx | hx
 ·exact h x hx
 ·exact h' x hx
theorem Dig.one {d:Nat} (h:d<1000000):Dig [d]:=Dig.cons h Dig.nil
theorem Dig.getD {l:List Nat} (h:Dig l) (i:Nat):l.getD i 0<1000000:=by
 by_cases hi:i<l.length
 ·rw [List.getD_eq_getElem?_getD,List.getElem?_eq_getElem hi];exact h _ (List.getElem_mem _)
 ·rw [List.getD_eq_getElem?_getD,List.getElem?_eq_none (by omega)];simp
theorem Dig.replicate (k:Nat):Dig (List.replicate k 0):=fun x hx=>by
 rw [(List.mem_replicate.1 hx).2];decide
theorem cz (l m:List Nat):toN (l++m)=toN l+B ^ l.length*toN m:=by
 induction l with
 | nil=>simp [toN]
 | cons d r ih =>
  simp only [List.cons_append,toN,ih,List.length_cons,Nat.pow_succ]
  rw [Nat.mul_add,Nat.add_assoc,←Nat.mul_assoc,Nat.mul_comm B (B ^ r.length)]
theorem aS (l:List Nat) (d:Nat):toN (l ++ [d])=toN l+B ^ l.length*d:=by
 rw [cz];simp [toN]
theorem fp (k:Nat):toN (List.replicate k 0)=0:=by
 induction k with
 | zero=>rfl
 | succ k ih=>rw [List.replicate_succ];simp [toN,ih]
theorem cK {l:List Nat} (h:Dig l):toN l<B ^ l.length:=by
 induction l with
 | nil=>simp [toN]
 | cons d r ih =>
  have h1:=ih h.tail
  have h2:=h.head
  rw [toN,List.length_cons,Nat.pow_succ,Nat.mul_comm (B ^ r.length) B]
  have h3:B*toN r+B≤B*B ^ r.length:=by
   rw [←Nat.mul_succ];exact Nat.mul_le_mul_left B h1
  rw [dS] at *
  omega
theorem bq (l:List Nat) (k:Nat) (h:k<l.length):l.take (k+1)=l.take k ++ [l.getD k 0]:=by
 rw [List.take_succ_eq_append_getElem h,List.getD_eq_getElem?_getD,List.getElem?_eq_getElem h];rfl
theorem aw (l:List Nat) (k:Nat) (h:k<l.length):toN (l.take (k+1))=toN (l.take k)+B ^ k*l.getD k 0:=by
 rw [bq l k h,aS,List.length_take,Nat.min_eq_left (by omega)]
def dg (n:Nat):List Nat:=if _h:n=0 then [] else n % B::dg (n / B)
termination_by n
decreasing_by exact Nat.div_lt_self (by omega) (by decide)
theorem av:dg 0 = []:=by rw [dg];rfl
theorem dI {n:Nat} (h:n≠0):dg n=n % B::dg (n / B):=by rw [dg,dif_neg h]
theorem ar (n:Nat):toN (dg n)=n:=by
 induction n using Nat.strongRecOn with
 | _ n ih =>
  by_cases h:n=0
  ·subst h;rw [av];rfl
  ·rw [dI h,toN,ih (n / B) (Nat.div_lt_self (by omega) (by decide))]
   exact Nat.mod_add_div n B
theorem aq (n:Nat):Dig (dg n):=by
 induction n using Nat.strongRecOn with
 | _ n ih =>
  by_cases h:n=0
  ·subst h;rw [av];exact Dig.nil
  ·rw [dI h]
   exact Dig.cons (Nat.mod_lt _ (by decide)) (ih (n / B) (Nat.div_lt_self (by omega) (by decide)))
theorem dN {l:List Nat} (hne:l ≠ []) (hl:l.getLast? ≠ some 0):0<toN l:=by
 induction l with
 | nil=>exact absurd rfl hne
 | cons d r ih =>
  rw [toN]
  by_cases hr:r = []
  ·subst hr
   have:d≠0:=fun e=>hl (by rw [e];rfl)
   omega
  ·have h1:=ih hr (by rwa [List.getLast?_cons_of_ne_nil hr] at hl)
   have:=Nat.mul_pos cS h1
   omega
theorem n9 {l:List Nat} (h:Dig l) (hl:l.getLast? ≠ some 0):dg (toN l)=l:=by
 induction l with
 | nil=>exact av
 | cons d r ih =>
  have h0:=dN (l:=d::r) (by simp) hl
  have hd:d<B:=h.head
  rw [dI (by omega)]
  simp only [toN]
  have e1:(d+B*toN r) % B=d:=by rw [Nat.add_mul_mod_self_left];exact Nat.mod_eq_of_lt hd
  have e2:(d+B*toN r) / B=toN r:=by
   rw [Nat.add_mul_div_left _ _ cS,Nat.div_eq_of_lt hd];omega
  rw [e1,e2]
  by_cases hr:r = []
  ·subst hr;rw [show toN []=0 from rfl,av]
  ·rw [ih h.tail (by rwa [List.getLast?_cons_of_ne_nil hr] at hl)]
theorem dd (n:Nat):dg n = []↔n=0:=by
 constructor
 ·intro h;have:=ar n;rw [h] at this;exact this.symm
 ·rintro rfl;exact av
theorem an (n k : Nat) : (dg n).length ≤ k ↔ n < B ^ k := by
 constructor
 · intro h
   have h1 := cK (aq n)
   rw [ar] at h1
   exact Nat.lt_of_lt_of_le h1 (Nat.pow_le_pow_right cS h)
 · induction k generalizing n with
   | zero => intro h; have : n = 0 := by simpa using h
             subst this; rw [av]; exact Nat.le_refl _
   | succ k ih =>
     intro h
     by_cases h0 : n = 0
     · subst h0; rw [av]; simp
     · rw [dI h0, List.length_cons]
       have := ih (n / B) (by rw [Nat.div_lt_iff_lt_mul cS]; rwa [Nat.pow_succ] at h)
       omega
theorem gn {l:List Nat} (h:Dig l) (k:Nat) (hk:k≤l.length) (hv:toN (l.take k)=toN l) (hl:k=0∨l.getD (k - 1) 0≠0):dg (toN l)=l.take k:=by
 rw [←hv]
 refine n9 (h.take k) ?_
 rcases hl with rfl | hl
 ·simp
 ·intro e
  by_cases h0:k=0
  ·subst h0;simp at e
  ·apply hl
   have h1:k - 1<l.length:=by omega
   have h2:=bq l (k - 1) h1
   rw [Nat.sub_add_cancel (by omega)] at h2
   rw [h2,List.getLast?_concat] at e
   exact Option.some.inj e
theorem jj {n:Nat} (h0:n≠0) (h:n<B):dg n = [n]:=by
 rw [dI h0,Nat.mod_eq_of_lt h,Nat.div_eq_of_lt h,av]
end R
namespace R
theorem getD_lt {l:List Nat} {k:Nat} (h:k<l.length):l.getD k 0=l[k]:=by
 rw [List.getD_eq_getElem?_getD,List.getElem?_eq_getElem h];rfl
theorem nk (l:List Nat) (k d:Nat) (h:k<l.length):toN (l.set k d)+B ^ k*l.getD k 0=toN l+B ^ k*d:=by
 induction l generalizing k with
 | nil=>simp at h
 | cons a r ih =>
  cases k with
  | zero=>simp [toN];omega
  | succ k =>
   have h1:=ih k (by simpa using h)
   simp only [List.set_cons_succ,toN,List.getD_cons_succ,Nat.pow_succ]
   have h2:B*toN (r.set k d)+B*(B ^ k*r.getD k 0)=B*toN r+B*(B ^ k*d):=by rw [←Nat.mul_add,←Nat.mul_add,h1]
   rw [Nat.mul_comm (B ^ k) B,Nat.mul_assoc,Nat.mul_assoc]
   omega
theorem Dig.set {l:List Nat} (h:Dig l) (k:Nat) {d:Nat} (hd:d<1000000):Dig (l.set k d):=fun x hx=>by
 rcases List.mem_or_eq_of_mem_set hx with hx | rfl
 ·exact h x hx
 ·exact hd
theorem getD_set_ne (l:List Nat) (k m d:Nat) (h:k≠m):(l.set k d).getD m 0=l.getD m 0:=by
 rw [List.getD_eq_getElem?_getD,List.getD_eq_getElem?_getD,List.getElem?_set_ne h]
theorem fM {x y:Nat} (hx:x<1000000) (hy:y<1000000):x*y≤999998000001:=by
 have:=Nat.mul_le_mul (show x≤999999 by omega) (show y≤999999 by omega)
 omega
theorem jk {o:List Nat} {k x y c:Nat} (hk:k<o.length) (ho:Dig o) (hx:x<1000000) (hy:y<1000000) (hc:c<1000000) :
  let t:=o.getD k 0+x*y+c
  t / 1000000<1000000∧t % 1000000<1000000∧toN (o.set k (t % 1000000))+B ^ (k+1)*(t / 1000000)=toN o+B ^ k*(x*y+c):=by
 intro t
 have h1:=fM hx hy
 have h2:=ho.getD k
 have h3:t<1000000*1000000:=by show o.getD k 0+x*y+c<_;omega
 refine ⟨by omega,by omega,?_⟩
 have h4:=nk o k (t % 1000000) hk
 have h5:B ^ k*t=B ^ k*(t % 1000000)+B ^ (k+1)*(t / 1000000):=by
  rw [Nat.pow_succ,Nat.mul_assoc,←Nat.mul_add,dS]
  congr 1
  omega
 have h6:B ^ k*t=B ^ k*o.getD k 0+B ^ k*(x*y+c):=by
  rw [←Nat.mul_add];congr 1;show o.getD k 0+x*y+c=_;omega
 omega
end R
namespace R
open Go.RowKit
def Nats (w:World) (v:Value) (l:List Nat):Prop :=
 ∃ p cap,v = .slice p l.length cap∧l.length≤cap∧cap≤9223372036854775807 ∧
  (l ≠ []→∃ b off,p=some ⟨b,off,none⟩∧∀ i,i<l.length→w.cell? ⟨b,off+i,none⟩=some (.int .i64 (l.getD i 0:Nat)))
theorem Nats.next {w w':World} {v:Value} {l:List Nat} (h:Nats w v l) (hb:Below w.heap.size w w'):Nats w' v l:=by
 obtain ⟨p,cap,rfl,h1,h2,h3⟩:=h
 refine ⟨p,cap,rfl,h1,h2,fun hne => ?_⟩
 obtain ⟨b,off,e,hc⟩:=h3 hne
 exact ⟨b,off,e,fun i hi=>(hb.cell (World.block_lt_of_cell? w _ (hc i hi))).trans (hc i hi)⟩
theorem Nats.nil (w:World):Nats w (.slice none 0 0) []:=⟨none,0,rfl,Nat.le_refl _,by decide,fun h=>absurd rfl h⟩
theorem aL {l:List Nat} (h:Dig l):dg (toN l) <+: l:=by
 induction l using f9 with
 | h0=>rw [show toN []=0 from rfl,av];exact List.prefix_refl _
 | hs m d ih =>
  by_cases hd:d=0
  ·subst hd
   rw [aS,Nat.mul_zero,Nat.add_zero]
   exact (ih (fun x hx=>h x (by simp [hx]))).trans (List.prefix_append _ _)
  ·rw [n9 h (by rw [List.getLast?_concat];intro e;exact hd (Option.some.inj e))]
   exact List.prefix_refl _
theorem Nats.take {w:World} {p:Option Addr} {cap:Nat} {l m:List Nat} (h:Nats w (.slice p l.length cap) l) (hm:m <+: l):Nats w (.slice p m.length cap) m:=by
 obtain ⟨p',cap',he,h1,h2,h3⟩:=h
 simp only [Value.slice.injEq,true_and] at he
 obtain ⟨rfl,rfl⟩:=he
 refine ⟨p,cap,rfl,Nat.le_trans hm.length_le h1,h2,fun hne => ?_⟩
 obtain ⟨r,rfl⟩:=hm
 obtain ⟨b,off,e,hc⟩:=h3 (by simp [hne])
 refine ⟨b,off,e,fun i hi => ?_⟩
 rw [hc i (by rw [List.length_append];omega)]
 rw [List.getD_eq_getElem?_getD,List.getD_eq_getElem?_getD,List.getElem?_append_left hi]
def IsNat (w:World) (v:Value) (n:Nat):Prop:=Nats w v (dg n)
theorem IsNat.next {w w':World} {v:Value} {n:Nat} (h:IsNat w v n) (hb:Below w.heap.size w w'):IsNat w' v n:=Nats.next h hb
theorem Nats.of_cells {w:World} {b:Nat} {l:List Nat} {cap:Nat} (h1:l.length≤cap) (h2:cap≤9223372036854775807)
  (h:∀ i,i<l.length→w.cell? ⟨b,i,none⟩=some (.int .i64 (l.getD i 0:Nat))):Nats w (.slice (some ⟨b,0,none⟩) l.length cap) l :=
 ⟨_,cap,rfl,h1,h2,fun _=>⟨b,0,rfl,fun i hi=>by rw [Nat.zero_add];exact h i hi⟩⟩
theorem io:(Tryz.prog.info? 3).map (fun i=>(i.zero,i.size,i.bytes))=some (some (.int .i64 0),1,8):=by kernel_rfl
theorem bv {w:World} {base:Nat} {v:Value} {l:List Nat} {e:TypeId} (h:w.ownsRow base e 1 v l.length (l.map fun x=>Value.int .i64 (x:Nat))):Nats w v l:=by
 have h':=h
 obtain ⟨h1,h2⟩:=h
 rcases h2 with ⟨rfl,h3⟩ | ⟨g,cap,cur,rfl,hb,hh,hn,hcap,hsz,htk⟩
 ·have:l = []:=List.eq_nil_of_length_eq_zero h3
  subst this;exact Nats.nil w
 ·refine ⟨_,cap,rfl,hn,by unfold maxLen at hcap;omega,fun _=>⟨g,0,rfl,fun i hi => ?_⟩⟩
  have h3:=h'.cells (g:=g) rfl i (.int .i64 (l.getD i 0:Nat)) (by
   rw [List.getElem?_map,List.getElem?_eq_getElem hi,List.getD_eq_getElem?_getD,List.getElem?_eq_getElem hi];rfl)
  have hadd:(⟨g,0,none⟩:Addr).add i=⟨g,0+i,none⟩:=by unfold Addr.add;split <;> simp_all
  rwa [hadd] at h3
def ae (l:List Nat):List Value:=l.map fun x=>Value.int .i64 (x:Nat)
theorem bB (l:List Nat) (x:Nat):ae l ++ [Value.int .i64 (x:Nat)]=ae (l ++ [x]):=by simp [ae]
def Row (w:World) (g:Nat) (l:List Nat):Prop:=w.heap[g]? = some (.cells (ae l).toArray 3 (0,0))
theorem Row.cell {w:World} {g:Nat} {l:List Nat} (h:Row w g l) {i:Nat} (hi:i<l.length):w.cell? ⟨g,i,none⟩=some (.int .i64 (l.getD i 0:Nat)):=by
 rw [cell_of_row w g i _ _ (0,0) h]
 simp [ae,hi]
theorem Row.frozen {w:World} {g:Nat} {l:List Nat} (h:Row w g l) (i:Nat):w.frozen? ⟨g,i,none⟩=false:=by
 unfold Row at h
 simp [World.frozen?, h]
theorem Row.set {w:World} {g:Nat} {l:List Nat} (h:Row w g l) (i:Nat) (x:Nat):Row (w.setCell ⟨g,i,none⟩ (.int .i64 (x:Nat))) g (l.set i x):=by
 unfold Row at h ⊢
 simp [World.setCell,Array.getElem?_modify,h,ae,List.map_set]
theorem Row.lt {w:World} {g:Nat} {l:List Nat} (h:Row w g l):g<w.heap.size:=(Array.getElem?_eq_some_iff.1 h).1
theorem Row.nats {w:World} {g:Nat} {l:List Nat} (h:Row w g l) {cap:Nat} (h1:l.length≤cap) (h2:cap≤9223372036854775807):Nats w (.slice (some ⟨g,0,none⟩) l.length cap) l :=
 Nats.of_cells h1 h2 (fun _ hi=>h.cell hi)
theorem kF (n:Nat):(madeCells (Value.int .i64 0).cells (n*1)).toList=ae (List.replicate n 0):=by
 rw [Nat.mul_one]
 have h:(Value.int .i64 0).cells = #[.int .i64 0]:=by simp [Value.cells]
 rw [h,toList_madeCells_one]
 simp [ae]
theorem Row.of_made {w:World} {base g n:Nat} (h:w.ownsRow base 3 1 (.slice (some ⟨g,0,none⟩) n n) n (madeCells (Value.int .i64 0).cells (n*1)).toList):Row w g (List.replicate n 0):=by
 rcases h.2 with ⟨h1,_⟩ | ⟨g',cap,cur,h1,_,hh,_,_,hsz,htk⟩
 ·cases h1
 ·simp only [Value.slice.injEq,Option.some.injEq,Addr.mk.injEq,true_and,and_true] at h1
  obtain ⟨rfl,rfl⟩:=h1
  rw [kF,List.take_of_length_le (by simp [hsz])] at htk
  unfold Row
  rw [hh,←htk]
def RowC (w:World) (g:Nat) (l:List Nat):Prop:=∃ cur,w.heap[g]? = some (.cells cur 3 (0,0))∧cur.toList.take l.length=ae l
theorem RowC.cell {w:World} {g:Nat} {l:List Nat} (h:RowC w g l) {i:Nat} (hi:i<l.length):w.cell? ⟨g,i,none⟩=some (.int .i64 (l.getD i 0:Nat)):=by
 obtain ⟨cur,h1,h2⟩:=h
 rw [cell_of_row w g i _ _ (0,0) h1,←Array.getElem?_toList]
 have:(cur.toList.take l.length)[i]? = (ae l)[i]? := by rw [h2]
 rw [List.getElem?_take_of_lt hi] at this
 rw [this]
 simp [ae,hi]
theorem RowC.frozen {w:World} {g:Nat} {l:List Nat} (h:RowC w g l) (i:Nat):w.frozen? ⟨g,i,none⟩=false:=by
 obtain ⟨cur,h1,h2⟩:=h
 simp [World.frozen?, h1]
theorem RowC.set {w:World} {g:Nat} {l:List Nat} (h:RowC w g l) (i:Nat) (x:Nat):RowC (w.setCell ⟨g,i,none⟩ (.int .i64 (x:Nat))) g (l.set i x):=by
 obtain ⟨cur,h1,h2⟩:=h
 refine ⟨cur.setIfInBounds i (.int .i64 (x:Nat)),?_,?_⟩
 ·simp [World.setCell,Array.getElem?_modify,h1]
 ·rw [List.length_set,Array.toList_setIfInBounds,List.take_set,h2]
  simp [ae,List.map_set]
theorem RowC.lt {w:World} {g:Nat} {l:List Nat} (h:RowC w g l):g<w.heap.size:=by
 obtain ⟨cur,h1,h2⟩:=h
 exact (Array.getElem?_eq_some_iff.1 h1).1
theorem RowC.nats {w:World} {g:Nat} {l:List Nat} (h:RowC w g l) {cap:Nat} (h1:l.length≤cap) (h2:cap≤9223372036854775807):Nats w (.slice (some ⟨g,0,none⟩) l.length cap) l :=
 Nats.of_cells h1 h2 (fun _ hi=>h.cell hi)
theorem RowC.of_block {w w':World} {g:Nat} {l:List Nat} (h:RowC w g l) (hb:w'.heap[g]? = w.heap[g]?):RowC w' g l:=by
 obtain ⟨cur,h1,h2⟩:=h
 exact ⟨cur,hb.trans h1,h2⟩
theorem RowC.next {w w':World} {g B:Nat} {l:List Nat} (h:RowC w g l) (hb:Below B w w') (hg:g<B):RowC w' g l:=h.of_block (hb.block g hg)
theorem aE {a b:Nat} (h:a≤b):(dg a).length≤(dg b).length:=by
 rw [an]
 exact Nat.lt_of_le_of_lt h ((an b _).1 (Nat.le_refl _))
theorem a6 {b:Nat} (h:b≠0):0<(dg b).length:=List.length_pos_iff.2 (fun e=>h ((dd b).1 e))
theorem IsNat.shape {w:World} {v:Value} {n:Nat} (h:IsNat w v n):∃ p cap,v = .slice p (dg n).length cap:=by
 obtain ⟨p,cap,e,_⟩:=h;exact ⟨p,cap,e⟩
theorem ip {a b:Nat} (h:(dg a).length<(dg b).length):a<b:=by
 have h1:=(an a _).1 (Nat.le_refl _)
 have h2:¬ b<B ^ (dg a).length:=fun hc=>by have:=(an b _).2 hc;omega
 omega
theorem iq (l:List Nat) (i:Nat) (h:i<l.length):toN l=toN (l.take i)+B ^ i*l.getD i 0+B ^ (i+1)*toN (l.drop (i+1)):=by
 conv=>lhs;rw [←List.take_append_drop (i+1) l]
 rw [cz,aw l i h,List.length_take,Nat.min_eq_left (by omega)]
theorem fF {la lb:List Nat} {i:Nat} (ha:Dig la) (hia:i<la.length) (hib:i<lb.length) (hd:la.drop (i+1)=lb.drop (i+1)) (h:la.getD i 0<lb.getD i 0):toN la<toN lb:=by
 rw [iq la i hia,iq lb i hib,hd]
 have h1:=cK (ha.take i)
 rw [List.length_take,Nat.min_eq_left (by omega)] at h1
 have h2:B ^ i*la.getD i 0+B ^ i≤B ^ i*lb.getD i 0:=by rw [←Nat.mul_succ];exact Nat.mul_le_mul_left _ h
 omega
theorem lm {la o:List Nat} {b r j:Nat} (hj:j<la.length) (hl:o.length=la.length) (h:toN (la.drop (j+1))=b*toN (o.drop (j+1))+r) :
  toN (la.drop j)=b*toN ((o.set j ((r*1000000+la.getD j 0) / b)).drop j)+(r*1000000+la.getD j 0) % b:=by
 rw [fl hj,jA (by omega)]
 show la.getD j 0+B*toN _=b*((r*1000000+la.getD j 0) / b+B*toN _)+_
 rw [h]
 have e:=Nat.div_add_mod (r*1000000+la.getD j 0) b
 generalize (r*1000000+la.getD j 0) / b=q at *
 generalize (r*1000000+la.getD j 0) % b=s at *
 generalize toN (o.drop (j+1))=T at *
 have hB:B=1000000:=rfl
 rw [hB,Nat.mul_add b q,Nat.mul_add 1000000 (b*T) r]
 have:b*(1000000*T)=1000000*(b*T):=Nat.mul_left_comm _ _ _
 omega
theorem qm {b r d:Nat} (hb0:0<b) (hb:b<1000000) (hr:r<b) (hd:d<1000000) :
  (r*1000000+d) / b<1000000∧(r*1000000+d) % b<b∧r*1000000+d<1000000000000:=by
 refine ⟨?_,Nat.mod_lt _ hb0,by omega⟩
 rw [Nat.div_lt_iff_lt_mul hb0]
 have:(r+1)*1000000≤b*1000000:=Nat.mul_le_mul_right _ hr
 omega
theorem dt (n i:Nat):(dg n).getD i 0=n / B ^ i % B:=by
 induction i generalizing n with
 | zero =>
  by_cases h:n=0
  ·subst h;rw [av];simp
  ·rw [dI h];simp
 | succ i ih =>
  by_cases h:n=0
  ·subst h;rw [av];simp
  ·rw [dI h,List.getD_cons_succ,ih,Nat.pow_succ,Nat.mul_comm,Nat.div_div_eq_div_mul]
theorem Nats.setCell {w:World} {v:Value} {l:List Nat} {base:Nat} (h:Nats w v l) (hf:Fresh base v) {a:Addr} (ha:a.block<base) (u:Value):Nats (w.setCell a u) v l:=by
 obtain ⟨p,cap,rfl,h1,h2,h3⟩:=h
 refine ⟨p,cap,rfl,h1,h2,fun hne => ?_⟩
 obtain ⟨b,off,e,hc⟩:=h3 hne
 refine ⟨b,off,e,fun i hi => ?_⟩
 have hb:base≤b:=hf b (by rw [e];rfl)
 exact (World.cell?_of_block (Below.heap_setCell _ _ _ _ (by show b≠a.block;omega))).trans (hc i hi)
theorem IsNat.setCell {w:World} {v:Value} {n base:Nat} (h:IsNat w v n) (hf:Fresh base v) {a:Addr} (ha:a.block<base) (u:Value):IsNat (w.setCell a u) v n:=Nats.setCell h hf ha u
theorem IsNat.unique {w:World} {v:Value} {m n:Nat} (h:IsNat w v m) (h':IsNat w v n):m=n:=by
 obtain ⟨p,cap,rfl,a1,a2,a3⟩:=h
 obtain ⟨p',cap',he,b1,b2,b3⟩:=h'
 simp only [Value.slice.injEq] at he
 obtain ⟨rfl,hl,rfl⟩:=he
 have e:dg m=dg n:=by
  refine List.ext_getElem hl (fun i h1 h2 => ?_)
  obtain ⟨b,off,e1,c1⟩:=a3 (by intro e;rw [e] at h1;simp at h1)
  obtain ⟨b',off',e2,c2⟩:=b3 (by intro e;rw [e] at h2;simp at h2)
  rw [e1] at e2
  simp only [Option.some.injEq,Addr.mk.injEq,and_true] at e2
  obtain ⟨rfl,rfl⟩:=e2
  have:=(c1 i h1).symm.trans (c2 i h2)
  simp only [Option.some.injEq,Value.int.injEq,true_and] at this
  rw [getD_lt h1,getD_lt h2] at this
  exact Int.ofNat.inj this
 have:=congrArg toN e
 rwa [ar,ar] at this
open Classical in
noncomputable def bG (w:World) (v:Value):Nat:=if h:∃ n,IsNat w v n then Classical.choose h else 0
theorem aX {w:World} {v:Value} {n:Nat} (h:IsNat w v n):bG w v=n:=by
 unfold bG
 have hx:∃ n,IsNat w v n:=⟨n,h⟩
 rw [dif_pos hx]
 exact (Classical.choose_spec hx).unique h
end R
namespace R
open Go.RowKit
theorem jQ (p:Option Addr) (cap:Nat) (l:List Nat) (w:World) (h:Nats w (.slice p l.length cap) l) (hd:Dig l) :
  Calls Tryz.prog 145 #[.slice p l.length cap] w fun e w'=>e = .returned (.slice p (dg (toN l)).length cap)∧w=w':=by
 obtain ⟨p',cap',he,h1,h2,h3⟩:=h
 simp only [Value.slice.injEq,true_and] at he
 obtain ⟨rfl,rfl⟩:=he
 have H3:=Ha h3;clear h3
 have HD:=Ha hd;clear hd
 go_enter Tryz.func145,Tryz.ntmps145
 go_wp2
 go_loop [3] (fun x=>∃ k:Nat,k≤l.length∧x = .int .i64 k∧Hid (toN (l.take k)=toN l)) (fun x=>(intOf x).toNat)
 case atStart=>exact ⟨l.length,Nat.le_refl _,rfl,by show toN _=_;rw [List.take_length]⟩
 case round =>
  obtain ⟨k,hk,rfl,hv⟩:=hrel
  by_cases h0:k=0
  ·subst h0
   have he:=gn HD.out 0 hk hv.out (.inl rfl)
   have HE:=Ha (show (dg (toN l)).length=0 by rw [he];simp);clear he
   go_wp2
   go_ret
   exact ⟨by rw [HE.out];rfl,rfl⟩
  ·obtain ⟨b,off,rfl,hc⟩:=H3.out (by intro e;subst e;simp at hk;omega)
   have hc1:=hc (k - 1) (by omega)
   have HC:=Ha hc;clear hc
   obtain ⟨j,rfl⟩:∃ j,k=j+1:=⟨k - 1,by omega⟩
   rw [Nat.add_sub_cancel] at hc1
   have hs:=aw l j (by omega)
   have HS:=Ha hs;clear hs
   have hl:=Ha (gn HD.out (j+1) hk hv.out)
   have hj1:(0:Int)<((j+1:Nat):Int):=by omega
   have ej:((j+1:Nat):Int) - 1=(j:Int):=by omega
   obtain ⟨J,hJ⟩:∃ J,j+1=J:=⟨_,rfl⟩
   rw [hJ] at hj1 ej hk hl ⊢
   have HJ:=Ha hJ;clear hJ
   have hx:(j:Int)<(J:Int):=by have:=HJ.out;omega
   by_cases hz:l.getD j 0=0
   ·have hv2:Hid (toN (l.take j)=toN l):=by
     show toN (l.take j)=toN l
     rw [←hv.out,HS.out,hz];simp
    rw [hz] at hc1
    have HZ:=Ha hz;clear hz hl hv HS
    generalize l.length=n at *
    go_wp2
    go_round
    case rel=>exact ⟨j,by omega,rfl,hv2⟩
    case measure=>simp [intOf];omega
   ·have hz':(((l.getD j 0:Nat):Int)==0)=false:=by rw [beq_eq_false_iff_ne];omega
    have hr:(dg (toN l)).length=J:=by
     rw [hl.out (.inr (by rw [←HJ.out,Nat.add_sub_cancel];exact hz)),List.length_take];omega
    have HR:=Ha hr;clear hr hz hl hv HS
    generalize l.getD j 0=d at *
    generalize l.length=n at *
    go_wp2
    go_ret
    exact ⟨by rw [HR.out];rfl,rfl⟩
theorem ln (v:Value) (l:List Nat) (w:World) (h:Nats w v l) (hd:Dig l) :
  Calls Tryz.prog 145 #[v] w fun e w'=>w=w'∧∃ v',e = .returned v'∧Nats w v' (dg (toN l))∧v'.ownBlock=v.ownBlock:=by
 have h':=h
 obtain ⟨p,cap,rfl,h1,h2,h3⟩:=h
 refine (jQ p cap l w h' hd).mono fun e w' ⟨he,hw⟩=>⟨hw,_,he,h'.take (aL hd),?_⟩
 cases p <;> rfl
theorem gp (v:Value) (l:List Nat) (i:Nat) (w:World) (h:Nats w v l) (_hi:i≤4611686018427387904) :
  Calls Tryz.prog 147 #[v,.int .i64 (i:Nat)] w fun e w'=>e = .returned (.int .i64 (l.getD i 0:Nat))∧w=w':=by
 obtain ⟨p,cap,rfl,h1,h2,h3⟩:=h
 by_cases hlt:i<l.length
 ·obtain ⟨b,off,rfl,hc⟩:=h3 (by intro e;subst e;simp at hlt)
  have hc':=hc i hlt
  clear hc
  generalize l.length=n at *
  generalize l.getD i 0=d at *
  go_enter Tryz.func147,Tryz.ntmps147
  go_wp2
  go_ret
  exact ⟨rfl,rfl⟩
 ·have e:l.getD i 0=0:=by rw [List.getD_eq_getElem?_getD,List.getElem?_eq_none (by omega)];rfl
  rw [e]
  generalize l.length=n at *
  clear h3 e
  go_enter Tryz.func147,Tryz.ntmps147
  go_wp2
  go_ret
  exact ⟨rfl,rfl⟩
theorem jR {l:List Nat} {j:Nat} (h:l.length≤j):l.getD j 0=0:=by rw [List.getD_eq_getElem?_getD,List.getElem?_eq_none h];rfl
theorem dJ (l:List Nat) (j:Nat):toN (l.take (j+1))=toN (l.take j)+B ^ j*l.getD j 0:=by
 by_cases h:j<l.length
 ·exact aw l j h
 ·rw [jR (by omega),List.take_of_length_le (by omega),List.take_of_length_le (by omega),Nat.mul_zero,Nat.add_zero]
theorem dW {l:List Nat} {j:Nat} (h:j<l.length):l.drop j=l.getD j 0::l.drop (j+1):=by
 rw [List.drop_eq_getElem_cons h,getD_lt h]
theorem rX (va vb:Value) (a b:Nat) (w:World) (ha:IsNat w va a) (hb:IsNat w vb b) :
  Calls Tryz.prog 150 #[va,vb] w fun e W'=>e = .returned (.int .i64 (cM a b))∧∃ n,W'=w.drewN n:=by
 obtain ⟨pa,ca,rfl,a1,a2,a3⟩:=ha
 obtain ⟨pb,cb,rfl,b1,b2,b3⟩:=hb
 have HA:=Ha a3;have HB:=Ha b3;clear a3 b3
 have HN:=Ha (Hb (ar a) (ar b))
 have HD:=Ha (Hb (aq a) (aq b))
 have hlt:=Ha (fun h=>ip (a:=a) (b:=b) h)
 have hgt:=Ha (fun h=>ip (a:=b) (b:=a) h)
 by_cases hne:(dg a).length=(dg b).length
 ·have HC:=Ha (show cM a b=cM (toN (dg a)) (toN (dg b)) by rw [ar,ar])
  generalize dg a=la at *
  generalize dg b=lb at *
  rw [HC.out]
  clear hlt hgt HN HC
  obtain ⟨n,hn⟩:∃ n,la.length=n:=⟨_,rfl⟩
  have hn2:lb.length=n:=by omega
  have HN:=Ha (Hb hn hn2)
  rw [hn] at a1 ⊢
  rw [hn2] at b1 ⊢
  clear hne hn hn2
  have hneq:((n:Int) != n)=false:=by simp
  go_enter Tryz.func150,Tryz.ntmps150
  go_wp2
  go_loopw [5] (fun x wr=>∃ j:Nat,j≤n∧x = .int .i64 ((j:Int) - 1)∧Hid (la.drop j=lb.drop j)∧∃ k,wr=w.drewN k) (fun x _=>(intOf x+1).toNat)
  case atStart=>exact ⟨n,Nat.le_refl _,rfl,by show _=_;rw [List.drop_of_length_le (by rw [HN.out.1];exact Nat.le_refl _),List.drop_of_length_le (by rw [HN.out.2];exact Nat.le_refl _)],0,rfl⟩
  case round =>
   obtain ⟨j,hj,rfl,hd,hk⟩:=hrel
   have HK:=Ha hk;clear hk
   by_cases hj0:j=0
   ·subst hj0
    have he:cM (toN la) (toN lb)=0:=lH (by have:=hd.out;rw [List.drop_zero,List.drop_zero] at this;rw [this])
    have HE:=Ha he;clear he
    go_wp2
    go_ret
    exact ⟨by rw [HE.out];rfl,HK.out⟩
   ·obtain ⟨i,rfl⟩:∃ i,j=i+1:=⟨j - 1,by omega⟩
    have hia:i<la.length:=by rw [HN.out.1];omega
    have hib:i<lb.length:=by rw [HN.out.2];omega
    obtain ⟨ba,oa,rfl,hca⟩:=HA.out (by intro e;rw [e] at hia;simp at hia)
    obtain ⟨bb,ob,rfl,hcb⟩:=HB.out (by intro e;rw [e] at hib;simp at hib)
    have xa:wr.cell? ⟨ba,oa+i,none⟩=some (.int .i64 (la.getD i 0:Nat)):=by obtain ⟨kk,e⟩:=HK.out;rw [e];exact hca i hia
    have xb:wr.cell? ⟨bb,ob+i,none⟩=some (.int .i64 (lb.getD i 0:Nat)):=by obtain ⟨kk,e⟩:=HK.out;rw [e];exact hcb i hib
    have e1:=Ha (fun h=>fF (la:=la) (lb:=lb) (i:=i) HD.out.1 hia hib hd.out h)
    have e2:=Ha (fun h=>fF (la:=lb) (lb:=la) (i:=i) HD.out.2 hib hia hd.out.symm h)
    have e3:Hid (la.getD i 0=lb.getD i 0→la.drop i=lb.drop i):=fun h=>by rw [dW hia,dW hib,h,hd.out]
    clear hca hcb hia hib hd
    generalize la.getD i 0=x at *
    generalize lb.getD i 0=y at *
    have ei:((i:Int)+1 - 1)=(i:Int):=by omega
    have hx1:(i:Int)<(n:Int):=by omega
    have next:∀ q,Hid (∃ n,(wr.drewN q)=w.drewN n):=fun q=>by obtain ⟨kk,e⟩:=HK.out;exact ⟨_,by rw [e,World.drewN_drewN]⟩
    have NX:=Ha next
    clear next HK
    rcases Nat.lt_trichotomy x y with hxy | hxy | hxy
    ·have g1:(x:Int)<y:=by omega
     have hf:Hid (cM (toN la) (toN lb) = -1):=dO (e1.out hxy)
     clear e1 e2 e3 hxy
     go_wp2
     go_quiet (fail)
     go_wp2
     go_ret
     exact ⟨by rw [hf.out];rfl,(NX.out _).out⟩
    ·subst hxy
     have h3:Hid (la.drop i=lb.drop i):=e3.out rfl
     have g1:¬ (x:Int)<x:=by omega
     clear e1 e2 e3
     go_wp2
     go_quiet (fail)
     have ya:(wr.drewN nq).cell? ⟨ba,oa+i,none⟩=some (.int .i64 (x:Nat)):=xa
     have yb:(wr.drewN nq).cell? ⟨bb,ob+i,none⟩=some (.int .i64 (x:Nat)):=xb
     have NX2:=Ha (fun q=>show Hid (∃ n,(wr.drewN nq).drewN q=w.drewN n) by rw [World.drewN_drewN];exact NX.out _)
     clear xa xb NX
     generalize wr.drewN nq=W2 at *
     go_wp2
     go_quiet (fail)
     go_wp2
     go_roundw
     case rel=>exact ⟨i,by omega,by go_num,h3,(NX2.out _).out⟩
     case measure=>simp [intOf]
    ·have g1:¬ (x:Int)<y:=by omega
     have g2:(y:Int)<x:=by omega
     have hf:Hid (cM (toN la) (toN lb)=1):=fQ (e2.out hxy)
     clear e1 e2 e3 hxy
     go_wp2
     go_quiet (fail)
     have ya:(wr.drewN nq).cell? ⟨ba,oa+i,none⟩=some (.int .i64 (x:Nat)):=xa
     have yb:(wr.drewN nq).cell? ⟨bb,ob+i,none⟩=some (.int .i64 (y:Nat)):=xb
     have NX2:=Ha (fun q=>show Hid (∃ n,(wr.drewN nq).drewN q=w.drewN n) by rw [World.drewN_drewN];exact NX.out _)
     clear xa xb NX
     generalize wr.drewN nq=W2 at *
     go_wp2
     go_quiet (fail)
     go_wp2
     go_ret
     exact ⟨by rw [hf.out];rfl,(NX2.out _).out⟩
 ·rcases Nat.lt_or_gt_of_ne hne with h | h
  ·have hc:=Ha (dO (hlt.out h))
   clear hlt hgt HN HD HA HB
   generalize (dg a).length=la at *
   generalize (dg b).length=lb at *
   have hn:((la:Int) != (lb:Int))=true:=by rw [bne_iff_ne];omega
   have g1:(la:Int)<lb:=by omega
   clear hne h
   go_enter Tryz.func150,Tryz.ntmps150
   go_wp2
   go_ret
   exact ⟨by rw [hc.out];rfl,0,rfl⟩
  ·have hc:=Ha (fQ (hgt.out h))
   clear hlt hgt HN HD HA HB
   generalize (dg a).length=la at *
   generalize (dg b).length=lb at *
   have hn:((la:Int) != (lb:Int))=true:=by rw [bne_iff_ne];omega
   have g1:¬ (la:Int)<lb:=by omega
   clear hne h
   go_enter Tryz.func150,Tryz.ntmps150
   go_wp2
   go_ret
   exact ⟨by rw [hc.out];rfl,0,rfl⟩
end R
end Go.Proofs.YtocalfjfjjljnaaGreatDoor
