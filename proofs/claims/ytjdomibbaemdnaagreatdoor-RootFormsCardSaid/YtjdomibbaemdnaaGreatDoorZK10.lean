/- Parts of the proof of the text YtjdomibbaemdnaaGreatDoorZK42. -/
import Derived.Test.YtjdomibbaemdnaaGreatDoorZK1
import Derived.Test.YtjdomibbaemdnaaGreatDoorZK5
import Derived.Test.YtjdomibbaemdnaaGreatDoorZK9
set_option linter.all false
set_option maxRecDepth 100000
set_option maxHeartbeats 8000000
namespace Go.Proofs.YtjdomibbaemdnaaGreatDoor
open Go.RowKit
def RowC (w:World) (g:Nat) (l:List Nat):Prop:=∃ cur,w.heap[g]? = some (.cells cur 143 (0,0))∧cur.toList.take l.length=ag l
theorem Row.rowC {w:World} {g:Nat} {l:List Nat} (h:Row w g l):RowC w g l:=⟨_,h,by rw [List.take_of_length_le (by simp [ag])]⟩
theorem RowC.cell {w:World} {g:Nat} {l:List Nat} (h:RowC w g l) {i:Nat} (hi:i<l.length):w.cell? ⟨g,i,none⟩=some (.int .u64 (l.getD i 0:Nat)):=by
 obtain ⟨cur,h1,h2⟩:=h
 rw [cell_of_row w g i _ _ (0,0) h1,←Array.getElem?_toList]
 have:(cur.toList.take l.length)[i]? = (ag l)[i]? := by rw [h2]
 rw [List.getElem?_take_of_lt hi] at this
 rw [this]
 simp [ag,hi]
theorem RowC.frozen {w:World} {g:Nat} {l:List Nat} (h:RowC w g l) (i:Nat):w.frozen? ⟨g,i,none⟩=false:=by
 obtain ⟨cur,h1,h2⟩:=h
 simp [World.frozen?, h1]
theorem RowC.set {w:World} {g:Nat} {l:List Nat} (h:RowC w g l) (i:Nat) (x:Nat):RowC (w.setCell ⟨g,i,none⟩ (.int .u64 (x:Nat))) g (l.set i x):=by
 obtain ⟨cur,h1,h2⟩:=h
 refine ⟨cur.setIfInBounds i (.int .u64 (x:Nat)),?_,?_⟩
 ·simp [World.setCell,Array.getElem?_modify,h1]
 ·rw [List.length_set,Array.toList_setIfInBounds,List.take_set,h2]
  simp [ag,List.map_set]
theorem RowC.lt {w:World} {g:Nat} {l:List Nat} (h:RowC w g l):g<w.heap.size:=by
 obtain ⟨cur,h1,h2⟩:=h
 exact (Array.getElem?_eq_some_iff.1 h1).1
theorem RowC.nats {w:World} {g:Nat} {l:List Nat} (h:RowC w g l) {cap:Nat} (h1:l.length≤cap) (h2:cap≤9223372036854775807):Nats w (.slice (some ⟨g,0,none⟩) l.length cap) l :=
 Nats.of_cells h1 h2 (fun _ hi=>h.cell hi)
theorem RowC.of_block {w w':World} {g:Nat} {l:List Nat} (h:RowC w g l) (hb:w'.heap[g]? = w.heap[g]?):RowC w' g l:=by
 obtain ⟨cur,h1,h2⟩:=h
 exact ⟨cur,hb.trans h1,h2⟩
theorem RowC.next {w w':World} {g B:Nat} {l:List Nat} (h:RowC w g l) (hb:Below B w w') (hg:g<B):RowC w' g l:=h.of_block (hb.block g hg)
theorem fg {w:World} {base:Nat} {v:Value} {l:List Nat} {n:Nat} (h:w.ownsRow base 143 1 v n (ag l)) (hne:l ≠ []):∃ g cap,v = .slice (some ⟨g,0,none⟩) l.length cap∧base≤g∧l.length≤cap∧cap≤maxLen∧RowC w g l:=by
 obtain ⟨h1,h2⟩:=h
 have hn:n=l.length:=by simpa [ag] using h1.symm
 subst hn
 rcases h2 with ⟨_,h0⟩ | ⟨g,cap,cur,rfl,hb,hh,hn,hm,hsz,htk⟩
 ·exact absurd (List.eq_nil_of_length_eq_zero h0) hne
 ·exact ⟨g,cap,rfl,hb,hn,hm,cur,hh,by rw [Nat.mul_one] at htk;exact htk⟩
structure Only (g:Nat) (w w':World):Prop where
 os:w'.os=w.os
 tape:w'.tape=w.tape
 output:w'.output=w.output
 size:w.heap.size≤w'.heap.size
 block:∀ k,k≠g→k<w.heap.size→w'.heap[k]? = w.heap[k]?
theorem Only.refl (g:Nat) (w:World):Only g w w:=⟨rfl,rfl,rfl,Nat.le_refl _,fun _ _ _=>rfl⟩
theorem Only.trans {g:Nat} {a b c:World} (h:Only g a b) (k:Only g b c):Only g a c :=
 ⟨k.os.trans h.os,k.tape.trans h.tape,k.output.trans h.output,Nat.le_trans h.size k.size,fun i hi hl=>(k.block i hi (Nat.lt_of_lt_of_le hl h.size)).trans (h.block i hi hl)⟩
theorem Only.setCell {g:Nat} {a w:World} (h:Only g a w) (o:Nat) (u:Value):Only g a (w.setCell ⟨g,o,none⟩ u) :=
 h.trans ⟨rfl,rfl,rfl,by simp [World.setCell],fun k hk _=>Below.heap_setCell _ _ _ _ (by show k≠g;exact hk)⟩
theorem Only.drew {g:Nat} {a w:World} (h:Only g a w):Only g a w.drew:=⟨h.os,h.tape,h.output,h.size,h.block⟩
theorem Only.of_below {g:Nat} {w w':World} (h:Below w.heap.size w w'):Only g w w':=⟨h.os,h.tape,h.output,h.size,fun k _ hl=>h.block k hl⟩
theorem Only.below {g B:Nat} {a w w':World} (h:Only g w w') (hb:Below B a w) (hg:B≤g) (hB:B≤w.heap.size):Below B a w' :=
 hb.trans ⟨h.os,h.tape,h.output,h.size,fun k hk=>h.block k (by omega) (by omega)⟩
theorem Only.cell {g:Nat} {w w':World} (h:Only g w w') {p:Addr} {v:Value} (hp:p.block≠g) (hc:w.cell? p=some v):w'.cell? p=some v :=
 (World.cell?_of_block (w:=w) (h.block p.block hp (World.block_lt_of_cell? w _ hc))).trans hc
theorem Only.rowC {g k:Nat} {w w':World} {l:List Nat} (h:Only g w w') (hk:k≠g) (hr:RowC w k l):RowC w' k l:=hr.of_block (h.block k hk hr.lt)
theorem Only.nats {g:Nat} {w w':World} {v:Value} {l:List Nat} (h:Only g w w') (hk:v.ownBlock≠some g) (hr:Nats w v l):Nats w' v l:=by
 obtain ⟨p,cap,rfl,h1,h2,h3⟩:=hr
 refine ⟨p,cap,rfl,h1,h2,fun hne => ?_⟩
 obtain ⟨b,off,e,hc⟩:=h3 hne
 exact ⟨b,off,e,fun i hi=>h.cell (by show b≠g;intro hb;exact hk (by rw [e,hb];rfl)) (hc i hi)⟩
theorem oh {l:List Nat} {j by' c P:Nat} (hj:j<l.length) (h:P+B ^ j*c=toN (l.take j)*by') :
  P+B ^ j*((l.getD j 0*by'+c) % 1000000000)+B ^ (j+1)*((l.getD j 0*by'+c) / 1000000000)=toN (l.take (j+1))*by':=by
 rw [aB l j hj,Nat.add_mul,←h]
 generalize l.getD j 0=x
 have e1:B ^ j*(x*by'+c)=B ^ j*((x*by'+c) % 1000000000)+B ^ (j+1)*((x*by'+c) / 1000000000):=by
  rw [Nat.pow_succ,Nat.mul_assoc,←Nat.mul_add];congr 1;rw [dH];omega
 have e2:B ^ j*(x*by'+c)=B ^ j*x*by'+B ^ j*c:=by rw [Nat.mul_add,Nat.mul_assoc]
 omega
theorem x7 {x b c:Nat} (hx:x<1000000000) (hb:b<1000000000) (hc:c<1000000000):x*b+c<1000000000000000000∧(x*b+c) / 1000000000<1000000000∧(x*b+c) % 1000000000<1000000000:=by
 have:=eZ hx hb;omega
theorem fh (v:Value) (la:List Nat) (m:Nat) (w:World) (ha:Nats w v la) (da:Dig la) (hla:la.length≤1000000) (hm:m<1000000000) :
  Calls Tryz.prog 246 #[v,.int .u64 m] w fun e W'=>∃ g cap l,e = .returned (.slice (some ⟨g,0,none⟩) l.length cap)∧l.length≤cap∧cap≤maxLen∧w.heap.size≤g∧RowC W' g l∧Dig l∧l.length=la.length+1∧toN l=toN la*m∧Below w.heap.size w W':=by
 obtain ⟨pa,capa,rfl,ha1,ha2,ha3⟩:=ha
 have HA:=Ha ha3;clear ha3
 obtain ⟨i0,hi,hz0,hz1,hz2⟩:=info_parts di
 have HI:=Ha (Hb hi (Hb hz0 (Hb hz1 hz2)));clear hi hz0 hz1 hz2
 have HD:=Ha da;clear da
 go_enter Tryz.func246,Tryz.ntmps246
 go_wp2_with (at_make;refine wpList_make_own _ rfl _ _ 182 rfl w.heap.size 143 i0 (.int .u64 0) 1 Tryz.underlying182 HI.out.1 HI.out.2.1 HI.out.2.2.1 .i64 .i64 _ (la.length+1) rfl rfl (by omega) (by rw [HI.out.2.2.2];omega) (by unfold maxLen;omega) (Nat.le_refl _) ?_;intro w1 hown hgrow)
 have hB1:Below w.heap.size w w1:=(Below.refl _ w).grown hgrow (Nat.le_refl _) (fun k e=>by cases e)
 go_loopw [5,6,16] (fun x y z wr=>∃ (c j:Nat) (o:List Nat),j≤la.length∧y = .int .u64 c∧z = .int .i64 j∧c<1000000000∧o.length=j∧wr.ownsRow w.heap.size 143 1 x j (ag o)∧Hid (Dig o)∧Hid (toN o+B ^ j*c=toN (la.take j)*m)∧Below w.heap.size w wr)
  (fun _ _ z _=>la.length - (intOf z).toNat)
 case atStart=>exact ⟨0,0,[],Nat.zero_le _,rfl,rfl,by omega,rfl,hown,Dig.nil,by show toN []+B ^ 0*0=_;simp [toN],hB1⟩
 case round =>
  clear hown hB1 hgrow
  obtain ⟨c,j,o,hj,rfl,rfl,hc,hlen,hown,hdig,hval,hbel⟩:=hrel
  have hsz:=hbel.size
  by_cases hjl:j<la.length
  ·obtain ⟨ab,aoff,rfl,hca⟩:=HA.out (by intro e;subst e;simp at hjl)
   have hx:=HD.out.getD j
   have ca0:=hca j hjl
   have cax:wr.cell? ⟨ab,aoff+j,none⟩=some (.int .u64 (la.getD j 0:Nat)):=(hbel.cell (p:=⟨ab,aoff+j,none⟩) (World.block_lt_of_cell? w _ ca0)).trans ca0
   clear ca0 hca
   have HS:=Ha (Hb (oh hjl hval.out) (x7 hx hm hc))
   clear hval
   have hxm:=eZ hx hm
   generalize la.getD j 0=x at *
   have hP0:0≤(x:Int)*(m:Int):=by rw [←Int.natCast_mul];omega
   have hP1:(x:Int)*(m:Int)≤999999998000000001:=by rw [←Int.natCast_mul];omega
   have hT:(((x*m+c:Nat)):Int)=(x:Int)*(m:Int)+(c:Int):=by rw [Int.natCast_add,Int.natCast_mul]
   have HT1:=Ha (show ((((x*m+c) / 1000000000:Nat)):Int)=((x:Int)*(m:Int)+(c:Int)) / 1000000000 by rw [Int.natCast_ediv,hT];rfl)
   have HT2:=Ha (show ((((x*m+c) % 1000000000:Nat)):Int)=((x:Int)*(m:Int)+(c:Int)) % 1000000000 by rw [Int.natCast_emod,hT];rfl)
   have HO:=Ha hown
   have HB:=Ha hbel
   clear hT hxm hown hbel
   go_wp2_with (at_builtin;refine wpList_append_own _ rfl _ _ 182 rfl w.heap.size 143 i0 (.int .u64 0) 1 8 Tryz.underlying182 HI.out.1 HI.out.2.1 HI.out.2.2.1 HI.out.2.2.2 rfl (by decide) _ _ _ rfl (HO.out.alloc _) ⟨wr.heap.size,0,none⟩ 1 1 [.int .u64 (((x:Int)*(m:Int)+(c:Int)) % 1000000000)] rfl rfl (cell_one_new _ _ _) (by simp [Value.oneCell']) (by unfold maxLen;omega) (by omega) (by simp;omega) ?_;intro v' w2 hown' hgrow _;have HO2:=Ha hown';have HG2:=Ha hgrow;clear hown' hgrow)
   go_roundw
   case rel =>
    obtain ⟨s1,s2,s3,s4⟩:=HS.out
    refine ⟨(x*m+c) / 1000000000,j+1,o ++ [(x*m+c) % 1000000000],by omega,by rw [HT1.out],by go_num,s3,by simp [hlen],?_,hdig.out.append (Dig.one s4),?_,?_⟩
    ·rw [←bh,HT2.out];exact HO2.out
    ·show toN _+_=_
     rw [aQ,hlen];exact s1
    ·exact (HB.out.alloc hsz _).grown HG2.out (by simp;omega) (fun k hk=>(HO.out.lt k hk).1)
   case measure=>simp [intOf];omega
  ·have ej:j=la.length:=by omega
   subst ej
   have hv:toN (o ++ [c])=toN la*m:=by rw [aQ,hlen,hval.out,List.take_length]
   have hdd:Dig (o ++ [c]):=hdig.out.append (Dig.one hc)
   have HS:=Ha (Hb hv hdd)
   have HO:=Ha hown
   have HB:=Ha hbel
   clear hv hdd hval hown hbel
   go_wp2_with (at_builtin;refine wpList_append_own _ rfl _ _ 182 rfl w.heap.size 143 i0 (.int .u64 0) 1 8 Tryz.underlying182 HI.out.1 HI.out.2.1 HI.out.2.2.1 HI.out.2.2.2 rfl (by decide) _ _ _ rfl (HO.out.alloc _) ⟨wr.heap.size,0,none⟩ 1 1 [.int .u64 (c:Nat)] rfl rfl (cell_one_new _ _ _) (by simp [Value.oneCell']) (by unfold maxLen;omega) (by omega) (by simp;omega) ?_;intro v' w2 hown' hgrow _;have HO2:=Ha hown';have HG2:=Ha hgrow;clear hown' hgrow)
   go_ret
   have h2:=HO2.out
   rw [bh] at h2
   obtain ⟨g,cap,rfl,hg,hc1,hc2,hr⟩:=fg h2 (by simp)
   exact ⟨g,cap,_,rfl,hc1,hc2,hg,hr,HS.out.2,by simp [hlen],HS.out.1,(HB.out.alloc hsz _).grown HG2.out (by simp;omega) (fun k hk=>(HO.out.lt k hk).1)⟩
theorem oY (vr vb:Value) (lr lb:List Nat) (n:Nat) (w:World) (hr:Nats w vr lr) (hb:Nats w vb lb) (dr:Dig lr) (db:Dig lb) (hlr:lr.length=n+3) (hlb:lb.length=n+2) (hn:n≤1000000)
  (h0:0<lb.getD (n+1) 0) (hlt:toN lr<B*toN lb) :
  Calls Tryz.prog 253 #[vr,vb] w fun e w'=>∃ t:Nat,e = .returned (.int .u64 t)∧t<1000000000∧toN lr<(t+1)*toN lb∧t*toN lb≤toN lr+toN lb∧∃ k,w'=w.drewN k:=by
 obtain ⟨pr,cr,rfl,hr1,hr2,hr3⟩:=hr
 obtain ⟨pb,cb,rfl,hb1,hb2,hb3⟩:=hb
 obtain ⟨rb,roff,rfl,hcr⟩:=hr3 (by intro e;subst e;simp at hlr)
 obtain ⟨bb,boff,rfl,hcb⟩:=hb3 (by intro e;subst e;simp at hlb)
 clear hr3 hb3
 obtain ⟨lw,hlw,ew⟩:=xM dr hlr
 obtain ⟨ly,hly,ey⟩:=xL db hlb
 have c0:=hcr (n+2) (by omega)
 have c1:=hcr (n+1) (by omega)
 have c2:=hcr n (by omega)
 have b0:=hcb (n+1) (by omega)
 have b1:=hcb n (by omega)
 have g0:=dr.getD (n+2)
 have g1:=dr.getD (n+1)
 have g2:=dr.getD n
 have g3:=db.getD (n+1)
 have g4:=db.getD n
 obtain ⟨i1,hi1⟩:∃ i,i=n+1:=⟨_,rfl⟩
 obtain ⟨i2,hi2⟩:∃ i,i=n+2:=⟨_,rfl⟩
 have hj1:(i2:Int) - 1=i1:=by omega
 have hj2:(i2:Int) - 2=n:=by omega
 have hlr':lr.length=i2+1:=by omega
 have hlb':lb.length=i2:=by omega
 rw [hlr',hlb']
 rw [hlr'] at hr1
 rw [hlb'] at hb1
 clear hlr' hlb'
 clear hcr hcb dr db
 generalize lr.getD (n+2) 0=w0 at *
 generalize lr.getD (n+1) 0=w1 at *
 generalize lr.getD n 0=w2 at *
 generalize lb.getD (n+1) 0=f at *
 generalize lb.getD n 0=s at *
 have HV:=Ha (zA ew ey hlw g2 h0 hlt)
 have HU:=Ha (fun t=>xN (t:=t) ew ey hlw)
 have HW:=Ha (fun t=>xO (t:=t) ew ey hly)
 clear ew ey hlw hly hlt hlr hlb
 rw [←hi1] at c1 b0
 rw [←hi2] at c0
 clear hi1 hi2
 go_enter Tryz.func253,Tryz.ntmps253
 go_wp2
 have x1:(i1:Int)<(i2:Int):=by omega
 have x2:(n:Int)<(i2:Int):=by omega
 have x3:(i2:Int)<(i2:Int)+1:=by omega
 have x4:(i1:Int)<(i2:Int)+1:=by omega
 have x5:(n:Int)<(i2:Int)+1:=by omega
 go_quiet (fail)
 have c0':(w.drewN nq).cell? ⟨rb,roff+i2,none⟩=some (.int .u64 (w0:Nat)):=c0
 have c1':(w.drewN nq).cell? ⟨rb,roff+i1,none⟩=some (.int .u64 (w1:Nat)):=c1
 have c2':(w.drewN nq).cell? ⟨rb,roff+n,none⟩=some (.int .u64 (w2:Nat)):=c2
 clear c0 c1 c2 b0 b1
 have HK:Hid (∃ n,w.drewN nq=w.drewN n):=⟨_,rfl⟩
 generalize w.drewN nq=W1 at *
 go_wp2
 go_quiet (fail)
 have d2:(W1.drewN nq).cell? ⟨rb,roff+n,none⟩=some (.int .u64 (w2:Nat)):=c2'
 clear c0' c1' c2'
 have HK2:Hid (∃ n,W1.drewN nq=w.drewN n):=by obtain ⟨kk,e⟩:=HK.out;exact ⟨_,by rw [e,World.drewN_drewN]⟩
 clear HK
 generalize W1.drewN nq=W2 at *
 obtain ⟨T,hT⟩:∃ T,w0*1000000000+w1=T:=⟨_,rfl⟩
 have eT:(w0:Int)*1000000000+w1=(T:Int):=by omega
 have hTb:(T:Int)≤999999999999999999:=by omega
 rw [eT]
 have HV1:Hid (toN lr<(min (T / f) 999999999+1)*toN lb):=by have:=HV.out;rw [dH,hT] at this;exact this
 have HU1:Hid (∀ t,t*f≤T→(T - t*f)*1000000000+w2<t*s→toN lr<t*toN lb):=by have:=HU.out;rw [dH,hT] at this;exact this
 have HW1:Hid (∀ t,t*f≤T→t<1000000000→s<1000000000→0<f→t*s≤(T - t*f)*1000000000+w2∨1000000000≤T - t*f→t*toN lb≤toN lr+toN lb):=by have:=HW.out;rw [dH,hT] at this;exact this
 clear HV HU HW eT hT g0 g1
 obtain ⟨D,hD⟩:∃ D,T / f=D:=⟨_,rfl⟩
 have eD:(T:Int) / (f:Int)=(D:Int):=by rw [←hD];exact (Int.natCast_ediv _ _).symm
 have hDf:Hid (∀ t,t≤D→t*f≤T):=by
  intro t ht;rw [←hD] at ht;exact (Nat.le_div_iff_mul_le h0).1 ht
 have hDb:(D:Int)≤999999999999999999:=by
  have:=Nat.div_le_self T f;omega
 rw [hD] at HV1
 clear hD
 have hf0:¬ (f:Int)=0:=by omega
 have hf1:((f:Int)==0)=false:=by rw [beq_eq_false_iff_ne];omega
 go_wp2
 have HB:=Ha (Hb g2 (Hb g4 h0))
 clear eD hDb
 go_loopw [9] (fun x wr=>∃ t:Nat,x = .int .u64 t∧t≤999999999∧t≤D∧Hid (toN lr<(t+1)*toN lb)∧∃ k,wr=W2.drewN k) (fun x _=>(intOf x).toNat)
 case atStart=>exact ⟨min D 999999999,by go_num,Nat.min_le_right _ _,Nat.min_le_left _ _,HV1.out,0,rfl⟩
 case round =>
  obtain ⟨t,rfl,ht,htD,hlo,k,hk⟩:=hrel
  have HK3:=Ha hk
  have e2:wr.cell? ⟨rb,roff+n,none⟩=some (.int .u64 (w2:Nat)):=by rw [hk];exact d2
  clear hk
  have hF:=hDf.out t htD
  have hS:=eZ (show t<1000000000 by omega) g4
  have HU2:=Ha (HU1.out t hF)
  have HW2:=Ha (HW1.out t hF (by omega) g4 h0)
  have hts:t=0→t*s=0:=by rintro rfl;exact Nat.zero_mul _
  obtain ⟨F,eF⟩:∃ F,t*f=F:=⟨_,rfl⟩
  obtain ⟨S,eS⟩:∃ S,t*s=S:=⟨_,rfl⟩
  have eF1:(t:Int)*(f:Int)=(F:Int):=by rw [←eF];exact (Int.natCast_mul _ _).symm
  have eS1:(t:Int)*(s:Int)=(S:Int):=by rw [←eS];exact (Int.natCast_mul _ _).symm
  rw [eF] at hF HU2 HW2
  rw [eS] at hS HU2 HW2 hts
  clear eF eS
  obtain ⟨L,hL⟩:∃ L,L=T - F:=⟨_,rfl⟩
  have eL:(T:Int) - (F:Int)=(L:Int):=by omega
  rw [←hL] at HU2 HW2
  have hLT:L≤T:=by omega
  have HTS:=Ha hts
  clear hL hts
  have hF2:(F:Int)≤999999999999999999:=by omega
  have hL2:(L:Int)≤999999999999999999:=by omega
  have hS2:(S:Int)≤999999998000000001:=by omega
  by_cases hc:1000000000≤L
  ·have hg:decide (1000000000≤(L:Int))=true:=decide_eq_true (by omega)
   have hg2:(1000000000:Int)≤(L:Int):=by omega
   clear HU2 hF
   go_wp2
   go_ret
   exact ⟨t,rfl,by omega,hlo.out,HW2.out (.inr hc),by obtain ⟨k1,q1⟩:=HK2.out;rw [HK3.out,q1];exact ⟨_,World.drewN_drewN _ _ _⟩⟩
  ·have hg:decide (1000000000≤(L:Int))=false:=decide_eq_false (by omega)
   have hg2:¬ (1000000000:Int)≤(L:Int):=by omega
   clear hF
   by_cases hs:S≤L*1000000000+w2
   ·have hs2:(S:Int)≤(L:Int)*1000000000+(w2:Int):=by omega
    go_wp2
    go_ret
    exact ⟨t,rfl,by omega,hlo.out,HW2.out (.inl hs),by obtain ⟨k1,q1⟩:=HK2.out;rw [HK3.out,q1];exact ⟨_,World.drewN_drewN _ _ _⟩⟩
   ·have hs2:¬ (S:Int)≤(L:Int)*1000000000+(w2:Int):=by omega
    have ht0:t≠0:=fun e=>by have:=HTS.out e;omega
    obtain ⟨t',et'⟩:∃ t',t=t'+1:=⟨t - 1,by omega⟩
    have hm:Hid (toN lr<(t'+1)*toN lb):=by rw [←et'];exact HU2.out (by omega)
    have et1:(t:Int) - 1=(t':Int):=by omega
    have ht1:t'≤999999998:=by omega
    have ht2:t'≤D:=by omega
    have HE:=Ha et'
    clear et'
    clear HU2 HW2 hs
    go_wp2
    go_roundw
    case rel=>exact ⟨t',by go_num,by omega,ht2,hm,k,HK3.out⟩
    case measure=>have:=HE.out;simp [intOf];omega
theorem jR (A P R:List Nat) (x:Nat):(A++(P++(x::R))).getD (A.length+P.length) 0=x:=by
 rw [List.getD_eq_getElem?_getD,List.getElem?_append_right (by omega),List.getElem?_append_right (by omega)]
 simp
theorem hU (A P R:List Nat) (x y:Nat):(A++(P++(x::R))).set (A.length+P.length) y=A++(P++(y::R)):=by
 rw [List.set_append_right _ _ (by omega),List.set_append_right _ _ (by omega)]
 simp
theorem oZ (A P R:List Nat) (x:Nat):A.length+P.length<(A++(P++(x::R))).length:=by simp
theorem mE (A P R:List Nat) (x:Nat):A++(P++(x::R))=A++((P ++ [x])++R):=by simp
theorem o0 (g n c t top:Nat) (vb:Value) (A X Z lb:List Nat) (w:World) (hr:RowC w g (A++(X++(top::Z)))) (hb:Nats w vb lb) (dx:Dig X) (db:Dig lb) (htop:top<1000000000)
  (hX:X.length=n) (hlb:lb.length=n) (hn:n≤1000000) (_hA:A.length≤1000000) (hc:n+1≤c) (hc':c≤9223372036854775807) (ht:t<1000000000) (hne:vb.ownBlock≠some g)
  (hle:t*toN lb≤toN X+B ^ n*top+toN lb) :
  Calls Tryz.prog 254 #[.slice (some ⟨g,A.length,none⟩) (n+1) c,vb,.int .u64 t] w fun e W'=>∃ X' cy,Dig X'∧X'.length=n∧toN X'+t*toN lb=toN X+B ^ n*cy∧cy≤top+1∧e = .returned (.bool (decide (top<cy))) ∧
   RowC W' g (A++(X'++((if top<cy then 18446744073709551615 else top - cy)::Z)))∧Only g w W':=by
 obtain ⟨pb,cb,rfl,hb1,hb2,hb3⟩:=hb
 have HB:=Ha hb3;clear hb3
 have HD:=Ha (Hb dx db);clear dx db
 have HL:=Ha (Hb hX hlb)
 have HLE:=Ha hle;clear hle
 have HNE:=Ha hne;clear hne
 rw [hlb] at hb1 ⊢
 clear hX hlb
 go_enter Tryz.func254,Tryz.ntmps254
 go_wp2
 go_loopw [7,14] (fun y z wr=>∃ (cy j:Nat) (P:List Nat),j≤n∧y = .int .u64 cy∧z = .int .i64 j∧cy<1000000000∧P.length=j∧Hid (Dig P)∧Hid (RowC wr g (A++(P++(X.drop j++(top::Z))))) ∧
   Hid (toN P+t*toN (lb.take j)=toN (X.take j)+B ^ j*cy)∧Hid (Only g w wr))
  (fun _ z _=>n - (intOf z).toNat)
 case atStart=>exact ⟨0,0,[],Nat.zero_le _,rfl,rfl,by omega,rfl,Dig.nil,by show RowC _ _ _;simpa using hr,by show toN []+_=_;simp [toN],Only.refl _ _⟩
 case round =>
  clear hr
  obtain ⟨cy,j,P,hj,rfl,rfl,hcy,hPl,hP,hrow,hval,hon⟩:=hrel
  by_cases hjl:j<n
  ·obtain ⟨bb,boff,rfl,hcb⟩:=HB.out (by intro e;have:=HL.out.2;subst e;simp at this;omega)
   have hy:=HD.out.2.getD j
   have cb0:=hcb j (by rw [HL.out.2];exact hjl)
   have cbx:wr.cell? ⟨bb,boff+j,none⟩=some (.int .u64 (lb.getD j 0:Nat)):=hon.out.cell (p:=⟨bb,boff+j,none⟩) (by intro h;exact HNE.out (by have h:bb=g:=h;rw [h];rfl)) cb0
   have hx:=HD.out.1.getD j
   have eD:X.drop j=X.getD j 0::X.drop (j+1):=ef (by rw [HL.out.1];exact hjl)
   have R0:=hrow.out
   rw [eD,List.cons_append] at R0
   have hst:=xP (p:=toN P) (Yp:=toN (lb.take j)) (Xp:=toN (X.take j)) (P:=B ^ j) hx hy ht hcy hval.out
   have eX:=aB X j (by rw [HL.out.1];exact hjl)
   have eY:=aB lb j (by rw [HL.out.2];exact hjl)
   rw [←eX,←eY] at hst
   have HS:=Ha hst
   clear hst cb0 hcb eD hrow hval eX eY
   have hty:=eZ ht hy
   generalize X.getD j 0=x at *
   generalize lb.getD j 0=y at *
   have co:=R0.cell (oZ A P (X.drop (j+1)++(top::Z)) x)
   rw [jR] at co
   have fo:=R0.frozen (A.length+P.length)
   rw [hPl] at co fo
   have hP0:0≤(t:Int)*(y:Int):=by rw [←Int.natCast_mul];omega
   have hP1:(t:Int)*(y:Int)≤999999998000000001:=by rw [←Int.natCast_mul];omega
   obtain ⟨u,hu⟩:∃ u,t*y+cy=u:=⟨_,rfl⟩
   have hT:(t:Int)*(y:Int)+(cy:Int)=(u:Int):=by rw [←hu,Int.natCast_add,Int.natCast_mul]
   have hub:(u:Int)≤999999999000000000:=by omega
   rw [hu] at HS
   have HR:=Ha R0
   clear R0 hu hty
   by_cases hlt:x<u % 1000000000
   ·have hlt2:(x:Int)<(u:Int) % 1000000000:=by omega
    go_wp2
    go_roundw
    case rel =>
     obtain ⟨s1,s2,s3⟩:=HS.out.1 hlt
     refine ⟨u / 1000000000+1,j+1,P ++ [x+1000000000 - u % 1000000000],by omega,by go_num,by go_num,s1,by simp [hPl],hP.out.append (Dig.one s2),?_,?_,(hon.out.setCell _ _).setCell _ _⟩
     ·have r1:=HR.out.set (A.length+P.length) (x+1000000000)
      rw [hU] at r1
      have r2:=r1.set (A.length+P.length) (x+1000000000 - u % 1000000000)
      rw [hU,mE,hPl] at r2
      have e1:((x+1000000000:Nat):Int)=(x:Int)+1000000000:=by omega
      have e2:((x+1000000000 - u % 1000000000:Nat):Int)=(x:Int)+1000000000 - (u:Int) % 1000000000:=by omega
      rw [e1,e2] at r2
      exact r2
     ·show toN _+_=_
      rw [aQ,hPl,Nat.pow_succ];exact s3
    case measure=>simp [intOf];omega
   ·have hlt2:¬ (x:Int)<(u:Int) % 1000000000:=by omega
    go_wp2
    go_roundw
    case rel =>
     obtain ⟨s1,s2,s3⟩:=HS.out.2 (by omega)
     refine ⟨u / 1000000000,j+1,P ++ [x - u % 1000000000],by omega,by go_num,by go_num,s1,by simp [hPl],hP.out.append (Dig.one s2),?_,?_,hon.out.setCell _ _⟩
     ·have r2:=HR.out.set (A.length+P.length) (x - u % 1000000000)
      rw [hU,mE,hPl] at r2
      have e2:((x - u % 1000000000:Nat):Int)=(x:Int) - (u:Int) % 1000000000:=by omega
      rw [e2] at r2
      exact r2
     ·show toN _+_=_
      rw [aQ,hPl,Nat.pow_succ];exact s3
    case measure=>simp [intOf];omega
  ·have ej:j=n:=by omega
   subst ej
   have eX:X.take j=X:=List.take_of_length_le (by rw [HL.out.1];exact Nat.le_refl _)
   have eY:lb.take j=lb:=List.take_of_length_le (by rw [HL.out.2];exact Nat.le_refl _)
   have eD:X.drop j = []:=List.drop_of_length_le (by rw [HL.out.1];exact Nat.le_refl _)
   have hv:=hval.out
   have R0:=hrow.out
   rw [eX,eY] at hv
   rw [eD,List.nil_append] at R0
   have hlb':=cI HD.out.2
   rw [HL.out.2] at hlb'
   have hP':=cI hP.out
   rw [hPl] at hP'
   have hcy1:=vM hv hP' hlb' HLE.out
   have co:=R0.cell (oZ A P Z top)
   rw [jR] at co
   have fo:=R0.frozen (A.length+P.length)
   rw [hPl] at co fo
   have HV:=Ha (Hb hv hP.out)
   have HR:=Ha R0
   have HO:=Ha hon.out
   clear hv R0 eX eY eD hlb' hP' hval hrow hP hon
   by_cases hlt:top<cy
   ·have hw1:(top:Int) - (cy:Int) = -1:=by omega
    have hw2:(top:Int)<(cy:Int):=by omega
    have hw3:IntKind.u64.wrap (-1)=18446744073709551615:=rfl
    clear hcy1
    go_wp2
    go_ret
    refine ⟨P,cy,HV.out.2,hPl,HV.out.1,by omega,?_,?_,?_⟩
    ·simp [hlt]
    ·rw [if_pos hlt]
     have r2:=HR.out.set (A.length+P.length) 18446744073709551615
     rw [hU,hPl] at r2
     exact r2
    ·exact HO.out.setCell _ _
   ·have hw2:¬ (top:Int)<(cy:Int):=by omega
    go_wp2
    go_ret
    refine ⟨P,HV.out.2,hPl,cy,HV.out.1,by omega,?_,?_,?_⟩
    ·simp [hlt]
    ·rw [if_neg hlt]
     have r2:=HR.out.set (A.length+P.length) (top - cy)
     rw [hU,hPl] at r2
     have e2:((top - cy:Nat):Int)=(top:Int) - (cy:Int):=by omega
     rw [e2] at r2
     exact r2
    ·exact HO.out.setCell _ _
theorem vS {p x y c P Yp Xp:Nat} (hx:x<1000000000) (hy:y<1000000000) (hc:c≤1) (h:p+P*c=Xp+Yp) :
  (ec x y c).1<1000000000∧(ec x y c).2≤1∧p+P*(ec x y c).1+P*B*(ec x y c).2=Xp+P*x+(Yp+P*y):=by
 have e0:P*(x+y+c)=P*x+P*y+P*c:=by rw [Nat.mul_add,Nat.mul_add]
 unfold ec
 by_cases h1:1000000000≤x+y+c
 ·rw [if_pos h1]
  refine ⟨by show x+y+c - 1000000000<_;omega,Nat.le_refl _,?_⟩
  show p+P*(x+y+c - 1000000000)+P*B*1=_
  obtain ⟨d,hd⟩:∃ d,x+y+c=d+B:=⟨x+y+c - B,by rw [dH];omega⟩
  rw [hd] at e0
  have e1:x+y+c - 1000000000=d:=by rw [hd,dH];exact Nat.add_sub_cancel _ _
  rw [e1]
  rw [Nat.mul_add P d B] at e0
  omega
 ·rw [if_neg h1]
  refine ⟨by show x+y+c<_;omega,by show 0≤1;omega,?_⟩
  show p+P*(x+y+c)+P*B*0=_
  omega
theorem qk (g n c:Nat) (vb:Value) (A X Z lb:List Nat) (w:World) (hr:RowC w g (A++(X++(18446744073709551615::Z)))) (hb:Nats w vb lb) (dx:Dig X) (db:Dig lb)
  (hX:X.length=n) (hlb:lb.length=n) (hn:n≤1000000) (_hA:A.length≤1000000) (hc:n+1≤c) (hc':c≤9223372036854775807) (hne:vb.ownBlock≠some g)
  (hle:B ^ n≤toN X+toN lb) :
  Calls Tryz.prog 255 #[.slice (some ⟨g,A.length,none⟩) (n+1) c,vb] w fun e W'=>∃ X',Dig X'∧X'.length=n∧toN X'+B ^ n=toN X+toN lb∧e = .returned (.tuple #[]) ∧
   RowC W' g (A++(X'++(0::Z)))∧Only g w W':=by
 obtain ⟨pb,cb,rfl,hb1,hb2,hb3⟩:=hb
 have HB:=Ha hb3;clear hb3
 have HD:=Ha (Hb dx db);clear dx db
 have HL:=Ha (Hb hX hlb)
 have HLE:=Ha hle;clear hle
 have HNE:=Ha hne;clear hne
 rw [hlb] at hb1 ⊢
 clear hX hlb
 go_enter Tryz.func255,Tryz.ntmps255
 go_wp2
 go_loopw [4,9] (fun y z wr=>∃ (cy j:Nat) (P:List Nat),j≤n∧y = .int .u64 cy∧z = .int .i64 j∧cy≤1∧P.length=j∧Hid (Dig P)∧Hid (RowC wr g (A++(P++(X.drop j++(18446744073709551615::Z))))) ∧
   Hid (toN P+B ^ j*cy=toN (X.take j)+toN (lb.take j))∧Hid (Only g w wr))
  (fun _ z _=>n - (intOf z).toNat)
 case atStart=>exact ⟨0,0,[],Nat.zero_le _,rfl,rfl,by omega,rfl,Dig.nil,by show RowC _ _ _;simpa using hr,by show toN []+_=_;simp [toN],Only.refl _ _⟩
 case round =>
  clear hr
  obtain ⟨cy,j,P,hj,rfl,rfl,hcy,hPl,hP,hrow,hval,hon⟩:=hrel
  by_cases hjl:j<n
  ·obtain ⟨bb,boff,rfl,hcb⟩:=HB.out (by intro e;have:=HL.out.2;subst e;simp at this;omega)
   have hy:=HD.out.2.getD j
   have cb0:=hcb j (by rw [HL.out.2];exact hjl)
   have cbx:wr.cell? ⟨bb,boff+j,none⟩=some (.int .u64 (lb.getD j 0:Nat)):=hon.out.cell (p:=⟨bb,boff+j,none⟩) (by intro h;exact HNE.out (by have h:bb=g:=h;rw [h];rfl)) cb0
   have hx:=HD.out.1.getD j
   have eD:X.drop j=X.getD j 0::X.drop (j+1):=ef (by rw [HL.out.1];exact hjl)
   have R0:=hrow.out
   rw [eD,List.cons_append] at R0
   have hst:=vS (p:=toN P) (Yp:=toN (lb.take j)) (Xp:=toN (X.take j)) (P:=B ^ j) hx hy hcy hval.out
   have eX:=aB X j (by rw [HL.out.1];exact hjl)
   have eY:=aB lb j (by rw [HL.out.2];exact hjl)
   rw [←eX,←eY] at hst
   clear cb0 hcb eD hrow hval eX eY
   generalize X.getD j 0=x at *
   generalize lb.getD j 0=y at *
   have ca:=jy x y cy wr hx hy hcy
   obtain ⟨d,hd⟩:∃ d,ec x y cy=d:=⟨_,rfl⟩
   rw [hd] at ca hst
   obtain ⟨d1,d2⟩:=d
   dsimp only at ca hst
   have CA:=Ha ca
   have HS:=Ha hst
   have co:=R0.cell (oZ A P (X.drop (j+1)++(18446744073709551615::Z)) x)
   rw [jR] at co
   have fo:=R0.frozen (A.length+P.length)
   rw [hPl] at co fo
   have HR:=Ha R0
   clear R0 hst ca hd
   go_wp2_with fail
   refine CA.out.mono ?_
   rintro e w' ⟨rfl,rfl⟩
   clear CA
   go_wp2
   go_roundw
   case rel =>
    obtain ⟨s1,s2,s3⟩:=HS.out
    refine ⟨d2,j+1,P ++ [d1],by omega,rfl,by go_num,s2,by simp [hPl],hP.out.append (Dig.one s1),?_,?_,hon.out.setCell _ _⟩
    ·have r2:=HR.out.set (A.length+P.length) d1
     rw [hU,mE,hPl] at r2
     exact r2
    ·show toN _+_=_
     rw [aQ,hPl,Nat.pow_succ];exact s3
   case measure=>simp [intOf];omega
  ·have ej:j=n:=by omega
   subst ej
   have eX:X.take j=X:=List.take_of_length_le (by rw [HL.out.1];exact Nat.le_refl _)
   have eY:lb.take j=lb:=List.take_of_length_le (by rw [HL.out.2];exact Nat.le_refl _)
   have eD:X.drop j = []:=List.drop_of_length_le (by rw [HL.out.1];exact Nat.le_refl _)
   have hv:=hval.out
   have R0:=hrow.out
   rw [eX,eY] at hv
   rw [eD,List.nil_append] at R0
   have hP':=cI hP.out
   rw [hPl] at hP'
   have hcy1:cy=1:=by
    have:=HLE.out
    rcases Nat.lt_or_ge cy 1 with h | h
    ·have h0:cy=0:=by omega
     rw [h0,Nat.mul_zero] at hv;omega
    ·omega
   subst hcy1
   rw [Nat.mul_one] at hv
   have co:=R0.cell (oZ A P Z 18446744073709551615)
   rw [jR] at co
   have fo:=R0.frozen (A.length+P.length)
   rw [hPl] at co fo
   have HV:=Ha (Hb hv hP.out)
   have HR:=Ha R0
   have HO:=Ha hon.out
   have hw3:IntKind.u64.wrap 18446744073709551616=0:=rfl
   clear hv R0 eX eY eD hP' hval hrow hP hon
   go_wp2
   go_end0
   refine ⟨P,HV.out.2,hPl,HV.out.1,rfl,?_,HO.out.setCell _ _⟩
   have r2:=HR.out.set (A.length+P.length) 0
   rw [hU,hPl] at r2
   exact r2
theorem Only.drewN (g:Nat) (w:World) (k:Nat):Only g w (w.drewN k):=⟨rfl,rfl,rfl,Nat.le_refl _,fun _ _ _=>rfl⟩
theorem RowC.window {w:World} {g c:Nat} {A X Z:List Nat} {top:Nat} (h:RowC w g (A++(X++(top::Z)))) (hc:X.length+1≤c) (hc':c≤9223372036854775807) :
  Nats w (.slice (some ⟨g,A.length,none⟩) (X.length+1) c) (X ++ [top]):=by
 refine ⟨_,c,by simp,by simpa using hc,hc',fun _=>⟨g,A.length,rfl,fun i hi => ?_⟩⟩
 have hi':i<X.length+1:=by simpa using hi
 have h1:=h.cell (i:=A.length+i) (by simp;omega)
 rw [h1]
 congr 3
 rw [List.getD_eq_getElem?_getD,List.getD_eq_getElem?_getD,List.getElem?_append_right (by omega),show A.length+i - A.length=i by omega,
  show X++top::Z=(X ++ [top])++Z by simp,List.getElem?_append_left hi]
theorem lE (g n c top:Nat) (vb:Value) (A X Z lb:List Nat) (w:World) (hr:RowC w g (A++(X++(top::Z)))) (hb:Nats w vb lb) (dx:Dig X) (db:Dig lb) (htop:top<1000000000)
  (hX:X.length=n+2) (hlb:lb.length=n+2) (hn:n+2≤1000000) (hA:A.length≤1000000) (hc:n+3≤c) (hc':c≤9223372036854775807) (hne:vb.ownBlock≠some g)
  (h0:0<lb.getD (n+1) 0) (hlt:toN X+B ^ (n+2)*top<B*toN lb) :
  Calls Tryz.prog 247 #[.slice (some ⟨g,A.length,none⟩) (n+3) c,vb] w fun e W'=>∃ X',Dig X'∧X'.length=n+2∧toN X'=(toN X+B ^ (n+2)*top) % toN lb∧e = .returned (.int .u64 ((toN X+B ^ (n+2)*top) / toN lb:Nat)) ∧
   RowC W' g (A++(X'++(0::Z)))∧Only g w W':=by
 have hw:=hr.window (c:=c) (by omega) hc'
 rw [hX] at hw
 have hsn:toN (X ++ [top])=toN X+B ^ (n+2)*top:=by rw [aQ,hX]
 have hY:toN lb<B ^ (n+2):=by have:=cI db;rwa [hlb] at this
 have ce:=oY _ vb (X ++ [top]) lb n w hw hb (dx.append (Dig.one htop)) db (by simp [hX]) hlb (by omega) h0 (by rw [hsn];exact hlt)
 rw [hsn] at ce
 have cs:=fun t k ht hle=>o0 g (n+2) c t top vb A X Z lb (w.drewN k) (hr.of_block rfl) ((Only.drewN g w k).nats hne hb) dx db htop hX hlb hn hA hc hc' ht hne hle
 have cr:=fun X' W (hr:RowC W g (A++(X'++(18446744073709551615::Z)))) (ho:Only g w W) d hX hle=>qk g (n+2) c vb A X' Z lb W hr (ho.nats hne hb) d db hX hlb hn hA hc hc' hne hle
 have hup:=fun x' t c h h2 h3 => @zB x' (toN X) (toN lb) t (B ^ (n+2)) c top h hY h2 h3
 have hbk:=fun x' t h h1 h2 h3 => @vN x' (toN X) (toN lb) t (B ^ (n+2)) top h h1 h2 h3
 have hlen:∀ X':List Nat,Dig X'→X'.length=n+2→toN X'<B ^ (n+2):=fun X' d h=>by have:=cI d;rwa [h] at this
 have CE:=Ha ce
 have CS:=Ha cs
 have CR:=Ha cr
 have HUP:=Ha (Hb hup (Hb hbk hlen))
 clear ce cs cr hup hbk hlen hsn hw hr dx db hX hlb hc h0 hlt hne hn hA
 obtain ⟨pb,cb,rfl,hb1,hb2,hb3⟩:=hb
 clear hb1 hb2 hb3
 generalize hlbl:lb.length=lbl at *
 clear hlbl
 go_enter Tryz.func247,Tryz.ntmps247
 go_wp2_with fail
 refine CE.out.mono ?_
 rintro e w' ⟨t,rfl,ht,hW,hle,k,rfl⟩
 have H1:=Ha (Hb ht (Hb hW hle))
 clear CE hW hle
 go_wp2_with fail
 refine (CS.out t k ht H1.out.2.2).mono ?_
 rintro e w2 ⟨X',cy,d',l',hv,hcy,rfl,hr',ho⟩
 have ho2:Only g w w2:=(Only.drewN g w k).trans ho
 clear ho CS
 by_cases hlt:top<cy
 ·have hd:decide (top<cy)=true:=decide_eq_true hlt
  rw [if_pos hlt] at hr'
  have ecy:cy=top+1:=by omega
  subst ecy
  have ht0:0<t:=by
   rcases Nat.eq_zero_or_pos t with h | h
   ·exfalso
    have h3:=HUP.out.2.2 X' d' l'
    rw [h,Nat.zero_mul,Nat.mul_add,Nat.mul_one] at hv
    omega
   ·exact h
  obtain ⟨k1,k2,k3⟩:=HUP.out.2.1 (toN X') t hv (HUP.out.2.2 X' d' l') H1.out.2.2 ht0
  have CR2:=Ha (CR.out X' w2 hr' ho2 d' l' k1)
  have HK:=Ha (Hb k2 (Hb k3 k1))
  have HO:=Ha ho2
  clear k1 k2 k3 hv hr' ho2 hcy hlt CR d' l' H1
  go_wp2_with fail
  refine CR2.out.mono ?_
  rintro e w3 ⟨X'',d'',l'',hv'',rfl,hr'',ho''⟩
  have HO2:=Ha (HO.out.trans ho'')
  have H2:=Ha (Hb d'' (Hb l'' (Hb hv'' hr'')))
  clear CR2 d'' l'' hv'' hr'' ho''
  have ht2:(0:Int)≤(t:Int) - 1:=by omega
  go_wp2
  go_ret
  obtain ⟨k2,k3,k1⟩:=HK.out
  obtain ⟨d'',l'',hv'',hr''⟩:=H2.out
  refine ⟨X'',d'',l'',by omega,?_,hr'',HO2.out⟩
  exact an (by omega)
 ·have hd:decide (top<cy)=false:=decide_eq_false hlt
  rw [if_neg hlt] at hr'
  obtain ⟨k1,k2,k3⟩:=HUP.out.1 (toN X') t cy hv H1.out.2.1 (by omega)
  have HK:=Ha (Hb k1 (Hb k2 k3))
  have H2:=Ha (Hb d' (Hb l' (Hb hr' ho2)))
  clear k1 k2 k3 hv hr' ho2 hcy hlt CR d' l' H1 HUP
  go_wp2
  go_ret
  obtain ⟨k1,k2,k3⟩:=HK.out
  obtain ⟨d'',l'',hr'',ho''⟩:=H2.out
  refine ⟨X',d'',l'',k3,by rw [k2];rfl,?_,ho''⟩
  rwa [k1,Nat.sub_self] at hr''
end Go.Proofs.YtjdomibbaemdnaaGreatDoor
