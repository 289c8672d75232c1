/- Parts of the proof of the text YtocalfjfjjljnaaGreatDoorZO44. -/
import Derived.Test.YtocalfjfjjljnaaGreatDoorZO1
import Derived.Test.YtocalfjfjjljnaaGreatDoorZO10
import Derived.Test.YtocalfjfjjljnaaGreatDoorZO9
set_option linter.all false
set_option maxRecDepth 100000
set_option maxHeartbeats 8000000
namespace Go.Proofs.YtocalfjfjjljnaaGreatDoor
open Go.RowKit
theorem aU (n:Bool):ak n 0=0:=by unfold ak;cases n <;> rfl
theorem pj (na nb:Bool) (a b:Nat) (h0:b≠0) :
  ((na=nb∨a % b=0)→(ak na a).fdiv (ak nb b)=ak (na != nb) (a / b)∧(ak na a).fmod (ak nb b)=ak nb (a % b)) ∧
  ((na≠nb∧a % b≠0)→(ak na a).fdiv (ak nb b)=ak (na != nb) (a / b+1)∧(ak na a).fmod (ak nb b)=ak nb (b - a % b)):=by
 have hm:=Nat.mod_lt a (show 0<b by omega)
 have he:=Nat.div_add_mod a b
 have he':((b:Int)*((a / b:Nat):Int))+((a % b:Nat):Int)=(a:Int):=by rw [←Int.natCast_mul,←Int.natCast_add,he]
 generalize a / b=q at *
 generalize a % b=r at *
 generalize hbq:(b:Int)*(q:Int)=P at *
 have hsub:((b - r:Nat):Int)=(b:Int) - r:=by omega
 constructor
 ·intro h
  cases na <;> cases nb <;> simp only [ak,if_true,if_false,bne_self_eq_false,Bool.false_eq_true,Bool.true_bne,Bool.false_bne,Bool.not_false,Bool.not_true] <;>
   refine gG ?_ (by omega) (fun h1 => ?_) (fun h1 => ?_) <;>
   (try simp only [Int.neg_mul,Int.mul_neg,hbq]) <;> (try simp only [reduceCtorEq,false_or] at h) <;> omega
 ·rintro ⟨h,hr⟩
  cases na <;> cases nb <;> simp only [ne_eq,not_true_eq_false] at h <;> simp only [ak,if_true,if_false,bne_self_eq_false,Bool.false_eq_true,Bool.true_bne,Bool.false_bne,Bool.not_false,Bool.not_true] <;>
   refine gG ?_ (by omega) (fun h1 => ?_) (fun h1 => ?_) <;>
   (try simp only [Int.neg_mul,Int.mul_neg,hbq,Int.natCast_add,Int.mul_add,hsub]) <;> omega
structure Box4 (w:World) (k:Nat) (x0 x1 y0 y1:Value) (W:World):Prop where
 c1:W.cell? ⟨k,0,none⟩=some x0
 c2:W.cell? ⟨k,1,none⟩=some x1
 c3:W.cell? ⟨k+1,0,none⟩=some y0
 c4:W.cell? ⟨k+1,1,none⟩=some y1
 c5:W.cell? ⟨k+1+1,0,none⟩=some (.bool false)
 c6:W.cell? ⟨k+1+1,1,none⟩=some (.slice none 0 0)
 c7:W.cell? ⟨k+1+1+1,0,none⟩=some (.bool false)
 c8:W.cell? ⟨k+1+1+1,1,none⟩=some (.slice none 0 0)
 f5:W.frozen? ⟨k+1+1,0,none⟩=false
 f6:W.frozen? ⟨k+1+1,1,none⟩=false
 f7:W.frozen? ⟨k+1+1+1,0,none⟩=false
 f8:W.frozen? ⟨k+1+1+1,1,none⟩=false
 size:k+4≤W.heap.size
 below:Below k w W
theorem ri (w:World) (x0 x1 y0 y1:Value) (t:TypeId) :
  Box4 w w.heap.size x0 x1 y0 y1 ((((w.alloc (.cells #[x0,x1] t)).alloc (.cells #[y0,y1] t)).alloc (.cells #[.bool false,.slice none 0 0] t)).alloc (.cells #[.bool false,.slice none 0 0] t)) :=
 ⟨by go_cell,by go_cell,by go_cell,by go_cell,by go_cell,by go_cell,by go_cell,by go_cell,by simp [go_sem],by simp [go_sem],by simp [go_sem],by simp [go_sem],by simp,
  ((((Below.refl _ w).alloc (Nat.le_refl _) _).alloc (by simp) _).alloc (by simp;omega) _).alloc (by simp;omega) _⟩
theorem Box4.next {w:World} {k:Nat} {x0 x1 y0 y1:Value} {W W':World} (h:Box4 w k x0 x1 y0 y1 W) (hb:Below W.heap.size W W'):Box4 w k x0 x1 y0 y1 W':=by
 have hs:=h.size
 exact ⟨(hb.cell (p:=⟨k,0,none⟩) (by show k<_;omega)).trans h.c1,(hb.cell (p:=⟨k,1,none⟩) (by show k<_;omega)).trans h.c2,
  (hb.cell (p:=⟨k+1,0,none⟩) (by show k+1<_;omega)).trans h.c3,(hb.cell (p:=⟨k+1,1,none⟩) (by show k+1<_;omega)).trans h.c4,
  (hb.cell (p:=⟨k+1+1,0,none⟩) (by show k+1+1<_;omega)).trans h.c5,(hb.cell (p:=⟨k+1+1,1,none⟩) (by show k+1+1<_;omega)).trans h.c6,
  (hb.cell (p:=⟨k+1+1+1,0,none⟩) (by show k+1+1+1<_;omega)).trans h.c7,(hb.cell (p:=⟨k+1+1+1,1,none⟩) (by show k+1+1+1<_;omega)).trans h.c8,
  (hb.frozen (p:=⟨k+1+1,0,none⟩) (by show k+1+1<_;omega)).trans h.f5,(hb.frozen (p:=⟨k+1+1,1,none⟩) (by show k+1+1<_;omega)).trans h.f6,
  (hb.frozen (p:=⟨k+1+1+1,0,none⟩) (by show k+1+1+1<_;omega)).trans h.f7,(hb.frozen (p:=⟨k+1+1+1,1,none⟩) (by show k+1+1+1<_;omega)).trans h.f8,
  Nat.le_trans h.size hb.size,h.below.trans (hb.mono (by omega))⟩
def put4 (w:World) (k:Nat) (A B C D:Value):World :=
 (((w.setCell ⟨k+1+1,0,none⟩ A).setCell ⟨k+1+1,1,none⟩ B).setCell ⟨k+1+1+1,0,none⟩ C).setCell ⟨k+1+1+1,1,none⟩ D
theorem lX {w:World} {k:Nat} {x0 x1 x2 x3:Value} (c5:w.cell? ⟨k+1+1,0,none⟩=some x0) (c6:w.cell? ⟨k+1+1,1,none⟩=some x1) (c7:w.cell? ⟨k+1+1+1,0,none⟩=some x2) (c8:w.cell? ⟨k+1+1+1,1,none⟩=some x3)
  (A B C D:Value):(put4 w k A B C D).cell? ⟨k+1+1,0,none⟩=some A∧(put4 w k A B C D).cell? ⟨k+1+1,1,none⟩=some B∧(put4 w k A B C D).cell? ⟨k+1+1+1,0,none⟩=some C∧(put4 w k A B C D).cell? ⟨k+1+1+1,1,none⟩=some D:=by
 unfold put4
 obtain ⟨b1,b2⟩:=ap c5 c6 A B
 have b3:((w.setCell ⟨k+1+1,0,none⟩ A).setCell ⟨k+1+1,1,none⟩ B).cell? ⟨k+1+1,0,none⟩=some A:=by
  refine (?_:_=_).trans b1
  go_cell
 obtain ⟨d1,d2⟩:=ap (fN (x:=A) (y:=B) (j:=k+1+1) (by omega) c7) (fN (x:=A) (y:=B) (j:=k+1+1) (by omega) c8) C D
 refine ⟨fN (by omega) b3,fN (by omega) b2,?_,d2⟩
 refine (?_:_=_).trans d1
 go_cell
theorem lY {w:World} {k:Nat} {v:Value} {n:Nat} (h:IsNat w v n) (hf:dg n = []∨(v.ownBlock≠some (k+1+1)∧v.ownBlock≠some (k+1+1+1))) (A B C D:Value):IsNat (put4 w k A B C D) v n:=by
 have h1:dg n = []∨v.ownBlock≠some (k+1+1):=hf.imp_right And.left
 have h2:dg n = []∨v.ownBlock≠some (k+1+1+1):=hf.imp_right And.right
 exact (((h.setCell_ne h1 _).setCell_ne h1 _).setCell_ne h2 _).setCell_ne h2 _
theorem kw {w a:World} {k B0:Nat} (h:Below B0 a w) (hB:B0≤k) (A B C D:Value):Below B0 a (put4 w k A B C D) :=
 (((h.setCell (p:=⟨k+1+1,0,none⟩) (by show B0≤k+1+1;omega) _).setCell (p:=⟨k+1+1,1,none⟩) (by show B0≤k+1+1;omega) _).setCell (p:=⟨k+1+1+1,0,none⟩) (by show B0≤k+1+1+1;omega) _).setCell (p:=⟨k+1+1+1,1,none⟩) (by show B0≤k+1+1+1;omega) _
theorem vO (nb:Bool) (va vb:Value) (a b:Nat) (w:World) (ha:IsNat w va a) (hb:IsNat w vb b) (h0:b≠0) (hla:(dg a).length≤900000) :
  Calls Tryz.prog 97 #[.agg #[.bool nb,va],.agg #[.bool nb,vb]] w fun e W'=>∃ x y,e = .returned (.tuple #[.agg #[.bool false,x],.agg #[.bool nb,y]])∧IsNat W' x (a / b)∧IsNat W' y (a % b)∧Below w.heap.size w W':=by
 have cd:=fun W (h:Below w.heap.size w W)=>dQ va vb a b W (ha.next h) (hb.next h) h0 hla
 obtain ⟨pa,ca,rfl⟩:=ha.shape
 obtain ⟨pb,cb,rfl⟩:=hb.shape
 have CD:=Ha cd
 clear cd
 have HH:=Ha (Hb ha (Hb hb (Hb h0 hla)))
 clear ha hb hla h0
 generalize (dg a).length=la at *
 generalize (dg b).length=lb at *
 go_enter Tryz.func97,Tryz.ntmps97
 go_wp2_with fail
 have hbx:=ri w (.bool nb) (.slice pa la ca) (.bool nb) (.slice pb lb cb) 117
 generalize ((((w.alloc (.cells #[.bool nb,.slice pa la ca] 117)).alloc (.cells #[.bool nb,.slice pb lb cb] 117)).alloc (.cells #[.bool false,.slice none 0 0] 117)).alloc (.cells #[.bool false,.slice none 0 0] 117))=W0 at *
 generalize hk:w.heap.size=k at *
 have HK:=Ha hk;clear hk
 have HBX:=Ha hbx
 clear hbx
 refine (CD.out W0 HBX.out.below).mono ?_
 rintro e w1 ⟨q,r,rfl,hq,hr,hqf,hrf,hB⟩
 have HB1:=Ha (HBX.out.next hB)
 obtain ⟨pq,cq,rfl⟩:=hq.shape
 obtain ⟨pr,cr,rfl⟩:=hr.shape
 have HV:=Ha (Hb hq (Hb hr (Hb hqf (Hb hrf hB))))
 clear hq hr hqf hrf hB CD
 obtain ⟨c1,c2,c3,c4,c5,c6,c7,c8,f5,f6,f7,f8,hsz,_⟩:=HB1.out
 have hg:(nb==nb)=true:=by simp
 generalize (dg (a / b)).length=lq at *
 generalize (dg (a % b)).length=lr at *
 go_wp2
 go_region_held3 (fun w'=>w'.cell? ⟨k,0,none⟩=some (.bool nb)∧w'.cell? ⟨k+1,0,none⟩=some (.bool nb)∧w'.frozen? ⟨k+1+1,0,none⟩=false∧w'.frozen? ⟨k+1+1,1,none⟩=false∧w'.frozen? ⟨k+1+1+1,0,none⟩=false∧w'.frozen? ⟨k+1+1+1,1,none⟩=false)
  (first | (go_keep;done) | ((try dsimp only);refine ⟨?_,?_,?_,?_,?_,?_⟩ <;> (first | (exact fN (by omega) (by assumption)) | (go_keep;done) | (simp [go_sem, *];done))))
  (fail)
 have hback:=lX c5 c6 c7 c8 (.bool false) (.slice pq lq cq) (.bool nb) (.slice pr lr cr)
 have HP:=Ha (Hb (fun v n h hf => @lY w1 k v n h hf (.bool false) (.slice pq lq cq) (.bool nb) (.slice pr lr cr)) (kw (k:=k) HB1.out.below (Nat.le_refl _) (.bool false) (.slice pq lq cq) (.bool nb) (.slice pr lr cr)))
 unfold put4 at hback HP
 generalize (((w1.setCell ⟨k+1+1,0,none⟩ (.bool false)).setCell ⟨k+1+1,1,none⟩ (.slice pq lq cq)).setCell ⟨k+1+1+1,0,none⟩ (.bool nb)).setCell ⟨k+1+1+1,1,none⟩ (.slice pr lr cr)=W4 at *
 obtain ⟨g5,g6,g7,g8⟩:=hback
 clear c1 c2 c3 c4 c5 c6 c7 c8 f5 f6 f7 f8
 go_wp2
 refine bodyPost_ret (v := .tuple #[.agg #[.bool false,.slice pq lq cq],.agg #[.bool nb,.slice pr lr cr]]) (by simp [results,Tryz.results97,go_sem,g5,g6,g7,g8]) rfl ?_
 obtain ⟨hq,hr,hqf,hrf,hB⟩:=HV.out
 obtain ⟨ha,hb,h0,hla⟩:=HH.out
 have hs:=HBX.out.size
 have fb:∀ v,Fresh W0.heap.size v→v.ownBlock≠some (k+1+1)∧v.ownBlock≠some (k+1+1+1):=fun v hv=>⟨fun e=>by have:=hv _ e;omega,fun e=>by have:=hv _ e;omega⟩
 refine ⟨_,_,rfl,HP.out.1 _ _ hq (.inr (fb _ hqf)),?_,by rw [HK.out];exact HP.out.2.drew⟩
 rcases hrf with hrf | ⟨hlt,e⟩
 ·exact HP.out.1 _ _ hr (.inr (fb _ hrf))
 ·rw [Nat.mod_eq_of_lt hlt,e]
  exact ha.next (by rw [HK.out];exact HP.out.2.drew)
theorem vP (na nb:Bool) (va vb:Value) (a b:Nat) (w:World) (ha:IsNat w va a) (hb:IsNat w vb b) (h0:b≠0) (hla:(dg a).length≤900000) (hlb:(dg b).length≤900000) (hn:(na==nb)=false) :
  Calls Tryz.prog 97 #[.agg #[.bool na,va],.agg #[.bool nb,vb]] w fun e W'=>∃ x y q r,e = .returned (.tuple #[.agg #[.bool true,x],.agg #[.bool nb,y]])∧IsNat W' x q∧IsNat W' y r∧((a % b=0∧q=a / b∧r=a % b)∨(a % b≠0∧q=a / b+1∧r=b - a % b))∧Below w.heap.size w W':=by
 have cd:=fun W (h:Below w.heap.size w W)=>dQ va vb a b W (ha.next h) (hb.next h) h0 hla
 obtain ⟨pa,ca,rfl⟩:=ha.shape
 obtain ⟨pb,cb,rfl⟩:=hb.shape
 have CD:=Ha cd
 clear cd
 have HH:=Ha (Hb ha (Hb hb (Hb h0 hla)))
 have HLL:=Ha (Hb hla hlb)
 clear ha hb hla hlb h0
 generalize hea:(dg a).length=la at *
 generalize heb:(dg b).length=lb at *
 have HEL:=Ha (Hb hea heb)
 clear hea heb
 go_enter Tryz.func97,Tryz.ntmps97
 go_wp2_with fail
 have hbx:=ri w (.bool na) (.slice pa la ca) (.bool nb) (.slice pb lb cb) 117
 generalize ((((w.alloc (.cells #[.bool na,.slice pa la ca] 117)).alloc (.cells #[.bool nb,.slice pb lb cb] 117)).alloc (.cells #[.bool false,.slice none 0 0] 117)).alloc (.cells #[.bool false,.slice none 0 0] 117))=W0 at *
 generalize hk:w.heap.size=k at *
 have HK:=Ha hk;clear hk
 have HBX:=Ha hbx
 clear hbx
 refine (CD.out W0 HBX.out.below).mono ?_
 rintro e w1 ⟨q,r,rfl,hq,hr,hqf,hrf,hB⟩
 have HB1:=Ha (HBX.out.next hB)
 obtain ⟨pq,cq,rfl⟩:=hq.shape
 obtain ⟨pr,cr,rfl⟩:=hr.shape
 have HV:=Ha (Hb hq (Hb hr (Hb hqf (Hb hrf hB))))
 clear hq hr hqf hrf hB CD
 obtain ⟨c1,c2,c3,c4,c5,c6,c7,c8,f5,f6,f7,f8,hsz,_⟩:=HB1.out
 by_cases hr0:a % b=0
 ·have HZ:=Ha hr0
  have hlr:(dg (a % b)).length=0:=by rw [hr0,av];rfl
  generalize (dg (a / b)).length=lq at *
  generalize (dg (a % b)).length=lr at *
  subst hlr
  clear hr0
  go_wp2
  go_region_held3 (fun w'=>w'.cell? ⟨k,0,none⟩=some (.bool na)∧w'.cell? ⟨k+1,0,none⟩=some (.bool nb)∧w'.frozen? ⟨k+1+1,0,none⟩=false∧w'.frozen? ⟨k+1+1,1,none⟩=false∧w'.frozen? ⟨k+1+1+1,0,none⟩=false∧w'.frozen? ⟨k+1+1+1,1,none⟩=false)
   (first | (go_keep;done) | ((try dsimp only);refine ⟨?_,?_,?_,?_,?_,?_⟩ <;> (first | (exact fN (by omega) (by assumption)) | (go_keep;done) | (simp [go_sem, *];done))))
   (fail)
  have hback:=lX c5 c6 c7 c8 (.bool true) (.slice pq lq cq) (.bool nb) (.slice pr 0 cr)
  have HP:=Ha (Hb (fun v n h hf => @lY w1 k v n h hf (.bool true) (.slice pq lq cq) (.bool nb) (.slice pr 0 cr)) (kw (k:=k) HB1.out.below (Nat.le_refl _) (.bool true) (.slice pq lq cq) (.bool nb) (.slice pr 0 cr)))
  unfold put4 at hback HP
  generalize (((w1.setCell ⟨k+1+1,0,none⟩ (.bool true)).setCell ⟨k+1+1,1,none⟩ (.slice pq lq cq)).setCell ⟨k+1+1+1,0,none⟩ (.bool nb)).setCell ⟨k+1+1+1,1,none⟩ (.slice pr 0 cr)=W4 at *
  obtain ⟨g5,g6,g7,g8⟩:=hback
  clear c1 c2 c3 c4 c5 c6 c7 c8 f5 f6 f7 f8
  go_wp2
  refine bodyPost_ret (v := .tuple #[.agg #[.bool true,.slice pq lq cq],.agg #[.bool nb,.slice pr 0 cr]]) (by simp [results,Tryz.results97,go_sem,g5,g6,g7,g8]) rfl ?_
  obtain ⟨hq,hr,hqf,hrf,hB⟩:=HV.out
  obtain ⟨ha,hb,h0,hla⟩:=HH.out
  have hs:=HBX.out.size
  have hs1:=HB1.out.size
  have fb:∀ v,Fresh W0.heap.size v→v.ownBlock≠some (k+1+1)∧v.ownBlock≠some (k+1+1+1):=fun v hv=>⟨fun e=>by have:=hv _ e;omega,fun e=>by have:=hv _ e;omega⟩
  have HR:=HZ.out
  refine ⟨_,_,a / b,a % b,rfl,HP.out.1 _ _ hq (.inr (fb _ hqf)),HP.out.1 _ _ hr (.inl (by rw [HR,av])),.inl ⟨HR,rfl,rfl⟩,by rw [HK.out];exact HP.out.2.drew⟩
 ·have hlr:0<(dg (a % b)).length:=a6 hr0
  have c66:Calls Tryz.prog 137 #[.slice pq (dg (a / b)).length cq,.slice (some ⟨w1.heap.size,0,none⟩) 1 1] (w1.alloc (.cells #[.int .u64 1] 156)).drew fun e W'=>∃ v,e = .returned v∧IsNat W' v (a / b+1)∧Fresh w1.heap.size v∧Below w1.heap.size w1 W':=by
   obtain ⟨hq,hr,hqf,hrf,hB⟩:=HV.out
   obtain ⟨ha,hb,h0,_⟩:=HH.out
   obtain ⟨hla,hlb⟩:=HLL.out
   obtain ⟨hea,heb⟩:=HEL.out
   have hb1:Below w1.heap.size w1 (w1.alloc (.cells #[.int .u64 1] 156)).drew:=((Below.refl _ w1).alloc (Nat.le_refl _) _).drew
   have h1:IsNat (w1.alloc (.cells #[.int .u64 1] 156)).drew (.slice (some ⟨w1.heap.size,0,none⟩) 1 1) 1:=by
    show Nats _ _ (dg 1)
    rw [show dg 1 = [1] by decide+kernel]
    exact Nats.of_cells (l := [1]) (Nat.le_refl _) (by decide) (fun i hi=>by
     match i,hi with
     | 0,_=>go_cell)
   refine (vw _ _ (a / b) 1 _ (hq.next hb1) h1 ?_ (by rw [show dg 1 = [1] by decide+kernel];decide)).mono ?_
   ·have:=aE (Nat.div_le_self a b);omega
   ·rintro e W' ⟨v,rfl,hv,hf,hb⟩
    exact ⟨v,rfl,hv,hf.mono hb1.size,hb1.trans (hb.mono hb1.size)⟩
  have c67:∀ W,Below w1.heap.size w1 W→Calls Tryz.prog 138 #[.slice pb lb cb,.slice pr (dg (a % b)).length cr] W fun e W'=>∃ v,e = .returned v∧IsNat W' v (b - a % b)∧Fresh W.heap.size v∧Below W.heap.size W W':=fun W hW=>by
   obtain ⟨hq,hr,hqf,hrf,hB⟩:=HV.out
   obtain ⟨ha,hb,h0,_⟩:=HH.out
   obtain ⟨hla,hlb⟩:=HLL.out
   obtain ⟨hea,heb⟩:=HEL.out
   have hb:IsNat w (.slice pb (dg b).length cb) b:=by rw [heb];exact hb
   rw [←heb]
   exact gB _ _ b (a % b) W (hb.next ((by rw [HK.out];exact HB1.out.below.trans (hW.mono (by omega))))) (hr.next hW) (by omega) (Nat.le_of_lt (Nat.mod_lt _ (by omega)))
  have C66:=Ha c66
  have C67:=Ha c67
  clear c66 c67
  generalize (dg (a / b)).length=lq at *
  generalize (dg (a % b)).length=lr at *
  have hlr2:(0:Int)<(lr:Int):=by omega
  go_wp2
  go_region_held3 (fun w'=>w'.cell? ⟨k+1,1,none⟩=some (.slice pb lb cb)) ((go_keep;done))
   (first
    | (go_at_call 137;refine C66.out.mono ?_;rintro e w2 ⟨v2,rfl,hv2,hf2,hb2⟩;obtain ⟨p2,cq2,rfl⟩:=hv2.shape;have e4:w2.cell? ⟨k+1,1,none⟩=some (.slice pb lb cb):=(hb2.cell (p:=⟨k+1,1,none⟩) (by show k+1<_;omega)).trans c4;have HS2:=Ha (Hb hv2 (Hb hf2 hb2));clear hv2 hf2 hb2)
    | (go_at_call 138;refine (C67.out _ HS2.out.2.2).mono ?_;rintro e w3 ⟨v3,rfl,hv3,hf3,hb3⟩;obtain ⟨p3,cr3,rfl⟩:=hv3.shape;have e5:w3.cell? ⟨k+1,1,none⟩=some (.slice pb lb cb):=(hb3.cell (p:=⟨k+1,1,none⟩) (by have:=HS2.out.2.2.size;show k+1<_;omega)).trans e4;have HS3:=Ha (Hb hv3 (Hb hf3 hb3));clear hv3 hf3 hb3))
  have hbw:Below w1.heap.size w1 w3:=HS2.out.2.2.trans (HS3.out.2.2.mono HS2.out.2.2.size)
  have HB3:=Ha (HB1.out.next hbw)
  clear c1 c2 c3 c4 c5 c6 c7 c8 f5 f6 f7 f8 e4 e5 hsz hbw
  obtain ⟨c1,c2,c3,c4,c5,c6,c7,c8,f5,f6,f7,f8,hsz,_⟩:=HB3.out
  generalize (dg (a / b+1)).length=l2 at *
  generalize (dg (b - a % b)).length=l3 at *
  go_wp2
  go_region_held3 (fun w'=>w'.cell? ⟨k,0,none⟩=some (.bool na)∧w'.cell? ⟨k+1,0,none⟩=some (.bool nb)∧w'.frozen? ⟨k+1+1,0,none⟩=false∧w'.frozen? ⟨k+1+1,1,none⟩=false∧w'.frozen? ⟨k+1+1+1,0,none⟩=false∧w'.frozen? ⟨k+1+1+1,1,none⟩=false)
   (first | (go_keep;done) | ((try dsimp only);refine ⟨?_,?_,?_,?_,?_,?_⟩ <;> (first | (exact fN (by omega) (by assumption)) | (go_keep;done) | (simp [go_sem, *];done))))
   (fail)
  have hback:=lX c5 c6 c7 c8 (.bool true) (.slice p2 l2 cq2) (.bool nb) (.slice p3 l3 cr3)
  have HP:=Ha (Hb (fun v n h hf => @lY w3 k v n h hf (.bool true) (.slice p2 l2 cq2) (.bool nb) (.slice p3 l3 cr3)) (kw (k:=k) HB3.out.below (Nat.le_refl _) (.bool true) (.slice p2 l2 cq2) (.bool nb) (.slice p3 l3 cr3)))
  unfold put4 at hback HP
  generalize (((w3.setCell ⟨k+1+1,0,none⟩ (.bool true)).setCell ⟨k+1+1,1,none⟩ (.slice p2 l2 cq2)).setCell ⟨k+1+1+1,0,none⟩ (.bool nb)).setCell ⟨k+1+1+1,1,none⟩ (.slice p3 l3 cr3)=W4 at *
  obtain ⟨g5,g6,g7,g8⟩:=hback
  clear c1 c2 c3 c4 c5 c6 c7 c8 f5 f6 f7 f8
  go_wp2
  refine bodyPost_ret (v := .tuple #[.agg #[.bool true,.slice p2 l2 cq2],.agg #[.bool nb,.slice p3 l3 cr3]]) (by simp [results,Tryz.results97,go_sem,g5,g6,g7,g8]) rfl ?_
  obtain ⟨hq,hr,hqf,hrf,hB⟩:=HV.out
  have hs:=HBX.out.size
  have hs1:=HB1.out.size
  have fb:∀ v,Fresh W0.heap.size v→v.ownBlock≠some (k+1+1)∧v.ownBlock≠some (k+1+1+1):=fun v hv=>⟨fun e=>by have:=hv _ e;omega,fun e=>by have:=hv _ e;omega⟩
  obtain ⟨hq2,hqf2,hb2⟩:=HS2.out
  obtain ⟨hr3,hrf3,hb3⟩:=HS3.out
  have f2:=hqf2.mono hB.size
  have f3:=hrf3.mono (Nat.le_trans hB.size hb2.size)
  refine ⟨_,_,a / b+1,b - a % b,rfl,HP.out.1 _ _ (hq2.next hb3) (.inr (fb _ f2)),HP.out.1 _ _ hr3 (.inr (fb _ f3)),.inr ⟨hr0,rfl,rfl⟩,by rw [HK.out];exact HP.out.2.drew⟩
theorem xE (na nb:Bool) (va vb:Value) (a b:Nat) (w:World) (ha:IsNat w va a) (hb:IsNat w vb b) (h0:b≠0) (hla:(dg a).length≤900000) (hlb:(dg b).length≤900000) :
  Calls Tryz.prog 97 #[.agg #[.bool na,va],.agg #[.bool nb,vb]] w fun e W'=>∃ s x y q r,e = .returned (.tuple #[.agg #[.bool s,x],.agg #[.bool nb,y]])∧IsNat W' x q∧IsNat W' y r∧ak s q=(ak na a).fdiv (ak nb b)∧ak nb r=(ak na a).fmod (ak nb b)∧q≤a∧r≤b∧Below w.heap.size w W':=by
 have hf:=pj na nb a b h0
 have hm:=Nat.mod_lt a (show 0<b by omega)
 by_cases hn:na=nb
 ·subst hn
  refine (vO na va vb a b w ha hb h0 hla).mono ?_
  rintro e W' ⟨x,y,rfl,hx,hy,hB⟩
  have h1:=hf.1 (.inl rfl)
  rw [bne_self_eq_false] at h1
  exact ⟨false,x,y,_,_,rfl,hx,hy,h1.1.symm,h1.2.symm,Nat.div_le_self a b,by omega,hB⟩
 ·have hn2:(na==nb)=false:=by simpa using hn
  have hn3:(na != nb)=true:=by simpa using hn
  rw [hn3] at hf
  refine (vP na nb va vb a b w ha hb h0 hla hlb hn2).mono ?_
  rintro e W' ⟨x,y,q,r,rfl,hx,hy,h,hB⟩
  rcases h with ⟨hz,rfl,rfl⟩ | ⟨hz,rfl,rfl⟩
  ·have h1:=hf.1 (.inr hz)
   exact ⟨true,x,y,_,_,rfl,hx,hy,h1.1.symm,h1.2.symm,Nat.div_le_self a b,by omega,hB⟩
  ·have h1:=hf.2 ⟨hn,hz⟩
   refine ⟨true,x,y,_,_,rfl,hx,hy,h1.1.symm,h1.2.symm,?_,by omega,hB⟩
   have hb2:2≤b:=by
    rcases Nat.lt_or_ge b 2 with h | h
    ·have:b=1:=by omega
     subst this;rw [Nat.mod_one] at hz;exact absurd rfl hz
    ·exact h
   have ha1:a≠0:=fun e=>by rw [e,Nat.zero_mod] at hz;exact hz rfl
   exact Nat.div_lt_self (by omega) hb2
def rk (e x y:Int):ByteArray:=if e=0 then (if y=0 then ByteArray.empty else aa (x.fdiv y)) else ByteArray.empty
def rl (e x y:Int):ByteArray:=if e=0 then (if y=0 then ByteArray.empty else aa (x.fmod y)) else ByteArray.empty
def rm (e y:Int):Int:=if e=0 then (if y=0 then 12 else 0) else e
theorem kx {x y:Int} (h:y≠0):rk 0 x y=aa (x.fdiv y)∧rl 0 x y=aa (x.fmod y)∧rm 0 y=0:=by
 unfold rk rl rm
 simp [h]
theorem gW (x:Int):rk 0 x 0=ByteArray.empty∧rl 0 x 0=ByteArray.empty∧rm 0 0=12:=by
 unfold rk rl rm
 simp
theorem jG {e:Int} (h:e≠0) (x y:Int):rk e x y=ByteArray.empty∧rl e x y=ByteArray.empty∧rm e y=e:=by
 unfold rk rl rm
 simp [h]
theorem i6 (a b:ByteArray) (w:World) (k1:chk a.data.toList=0) (k2:chk b.data.toList=0) (h0:valOf b.data.toList≠0) (hs:¬ (a.size≤18∧b.size≤18)) (ht:Tab w) :
  Calls Tryz.prog 52 #[.string a,.string b] w fun e W'=>e = .returned (.tuple #[.string (aa ((valOf a.data.toList).fdiv (valOf b.data.toList))),.string (aa ((valOf a.data.toList).fmod (valOf b.data.toList))),.int .i64 0])∧Below w.heap.size w W':=by
 have s1:=bQ k1
 have s2:=bQ k2
 have cb:=bM a b w (by unfold maxLen;omega) (by unfold maxLen;omega)
 have hc2:bo a.data.toList b.data.toList=0:=by unfold bo;rw [if_pos k1];exact k2
 rw [hc2] at cb
 have hb48:(b.toList == [48])=false:=by
  rw [ByteArray.toList_eq,beq_eq_false_iff_ne]
  intro e;rw [e] at h0;exact h0 rfl
 have i1:=fun W=>a7 a W (by unfold maxLen;omega)
 have i2:=fun W=>a7 b W (by unfold maxLen;omega)
 have rr1:=fun W=>bP a W (by omega) k1
 have rr2:=fun W=>bP b W (by omega) k2
 have HV:=Ha (Hb (eZ a.data.toList) (eZ b.data.toList))
 have NL:=Ha (Hb (bW k1) (bW k2))
 have hb0:ad (szL b.data.toList)≠0:=by
  intro e
  apply h0
  rw [←eZ,e,aU]
 have H0:=Ha hb0
 have C:=Ha (Hb cb (Hb i1 (Hb i2 (Hb rr1 rr2))))
 have HT:=Ha ht
 clear cb i1 i2 rr1 rr2 hc2 h0 ht k1 k2 hb0
 generalize valOf a.data.toList=x at *
 generalize valOf b.data.toList=y at *
 generalize af a.data.toList=na at *
 generalize af b.data.toList=nb at *
 generalize ad (szL a.data.toList)=ax at *
 generalize ad (szL b.data.toList)=bx at *
 have rest:∀ W,Below w.heap.size w W→∀ va vb,IsNat W va ax→IsNat W vb bx→Calls Tryz.prog 97 #[.agg #[.bool na,va],.agg #[.bool nb,vb]] W fun e W'=>∃ s u v q r,e = .returned (.tuple #[.agg #[.bool s,u],.agg #[.bool nb,v]])∧IsNat W' u q∧IsNat W' v r∧ak s q=x.fdiv y∧ak nb r=x.fmod y∧q≤ax∧r≤bx∧Below W.heap.size W W':=fun W _ va vb h1 h2=>by
  have:=xE na nb va vb ax bx W h1 h2 H0.out (Nat.le_trans (fO NL.out.1) (by decide)) (Nat.le_trans (fO NL.out.2) (by decide))
  rwa [HV.out.1,HV.out.2] at this
 have tx:=fun s q v W (h:IsNat W v q) (hl:q<lim) (hb:Below w.heap.size w W)=>jx s v q W h (Nat.le_trans (fO hl) (by decide)) (HT.out.next hb)
 have RS:=Ha rest
 have TX:=Ha tx
 clear rest tx
 by_cases g1:a.size≤18
 ·have t1:decide ((a.size:Int)≤18)=true:=by simp;omega
  have t2:decide ((b.size:Int)≤18)=false:=by simp;omega
  go_enter Tryz.func52,Tryz.ntmps52
  go_wp2_with fail
  refine C.out.1.mono ?_
  rintro e w' ⟨rfl,rfl⟩
  go_wp2_with fail
  refine (C.out.2.1 _).mono ?_
  rintro e w' ⟨rfl,rfl⟩
  rw [t1]
  go_wp2_with fail
  refine (C.out.2.2.1 _).mono ?_
  rintro e w' ⟨rfl,rfl⟩
  rw [t2]
  go_wp2_with fail
  refine (C.out.2.2.2.1 _).mono ?_
  rintro e w1 ⟨va,rfl,hva,_,hb1⟩
  have H1:=Ha (Hb hva hb1);clear hva hb1
  go_wp2_with fail
  refine (C.out.2.2.2.2 _).mono ?_
  rintro e w2 ⟨vb,rfl,hvb,_,hb2⟩
  have H2:=Ha (Hb (H1.out.1.next hb2) (Hb hvb (H1.out.2.trans (hb2.mono H1.out.2.size))));clear hvb hb2 H1
  go_wp2_with fail
  refine (RS.out _ H2.out.2.2 _ _ H2.out.1 H2.out.2.1).mono ?_
  rintro e w3 ⟨s,u,v,q,r,rfl,hu,hv,e1,e2,l1,l2,hb3⟩
  have hB3:=H2.out.2.2.trans (hb3.mono H2.out.2.2.size)
  have r1:(x.fdiv y).natAbs<lim:=by rw [←e1,iH];exact Nat.lt_of_le_of_lt l1 NL.out.1
  have r2:(x.fmod y).natAbs<lim:=by rw [←e2,iH];exact Nat.lt_of_le_of_lt l2 NL.out.2
  have f1:fH (x.fdiv y)=aa (x.fdiv y):=if_pos r1
  have f2:fH (x.fmod y)=aa (x.fmod y):=if_pos r2
  have f3:fI (x.fdiv y)=0:=if_pos r1
  have f4:fI (x.fmod y)=0:=if_pos r2
  have T1:=Ha (fun W h hB=>by have:=TX.out s q u W h (Nat.lt_of_le_of_lt l1 NL.out.1) hB;rwa [e1,f1,f3] at this)
  have T2:=Ha (fun W h hB=>by have:=TX.out nb r v W h (Nat.lt_of_le_of_lt l2 NL.out.2) hB;rwa [e2,f2,f4] at this)
  have H3:=Ha (Hb hu (Hb hv hB3))
  obtain ⟨pu,cu,rfl⟩:=hu.shape
  obtain ⟨pv,cv,rfl⟩:=hv.shape
  clear hu hv e1 e2 l1 l2 hb3 hB3 r1 r2 f1 f2 f3 f4 H2 TX RS
  generalize (dg q).length=lq at *
  generalize (dg r).length=lr at *
  go_wp2_with fail
  have d0:((w3.alloc (.cells #[.bool s,.slice pu lq cu] 117)).alloc (.cells #[.bool nb,.slice pv lr cv] 117)).cell? ⟨w3.heap.size+1,0,none⟩=some (.bool nb):=by go_cell
  have d1:((w3.alloc (.cells #[.bool s,.slice pu lq cu] 117)).alloc (.cells #[.bool nb,.slice pv lr cv] 117)).cell? ⟨w3.heap.size+1,1,none⟩=some (.slice pv lr cv):=by go_cell
  have dz:w3.heap.size+1<((w3.alloc (.cells #[.bool s,.slice pu lq cu] 117)).alloc (.cells #[.bool nb,.slice pv lr cv] 117)).heap.size:=by simp
  have db:Below w3.heap.size w3 ((w3.alloc (.cells #[.bool s,.slice pu lq cu] 117)).alloc (.cells #[.bool nb,.slice pv lr cv] 117)):=((Below.refl _ w3).alloc (Nat.le_refl _) _).alloc (by simp) _
  generalize (w3.alloc (.cells #[.bool s,.slice pu lq cu] 117)).alloc (.cells #[.bool nb,.slice pv lr cv] 117)=W3 at *
  have H3':=Ha (Hb (H3.out.1.next db) (Hb (H3.out.2.1.next db) (H3.out.2.2.trans (db.mono H3.out.2.2.size))))
  clear H3 db
  refine (T1.out _ H3'.out.1 H3'.out.2.2).mono ?_
  rintro e w4 ⟨rfl,hb4⟩
  have H4:=Ha (Hb (H3'.out.2.1.next hb4) (H3'.out.2.2.trans (hb4.mono H3'.out.2.2.size)))
  have d0':=(hb4.cell (p:=⟨w3.heap.size+1,0,none⟩) dz).trans d0
  have d1':=(hb4.cell (p:=⟨w3.heap.size+1,1,none⟩) dz).trans d1
  clear hb4 T1 H3' d0 d1 dz
  go_wp2_with fail
  refine (T2.out _ H4.out.1 H4.out.2).mono ?_
  rintro e w5 ⟨rfl,hb5⟩
  have H5:=Ha (H4.out.2.trans (hb5.mono H4.out.2.size))
  clear hb5 T2 H4
  go_wp2
  go_ret3
  exact ⟨rfl,H5.out⟩
 ·have t1:decide ((a.size:Int)≤18)=false:=by simp;omega
  go_enter Tryz.func52,Tryz.ntmps52
  go_wp2_with fail
  refine C.out.1.mono ?_
  rintro e w' ⟨rfl,rfl⟩
  go_wp2_with fail
  refine (C.out.2.1 _).mono ?_
  rintro e w' ⟨rfl,rfl⟩
  rw [t1]
  go_wp2_with fail
  refine (C.out.2.2.2.1 _).mono ?_
  rintro e w1 ⟨va,rfl,hva,_,hb1⟩
  have H1:=Ha (Hb hva hb1);clear hva hb1
  go_wp2_with fail
  refine (C.out.2.2.2.2 _).mono ?_
  rintro e w2 ⟨vb,rfl,hvb,_,hb2⟩
  have H2:=Ha (Hb (H1.out.1.next hb2) (Hb hvb (H1.out.2.trans (hb2.mono H1.out.2.size))));clear hvb hb2 H1
  go_wp2_with fail
  refine (RS.out _ H2.out.2.2 _ _ H2.out.1 H2.out.2.1).mono ?_
  rintro e w3 ⟨s,u,v,q,r,rfl,hu,hv,e1,e2,l1,l2,hb3⟩
  have hB3:=H2.out.2.2.trans (hb3.mono H2.out.2.2.size)
  have r1:(x.fdiv y).natAbs<lim:=by rw [←e1,iH];exact Nat.lt_of_le_of_lt l1 NL.out.1
  have r2:(x.fmod y).natAbs<lim:=by rw [←e2,iH];exact Nat.lt_of_le_of_lt l2 NL.out.2
  have f1:fH (x.fdiv y)=aa (x.fdiv y):=if_pos r1
  have f2:fH (x.fmod y)=aa (x.fmod y):=if_pos r2
  have f3:fI (x.fdiv y)=0:=if_pos r1
  have f4:fI (x.fmod y)=0:=if_pos r2
  have T1:=Ha (fun W h hB=>by have:=TX.out s q u W h (Nat.lt_of_le_of_lt l1 NL.out.1) hB;rwa [e1,f1,f3] at this)
  have T2:=Ha (fun W h hB=>by have:=TX.out nb r v W h (Nat.lt_of_le_of_lt l2 NL.out.2) hB;rwa [e2,f2,f4] at this)
  have H3:=Ha (Hb hu (Hb hv hB3))
  obtain ⟨pu,cu,rfl⟩:=hu.shape
  obtain ⟨pv,cv,rfl⟩:=hv.shape
  clear hu hv e1 e2 l1 l2 hb3 hB3 r1 r2 f1 f2 f3 f4 H2 TX RS
  generalize (dg q).length=lq at *
  generalize (dg r).length=lr at *
  go_wp2_with fail
  have d0:((w3.alloc (.cells #[.bool s,.slice pu lq cu] 117)).alloc (.cells #[.bool nb,.slice pv lr cv] 117)).cell? ⟨w3.heap.size+1,0,none⟩=some (.bool nb):=by go_cell
  have d1:((w3.alloc (.cells #[.bool s,.slice pu lq cu] 117)).alloc (.cells #[.bool nb,.slice pv lr cv] 117)).cell? ⟨w3.heap.size+1,1,none⟩=some (.slice pv lr cv):=by go_cell
  have dz:w3.heap.size+1<((w3.alloc (.cells #[.bool s,.slice pu lq cu] 117)).alloc (.cells #[.bool nb,.slice pv lr cv] 117)).heap.size:=by simp
  have db:Below w3.heap.size w3 ((w3.alloc (.cells #[.bool s,.slice pu lq cu] 117)).alloc (.cells #[.bool nb,.slice pv lr cv] 117)):=((Below.refl _ w3).alloc (Nat.le_refl _) _).alloc (by simp) _
  generalize (w3.alloc (.cells #[.bool s,.slice pu lq cu] 117)).alloc (.cells #[.bool nb,.slice pv lr cv] 117)=W3 at *
  have H3':=Ha (Hb (H3.out.1.next db) (Hb (H3.out.2.1.next db) (H3.out.2.2.trans (db.mono H3.out.2.2.size))))
  clear H3 db
  refine (T1.out _ H3'.out.1 H3'.out.2.2).mono ?_
  rintro e w4 ⟨rfl,hb4⟩
  have H4:=Ha (Hb (H3'.out.2.1.next hb4) (H3'.out.2.2.trans (hb4.mono H3'.out.2.2.size)))
  have d0':=(hb4.cell (p:=⟨w3.heap.size+1,0,none⟩) dz).trans d0
  have d1':=(hb4.cell (p:=⟨w3.heap.size+1,1,none⟩) dz).trans d1
  clear hb4 T1 H3' d0 d1 dz
  go_wp2_with fail
  refine (T2.out _ H4.out.1 H4.out.2).mono ?_
  rintro e w5 ⟨rfl,hb5⟩
  have H5:=Ha (H4.out.2.trans (hb5.mono H4.out.2.size))
  clear hb5 T2 H4
  go_wp2
  go_ret3
  exact ⟨rfl,H5.out⟩
theorem pm (a b:ByteArray) (w:World) (k1:chk a.data.toList=0) (k2:chk b.data.toList=0) (h0:valOf b.data.toList≠0) (ht:Tab w) :
  Calls Tryz.prog 52 #[.string a,.string b] w fun e W'=>e = .returned (.tuple #[.string (aa ((valOf a.data.toList).fdiv (valOf b.data.toList))),.string (aa ((valOf a.data.toList).fmod (valOf b.data.toList))),.int .i64 0])∧Below w.heap.size w W':=by
 by_cases hs:a.size≤18∧b.size≤18
 ·exact qQ a b w k1 k2 h0 hs.1 hs.2 ht
 ·exact i6 a b w k1 k2 h0 hs ht
theorem xF {l:List UInt8} (h:chk l=0) (hv:valOf l=0):l = [48]:=by
 have:=cY l h
 rw [hv] at this
 rw [←this];decide+kernel
theorem Divide_any (a b:ByteArray) (w:World) (ha:a.size≤maxLen) (hb:b.size≤maxLen) (ht:Tab w) :
  Calls Tryz.prog 52 #[.string a,.string b] w fun e W'=>e = .returned (.tuple #[.string (rk (bo a.data.toList b.data.toList) (valOf a.data.toList) (valOf b.data.toList)),.string (rl (bo a.data.toList b.data.toList) (valOf a.data.toList) (valOf b.data.toList)),.int .i64 (rm (bo a.data.toList b.data.toList) (valOf b.data.toList))])∧Below w.heap.size w W':=by
 by_cases hz:bo a.data.toList b.data.toList=0
 ·obtain ⟨k1,k2⟩:=d9 hz
  rw [hz]
  by_cases h0:valOf b.data.toList=0
  ·rw [h0,(gW _).1,(gW _).2.1,(gW 0).2.2]
   have e48:=xF k2 h0
   have hb48:(b.toList == [48])=true:=by rw [ByteArray.toList_eq,e48];rfl
   have cb:=bM a b w ha hb
   rw [hz] at cb
   have C:=Ha cb
   clear cb e48 h0 k1 k2 hz ht
   go_enter Tryz.func52,Tryz.ntmps52
   go_wp2_with fail
   refine C.out.mono ?_
   rintro e w' ⟨rfl,rfl⟩
   go_wp2
   go_ret3
   exact ⟨rfl,Below.refl _ _⟩
  ·rw [(kx h0).1,(kx h0).2.1,(kx (x:=0) h0).2.2]
   exact pm a b w k1 k2 h0 ht
 ·rw [(jG hz _ _).1,(jG hz _ _).2.1,(jG hz 0 _).2.2]
  have cb:=bM a b w ha hb
  generalize bo a.data.toList b.data.toList=e at *
  have C:=Ha cb
  have hn:(e != 0)=true:=by simpa using hz
  clear cb hz ht
  go_enter Tryz.func52,Tryz.ntmps52
  go_wp2_with fail
  refine C.out.mono ?_
  rintro e w' ⟨rfl,rfl⟩
  go_wp2
  go_ret3
  exact ⟨rfl,Below.refl _ _⟩
theorem rn:aa 0=⟨#[48]⟩:=qR 0 [48] (by decide+kernel)
theorem i7 (x y:Int) (w:World) (hx:x.natAbs<lim) (hy:y.natAbs<lim) (h0:y≠0) (ht:Tab w) :
  Calls Tryz.prog 52 #[.string (aa x),.string (aa y)] w fun e W'=>e = .returned (.tuple #[.string (aa (x.fdiv y)),.string (aa (x.fmod y)),.int .i64 0])∧Below w.heap.size w W':=by
 have c:=pm (aa x) (aa y) w (dh hx) (dh hy) (by rw [aW];exact h0) ht
 rwa [aW,aW] at c
theorem vQ {x y:Int} (h:y≠0):(0<y∧0≤x.fmod y∧x.fmod y<y)∨(y<0∧y<x.fmod y∧x.fmod y≤0):=by
 have h1:=lz x y h
 by_cases h0:x.tmod y=0∨((x.tmod y<0)↔(y<0))
 ·rw [(fY h h0).2];omega
 ·rw [not_or] at h0;rw [(fe h h0.1 h0.2).2];omega
theorem nJ {x y : Int} (h : y ≠ 0) : (x.fdiv y).natAbs ≤ x.natAbs ∧ (x.fmod y).natAbs ≤ y.natAbs := by
 constructor
 · have h1 : (x.tdiv y).natAbs ≤ x.natAbs := Int.natAbs_tdiv_le_natAbs x y
   by_cases h0 : x.tmod y = 0 ∨ ((x.tmod y < 0) ↔ (y < 0))
   · rw [(fY h h0).1]; exact h1
   · rw [not_or] at h0
     rw [(fe h h0.1 h0.2).1]
     have h2 : 2 ≤ y.natAbs := by
       rcases Nat.lt_or_ge y.natAbs 2 with h3 | h3
       · exfalso; have := lz x y h; apply h0.1; omega
       · exact h3
     have h3 : (x.tdiv y).natAbs = x.natAbs / y.natAbs := Int.natAbs_tdiv x y
     have hx : x.natAbs ≠ 0 := fun e => h0.1 (by have : x = 0 := by omega
                                                 rw [this]; exact Int.zero_tmod y)
     have h4 : x.natAbs / y.natAbs < x.natAbs := Nat.div_lt_self (by omega) h2
     omega
 · rcases vQ (x := x) h with h1 | h1 <;> omega
theorem Nats.drop {w:World} {b off cap k:Nat} {l:List Nat} (h:Nats w (.slice (some ⟨b,off,none⟩) l.length cap) l) (hk:k<l.length):Nats w (.slice (some ⟨b,off+k,none⟩) (l.length - k) (cap - k)) (l.drop k):=by
 obtain ⟨p,cap',he,h1,h2,h3⟩:=h
 simp only [Value.slice.injEq,true_and] at he
 obtain ⟨rfl,rfl⟩:=he
 obtain ⟨b',off',e,hc⟩:=h3 (by intro e;subst e;simp at hk)
 simp only [Option.some.injEq,Addr.mk.injEq,and_true] at e
 obtain ⟨rfl,rfl⟩:=e
 refine ⟨_,cap - k,by rw [List.length_drop],by rw [List.length_drop];omega,by omega,fun _=>⟨b,off+k,rfl,fun i hi => ?_⟩⟩
 rw [List.length_drop] at hi
 rw [Nat.add_assoc,hc (k+i) (by omega)]
 congr 3
 rw [List.getD_eq_getElem?_getD,List.getD_eq_getElem?_getD,List.getElem?_drop]
theorem IsNat.unique {w:World} {v:Value} {m n:Nat} (h:IsNat w v m) (h':IsNat w v n):m=n:=by
 obtain ⟨p,cap,rfl,a1,a2,a3⟩:=h
 obtain ⟨p',cap',he,b1,b2,b3⟩:=h'
 simp only [Value.slice.injEq] at he
 obtain ⟨rfl,hl,rfl⟩:=he
 have e:dg m=dg n:=by
  refine List.ext_getElem hl (fun i h1 h2 => ?_)
  obtain ⟨b,off,e1,c1⟩:=a3 (by intro e;rw [e] at h1;simp at h1)
  obtain ⟨b',off',e2,c2⟩:=b3 (by intro e;rw [e] at h2;simp at h2)
  rw [e1] at e2
  simp only [Option.some.injEq,Addr.mk.injEq,and_true] at e2
  obtain ⟨rfl,rfl⟩:=e2
  have:=(c1 i h1).symm.trans (c2 i h2)
  simp only [Option.some.injEq,Value.int.injEq,true_and] at this
  rw [getD_lt h1,getD_lt h2] at this
  exact Int.ofNat.inj this
 have:=congrArg toN e
 rwa [ar,ar] at this
open Classical in
noncomputable def bG (w:World) (v:Value):Nat:=if h:∃ n,IsNat w v n then Classical.choose h else 0
theorem aX {w:World} {v:Value} {n:Nat} (h:IsNat w v n):bG w v=n:=by
 unfold bG
 have hx:∃ n,IsNat w v n:=⟨n,h⟩
 rw [dif_pos hx]
 exact (Classical.choose_spec hx).unique h
theorem zV (a b:ByteArray) (w:World) (k1:chk a.data.toList=0) (k2:chk b.data.toList=0) (s1:(szB a).size≤18) (s2:(szB b).size≤18) (ht:Tab w) :
  Calls Tryz.prog 169 #[.string a,.string b] w fun e W'=>e = .returned (.tuple #[.string (aa (Nat.gcd (ad (szL a.data.toList)) (ad (szL b.data.toList)):Nat)),.int .i64 0])∧Below w.heap.size w W':=by
 have q1:=bQ k1
 have q2:=bQ k2
 have cb:=bM a b w (by unfold maxLen;omega) (by unfold maxLen;omega)
 have hc2:bo a.data.toList b.data.toList=0:=by unfold bo;rw [if_pos k1];exact k2
 rw [hc2] at cb
 have z1:=gh a
 have z2:=gh b
 have i1:=fun W=>a7 (szB a) W (by unfold maxLen;omega)
 have i2:=fun W=>a7 (szB b) W (by unfold maxLen;omega)
 have t1:decide (((szB a).size:Int)≤18)=true:=by simp;omega
 have t2:decide (((szB b).size:Int)≤18)=true:=by simp;omega
 rw [t1] at i1;rw [t2] at i2
 have m1:=fun W=>gV (szB a) W (by omega) (by rw [ck];exact cP k1)
 have m2:=fun W=>gV (szB b) W (by omega) (by rw [ck];exact cP k2)
 rw [ck] at m1 m2
 have v1:=jl _ (cP k1) (by have:=s1;rw [←ac,ck] at this;exact this)
 have v2:=jl _ (cP k2) (by have:=s2;rw [←ac,ck] at this;exact this)
 have y1:=fun W=>dC a W (by unfold maxLen;omega)
 have y2:=fun W=>dC b W (by unfold maxLen;omega)
 generalize ad (szL a.data.toList)=x at *
 generalize ad (szL b.data.toList)=y at *
 have dm:=fun W=>gu x y W (by omega) (by omega)
 have hg:Nat.gcd x y<1000000000000000000:=by
  by_cases h0:x=0
  ·subst h0;rw [Nat.gcd_zero_left];exact v2
  ·exact Nat.lt_of_le_of_lt (Nat.gcd_le_left _ (by omega)) v1
 generalize Nat.gcd x y=g at *
 have o1:=fun W (h:Below w.heap.size w W)=>dj (g:Nat) W (by omega) (by omega) (ht.next h)
 clear s1 s2
 generalize szB a=sa at *
 generalize szB b=sb at *
 have C:=Ha (Hb cb (Hb y1 (Hb y2 (Hb i1 (Hb i2 (Hb m1 (Hb m2 (Hb dm o1))))))))
 clear cb i1 i2 m1 m2 dm o1 y1 y2 v1 v2 t1 t2 hc2 ht k1 k2 z1 z2
 go_enter Tryz.func169,Tryz.ntmps169
 go_wp2_with fail
 refine C.out.1.mono ?_
 rintro e w' ⟨rfl,rfl⟩
 go_wp2_with fail
 refine (C.out.2.1 _).mono ?_
 rintro e w' ⟨rfl,rfl⟩
 go_wp2_with fail
 refine (C.out.2.2.1 _).mono ?_
 rintro e w' ⟨rfl,rfl⟩
 go_wp2_with fail
 refine (C.out.2.2.2.1 _).mono ?_
 rintro e w' ⟨rfl,rfl⟩
 go_wp2_with fail
 refine (C.out.2.2.2.2.1 _).mono ?_
 rintro e w' ⟨rfl,rfl⟩
 go_wp2_with fail
 refine (C.out.2.2.2.2.2.1 _).mono ?_
 rintro e w' ⟨rfl,rfl⟩
 go_wp2_with fail
 refine (C.out.2.2.2.2.2.2.1 _).mono ?_
 rintro e w' ⟨rfl,rfl⟩
 go_wp2_with fail
 refine (C.out.2.2.2.2.2.2.2.1 _).mono ?_
 rintro e w' ⟨rfl,nn,rfl⟩
 go_wp2_with fail
 refine (C.out.2.2.2.2.2.2.2.2 _ (Below.drewN' nn)).mono ?_
 rintro e w1 ⟨rfl,b1⟩
 have H1:=Ha ((Below.drewN' nn).trans (show Below w.heap.size (w.drewN nn) w1 from b1));clear b1 C
 go_wp2
 go_ret2
 exact ⟨rfl,H1.out⟩
theorem gi (l:List UInt8):(valOf l).natAbs=ad (szL l):=by rw [←eZ,iH]
theorem xG (x:Int):af (aa x).data.toList=decide (x<0):=by
 rw [aB];exact aN x
theorem rp {x:Int} (hx:x.natAbs<lim):ad (szL (aa x).data.toList)=x.natAbs:=by
 rw [←gi,aW]
end Go.Proofs.YtocalfjfjjljnaaGreatDoor
