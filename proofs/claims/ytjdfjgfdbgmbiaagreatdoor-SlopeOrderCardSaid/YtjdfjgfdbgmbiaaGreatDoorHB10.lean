/- Parts of the proof of the text YtjdfjgfdbgmbiaaGreatDoorHB39. -/
import Derived.Test.YtjdfjgfdbgmbiaaGreatDoorHB1
import Derived.Test.YtjdfjgfdbgmbiaaGreatDoorHB7
import Derived.Test.YtjdfjgfdbgmbiaaGreatDoorHB9
set_option linter.all false
set_option maxRecDepth 100000
set_option maxHeartbeats 8000000
namespace Go.Proofs.YtjdfjgfdbgmbiaaGreatDoor
open Go.RowKit
theorem sgn_zero (n:Bool):sgnZ n 0=0:=by unfold sgnZ;cases n <;> rfl
theorem floor_sgn (na nb:Bool) (a b:Nat) (h0:b≠0) :
  ((na=nb∨a % b=0)→(sgnZ na a).fdiv (sgnZ nb b)=sgnZ (na != nb) (a / b)∧(sgnZ na a).fmod (sgnZ nb b)=sgnZ nb (a % b)) ∧
  ((na≠nb∧a % b≠0)→(sgnZ na a).fdiv (sgnZ nb b)=sgnZ (na != nb) (a / b+1)∧(sgnZ na a).fmod (sgnZ nb b)=sgnZ nb (b - a % b)):=by
 have hm:=Nat.mod_lt a (show 0<b by omega)
 have he:=Nat.div_add_mod a b
 have he':((b:Int)*((a / b:Nat):Int))+((a % b:Nat):Int)=(a:Int):=by rw [←Int.natCast_mul,←Int.natCast_add,he]
 generalize a / b=q at *
 generalize a % b=r at *
 generalize hbq:(b:Int)*(q:Int)=P at *
 have hsub:((b - r:Nat):Int)=(b:Int) - r:=by omega
 constructor
 ·intro h
  cases na <;> cases nb <;> simp only [sgnZ,if_true,if_false,bne_self_eq_false,Bool.false_eq_true,Bool.true_bne,Bool.false_bne,Bool.not_false,Bool.not_true] <;>
   refine fdiv_unique ?_ (by omega) (fun h1 => ?_) (fun h1 => ?_) <;>
   (try simp only [Int.neg_mul,Int.mul_neg,hbq]) <;> (try simp only [reduceCtorEq,false_or] at h) <;> omega
 ·rintro ⟨h,hr⟩
  cases na <;> cases nb <;> simp only [ne_eq,not_true_eq_false] at h <;> simp only [sgnZ,if_true,if_false,bne_self_eq_false,Bool.false_eq_true,Bool.true_bne,Bool.false_bne,Bool.not_false,Bool.not_true] <;>
   refine fdiv_unique ?_ (by omega) (fun h1 => ?_) (fun h1 => ?_) <;>
   (try simp only [Int.neg_mul,Int.mul_neg,hbq,Int.natCast_add,Int.mul_add,hsub]) <;> omega
structure Box4 (w:World) (k:Nat) (x0 x1 y0 y1:Value) (W:World):Prop where
 c1:W.cell? ⟨k,0,none⟩=some x0
 c2:W.cell? ⟨k,1,none⟩=some x1
 c3:W.cell? ⟨k+1,0,none⟩=some y0
 c4:W.cell? ⟨k+1,1,none⟩=some y1
 c5:W.cell? ⟨k+1+1,0,none⟩=some (.bool false)
 c6:W.cell? ⟨k+1+1,1,none⟩=some (.slice none 0 0)
 c7:W.cell? ⟨k+1+1+1,0,none⟩=some (.bool false)
 c8:W.cell? ⟨k+1+1+1,1,none⟩=some (.slice none 0 0)
 f5:W.frozen? ⟨k+1+1,0,none⟩=false
 f6:W.frozen? ⟨k+1+1,1,none⟩=false
 f7:W.frozen? ⟨k+1+1+1,0,none⟩=false
 f8:W.frozen? ⟨k+1+1+1,1,none⟩=false
 size:k+4≤W.heap.size
 below:Below k w W
theorem box4_new (w:World) (x0 x1 y0 y1:Value) (t:TypeId) :
  Box4 w w.heap.size x0 x1 y0 y1 ((((w.alloc (.cells #[x0,x1] t)).alloc (.cells #[y0,y1] t)).alloc (.cells #[.bool false,.slice none 0 0] t)).alloc (.cells #[.bool false,.slice none 0 0] t)) :=
 ⟨by go_cell,by go_cell,by go_cell,by go_cell,by go_cell,by go_cell,by go_cell,by go_cell,by simp [go_sem],by simp [go_sem],by simp [go_sem],by simp [go_sem],by simp,
  ((((Below.refl _ w).alloc (Nat.le_refl _) _).alloc (by simp) _).alloc (by simp;omega) _).alloc (by simp;omega) _⟩
theorem Box4.next {w:World} {k:Nat} {x0 x1 y0 y1:Value} {W W':World} (h:Box4 w k x0 x1 y0 y1 W) (hb:Below W.heap.size W W'):Box4 w k x0 x1 y0 y1 W':=by
 have hs:=h.size
 exact ⟨(hb.cell (p:=⟨k,0,none⟩) (by show k<_;omega)).trans h.c1,(hb.cell (p:=⟨k,1,none⟩) (by show k<_;omega)).trans h.c2,
  (hb.cell (p:=⟨k+1,0,none⟩) (by show k+1<_;omega)).trans h.c3,(hb.cell (p:=⟨k+1,1,none⟩) (by show k+1<_;omega)).trans h.c4,
  (hb.cell (p:=⟨k+1+1,0,none⟩) (by show k+1+1<_;omega)).trans h.c5,(hb.cell (p:=⟨k+1+1,1,none⟩) (by show k+1+1<_;omega)).trans h.c6,
  (hb.cell (p:=⟨k+1+1+1,0,none⟩) (by show k+1+1+1<_;omega)).trans h.c7,(hb.cell (p:=⟨k+1+1+1,1,none⟩) (by show k+1+1+1<_;omega)).trans h.c8,
  (hb.frozen (p:=⟨k+1+1,0,none⟩) (by show k+1+1<_;omega)).trans h.f5,(hb.frozen (p:=⟨k+1+1,1,none⟩) (by show k+1+1<_;omega)).trans h.f6,
  (hb.frozen (p:=⟨k+1+1+1,0,none⟩) (by show k+1+1+1<_;omega)).trans h.f7,(hb.frozen (p:=⟨k+1+1+1,1,none⟩) (by show k+1+1+1<_;omega)).trans h.f8,
  Nat.le_trans h.size hb.size,h.below.trans (hb.mono (by omega))⟩
def put4 (w:World) (k:Nat) (A B C D:Value):World :=
 (((w.setCell ⟨k+1+1,0,none⟩ A).setCell ⟨k+1+1,1,none⟩ B).setCell ⟨k+1+1+1,0,none⟩ C).setCell ⟨k+1+1+1,1,none⟩ D
theorem put4_back {w:World} {k:Nat} {x0 x1 x2 x3:Value} (c5:w.cell? ⟨k+1+1,0,none⟩=some x0) (c6:w.cell? ⟨k+1+1,1,none⟩=some x1) (c7:w.cell? ⟨k+1+1+1,0,none⟩=some x2) (c8:w.cell? ⟨k+1+1+1,1,none⟩=some x3)
  (A B C D:Value):(put4 w k A B C D).cell? ⟨k+1+1,0,none⟩=some A∧(put4 w k A B C D).cell? ⟨k+1+1,1,none⟩=some B∧(put4 w k A B C D).cell? ⟨k+1+1+1,0,none⟩=some C∧(put4 w k A B C D).cell? ⟨k+1+1+1,1,none⟩=some D:=by
 unfold put4
 obtain ⟨b1,b2⟩:=two_back c5 c6 A B
 have b3:((w.setCell ⟨k+1+1,0,none⟩ A).setCell ⟨k+1+1,1,none⟩ B).cell? ⟨k+1+1,0,none⟩=some A:=by
  refine (?_:_=_).trans b1
  go_cell
 obtain ⟨d1,d2⟩:=two_back (far2 (x:=A) (y:=B) (j:=k+1+1) (by omega) c7) (far2 (x:=A) (y:=B) (j:=k+1+1) (by omega) c8) C D
 refine ⟨far2 (by omega) b3,far2 (by omega) b2,?_,d2⟩
 refine (?_:_=_).trans d1
 go_cell
theorem put4_nats {w:World} {k:Nat} {v:Value} {n:Nat} (h:IsNat w v n) (hf:dg n = []∨(v.ownBlock≠some (k+1+1)∧v.ownBlock≠some (k+1+1+1))) (A B C D:Value):IsNat (put4 w k A B C D) v n:=by
 have h1:dg n = []∨v.ownBlock≠some (k+1+1):=hf.imp_right And.left
 have h2:dg n = []∨v.ownBlock≠some (k+1+1+1):=hf.imp_right And.right
 exact (((h.setCell_ne h1 _).setCell_ne h1 _).setCell_ne h2 _).setCell_ne h2 _
theorem put4_below {w a:World} {k B0:Nat} (h:Below B0 a w) (hB:B0≤k) (A B C D:Value):Below B0 a (put4 w k A B C D) :=
 (((h.setCell (p:=⟨k+1+1,0,none⟩) (by show B0≤k+1+1;omega) _).setCell (p:=⟨k+1+1,1,none⟩) (by show B0≤k+1+1;omega) _).setCell (p:=⟨k+1+1+1,0,none⟩) (by show B0≤k+1+1+1;omega) _).setCell (p:=⟨k+1+1+1,1,none⟩) (by show B0≤k+1+1+1;omega) _
theorem over_same (nb:Bool) (va vb:Value) (a b:Nat) (w:World) (ha:IsNat w va a) (hb:IsNat w vb b) (h0:b≠0) (hla:(dg a).length≤900000) :
  Calls Tryz.prog 169 #[.agg #[.bool nb,va],.agg #[.bool nb,vb]] w fun e W'=>∃ x y,e = .returned (.tuple #[.agg #[.bool false,x],.agg #[.bool nb,y]])∧IsNat W' x (a / b)∧IsNat W' y (a % b)∧Below w.heap.size w W':=by
 have cd:=fun W (h:Below w.heap.size w W)=>divide_any va vb a b W (ha.next h) (hb.next h) h0 hla
 obtain ⟨pa,ca,rfl⟩:=ha.shape
 obtain ⟨pb,cb,rfl⟩:=hb.shape
 have CD:=Lib.hid cd
 clear cd
 have HH:=Lib.hid (And.intro ha (And.intro hb (And.intro h0 hla)))
 clear ha hb hla h0
 generalize (dg a).length=la at *
 generalize (dg b).length=lb at *
 go_enter Tryz.func169,Tryz.ntmps169
 go_wp2_with fail
 have hbx:=box4_new w (.bool nb) (.slice pa la ca) (.bool nb) (.slice pb lb cb) 194
 generalize ((((w.alloc (.cells #[.bool nb,.slice pa la ca] 194)).alloc (.cells #[.bool nb,.slice pb lb cb] 194)).alloc (.cells #[.bool false,.slice none 0 0] 194)).alloc (.cells #[.bool false,.slice none 0 0] 194))=W0 at *
 generalize hk:w.heap.size=k at *
 have HK:=Lib.hid hk;clear hk
 have HBX:=Lib.hid hbx
 clear hbx
 refine (CD.out W0 HBX.out.below).mono ?_
 rintro e w1 ⟨q,r,rfl,hq,hr,hqf,hrf,hB⟩
 have HB1:=Lib.hid (HBX.out.next hB)
 obtain ⟨pq,cq,rfl⟩:=hq.shape
 obtain ⟨pr,cr,rfl⟩:=hr.shape
 have HV:=Lib.hid (And.intro hq (And.intro hr (And.intro hqf (And.intro hrf hB))))
 clear hq hr hqf hrf hB CD
 obtain ⟨c1,c2,c3,c4,c5,c6,c7,c8,f5,f6,f7,f8,hsz,_⟩:=HB1.out
 have hg:(nb==nb)=true:=by simp
 generalize (dg (a / b)).length=lq at *
 generalize (dg (a % b)).length=lr at *
 go_wp2
 go_region_held3 (fun w'=>w'.cell? ⟨k,0,none⟩=some (.bool nb)∧w'.cell? ⟨k+1,0,none⟩=some (.bool nb)∧w'.frozen? ⟨k+1+1,0,none⟩=false∧w'.frozen? ⟨k+1+1,1,none⟩=false∧w'.frozen? ⟨k+1+1+1,0,none⟩=false∧w'.frozen? ⟨k+1+1+1,1,none⟩=false)
  (first | (go_keep;done) | ((try dsimp only);refine ⟨?_,?_,?_,?_,?_,?_⟩ <;> (first | (exact far2 (by omega) (by assumption)) | (go_keep;done) | (simp [go_sem, *];done))))
  (fail)
 have hback:=put4_back c5 c6 c7 c8 (.bool false) (.slice pq lq cq) (.bool nb) (.slice pr lr cr)
 have HP:=Lib.hid (And.intro (fun v n h hf => @put4_nats w1 k v n h hf (.bool false) (.slice pq lq cq) (.bool nb) (.slice pr lr cr)) (put4_below (k:=k) HB1.out.below (Nat.le_refl _) (.bool false) (.slice pq lq cq) (.bool nb) (.slice pr lr cr)))
 unfold put4 at hback HP
 generalize (((w1.setCell ⟨k+1+1,0,none⟩ (.bool false)).setCell ⟨k+1+1,1,none⟩ (.slice pq lq cq)).setCell ⟨k+1+1+1,0,none⟩ (.bool nb)).setCell ⟨k+1+1+1,1,none⟩ (.slice pr lr cr)=W4 at *
 obtain ⟨g5,g6,g7,g8⟩:=hback
 clear c1 c2 c3 c4 c5 c6 c7 c8 f5 f6 f7 f8
 go_wp2
 refine bodyPost_ret (v := .tuple #[.agg #[.bool false,.slice pq lq cq],.agg #[.bool nb,.slice pr lr cr]]) (by simp [results,Tryz.results169,go_sem,g5,g6,g7,g8]) rfl ?_
 obtain ⟨hq,hr,hqf,hrf,hB⟩:=HV.out
 obtain ⟨ha,hb,h0,hla⟩:=HH.out
 have hs:=HBX.out.size
 have fb:∀ v,Fresh W0.heap.size v→v.ownBlock≠some (k+1+1)∧v.ownBlock≠some (k+1+1+1):=fun v hv=>⟨fun e=>by have:=hv _ e;omega,fun e=>by have:=hv _ e;omega⟩
 refine ⟨_,_,rfl,HP.out.1 _ _ hq (.inr (fb _ hqf)),?_,by rw [HK.out];exact HP.out.2.drew⟩
 rcases hrf with hrf | ⟨hlt,e⟩
 ·exact HP.out.1 _ _ hr (.inr (fb _ hrf))
 ·rw [Nat.mod_eq_of_lt hlt,e]
  exact ha.next (by rw [HK.out];exact HP.out.2.drew)
theorem over_diff (na nb:Bool) (va vb:Value) (a b:Nat) (w:World) (ha:IsNat w va a) (hb:IsNat w vb b) (h0:b≠0) (hla:(dg a).length≤900000) (hlb:(dg b).length≤900000) (hn:(na==nb)=false) :
  Calls Tryz.prog 169 #[.agg #[.bool na,va],.agg #[.bool nb,vb]] w fun e W'=>∃ x y q r,e = .returned (.tuple #[.agg #[.bool true,x],.agg #[.bool nb,y]])∧IsNat W' x q∧IsNat W' y r∧((a % b=0∧q=a / b∧r=a % b)∨(a % b≠0∧q=a / b+1∧r=b - a % b))∧Below w.heap.size w W':=by
 have cd:=fun W (h:Below w.heap.size w W)=>divide_any va vb a b W (ha.next h) (hb.next h) h0 hla
 obtain ⟨pa,ca,rfl⟩:=ha.shape
 obtain ⟨pb,cb,rfl⟩:=hb.shape
 have CD:=Lib.hid cd
 clear cd
 have HH:=Lib.hid (And.intro ha (And.intro hb (And.intro h0 hla)))
 have HLL:=Lib.hid (And.intro hla hlb)
 clear ha hb hla hlb h0
 generalize hea:(dg a).length=la at *
 generalize heb:(dg b).length=lb at *
 have HEL:=Lib.hid (And.intro hea heb)
 clear hea heb
 go_enter Tryz.func169,Tryz.ntmps169
 go_wp2_with fail
 have hbx:=box4_new w (.bool na) (.slice pa la ca) (.bool nb) (.slice pb lb cb) 194
 generalize ((((w.alloc (.cells #[.bool na,.slice pa la ca] 194)).alloc (.cells #[.bool nb,.slice pb lb cb] 194)).alloc (.cells #[.bool false,.slice none 0 0] 194)).alloc (.cells #[.bool false,.slice none 0 0] 194))=W0 at *
 generalize hk:w.heap.size=k at *
 have HK:=Lib.hid hk;clear hk
 have HBX:=Lib.hid hbx
 clear hbx
 refine (CD.out W0 HBX.out.below).mono ?_
 rintro e w1 ⟨q,r,rfl,hq,hr,hqf,hrf,hB⟩
 have HB1:=Lib.hid (HBX.out.next hB)
 obtain ⟨pq,cq,rfl⟩:=hq.shape
 obtain ⟨pr,cr,rfl⟩:=hr.shape
 have HV:=Lib.hid (And.intro hq (And.intro hr (And.intro hqf (And.intro hrf hB))))
 clear hq hr hqf hrf hB CD
 obtain ⟨c1,c2,c3,c4,c5,c6,c7,c8,f5,f6,f7,f8,hsz,_⟩:=HB1.out
 by_cases hr0:a % b=0
 ·have HZ:=Lib.hid hr0
  have hlr:(dg (a % b)).length=0:=by rw [hr0,dg_zero];rfl
  generalize (dg (a / b)).length=lq at *
  generalize (dg (a % b)).length=lr at *
  subst hlr
  clear hr0
  go_wp2
  go_region_held3 (fun w'=>w'.cell? ⟨k,0,none⟩=some (.bool na)∧w'.cell? ⟨k+1,0,none⟩=some (.bool nb)∧w'.frozen? ⟨k+1+1,0,none⟩=false∧w'.frozen? ⟨k+1+1,1,none⟩=false∧w'.frozen? ⟨k+1+1+1,0,none⟩=false∧w'.frozen? ⟨k+1+1+1,1,none⟩=false)
   (first | (go_keep;done) | ((try dsimp only);refine ⟨?_,?_,?_,?_,?_,?_⟩ <;> (first | (exact far2 (by omega) (by assumption)) | (go_keep;done) | (simp [go_sem, *];done))))
   (fail)
  have hback:=put4_back c5 c6 c7 c8 (.bool true) (.slice pq lq cq) (.bool nb) (.slice pr 0 cr)
  have HP:=Lib.hid (And.intro (fun v n h hf => @put4_nats w1 k v n h hf (.bool true) (.slice pq lq cq) (.bool nb) (.slice pr 0 cr)) (put4_below (k:=k) HB1.out.below (Nat.le_refl _) (.bool true) (.slice pq lq cq) (.bool nb) (.slice pr 0 cr)))
  unfold put4 at hback HP
  generalize (((w1.setCell ⟨k+1+1,0,none⟩ (.bool true)).setCell ⟨k+1+1,1,none⟩ (.slice pq lq cq)).setCell ⟨k+1+1+1,0,none⟩ (.bool nb)).setCell ⟨k+1+1+1,1,none⟩ (.slice pr 0 cr)=W4 at *
  obtain ⟨g5,g6,g7,g8⟩:=hback
  clear c1 c2 c3 c4 c5 c6 c7 c8 f5 f6 f7 f8
  go_wp2
  refine bodyPost_ret (v := .tuple #[.agg #[.bool true,.slice pq lq cq],.agg #[.bool nb,.slice pr 0 cr]]) (by simp [results,Tryz.results169,go_sem,g5,g6,g7,g8]) rfl ?_
  obtain ⟨hq,hr,hqf,hrf,hB⟩:=HV.out
  obtain ⟨ha,hb,h0,hla⟩:=HH.out
  have hs:=HBX.out.size
  have hs1:=HB1.out.size
  have fb:∀ v,Fresh W0.heap.size v→v.ownBlock≠some (k+1+1)∧v.ownBlock≠some (k+1+1+1):=fun v hv=>⟨fun e=>by have:=hv _ e;omega,fun e=>by have:=hv _ e;omega⟩
  have HR:=HZ.out
  refine ⟨_,_,a / b,a % b,rfl,HP.out.1 _ _ hq (.inr (fb _ hqf)),HP.out.1 _ _ hr (.inl (by rw [HR,dg_zero])),.inl ⟨HR,rfl,rfl⟩,by rw [HK.out];exact HP.out.2.drew⟩
 ·have hlr:0<(dg (a % b)).length:=dg_len_pos hr0
  have c66:Calls Tryz.prog 206 #[.slice pq (dg (a / b)).length cq,.slice (some ⟨w1.heap.size,0,none⟩) 1 1] (w1.alloc (.cells #[.int .u64 1] 179)).drew fun e W'=>∃ v,e = .returned v∧IsNat W' v (a / b+1)∧Fresh w1.heap.size v∧Below w1.heap.size w1 W':=by
   obtain ⟨hq,hr,hqf,hrf,hB⟩:=HV.out
   obtain ⟨ha,hb,h0,_⟩:=HH.out
   obtain ⟨hla,hlb⟩:=HLL.out
   obtain ⟨hea,heb⟩:=HEL.out
   have hb1:Below w1.heap.size w1 (w1.alloc (.cells #[.int .u64 1] 179)).drew:=((Below.refl _ w1).alloc (Nat.le_refl _) _).drew
   have h1:IsNat (w1.alloc (.cells #[.int .u64 1] 179)).drew (.slice (some ⟨w1.heap.size,0,none⟩) 1 1) 1:=by
    show Nats _ _ (dg 1)
    rw [show dg 1 = [1] by decide+kernel]
    exact Nats.of_cells (l := [1]) (Nat.le_refl _) (by decide) (fun i hi=>by
     match i,hi with
     | 0,_=>go_cell)
   refine (sum_any _ _ (a / b) 1 _ (hq.next hb1) h1 ?_ (by rw [show dg 1 = [1] by decide+kernel];decide)).mono ?_
   ·have:=dg_len_le (Nat.div_le_self a b);omega
   ·rintro e W' ⟨v,rfl,hv,hf,hb⟩
    exact ⟨v,rfl,hv,hf.mono hb1.size,hb1.trans (hb.mono hb1.size)⟩
  have c67:∀ W,Below w1.heap.size w1 W→Calls Tryz.prog 207 #[.slice pb lb cb,.slice pr (dg (a % b)).length cr] W fun e W'=>∃ v,e = .returned v∧IsNat W' v (b - a % b)∧Fresh W.heap.size v∧Below W.heap.size W W':=fun W hW=>by
   obtain ⟨hq,hr,hqf,hrf,hB⟩:=HV.out
   obtain ⟨ha,hb,h0,_⟩:=HH.out
   obtain ⟨hla,hlb⟩:=HLL.out
   obtain ⟨hea,heb⟩:=HEL.out
   have hb:IsNat w (.slice pb (dg b).length cb) b:=by rw [heb];exact hb
   rw [←heb]
   exact difference_any _ _ b (a % b) W (hb.next ((by rw [HK.out];exact HB1.out.below.trans (hW.mono (by omega))))) (hr.next hW) (by omega) (Nat.le_of_lt (Nat.mod_lt _ (by omega)))
  have C66:=Lib.hid c66
  have C67:=Lib.hid c67
  clear c66 c67
  generalize (dg (a / b)).length=lq at *
  generalize (dg (a % b)).length=lr at *
  have hlr2:(0:Int)<(lr:Int):=by omega
  go_wp2
  go_region_held3 (fun w'=>w'.cell? ⟨k+1,1,none⟩=some (.slice pb lb cb)) ((go_keep;done))
   (first
    | (go_at_call 206;refine C66.out.mono ?_;rintro e w2 ⟨v2,rfl,hv2,hf2,hb2⟩;obtain ⟨p2,cq2,rfl⟩:=hv2.shape;have e4:w2.cell? ⟨k+1,1,none⟩=some (.slice pb lb cb):=(hb2.cell (p:=⟨k+1,1,none⟩) (by show k+1<_;omega)).trans c4;have HS2:=Lib.hid (And.intro hv2 (And.intro hf2 hb2));clear hv2 hf2 hb2)
    | (go_at_call 207;refine (C67.out _ HS2.out.2.2).mono ?_;rintro e w3 ⟨v3,rfl,hv3,hf3,hb3⟩;obtain ⟨p3,cr3,rfl⟩:=hv3.shape;have e5:w3.cell? ⟨k+1,1,none⟩=some (.slice pb lb cb):=(hb3.cell (p:=⟨k+1,1,none⟩) (by have:=HS2.out.2.2.size;show k+1<_;omega)).trans e4;have HS3:=Lib.hid (And.intro hv3 (And.intro hf3 hb3));clear hv3 hf3 hb3))
  have hbw:Below w1.heap.size w1 w3:=HS2.out.2.2.trans (HS3.out.2.2.mono HS2.out.2.2.size)
  have HB3:=Lib.hid (HB1.out.next hbw)
  clear c1 c2 c3 c4 c5 c6 c7 c8 f5 f6 f7 f8 e4 e5 hsz hbw
  obtain ⟨c1,c2,c3,c4,c5,c6,c7,c8,f5,f6,f7,f8,hsz,_⟩:=HB3.out
  generalize (dg (a / b+1)).length=l2 at *
  generalize (dg (b - a % b)).length=l3 at *
  go_wp2
  go_region_held3 (fun w'=>w'.cell? ⟨k,0,none⟩=some (.bool na)∧w'.cell? ⟨k+1,0,none⟩=some (.bool nb)∧w'.frozen? ⟨k+1+1,0,none⟩=false∧w'.frozen? ⟨k+1+1,1,none⟩=false∧w'.frozen? ⟨k+1+1+1,0,none⟩=false∧w'.frozen? ⟨k+1+1+1,1,none⟩=false)
   (first | (go_keep;done) | ((try dsimp only);refine ⟨?_,?_,?_,?_,?_,?_⟩ <;> (first | (exact far2 (by omega) (by assumption)) | (go_keep;done) | (simp [go_sem, *];done))))
   (fail)
  have hback:=put4_back c5 c6 c7 c8 (.bool true) (.slice p2 l2 cq2) (.bool nb) (.slice p3 l3 cr3)
  have HP:=Lib.hid (And.intro (fun v n h hf => @put4_nats w3 k v n h hf (.bool true) (.slice p2 l2 cq2) (.bool nb) (.slice p3 l3 cr3)) (put4_below (k:=k) HB3.out.below (Nat.le_refl _) (.bool true) (.slice p2 l2 cq2) (.bool nb) (.slice p3 l3 cr3)))
  unfold put4 at hback HP
  generalize (((w3.setCell ⟨k+1+1,0,none⟩ (.bool true)).setCell ⟨k+1+1,1,none⟩ (.slice p2 l2 cq2)).setCell ⟨k+1+1+1,0,none⟩ (.bool nb)).setCell ⟨k+1+1+1,1,none⟩ (.slice p3 l3 cr3)=W4 at *
  obtain ⟨g5,g6,g7,g8⟩:=hback
  clear c1 c2 c3 c4 c5 c6 c7 c8 f5 f6 f7 f8
  go_wp2
  refine bodyPost_ret (v := .tuple #[.agg #[.bool true,.slice p2 l2 cq2],.agg #[.bool nb,.slice p3 l3 cr3]]) (by simp [results,Tryz.results169,go_sem,g5,g6,g7,g8]) rfl ?_
  obtain ⟨hq,hr,hqf,hrf,hB⟩:=HV.out
  have hs:=HBX.out.size
  have hs1:=HB1.out.size
  have fb:∀ v,Fresh W0.heap.size v→v.ownBlock≠some (k+1+1)∧v.ownBlock≠some (k+1+1+1):=fun v hv=>⟨fun e=>by have:=hv _ e;omega,fun e=>by have:=hv _ e;omega⟩
  obtain ⟨hq2,hqf2,hb2⟩:=HS2.out
  obtain ⟨hr3,hrf3,hb3⟩:=HS3.out
  have f2:=hqf2.mono hB.size
  have f3:=hrf3.mono (Nat.le_trans hB.size hb2.size)
  refine ⟨_,_,a / b+1,b - a % b,rfl,HP.out.1 _ _ (hq2.next hb3) (.inr (fb _ f2)),HP.out.1 _ _ hr3 (.inr (fb _ f3)),.inr ⟨hr0,rfl,rfl⟩,by rw [HK.out];exact HP.out.2.drew⟩
theorem over_any (na nb:Bool) (va vb:Value) (a b:Nat) (w:World) (ha:IsNat w va a) (hb:IsNat w vb b) (h0:b≠0) (hla:(dg a).length≤900000) (hlb:(dg b).length≤900000) :
  Calls Tryz.prog 169 #[.agg #[.bool na,va],.agg #[.bool nb,vb]] w fun e W'=>∃ s x y q r,e = .returned (.tuple #[.agg #[.bool s,x],.agg #[.bool nb,y]])∧IsNat W' x q∧IsNat W' y r∧sgnZ s q=(sgnZ na a).fdiv (sgnZ nb b)∧sgnZ nb r=(sgnZ na a).fmod (sgnZ nb b)∧q≤a∧r≤b∧Below w.heap.size w W':=by
 have hf:=floor_sgn na nb a b h0
 have hm:=Nat.mod_lt a (show 0<b by omega)
 by_cases hn:na=nb
 ·subst hn
  refine (over_same na va vb a b w ha hb h0 hla).mono ?_
  rintro e W' ⟨x,y,rfl,hx,hy,hB⟩
  have h1:=hf.1 (.inl rfl)
  rw [bne_self_eq_false] at h1
  exact ⟨false,x,y,_,_,rfl,hx,hy,h1.1.symm,h1.2.symm,Nat.div_le_self a b,by omega,hB⟩
 ·have hn2:(na==nb)=false:=by simpa using hn
  have hn3:(na != nb)=true:=by simpa using hn
  rw [hn3] at hf
  refine (over_diff na nb va vb a b w ha hb h0 hla hlb hn2).mono ?_
  rintro e W' ⟨x,y,q,r,rfl,hx,hy,h,hB⟩
  rcases h with ⟨hz,rfl,rfl⟩ | ⟨hz,rfl,rfl⟩
  ·have h1:=hf.1 (.inr hz)
   exact ⟨true,x,y,_,_,rfl,hx,hy,h1.1.symm,h1.2.symm,Nat.div_le_self a b,by omega,hB⟩
  ·have h1:=hf.2 ⟨hn,hz⟩
   refine ⟨true,x,y,_,_,rfl,hx,hy,h1.1.symm,h1.2.symm,?_,by omega,hB⟩
   have hb2:2≤b:=by
    rcases Nat.lt_or_ge b 2 with h | h
    ·have:b=1:=by omega
     subst this;rw [Nat.mod_one] at hz;exact absurd rfl hz
    ·exact h
   have ha1:a≠0:=fun e=>by rw [e,Nat.zero_mod] at hz;exact hz rfl
   exact Nat.div_lt_self (by omega) hb2
theorem Divide_long (a b:ByteArray) (w:World) (k1:chk a.data.toList=0) (k2:chk b.data.toList=0) (h0:valOf b.data.toList≠0) (hs:¬ (a.size≤18∧b.size≤18)) (ht:Tab w) :
  Calls Tryz.prog 132 #[.string a,.string b] w fun e W'=>e = .returned (.tuple #[.string (strB ((valOf a.data.toList).fdiv (valOf b.data.toList))),.string (strB ((valOf a.data.toList).fmod (valOf b.data.toList))),.int .i64 0])∧Below w.heap.size w W':=by
 have s1:=chk_size k1
 have s2:=chk_size k2
 have cb:=checkBoth_any a b w (by unfold maxLen;omega) (by unfold maxLen;omega)
 have hc2:chk2 a.data.toList b.data.toList=0:=by unfold chk2;rw [if_pos k1];exact k2
 rw [hc2] at cb
 have hb48:(b.toList == [48])=false:=by
  rw [ByteArray.toList_eq,beq_eq_false_iff_ne]
  intro e;rw [e] at h0;exact h0 rfl
 have i1:=fun W=>isShort_any a W (by unfold maxLen;omega)
 have i2:=fun W=>isShort_any b W (by unfold maxLen;omega)
 have rr1:=fun W=>read_any a W (by omega) k1
 have rr2:=fun W=>read_any b W (by omega) k2
 have HV:=Lib.hid (And.intro (val_sgn a.data.toList) (val_sgn b.data.toList))
 have NL:=Lib.hid (And.intro (nat_lim k1) (nat_lim k2))
 have hb0:natOf (szL b.data.toList)≠0:=by
  intro e
  apply h0
  rw [←val_sgn,e,sgn_zero]
 have H0:=Lib.hid hb0
 have C:=Lib.hid (And.intro cb (And.intro i1 (And.intro i2 (And.intro rr1 rr2))))
 have HT:=Lib.hid ht
 clear cb i1 i2 rr1 rr2 hc2 h0 ht k1 k2 hb0
 generalize valOf a.data.toList=x at *
 generalize valOf b.data.toList=y at *
 generalize isNeg a.data.toList=na at *
 generalize isNeg b.data.toList=nb at *
 generalize natOf (szL a.data.toList)=ax at *
 generalize natOf (szL b.data.toList)=bx at *
 have rest:∀ W,Below w.heap.size w W→∀ va vb,IsNat W va ax→IsNat W vb bx→Calls Tryz.prog 169 #[.agg #[.bool na,va],.agg #[.bool nb,vb]] W fun e W'=>∃ s u v q r,e = .returned (.tuple #[.agg #[.bool s,u],.agg #[.bool nb,v]])∧IsNat W' u q∧IsNat W' v r∧sgnZ s q=x.fdiv y∧sgnZ nb r=x.fmod y∧q≤ax∧r≤bx∧Below W.heap.size W W':=fun W _ va vb h1 h2=>by
  have:=over_any na nb va vb ax bx W h1 h2 H0.out (Nat.le_trans (dg_lim NL.out.1) (by decide)) (Nat.le_trans (dg_lim NL.out.2) (by decide))
  rwa [HV.out.1,HV.out.2] at this
 have tx:=fun s q v W (h:IsNat W v q) (hl:q<lim) (hb:Below w.heap.size w W)=>text_any s v q W h (Nat.le_trans (dg_lim hl) (by decide)) (HT.out.next hb)
 have RS:=Lib.hid rest
 have TX:=Lib.hid tx
 clear rest tx
 by_cases g1:a.size≤18
 ·have t1:decide ((a.size:Int)≤18)=true:=by simp;omega
  have t2:decide ((b.size:Int)≤18)=false:=by simp;omega
  go_enter Tryz.func132,Tryz.ntmps132
  go_wp2_with fail
  refine C.out.1.mono ?_
  rintro e w' ⟨rfl,rfl⟩
  go_wp2_with fail
  refine (C.out.2.1 _).mono ?_
  rintro e w' ⟨rfl,rfl⟩
  rw [t1]
  go_wp2_with fail
  refine (C.out.2.2.1 _).mono ?_
  rintro e w' ⟨rfl,rfl⟩
  rw [t2]
  go_wp2_with fail
  refine (C.out.2.2.2.1 _).mono ?_
  rintro e w1 ⟨va,rfl,hva,_,hb1⟩
  have H1:=Lib.hid (And.intro hva hb1);clear hva hb1
  go_wp2_with fail
  refine (C.out.2.2.2.2 _).mono ?_
  rintro e w2 ⟨vb,rfl,hvb,_,hb2⟩
  have H2:=Lib.hid (And.intro (H1.out.1.next hb2) (And.intro hvb (H1.out.2.trans (hb2.mono H1.out.2.size))));clear hvb hb2 H1
  go_wp2_with fail
  refine (RS.out _ H2.out.2.2 _ _ H2.out.1 H2.out.2.1).mono ?_
  rintro e w3 ⟨s,u,v,q,r,rfl,hu,hv,e1,e2,l1,l2,hb3⟩
  have hB3:=H2.out.2.2.trans (hb3.mono H2.out.2.2.size)
  have r1:(x.fdiv y).natAbs<lim:=by rw [←e1,sgn_abs];exact Nat.lt_of_le_of_lt l1 NL.out.1
  have r2:(x.fmod y).natAbs<lim:=by rw [←e2,sgn_abs];exact Nat.lt_of_le_of_lt l2 NL.out.2
  have f1:resB (x.fdiv y)=strB (x.fdiv y):=if_pos r1
  have f2:resB (x.fmod y)=strB (x.fmod y):=if_pos r2
  have f3:resE (x.fdiv y)=0:=if_pos r1
  have f4:resE (x.fmod y)=0:=if_pos r2
  have T1:=Lib.hid (fun W h hB=>by have:=TX.out s q u W h (Nat.lt_of_le_of_lt l1 NL.out.1) hB;rwa [e1,f1,f3] at this)
  have T2:=Lib.hid (fun W h hB=>by have:=TX.out nb r v W h (Nat.lt_of_le_of_lt l2 NL.out.2) hB;rwa [e2,f2,f4] at this)
  have H3:=Lib.hid (And.intro hu (And.intro hv hB3))
  obtain ⟨pu,cu,rfl⟩:=hu.shape
  obtain ⟨pv,cv,rfl⟩:=hv.shape
  clear hu hv e1 e2 l1 l2 hb3 hB3 r1 r2 f1 f2 f3 f4 H2 TX RS
  generalize (dg q).length=lq at *
  generalize (dg r).length=lr at *
  go_wp2_with fail
  have d0:((w3.alloc (.cells #[.bool s,.slice pu lq cu] 194)).alloc (.cells #[.bool nb,.slice pv lr cv] 194)).cell? ⟨w3.heap.size+1,0,none⟩=some (.bool nb):=by go_cell
  have d1:((w3.alloc (.cells #[.bool s,.slice pu lq cu] 194)).alloc (.cells #[.bool nb,.slice pv lr cv] 194)).cell? ⟨w3.heap.size+1,1,none⟩=some (.slice pv lr cv):=by go_cell
  have dz:w3.heap.size+1<((w3.alloc (.cells #[.bool s,.slice pu lq cu] 194)).alloc (.cells #[.bool nb,.slice pv lr cv] 194)).heap.size:=by simp
  have db:Below w3.heap.size w3 ((w3.alloc (.cells #[.bool s,.slice pu lq cu] 194)).alloc (.cells #[.bool nb,.slice pv lr cv] 194)):=((Below.refl _ w3).alloc (Nat.le_refl _) _).alloc (by simp) _
  generalize (w3.alloc (.cells #[.bool s,.slice pu lq cu] 194)).alloc (.cells #[.bool nb,.slice pv lr cv] 194)=W3 at *
  have H3':=Lib.hid (And.intro (H3.out.1.next db) (And.intro (H3.out.2.1.next db) (H3.out.2.2.trans (db.mono H3.out.2.2.size))))
  clear H3 db
  refine (T1.out _ H3'.out.1 H3'.out.2.2).mono ?_
  rintro e w4 ⟨rfl,hb4⟩
  have H4:=Lib.hid (And.intro (H3'.out.2.1.next hb4) (H3'.out.2.2.trans (hb4.mono H3'.out.2.2.size)))
  have d0':=(hb4.cell (p:=⟨w3.heap.size+1,0,none⟩) dz).trans d0
  have d1':=(hb4.cell (p:=⟨w3.heap.size+1,1,none⟩) dz).trans d1
  clear hb4 T1 H3' d0 d1 dz
  go_wp2_with fail
  refine (T2.out _ H4.out.1 H4.out.2).mono ?_
  rintro e w5 ⟨rfl,hb5⟩
  have H5:=Lib.hid (H4.out.2.trans (hb5.mono H4.out.2.size))
  clear hb5 T2 H4
  go_wp2
  go_ret3
  exact ⟨rfl,H5.out⟩
 ·have t1:decide ((a.size:Int)≤18)=false:=by simp;omega
  go_enter Tryz.func132,Tryz.ntmps132
  go_wp2_with fail
  refine C.out.1.mono ?_
  rintro e w' ⟨rfl,rfl⟩
  go_wp2_with fail
  refine (C.out.2.1 _).mono ?_
  rintro e w' ⟨rfl,rfl⟩
  rw [t1]
  go_wp2_with fail
  refine (C.out.2.2.2.1 _).mono ?_
  rintro e w1 ⟨va,rfl,hva,_,hb1⟩
  have H1:=Lib.hid (And.intro hva hb1);clear hva hb1
  go_wp2_with fail
  refine (C.out.2.2.2.2 _).mono ?_
  rintro e w2 ⟨vb,rfl,hvb,_,hb2⟩
  have H2:=Lib.hid (And.intro (H1.out.1.next hb2) (And.intro hvb (H1.out.2.trans (hb2.mono H1.out.2.size))));clear hvb hb2 H1
  go_wp2_with fail
  refine (RS.out _ H2.out.2.2 _ _ H2.out.1 H2.out.2.1).mono ?_
  rintro e w3 ⟨s,u,v,q,r,rfl,hu,hv,e1,e2,l1,l2,hb3⟩
  have hB3:=H2.out.2.2.trans (hb3.mono H2.out.2.2.size)
  have r1:(x.fdiv y).natAbs<lim:=by rw [←e1,sgn_abs];exact Nat.lt_of_le_of_lt l1 NL.out.1
  have r2:(x.fmod y).natAbs<lim:=by rw [←e2,sgn_abs];exact Nat.lt_of_le_of_lt l2 NL.out.2
  have f1:resB (x.fdiv y)=strB (x.fdiv y):=if_pos r1
  have f2:resB (x.fmod y)=strB (x.fmod y):=if_pos r2
  have f3:resE (x.fdiv y)=0:=if_pos r1
  have f4:resE (x.fmod y)=0:=if_pos r2
  have T1:=Lib.hid (fun W h hB=>by have:=TX.out s q u W h (Nat.lt_of_le_of_lt l1 NL.out.1) hB;rwa [e1,f1,f3] at this)
  have T2:=Lib.hid (fun W h hB=>by have:=TX.out nb r v W h (Nat.lt_of_le_of_lt l2 NL.out.2) hB;rwa [e2,f2,f4] at this)
  have H3:=Lib.hid (And.intro hu (And.intro hv hB3))
  obtain ⟨pu,cu,rfl⟩:=hu.shape
  obtain ⟨pv,cv,rfl⟩:=hv.shape
  clear hu hv e1 e2 l1 l2 hb3 hB3 r1 r2 f1 f2 f3 f4 H2 TX RS
  generalize (dg q).length=lq at *
  generalize (dg r).length=lr at *
  go_wp2_with fail
  have d0:((w3.alloc (.cells #[.bool s,.slice pu lq cu] 194)).alloc (.cells #[.bool nb,.slice pv lr cv] 194)).cell? ⟨w3.heap.size+1,0,none⟩=some (.bool nb):=by go_cell
  have d1:((w3.alloc (.cells #[.bool s,.slice pu lq cu] 194)).alloc (.cells #[.bool nb,.slice pv lr cv] 194)).cell? ⟨w3.heap.size+1,1,none⟩=some (.slice pv lr cv):=by go_cell
  have dz:w3.heap.size+1<((w3.alloc (.cells #[.bool s,.slice pu lq cu] 194)).alloc (.cells #[.bool nb,.slice pv lr cv] 194)).heap.size:=by simp
  have db:Below w3.heap.size w3 ((w3.alloc (.cells #[.bool s,.slice pu lq cu] 194)).alloc (.cells #[.bool nb,.slice pv lr cv] 194)):=((Below.refl _ w3).alloc (Nat.le_refl _) _).alloc (by simp) _
  generalize (w3.alloc (.cells #[.bool s,.slice pu lq cu] 194)).alloc (.cells #[.bool nb,.slice pv lr cv] 194)=W3 at *
  have H3':=Lib.hid (And.intro (H3.out.1.next db) (And.intro (H3.out.2.1.next db) (H3.out.2.2.trans (db.mono H3.out.2.2.size))))
  clear H3 db
  refine (T1.out _ H3'.out.1 H3'.out.2.2).mono ?_
  rintro e w4 ⟨rfl,hb4⟩
  have H4:=Lib.hid (And.intro (H3'.out.2.1.next hb4) (H3'.out.2.2.trans (hb4.mono H3'.out.2.2.size)))
  have d0':=(hb4.cell (p:=⟨w3.heap.size+1,0,none⟩) dz).trans d0
  have d1':=(hb4.cell (p:=⟨w3.heap.size+1,1,none⟩) dz).trans d1
  clear hb4 T1 H3' d0 d1 dz
  go_wp2_with fail
  refine (T2.out _ H4.out.1 H4.out.2).mono ?_
  rintro e w5 ⟨rfl,hb5⟩
  have H5:=Lib.hid (H4.out.2.trans (hb5.mono H4.out.2.size))
  clear hb5 T2 H4
  go_wp2
  go_ret3
  exact ⟨rfl,H5.out⟩
theorem Divide_ok (a b:ByteArray) (w:World) (k1:chk a.data.toList=0) (k2:chk b.data.toList=0) (h0:valOf b.data.toList≠0) (ht:Tab w) :
  Calls Tryz.prog 132 #[.string a,.string b] w fun e W'=>e = .returned (.tuple #[.string (strB ((valOf a.data.toList).fdiv (valOf b.data.toList))),.string (strB ((valOf a.data.toList).fmod (valOf b.data.toList))),.int .i64 0])∧Below w.heap.size w W':=by
 by_cases hs:a.size≤18∧b.size≤18
 ·exact Divide_small a b w k1 k2 h0 hs.1 hs.2 ht
 ·exact Divide_long a b w k1 k2 h0 hs ht
theorem str_zero:strB 0=⟨#[48]⟩:=str_of 0 [48] (by decide+kernel)
theorem strB_not48 {y:Int} (h:y≠0):((strB y).toList == [48])=false:=by
 rw [ByteArray.toList_eq,strB_data,beq_eq_false_iff_ne]
 intro e
 exact h (itoa_inj (e.trans (show [48]=Lib.itoa 0 by decide+kernel)))
theorem Divide_strs (x y:Int) (w:World) (hx:x.natAbs<lim) (hy:y.natAbs<lim) (h0:y≠0) (ht:Tab w) :
  Calls Tryz.prog 132 #[.string (strB x),.string (strB y)] w fun e W'=>e = .returned (.tuple #[.string (strB (x.fdiv y)),.string (strB (x.fmod y)),.int .i64 0])∧Below w.heap.size w W':=by
 have c:=Divide_ok (strB x) (strB y) w (strB_chk hx) (strB_chk hy) (by rw [strB_val];exact h0) ht
 rwa [strB_val,strB_val] at c
theorem fmod_sign {x y:Int} (h:y≠0):(0<y∧0≤x.fmod y∧x.fmod y<y)∨(y<0∧y<x.fmod y∧x.fmod y≤0):=by
 have h1:=tmod_lt x y h
 by_cases h0:x.tmod y=0∨((x.tmod y<0)↔(y<0))
 ·rw [(fdiv_same h h0).2];omega
 ·rw [not_or] at h0;rw [(fdiv_other h h0.1 h0.2).2];omega
theorem fdiv_abs {x y : Int} (h : y ≠ 0) : (x.fdiv y).natAbs ≤ x.natAbs ∧ (x.fmod y).natAbs ≤ y.natAbs := by
 constructor
 · have h1 : (x.tdiv y).natAbs ≤ x.natAbs := Int.natAbs_tdiv_le_natAbs x y
   by_cases h0 : x.tmod y = 0 ∨ ((x.tmod y < 0) ↔ (y < 0))
   · rw [(fdiv_same h h0).1]; exact h1
   · rw [not_or] at h0
     rw [(fdiv_other h h0.1 h0.2).1]
     have h2 : 2 ≤ y.natAbs := by
       rcases Nat.lt_or_ge y.natAbs 2 with h3 | h3
       · exfalso; have := tmod_lt x y h; apply h0.1; omega
       · exact h3
     have h3 : (x.tdiv y).natAbs = x.natAbs / y.natAbs := Int.natAbs_tdiv x y
     have hx : x.natAbs ≠ 0 := fun e => h0.1 (by have : x = 0 := by omega
                                                 rw [this]; exact Int.zero_tmod y)
     have h4 : x.natAbs / y.natAbs < x.natAbs := Nat.div_lt_self (by omega) h2
     omega
 · rcases fmod_sign (x := x) h with h1 | h1 <;> omega
theorem dg_drop1 (n:Nat):(dg n).drop 1=dg (n / B):=by
 by_cases h:n=0
 ·subst h;rw [dg_zero,Nat.zero_div,dg_zero];rfl
 ·rw [dg_pos h];rfl
theorem dg_drop (n k:Nat):(dg n).drop k=dg (n / B ^ k):=by
 induction k with
 | zero=>rw [Nat.pow_zero,Nat.div_one];rfl
 | succ k ih =>
  rw [←List.drop_drop,ih,dg_drop1,Nat.div_div_eq_div_mul,Nat.pow_succ]
theorem Nats.drop {w:World} {b off cap k:Nat} {l:List Nat} (h:Nats w (.slice (some ⟨b,off,none⟩) l.length cap) l) (hk:k<l.length):Nats w (.slice (some ⟨b,off+k,none⟩) (l.length - k) (cap - k)) (l.drop k):=by
 obtain ⟨p,cap',he,h1,h2,h3⟩:=h
 simp only [Value.slice.injEq,true_and] at he
 obtain ⟨rfl,rfl⟩:=he
 obtain ⟨b',off',e,hc⟩:=h3 (by intro e;subst e;simp at hk)
 simp only [Option.some.injEq,Addr.mk.injEq,and_true] at e
 obtain ⟨rfl,rfl⟩:=e
 refine ⟨_,cap - k,by rw [List.length_drop],by rw [List.length_drop];omega,by omega,fun _=>⟨b,off+k,rfl,fun i hi => ?_⟩⟩
 rw [List.length_drop] at hi
 rw [Nat.add_assoc,hc (k+i) (by omega)]
 congr 3
 rw [List.getD_eq_getElem?_getD,List.getD_eq_getElem?_getD,List.getElem?_drop]
theorem IsNat.unique {w:World} {v:Value} {m n:Nat} (h:IsNat w v m) (h':IsNat w v n):m=n:=by
 obtain ⟨p,cap,rfl,a1,a2,a3⟩:=h
 obtain ⟨p',cap',he,b1,b2,b3⟩:=h'
 simp only [Value.slice.injEq] at he
 obtain ⟨rfl,hl,rfl⟩:=he
 have e:dg m=dg n:=by
  refine List.ext_getElem hl (fun i h1 h2 => ?_)
  obtain ⟨b,off,e1,c1⟩:=a3 (by intro e;rw [e] at h1;simp at h1)
  obtain ⟨b',off',e2,c2⟩:=b3 (by intro e;rw [e] at h2;simp at h2)
  rw [e1] at e2
  simp only [Option.some.injEq,Addr.mk.injEq,and_true] at e2
  obtain ⟨rfl,rfl⟩:=e2
  have:=(c1 i h1).symm.trans (c2 i h2)
  simp only [Option.some.injEq,Value.int.injEq,true_and] at this
  rw [getD_lt h1,getD_lt h2] at this
  exact Int.ofNat.inj this
 have:=congrArg toN e
 rwa [toN_dg,toN_dg] at this
open Classical in
noncomputable def natVal (w:World) (v:Value):Nat:=if h:∃ n,IsNat w v n then Classical.choose h else 0
theorem natVal_eq {w:World} {v:Value} {n:Nat} (h:IsNat w v n):natVal w v=n:=by
 unfold natVal
 have hx:∃ n,IsNat w v n:=⟨n,h⟩
 rw [dif_pos hx]
 exact (Classical.choose_spec hx).unique h
theorem root_start {a p r:Nat} (hr:IsRoot (a / B ^ (2*p)) r):rootN a≤(r+1)*B ^ p:=by
 refine Nat.le_of_lt (rootN_le _ _ ?_)
 have hD:0<B ^ (2*p):=Nat.pow_pos B_pos
 have h1:a<(a / B ^ (2*p)+1)*B ^ (2*p):=by
  have:=Nat.lt_mul_div_succ a hD
  rwa [Nat.mul_comm] at this
 have h2:(a / B ^ (2*p)+1)*B ^ (2*p)≤(r+1)*(r+1)*B ^ (2*p):=Nat.mul_le_mul_right _ hr.2
 have h3:(r+1)*B ^ p*((r+1)*B ^ p)=(r+1)*(r+1)*B ^ (2*p):=by
  rw [Nat.two_mul,Nat.pow_add,Nat.mul_assoc,Nat.mul_left_comm (B ^ p),←Nat.mul_assoc (r+1)]
 omega
theorem wpList_make_part {P:Program} (w:World) {ops:Array Oper} {rest:List Oper} {o:Oper} {a:Act} {Q:Exit→Act→World→Prop}
  (hg:o.guard=none) (l c:Operand) (t:TypeId) (hop:o.op=Op.makeSlice t l c)
  (base:Nat) (e:TypeId) (i:TypeInfo) (h1:P.underlying t=some (.slice e)) (h2:P.info? e=some i) (h3:i.zero=some (.int .u64 0)) (h4:i.size=1) (h5:i.bytes=8)
  (kl kc:IntKind) (L C:Int) (m n:Nat) (hl:a.eval l = .int kl L) (hc:a.eval c = .int kc C) (hL:L=(m:Int)) (hC:C=(n:Int)) (hmn:m≤n) (b3:n≤1000000) (b4:base≤w.heap.size)
  (hK:∀ w',w'.ownsRow base e 1 (.slice (some ⟨w.heap.size,0,none⟩) m n) m (cells64 (List.replicate m 0))→w.grownBy w' none→wpList P ops Q rest (a.put o.dst (.slice (some ⟨w.heap.size,0,none⟩) m n)) w') :
  wpList P ops Q (o::rest) a w:=by
 refine wpList_plain hg fun K hK' => ?_
 have hr:=run_make (P:=P) w t e i _ h1 h2 h3 kl kc (m:Int) (n:Int) (by omega) (by omega) (by rw [h5];omega) (by omega)
 simp only [Int.toNat_natCast,h4,Nat.mul_one] at hr
 subst hL
 subst hC
 have hz:(Value.int .u64 0).cells = #[.int .u64 0]:=by simp [Value.cells]
 unfold Oper.wp
 simp [execOp,hop,hl,hc,hr,Result.andThen]
 refine hK' _ _ (hK _ ⟨by simp [cells64],.inr ⟨w.heap.size,n,madeCells (Value.int .u64 0).cells n,rfl,b4,heap_alloc_new w _,hmn,by unfold maxLen;omega,?_,?_⟩⟩ (World.grownBy_alloc w _ none))
 ·rw [Nat.mul_one];exact size_madeCells _ _
 ·rw [Nat.mul_one,hz,toList_madeCells_one]
  simp [cells64,Nat.min_eq_left hmn]
theorem shifted_any (v:Value) (n p:Nat) (w:World) (h:IsNat w v n) (h0:n≠0) (hl:(dg n).length≤400000) (hp:p≤400000) :
  Calls Tryz.prog 214 #[v,.int .i64 p] w fun e W'=>∃ u,e = .returned u∧IsNat W' u (n*B ^ p)∧Fresh w.heap.size u∧Below w.heap.size w W':=by
 obtain ⟨i0,hi,hz0,hz1,hz2⟩:=info_parts info_u64
 have HI:=Lib.hid (And.intro hi (And.intro hz0 (And.intro hz1 hz2)));clear hi hz0 hz1 hz2
 obtain ⟨pa,ca,rfl,a1,a2,a3⟩:=h
 have hpos:=dg_len_pos h0
 obtain ⟨b,off,rfl,hc⟩:=a3 (List.length_pos_iff.1 hpos)
 have HC:=Lib.hid hc
 clear a3 hc
 have ev:toN (List.replicate p 0++dg n)=n*B ^ p:=by rw [toN_append,toN_replicate,List.length_replicate,toN_dg,Nat.zero_add,Nat.mul_comm]
 have hdd:Dig (List.replicate p 0++dg n):=(Dig.replicate p).append (dg_Dig n)
 have HE:=Lib.hid (And.intro ev hdd)
 have HL:=Lib.hid (And.intro hl hp)
 clear ev hdd
 go_enter Tryz.func214,Tryz.ntmps214
 have hsrc:∀ W,Below w.heap.size w W→∀ j u,(cells64 (dg n))[j]? = some u→W.cell? ((⟨b,off,none⟩:Addr).add j)=some u:=by
  intro W hW j u hu
  have hadd:(⟨b,off,none⟩:Addr).add j=⟨b,off+j,none⟩:=by unfold Addr.add;split <;> simp_all
  have hj:j<(dg n).length:=by
   have:=(List.getElem?_eq_some_iff.1 hu).1
   simpa [cells64] using this
  have hcj:=HC.out j hj
  rw [hadd,(hW.cell (p:=⟨b,off+j,none⟩) (World.block_lt_of_cell? w _ hcj)),hcj,←hu]
  simp [cells64,hj]
 have HS:=Lib.hid hsrc
 clear hsrc
 go_wp2_with (first
  | (at_make;refine wpList_make_part _ rfl _ _ 190 rfl w.heap.size 179 i0 Tryz.underlying190 HI.out.1 HI.out.2.1 HI.out.2.2.1 HI.out.2.2.2 .i64 .i64 _ _ p (p+(dg n).length) rfl rfl (by omega) (by omega) (by omega) (by omega) (Nat.le_refl _) ?_;intro w1 hown hgrow;have HO:=Lib.hid hown;have HB:=Lib.hid ((Below.refl _ w).grown hgrow (Nat.le_refl _) (fun k e=>by cases e));clear hown hgrow)
  | (at_builtin;refine wpList_append_own _ rfl _ _ 190 rfl w.heap.size 179 i0 (.int .u64 0) 1 8 Tryz.underlying190 HI.out.1 HI.out.2.1 HI.out.2.2.1 HI.out.2.2.2 rfl (by decide) _ _ _ rfl HO.out ⟨b,off,none⟩ (dg n).length ca (cells64 (dg n)) rfl (by simp [cells64]) (HS.out w1 HB.out) (by simp [cells64,Value.oneCell']) (by unfold maxLen;omega) (by omega) (by have:=HB.out.size;omega) ?_;intro v' w2 hown' hgrow' _;have HO2:=Lib.hid hown';have HB2:=Lib.hid (HB.out.grown hgrow' HB.out.size (fun k hk=>(HO.out.lt k hk).1));clear hown' hgrow'))
 have h2:=HO2.out
 rw [show cells64 (List.replicate p 0)++cells64 (dg n)=cells64 (List.replicate p 0++dg n) by simp [cells64]] at h2
 obtain ⟨g,cap,rfl,hg,hc1,hc2,hr⟩:=rowC_of_owns h2 (fun e=>by rw [List.append_eq_nil_iff] at e;rw [e.2] at hpos;simp at hpos)
 have hN:=hr.nats hc1 (by unfold maxLen at hc2;omega)
 have ct:=trimmed_any _ _ w2 hN HE.out.2
 rw [HE.out.1] at ct
 have CT:=Lib.hid ct
 clear ct h2 hr hN
 refine CT.out.mono ?_
 rintro e w' ⟨rfl,u,rfl,hu,hob⟩
 have HU:=Lib.hid (And.intro hu hob)
 clear hu hob CT
 go_wp2
 go_ret
 exact ⟨u,rfl,HU.out.1,fun k hk=>by rw [HU.out.2] at hk;cases hk;exact hg,HB2.out⟩
end Go.Proofs.YtjdfjgfdbgmbiaaGreatDoor
