/- Parts of the proof of the text YtbhbhlfkdlfimaaGreatDoorQX29. -/
import Derived.Test.YtbhbhlfkdlfimaaGreatDoorQX1
import Derived.Test.YtbhbhlfkdlfimaaGreatDoorQX2
import Derived.Test.YtbhbhlfkdlfimaaGreatDoorQX5
import Derived.Test.YtbhbhlfkdlfimaaGreatDoorQX6
set_option linter.all false
set_option maxRecDepth 100000
set_option maxHeartbeats 8000000
namespace Go.Proofs.YtbhbhlfkdlfimaaGreatDoor
section
open Go.RowKit
theorem Ah (na nb:Bool) (va vb:Value) (a b:Nat) (w:World) (ha:IsNat w va a) (hb:IsNat w vb b) (h0:b≠0) (hla:(dg a).length≤900000) (hlb:(dg b).length≤900000) (hn:(na==nb)=false) :
  Calls Tryz.prog 264 #[.agg #[.bool na,va],.agg #[.bool nb,vb]] w fun e W'=>∃ x y q r,e = .returned (.tuple #[.agg #[.bool true,x],.agg #[.bool nb,y]])∧IsNat W' x q∧IsNat W' y r∧((a % b=0∧q=a / b∧r=a % b)∨(a % b≠0∧q=a / b+1∧r=b - a % b))∧Below w.heap.size w W':=by
 have cd:=fun W (h:Below w.heap.size w W)=>eh va vb a b W (ha.next h) (hb.next h) h0 hla
 obtain ⟨pa,ca,rfl⟩:=ha.shape
 obtain ⟨pb,cb,rfl⟩:=hb.shape
 have CD:=Ha cd
 clear cd
 have HH:=Ha (Hb ha (Hb hb (Hb h0 hla)))
 have HLL:=Ha (Hb hla hlb)
 clear ha hb hla hlb h0
 generalize hea:(dg a).length=la at *
 generalize heb:(dg b).length=lb at *
 have HEL:=Ha (Hb hea heb)
 clear hea heb
 go_enter Tryz.func264,Tryz.ntmps264
 go_wp2_with fail
 have hbx:=vg w (.bool na) (.slice pa la ca) (.bool nb) (.slice pb lb cb) 90
 generalize ((((w.alloc (.cells #[.bool na,.slice pa la ca] 90)).alloc (.cells #[.bool nb,.slice pb lb cb] 90)).alloc (.cells #[.bool false,.slice none 0 0] 90)).alloc (.cells #[.bool false,.slice none 0 0] 90))=W0 at *
 generalize hk:w.heap.size=k at *
 have HK:=Ha hk;clear hk
 have HBX:=Ha hbx
 clear hbx
 refine (CD.out W0 HBX.out.below).mono ?_
 rintro e w1 ⟨q,r,rfl,hq,hr,hqf,hrf,hB⟩
 have HB1:=Ha (HBX.out.next hB)
 obtain ⟨pq,cq,rfl⟩:=hq.shape
 obtain ⟨pr,cr,rfl⟩:=hr.shape
 have HV:=Ha (Hb hq (Hb hr (Hb hqf (Hb hrf hB))))
 clear hq hr hqf hrf hB CD
 obtain ⟨c1,c2,c3,c4,c5,c6,c7,c8,f5,f6,f7,f8,hsz,_⟩:=HB1.out
 by_cases hr0:a % b=0
 ·have HZ:=Ha hr0
  have hlr:(dg (a % b)).length=0:=by rw [hr0,aD];rfl
  generalize (dg (a / b)).length=lq at *
  generalize (dg (a % b)).length=lr at *
  subst hlr
  clear hr0
  go_wp2
  go_region_held3 (fun w'=>w'.cell? ⟨k,0,none⟩=some (.bool na)∧w'.cell? ⟨k+1,0,none⟩=some (.bool nb)∧w'.frozen? ⟨k+1+1,0,none⟩=false∧w'.frozen? ⟨k+1+1,1,none⟩=false∧w'.frozen? ⟨k+1+1+1,0,none⟩=false∧w'.frozen? ⟨k+1+1+1,1,none⟩=false)
   (first | (go_keep;done) | ((try dsimp only);refine ⟨?_,?_,?_,?_,?_,?_⟩ <;> (first | (exact jb (by omega) (by assumption)) | (go_keep;done) | (simp [go_sem, *];done))))
   (fail)
  have hback:=mH c5 c6 c7 c8 (.bool true) (.slice pq lq cq) (.bool nb) (.slice pr 0 cr)
  have HP:=Ha (Hb (fun v n h hf => @mI w1 k v n h hf (.bool true) (.slice pq lq cq) (.bool nb) (.slice pr 0 cr)) (kH (k:=k) HB1.out.below (Nat.le_refl _) (.bool true) (.slice pq lq cq) (.bool nb) (.slice pr 0 cr)))
  unfold put4 at hback HP
  generalize (((w1.setCell ⟨k+1+1,0,none⟩ (.bool true)).setCell ⟨k+1+1,1,none⟩ (.slice pq lq cq)).setCell ⟨k+1+1+1,0,none⟩ (.bool nb)).setCell ⟨k+1+1+1,1,none⟩ (.slice pr 0 cr)=W4 at *
  obtain ⟨g5,g6,g7,g8⟩:=hback
  clear c1 c2 c3 c4 c5 c6 c7 c8 f5 f6 f7 f8
  go_wp2
  refine bodyPost_ret (v := .tuple #[.agg #[.bool true,.slice pq lq cq],.agg #[.bool nb,.slice pr 0 cr]]) (by simp [results,Tryz.results264,go_sem,g5,g6,g7,g8]) rfl ?_
  obtain ⟨hq,hr,hqf,hrf,hB⟩:=HV.out
  obtain ⟨ha,hb,h0,hla⟩:=HH.out
  have hs:=HBX.out.size
  have hs1:=HB1.out.size
  have fb:∀ v,Fresh W0.heap.size v→v.ownBlock≠some (k+1+1)∧v.ownBlock≠some (k+1+1+1):=fun v hv=>⟨fun e=>by have:=hv _ e;omega,fun e=>by have:=hv _ e;omega⟩
  have HR:=HZ.out
  refine ⟨_,_,a / b,a % b,rfl,HP.out.1 _ _ hq (.inr (fb _ hqf)),HP.out.1 _ _ hr (.inl (by rw [HR,aD])),.inl ⟨HR,rfl,rfl⟩,by rw [HK.out];exact HP.out.2.drew⟩
 ·have hlr:0<(dg (a % b)).length:=cP hr0
  have c66:Calls Tryz.prog 286 #[.slice pq (dg (a / b)).length cq,.slice (some ⟨w1.heap.size,0,none⟩) 1 1] (w1.alloc (.cells #[.int .u64 1] 82)).drew fun e W'=>∃ v,e = .returned v∧IsNat W' v (a / b+1)∧Fresh w1.heap.size v∧Below w1.heap.size w1 W':=by
   obtain ⟨hq,hr,hqf,hrf,hB⟩:=HV.out
   obtain ⟨ha,hb,h0,_⟩:=HH.out
   obtain ⟨hla,hlb⟩:=HLL.out
   obtain ⟨hea,heb⟩:=HEL.out
   have hb1:Below w1.heap.size w1 (w1.alloc (.cells #[.int .u64 1] 82)).drew:=((Below.refl _ w1).alloc (Nat.le_refl _) _).drew
   have h1:IsNat (w1.alloc (.cells #[.int .u64 1] 82)).drew (.slice (some ⟨w1.heap.size,0,none⟩) 1 1) 1:=by
    show Nats _ _ (dg 1)
    rw [show dg 1 = [1] by decide+kernel]
    exact Nats.of_cells (l := [1]) (Nat.le_refl _) (by decide) (fun i hi=>by
     match i,hi with
     | 0,_=>go_cell)
   refine (nU _ _ (a / b) 1 _ (hq.next hb1) h1 ?_ (by rw [show dg 1 = [1] by decide+kernel];decide)).mono ?_
   ·have:=aZ (Nat.div_le_self a b);omega
   ·rintro e W' ⟨v,rfl,hv,hf,hb⟩
    exact ⟨v,rfl,hv,hf.mono hb1.size,hb1.trans (hb.mono hb1.size)⟩
  have c67:∀ W,Below w1.heap.size w1 W→Calls Tryz.prog 287 #[.slice pb lb cb,.slice pr (dg (a % b)).length cr] W fun e W'=>∃ v,e = .returned v∧IsNat W' v (b - a % b)∧Fresh W.heap.size v∧Below W.heap.size W W':=fun W hW=>by
   obtain ⟨hq,hr,hqf,hrf,hB⟩:=HV.out
   obtain ⟨ha,hb,h0,_⟩:=HH.out
   obtain ⟨hla,hlb⟩:=HLL.out
   obtain ⟨hea,heb⟩:=HEL.out
   have hb:IsNat w (.slice pb (dg b).length cb) b:=by rw [heb];exact hb
   rw [←heb]
   exact gG _ _ b (a % b) W (hb.next ((by rw [HK.out];exact HB1.out.below.trans (hW.mono (by omega))))) (hr.next hW) (by omega) (Nat.le_of_lt (Nat.mod_lt _ (by omega)))
  have C66:=Ha c66
  have C67:=Ha c67
  clear c66 c67
  generalize (dg (a / b)).length=lq at *
  generalize (dg (a % b)).length=lr at *
  have hlr2:(0:Int)<(lr:Int):=by omega
  go_wp2
  go_region_held3 (fun w'=>w'.cell? ⟨k+1,1,none⟩=some (.slice pb lb cb)) ((go_keep;done))
   (first
    | (go_at_call 286;refine C66.out.mono ?_;rintro e w2 ⟨v2,rfl,hv2,hf2,hb2⟩;obtain ⟨p2,cq2,rfl⟩:=hv2.shape;have e4:w2.cell? ⟨k+1,1,none⟩=some (.slice pb lb cb):=(hb2.cell (p:=⟨k+1,1,none⟩) (by show k+1<_;omega)).trans c4;have HS2:=Ha (Hb hv2 (Hb hf2 hb2));clear hv2 hf2 hb2)
    | (go_at_call 287;refine (C67.out _ HS2.out.2.2).mono ?_;rintro e w3 ⟨v3,rfl,hv3,hf3,hb3⟩;obtain ⟨p3,cr3,rfl⟩:=hv3.shape;have e5:w3.cell? ⟨k+1,1,none⟩=some (.slice pb lb cb):=(hb3.cell (p:=⟨k+1,1,none⟩) (by have:=HS2.out.2.2.size;show k+1<_;omega)).trans e4;have HS3:=Ha (Hb hv3 (Hb hf3 hb3));clear hv3 hf3 hb3))
  have hbw:Below w1.heap.size w1 w3:=HS2.out.2.2.trans (HS3.out.2.2.mono HS2.out.2.2.size)
  have HB3:=Ha (HB1.out.next hbw)
  clear c1 c2 c3 c4 c5 c6 c7 c8 f5 f6 f7 f8 e4 e5 hsz hbw
  obtain ⟨c1,c2,c3,c4,c5,c6,c7,c8,f5,f6,f7,f8,hsz,_⟩:=HB3.out
  generalize (dg (a / b+1)).length=l2 at *
  generalize (dg (b - a % b)).length=l3 at *
  go_wp2
  go_region_held3 (fun w'=>w'.cell? ⟨k,0,none⟩=some (.bool na)∧w'.cell? ⟨k+1,0,none⟩=some (.bool nb)∧w'.frozen? ⟨k+1+1,0,none⟩=false∧w'.frozen? ⟨k+1+1,1,none⟩=false∧w'.frozen? ⟨k+1+1+1,0,none⟩=false∧w'.frozen? ⟨k+1+1+1,1,none⟩=false)
   (first | (go_keep;done) | ((try dsimp only);refine ⟨?_,?_,?_,?_,?_,?_⟩ <;> (first | (exact jb (by omega) (by assumption)) | (go_keep;done) | (simp [go_sem, *];done))))
   (fail)
  have hback:=mH c5 c6 c7 c8 (.bool true) (.slice p2 l2 cq2) (.bool nb) (.slice p3 l3 cr3)
  have HP:=Ha (Hb (fun v n h hf => @mI w3 k v n h hf (.bool true) (.slice p2 l2 cq2) (.bool nb) (.slice p3 l3 cr3)) (kH (k:=k) HB3.out.below (Nat.le_refl _) (.bool true) (.slice p2 l2 cq2) (.bool nb) (.slice p3 l3 cr3)))
  unfold put4 at hback HP
  generalize (((w3.setCell ⟨k+1+1,0,none⟩ (.bool true)).setCell ⟨k+1+1,1,none⟩ (.slice p2 l2 cq2)).setCell ⟨k+1+1+1,0,none⟩ (.bool nb)).setCell ⟨k+1+1+1,1,none⟩ (.slice p3 l3 cr3)=W4 at *
  obtain ⟨g5,g6,g7,g8⟩:=hback
  clear c1 c2 c3 c4 c5 c6 c7 c8 f5 f6 f7 f8
  go_wp2
  refine bodyPost_ret (v := .tuple #[.agg #[.bool true,.slice p2 l2 cq2],.agg #[.bool nb,.slice p3 l3 cr3]]) (by simp [results,Tryz.results264,go_sem,g5,g6,g7,g8]) rfl ?_
  obtain ⟨hq,hr,hqf,hrf,hB⟩:=HV.out
  have hs:=HBX.out.size
  have hs1:=HB1.out.size
  have fb:∀ v,Fresh W0.heap.size v→v.ownBlock≠some (k+1+1)∧v.ownBlock≠some (k+1+1+1):=fun v hv=>⟨fun e=>by have:=hv _ e;omega,fun e=>by have:=hv _ e;omega⟩
  obtain ⟨hq2,hqf2,hb2⟩:=HS2.out
  obtain ⟨hr3,hrf3,hb3⟩:=HS3.out
  have f2:=hqf2.mono hB.size
  have f3:=hrf3.mono (Nat.le_trans hB.size hb2.size)
  refine ⟨_,_,a / b+1,b - a % b,rfl,HP.out.1 _ _ (hq2.next hb3) (.inr (fb _ f2)),HP.out.1 _ _ hr3 (.inr (fb _ f3)),.inr ⟨hr0,rfl,rfl⟩,by rw [HK.out];exact HP.out.2.drew⟩
theorem CK (na nb:Bool) (va vb:Value) (a b:Nat) (w:World) (ha:IsNat w va a) (hb:IsNat w vb b) (h0:b≠0) (hla:(dg a).length≤900000) (hlb:(dg b).length≤900000) :
  Calls Tryz.prog 264 #[.agg #[.bool na,va],.agg #[.bool nb,vb]] w fun e W'=>∃ s x y q r,e = .returned (.tuple #[.agg #[.bool s,x],.agg #[.bool nb,y]])∧IsNat W' x q∧IsNat W' y r∧aL s q=(aL na a).fdiv (aL nb b)∧aL nb r=(aL na a).fmod (aL nb b)∧q≤a∧r≤b∧Below w.heap.size w W':=by
 have hf:=Af na nb a b h0
 have hm:=Nat.mod_lt a (show 0<b by omega)
 by_cases hn:na=nb
 ·subst hn
  refine (Ag na va vb a b w ha hb h0 hla).mono ?_
  rintro e W' ⟨x,y,rfl,hx,hy,hB⟩
  have h1:=hf.1 (.inl rfl)
  rw [bne_self_eq_false] at h1
  exact ⟨false,x,y,_,_,rfl,hx,hy,h1.1.symm,h1.2.symm,Nat.div_le_self a b,by omega,hB⟩
 ·have hn2:(na==nb)=false:=by simpa using hn
  have hn3:(na != nb)=true:=by simpa using hn
  rw [hn3] at hf
  refine (Ah na nb va vb a b w ha hb h0 hla hlb hn2).mono ?_
  rintro e W' ⟨x,y,q,r,rfl,hx,hy,h,hB⟩
  rcases h with ⟨hz,rfl,rfl⟩ | ⟨hz,rfl,rfl⟩
  ·have h1:=hf.1 (.inr hz)
   exact ⟨true,x,y,_,_,rfl,hx,hy,h1.1.symm,h1.2.symm,Nat.div_le_self a b,by omega,hB⟩
  ·have h1:=hf.2 ⟨hn,hz⟩
   refine ⟨true,x,y,_,_,rfl,hx,hy,h1.1.symm,h1.2.symm,?_,by omega,hB⟩
   have hb2:2≤b:=by
    rcases Nat.lt_or_ge b 2 with h | h
    ·have:b=1:=by omega
     subst this;rw [Nat.mod_one] at hz;exact absurd rfl hz
    ·exact h
   have ha1:a≠0:=fun e=>by rw [e,Nat.zero_mod] at hz;exact hz rfl
   exact Nat.div_lt_self (by omega) hb2
theorem vh (a b:ByteArray) (w:World) (k1:chk a.data.toList=0) (k2:chk b.data.toList=0) (h0:valOf b.data.toList≠0) (hs:¬ (a.size≤18∧b.size≤18)) (ht:Tab w) :
  Calls Tryz.prog 222 #[.string a,.string b] w fun e W'=>e = .returned (.tuple #[.string (aa ((valOf a.data.toList).fdiv (valOf b.data.toList))),.string (aa ((valOf a.data.toList).fmod (valOf b.data.toList))),.int .i64 0])∧Below w.heap.size w W':=by
 have s1:=bP k1
 have s2:=bP k2
 have cb:=bW a b w (by unfold maxLen;omega) (by unfold maxLen;omega)
 have hc2:c9 a.data.toList b.data.toList=0:=by unfold c9;rw [if_pos k1];exact k2
 rw [hc2] at cb
 have hb48:(b.toList == [48])=false:=by
  rw [ByteArray.toList_eq,beq_eq_false_iff_ne]
  intro e;rw [e] at h0;exact h0 rfl
 have i1:=fun W=>aY a W (by unfold maxLen;omega)
 have i2:=fun W=>aY b W (by unfold maxLen;omega)
 have rr1:=fun W=>dG a W (by omega) k1
 have rr2:=fun W=>dG b W (by omega) k2
 have HV:=Ha (Hb (fD a.data.toList) (fD b.data.toList))
 have NL:=Ha (Hb (d9 k1) (d9 k2))
 have hb0:ah (szL b.data.toList)≠0:=by
  intro e
  apply h0
  rw [←fD,e,CJ]
 have H0:=Ha hb0
 have C:=Ha (Hb cb (Hb i1 (Hb i2 (Hb rr1 rr2))))
 have HT:=Ha ht
 clear cb i1 i2 rr1 rr2 hc2 h0 ht k1 k2 hb0
 generalize valOf a.data.toList=x at *
 generalize valOf b.data.toList=y at *
 generalize aw a.data.toList=na at *
 generalize aw b.data.toList=nb at *
 generalize ah (szL a.data.toList)=ax at *
 generalize ah (szL b.data.toList)=bx at *
 have rest:∀ W,Below w.heap.size w W→∀ va vb,IsNat W va ax→IsNat W vb bx→Calls Tryz.prog 264 #[.agg #[.bool na,va],.agg #[.bool nb,vb]] W fun e W'=>∃ s u v q r,e = .returned (.tuple #[.agg #[.bool s,u],.agg #[.bool nb,v]])∧IsNat W' u q∧IsNat W' v r∧aL s q=x.fdiv y∧aL nb r=x.fmod y∧q≤ax∧r≤bx∧Below W.heap.size W W':=fun W _ va vb h1 h2=>by
  have:=CK na nb va vb ax bx W h1 h2 H0.out (Nat.le_trans (fk NL.out.1) (by decide)) (Nat.le_trans (fk NL.out.2) (by decide))
  rwa [HV.out.1,HV.out.2] at this
 have tx:=fun s q v W (h:IsNat W v q) (hl:q<lim) (hb:Below w.heap.size w W)=>io s v q W h (Nat.le_trans (fk hl) (by decide)) (HT.out.next hb)
 have RS:=Ha rest
 have TX:=Ha tx
 clear rest tx
 by_cases g1:a.size≤18
 ·have t1:decide ((a.size:Int)≤18)=true:=by simp;omega
  have t2:decide ((b.size:Int)≤18)=false:=by simp;omega
  go_enter Tryz.func222,Tryz.ntmps222
  go_wp2_with fail
  refine C.out.1.mono ?_
  rintro e w' ⟨rfl,rfl⟩
  go_wp2_with fail
  refine (C.out.2.1 _).mono ?_
  rintro e w' ⟨rfl,rfl⟩
  rw [t1]
  go_wp2_with fail
  refine (C.out.2.2.1 _).mono ?_
  rintro e w' ⟨rfl,rfl⟩
  rw [t2]
  go_wp2_with fail
  refine (C.out.2.2.2.1 _).mono ?_
  rintro e w1 ⟨va,rfl,hva,_,hb1⟩
  have H1:=Ha (Hb hva hb1);clear hva hb1
  go_wp2_with fail
  refine (C.out.2.2.2.2 _).mono ?_
  rintro e w2 ⟨vb,rfl,hvb,_,hb2⟩
  have H2:=Ha (Hb (H1.out.1.next hb2) (Hb hvb (H1.out.2.trans (hb2.mono H1.out.2.size))));clear hvb hb2 H1
  go_wp2_with fail
  refine (RS.out _ H2.out.2.2 _ _ H2.out.1 H2.out.2.1).mono ?_
  rintro e w3 ⟨s,u,v,q,r,rfl,hu,hv,e1,e2,l1,l2,hb3⟩
  have hB3:=H2.out.2.2.trans (hb3.mono H2.out.2.2.size)
  have r1:(x.fdiv y).natAbs<lim:=by rw [←e1,lR];exact Nat.lt_of_le_of_lt l1 NL.out.1
  have r2:(x.fmod y).natAbs<lim:=by rw [←e2,lR];exact Nat.lt_of_le_of_lt l2 NL.out.2
  have f1:iM (x.fdiv y)=aa (x.fdiv y):=if_pos r1
  have f2:iM (x.fmod y)=aa (x.fmod y):=if_pos r2
  have f3:iN (x.fdiv y)=0:=if_pos r1
  have f4:iN (x.fmod y)=0:=if_pos r2
  have T1:=Ha (fun W h hB=>by have:=TX.out s q u W h (Nat.lt_of_le_of_lt l1 NL.out.1) hB;rwa [e1,f1,f3] at this)
  have T2:=Ha (fun W h hB=>by have:=TX.out nb r v W h (Nat.lt_of_le_of_lt l2 NL.out.2) hB;rwa [e2,f2,f4] at this)
  have H3:=Ha (Hb hu (Hb hv hB3))
  obtain ⟨pu,cu,rfl⟩:=hu.shape
  obtain ⟨pv,cv,rfl⟩:=hv.shape
  clear hu hv e1 e2 l1 l2 hb3 hB3 r1 r2 f1 f2 f3 f4 H2 TX RS
  generalize (dg q).length=lq at *
  generalize (dg r).length=lr at *
  go_wp2_with fail
  have d0:((w3.alloc (.cells #[.bool s,.slice pu lq cu] 90)).alloc (.cells #[.bool nb,.slice pv lr cv] 90)).cell? ⟨w3.heap.size+1,0,none⟩=some (.bool nb):=by go_cell
  have d1:((w3.alloc (.cells #[.bool s,.slice pu lq cu] 90)).alloc (.cells #[.bool nb,.slice pv lr cv] 90)).cell? ⟨w3.heap.size+1,1,none⟩=some (.slice pv lr cv):=by go_cell
  have dz:w3.heap.size+1<((w3.alloc (.cells #[.bool s,.slice pu lq cu] 90)).alloc (.cells #[.bool nb,.slice pv lr cv] 90)).heap.size:=by simp
  have db:Below w3.heap.size w3 ((w3.alloc (.cells #[.bool s,.slice pu lq cu] 90)).alloc (.cells #[.bool nb,.slice pv lr cv] 90)):=((Below.refl _ w3).alloc (Nat.le_refl _) _).alloc (by simp) _
  generalize (w3.alloc (.cells #[.bool s,.slice pu lq cu] 90)).alloc (.cells #[.bool nb,.slice pv lr cv] 90)=W3 at *
  have H3':=Ha (Hb (H3.out.1.next db) (Hb (H3.out.2.1.next db) (H3.out.2.2.trans (db.mono H3.out.2.2.size))))
  clear H3 db
  refine (T1.out _ H3'.out.1 H3'.out.2.2).mono ?_
  rintro e w4 ⟨rfl,hb4⟩
  have H4:=Ha (Hb (H3'.out.2.1.next hb4) (H3'.out.2.2.trans (hb4.mono H3'.out.2.2.size)))
  have d0':=(hb4.cell (p:=⟨w3.heap.size+1,0,none⟩) dz).trans d0
  have d1':=(hb4.cell (p:=⟨w3.heap.size+1,1,none⟩) dz).trans d1
  clear hb4 T1 H3' d0 d1 dz
  go_wp2_with fail
  refine (T2.out _ H4.out.1 H4.out.2).mono ?_
  rintro e w5 ⟨rfl,hb5⟩
  have H5:=Ha (H4.out.2.trans (hb5.mono H4.out.2.size))
  clear hb5 T2 H4
  go_wp2
  go_ret3
  exact ⟨rfl,H5.out⟩
 ·have t1:decide ((a.size:Int)≤18)=false:=by simp;omega
  go_enter Tryz.func222,Tryz.ntmps222
  go_wp2_with fail
  refine C.out.1.mono ?_
  rintro e w' ⟨rfl,rfl⟩
  go_wp2_with fail
  refine (C.out.2.1 _).mono ?_
  rintro e w' ⟨rfl,rfl⟩
  rw [t1]
  go_wp2_with fail
  refine (C.out.2.2.2.1 _).mono ?_
  rintro e w1 ⟨va,rfl,hva,_,hb1⟩
  have H1:=Ha (Hb hva hb1);clear hva hb1
  go_wp2_with fail
  refine (C.out.2.2.2.2 _).mono ?_
  rintro e w2 ⟨vb,rfl,hvb,_,hb2⟩
  have H2:=Ha (Hb (H1.out.1.next hb2) (Hb hvb (H1.out.2.trans (hb2.mono H1.out.2.size))));clear hvb hb2 H1
  go_wp2_with fail
  refine (RS.out _ H2.out.2.2 _ _ H2.out.1 H2.out.2.1).mono ?_
  rintro e w3 ⟨s,u,v,q,r,rfl,hu,hv,e1,e2,l1,l2,hb3⟩
  have hB3:=H2.out.2.2.trans (hb3.mono H2.out.2.2.size)
  have r1:(x.fdiv y).natAbs<lim:=by rw [←e1,lR];exact Nat.lt_of_le_of_lt l1 NL.out.1
  have r2:(x.fmod y).natAbs<lim:=by rw [←e2,lR];exact Nat.lt_of_le_of_lt l2 NL.out.2
  have f1:iM (x.fdiv y)=aa (x.fdiv y):=if_pos r1
  have f2:iM (x.fmod y)=aa (x.fmod y):=if_pos r2
  have f3:iN (x.fdiv y)=0:=if_pos r1
  have f4:iN (x.fmod y)=0:=if_pos r2
  have T1:=Ha (fun W h hB=>by have:=TX.out s q u W h (Nat.lt_of_le_of_lt l1 NL.out.1) hB;rwa [e1,f1,f3] at this)
  have T2:=Ha (fun W h hB=>by have:=TX.out nb r v W h (Nat.lt_of_le_of_lt l2 NL.out.2) hB;rwa [e2,f2,f4] at this)
  have H3:=Ha (Hb hu (Hb hv hB3))
  obtain ⟨pu,cu,rfl⟩:=hu.shape
  obtain ⟨pv,cv,rfl⟩:=hv.shape
  clear hu hv e1 e2 l1 l2 hb3 hB3 r1 r2 f1 f2 f3 f4 H2 TX RS
  generalize (dg q).length=lq at *
  generalize (dg r).length=lr at *
  go_wp2_with fail
  have d0:((w3.alloc (.cells #[.bool s,.slice pu lq cu] 90)).alloc (.cells #[.bool nb,.slice pv lr cv] 90)).cell? ⟨w3.heap.size+1,0,none⟩=some (.bool nb):=by go_cell
  have d1:((w3.alloc (.cells #[.bool s,.slice pu lq cu] 90)).alloc (.cells #[.bool nb,.slice pv lr cv] 90)).cell? ⟨w3.heap.size+1,1,none⟩=some (.slice pv lr cv):=by go_cell
  have dz:w3.heap.size+1<((w3.alloc (.cells #[.bool s,.slice pu lq cu] 90)).alloc (.cells #[.bool nb,.slice pv lr cv] 90)).heap.size:=by simp
  have db:Below w3.heap.size w3 ((w3.alloc (.cells #[.bool s,.slice pu lq cu] 90)).alloc (.cells #[.bool nb,.slice pv lr cv] 90)):=((Below.refl _ w3).alloc (Nat.le_refl _) _).alloc (by simp) _
  generalize (w3.alloc (.cells #[.bool s,.slice pu lq cu] 90)).alloc (.cells #[.bool nb,.slice pv lr cv] 90)=W3 at *
  have H3':=Ha (Hb (H3.out.1.next db) (Hb (H3.out.2.1.next db) (H3.out.2.2.trans (db.mono H3.out.2.2.size))))
  clear H3 db
  refine (T1.out _ H3'.out.1 H3'.out.2.2).mono ?_
  rintro e w4 ⟨rfl,hb4⟩
  have H4:=Ha (Hb (H3'.out.2.1.next hb4) (H3'.out.2.2.trans (hb4.mono H3'.out.2.2.size)))
  have d0':=(hb4.cell (p:=⟨w3.heap.size+1,0,none⟩) dz).trans d0
  have d1':=(hb4.cell (p:=⟨w3.heap.size+1,1,none⟩) dz).trans d1
  clear hb4 T1 H3' d0 d1 dz
  go_wp2_with fail
  refine (T2.out _ H4.out.1 H4.out.2).mono ?_
  rintro e w5 ⟨rfl,hb5⟩
  have H5:=Ha (H4.out.2.trans (hb5.mono H4.out.2.size))
  clear hb5 T2 H4
  go_wp2
  go_ret3
  exact ⟨rfl,H5.out⟩
theorem Ai (a b:ByteArray) (w:World) (k1:chk a.data.toList=0) (k2:chk b.data.toList=0) (h0:valOf b.data.toList≠0) (ht:Tab w) :
  Calls Tryz.prog 222 #[.string a,.string b] w fun e W'=>e = .returned (.tuple #[.string (aa ((valOf a.data.toList).fdiv (valOf b.data.toList))),.string (aa ((valOf a.data.toList).fmod (valOf b.data.toList))),.int .i64 0])∧Below w.heap.size w W':=by
 by_cases hs:a.size≤18∧b.size≤18
 ·exact tk a b w k1 k2 h0 hs.1 hs.2 ht
 ·exact vh a b w k1 k2 h0 hs ht
theorem vi:aa 0=⟨#[48]⟩:=iO 0 [48] (by decide+kernel)
theorem xi {y:Int} (h:y≠0):((aa y).toList == [48])=false:=by
 rw [ByteArray.toList_eq,aF,beq_eq_false_iff_ne]
 intro e
 exact h (eJ (e.trans (show [48]=Lib.itoa 0 by decide+kernel)))
theorem jD (x y:Int) (w:World) (hx:x.natAbs<lim) (hy:y.natAbs<lim) (h0:y≠0) (ht:Tab w) :
  Calls Tryz.prog 222 #[.string (aa x),.string (aa y)] w fun e W'=>e = .returned (.tuple #[.string (aa (x.fdiv y)),.string (aa (x.fmod y)),.int .i64 0])∧Below w.heap.size w W':=by
 have c:=Ai (aa x) (aa y) w (dH hx) (dH hy) (by rw [bo];exact h0) ht
 rwa [bo,bo] at c
theorem CN (n:Nat):(dg n).drop 1=dg (n / B):=by
 by_cases h:n=0
 ·subst h;rw [aD,Nat.zero_div,aD];rfl
 ·rw [dC h];rfl
theorem yG (n k:Nat):(dg n).drop k=dg (n / B ^ k):=by
 induction k with
 | zero=>rw [Nat.pow_zero,Nat.div_one];rfl
 | succ k ih =>
  rw [←List.drop_drop,ih,CN,Nat.div_div_eq_div_mul,Nat.pow_succ]
theorem Nats.drop {w:World} {b off cap k:Nat} {l:List Nat} (h:Nats w (.slice (some ⟨b,off,none⟩) l.length cap) l) (hk:k<l.length):Nats w (.slice (some ⟨b,off+k,none⟩) (l.length - k) (cap - k)) (l.drop k):=by
 obtain ⟨p,cap',he,h1,h2,h3⟩:=h
 simp only [Value.slice.injEq,true_and] at he
 obtain ⟨rfl,rfl⟩:=he
 obtain ⟨b',off',e,hc⟩:=h3 (by intro e;subst e;simp at hk)
 simp only [Option.some.injEq,Addr.mk.injEq,and_true] at e
 obtain ⟨rfl,rfl⟩:=e
 refine ⟨_,cap - k,by rw [List.length_drop],by rw [List.length_drop];omega,by omega,fun _=>⟨b,off+k,rfl,fun i hi => ?_⟩⟩
 rw [List.length_drop] at hi
 rw [Nat.add_assoc,hc (k+i) (by omega)]
 congr 3
 rw [List.getD_eq_getElem?_getD,List.getD_eq_getElem?_getD,List.getElem?_drop]
theorem IsNat.unique {w:World} {v:Value} {m n:Nat} (h:IsNat w v m) (h':IsNat w v n):m=n:=by
 obtain ⟨p,cap,rfl,a1,a2,a3⟩:=h
 obtain ⟨p',cap',he,b1,b2,b3⟩:=h'
 simp only [Value.slice.injEq] at he
 obtain ⟨rfl,hl,rfl⟩:=he
 have e:dg m=dg n:=by
  refine List.ext_getElem hl (fun i h1 h2 => ?_)
  obtain ⟨b,off,e1,c1⟩:=a3 (by intro e;rw [e] at h1;simp at h1)
  obtain ⟨b',off',e2,c2⟩:=b3 (by intro e;rw [e] at h2;simp at h2)
  rw [e1] at e2
  simp only [Option.some.injEq,Addr.mk.injEq,and_true] at e2
  obtain ⟨rfl,rfl⟩:=e2
  have:=(c1 i h1).symm.trans (c2 i h2)
  simp only [Option.some.injEq,Value.int.injEq,true_and] at this
  rw [getD_lt h1,getD_lt h2] at this
  exact Int.ofNat.inj this
 have:=congrArg toN e
 rwa [aE,aE] at this
open Classical in
noncomputable def a6 (w:World) (v:Value):Nat:=if h:∃ n,IsNat w v n then Classical.choose h else 0
theorem aR {w:World} {v:Value} {n:Nat} (h:IsNat w v n):a6 w v=n:=by
 unfold a6
 have hx:∃ n,IsNat w v n:=⟨n,h⟩
 rw [dif_pos hx]
 exact (Classical.choose_spec hx).unique h
theorem xk {a p r:Nat} (hr:IsRoot (a / B ^ (2*p)) r):am a≤(r+1)*B ^ p:=by
 refine Nat.le_of_lt (tz _ _ ?_)
 have hD:0<B ^ (2*p):=Nat.pow_pos cK
 have h1:a<(a / B ^ (2*p)+1)*B ^ (2*p):=by
  have:=Nat.lt_mul_div_succ a hD
  rwa [Nat.mul_comm] at this
 have h2:(a / B ^ (2*p)+1)*B ^ (2*p)≤(r+1)*(r+1)*B ^ (2*p):=Nat.mul_le_mul_right _ hr.2
 have h3:(r+1)*B ^ p*((r+1)*B ^ p)=(r+1)*(r+1)*B ^ (2*p):=by
  rw [Nat.two_mul,Nat.pow_add,Nat.mul_assoc,Nat.mul_left_comm (B ^ p),←Nat.mul_assoc (r+1)]
 omega
theorem mJ {P:Program} (w:World) {ops:Array Oper} {rest:List Oper} {o:Oper} {a:Act} {Q:Exit→Act→World→Prop}
  (hg:o.guard=none) (l c:Operand) (t:TypeId) (hop:o.op=Op.makeSlice t l c)
  (base:Nat) (e:TypeId) (i:TypeInfo) (h1:P.underlying t=some (.slice e)) (h2:P.info? e=some i) (h3:i.zero=some (.int .u64 0)) (h4:i.size=1) (h5:i.bytes=8)
  (kl kc:IntKind) (L C:Int) (m n:Nat) (hl:a.eval l = .int kl L) (hc:a.eval c = .int kc C) (hL:L=(m:Int)) (hC:C=(n:Int)) (hmn:m≤n) (b3:n≤1000000) (b4:base≤w.heap.size)
  (hK:∀ w',w'.ownsRow base e 1 (.slice (some ⟨w.heap.size,0,none⟩) m n) m (aj (List.replicate m 0))→w.grownBy w' none→wpList P ops Q rest (a.put o.dst (.slice (some ⟨w.heap.size,0,none⟩) m n)) w') :
  wpList P ops Q (o::rest) a w:=by
 refine wpList_plain hg fun K hK' => ?_
 have hr:=run_make (P:=P) w t e i _ h1 h2 h3 kl kc (m:Int) (n:Int) (by omega) (by omega) (by rw [h5];omega) (by omega)
 simp only [Int.toNat_natCast,h4,Nat.mul_one] at hr
 subst hL
 subst hC
 have hz:(Value.int .u64 0).cells = #[.int .u64 0]:=by simp [Value.cells]
 unfold Oper.wp
 simp [execOp,hop,hl,hc,hr,Result.andThen]
 refine hK' _ _ (hK _ ⟨by simp [aj],.inr ⟨w.heap.size,n,madeCells (Value.int .u64 0).cells n,rfl,b4,heap_alloc_new w _,hmn,by unfold maxLen;omega,?_,?_⟩⟩ (World.grownBy_alloc w _ none))
 ·rw [Nat.mul_one];exact size_madeCells _ _
 ·rw [Nat.mul_one,hz,toList_madeCells_one]
  simp [aj,Nat.min_eq_left hmn]
theorem vj (v:Value) (n p:Nat) (w:World) (h:IsNat w v n) (h0:n≠0) (hl:(dg n).length≤400000) (hp:p≤400000) :
  Calls Tryz.prog 307 #[v,.int .i64 p] w fun e W'=>∃ u,e = .returned u∧IsNat W' u (n*B ^ p)∧Fresh w.heap.size u∧Below w.heap.size w W':=by
 obtain ⟨i0,hi,hz0,hz1,hz2⟩:=info_parts dF
 have HI:=Ha (Hb hi (Hb hz0 (Hb hz1 hz2)));clear hi hz0 hz1 hz2
 obtain ⟨pa,ca,rfl,a1,a2,a3⟩:=h
 have hpos:=cP h0
 obtain ⟨b,off,rfl,hc⟩:=a3 (List.length_pos_iff.1 hpos)
 have HC:=Ha hc
 clear a3 hc
 have ev:toN (List.replicate p 0++dg n)=n*B ^ p:=by rw [bT,dQ,List.length_replicate,aE,Nat.zero_add,Nat.mul_comm]
 have hdd:Dig (List.replicate p 0++dg n):=(Dig.replicate p).append (aB n)
 have HE:=Ha (Hb ev hdd)
 have HL:=Ha (Hb hl hp)
 clear ev hdd
 go_enter Tryz.func307,Tryz.ntmps307
 have hsrc:∀ W,Below w.heap.size w W→∀ j u,(aj (dg n))[j]? = some u→W.cell? ((⟨b,off,none⟩:Addr).add j)=some u:=by
  intro W hW j u hu
  have hadd:(⟨b,off,none⟩:Addr).add j=⟨b,off+j,none⟩:=by unfold Addr.add;split <;> simp_all
  have hj:j<(dg n).length:=by
   have:=(List.getElem?_eq_some_iff.1 hu).1
   simpa [aj] using this
  have hcj:=HC.out j hj
  rw [hadd,(hW.cell (p:=⟨b,off+j,none⟩) (World.block_lt_of_cell? w _ hcj)),hcj,←hu]
  simp [aj,hj]
 have HS:=Ha hsrc
 clear hsrc
 go_wp2_with (first
  | (at_make;refine mJ _ rfl _ _ 86 rfl w.heap.size 82 i0 Tryz.underlying86 HI.out.1 HI.out.2.1 HI.out.2.2.1 HI.out.2.2.2 .i64 .i64 _ _ p (p+(dg n).length) rfl rfl (by omega) (by omega) (by omega) (by omega) (Nat.le_refl _) ?_;intro w1 hown hgrow;have HO:=Ha hown;have HB:=Ha ((Below.refl _ w).grown hgrow (Nat.le_refl _) (fun k e=>by cases e));clear hown hgrow)
  | (at_builtin;refine wpList_append_own _ rfl _ _ 86 rfl w.heap.size 82 i0 (.int .u64 0) 1 8 Tryz.underlying86 HI.out.1 HI.out.2.1 HI.out.2.2.1 HI.out.2.2.2 rfl (by decide) _ _ _ rfl HO.out ⟨b,off,none⟩ (dg n).length ca (aj (dg n)) rfl (by simp [aj]) (HS.out w1 HB.out) (by simp [aj,Value.oneCell']) (by unfold maxLen;omega) (by omega) (by have:=HB.out.size;omega) ?_;intro v' w2 hown' hgrow' _;have HO2:=Ha hown';have HB2:=Ha (HB.out.grown hgrow' HB.out.size (fun k hk=>(HO.out.lt k hk).1));clear hown' hgrow'))
 have h2:=HO2.out
 rw [show aj (List.replicate p 0)++aj (dg n)=aj (List.replicate p 0++dg n) by simp [aj]] at h2
 obtain ⟨g,cap,rfl,hg,hc1,hc2,hr⟩:=fX h2 (fun e=>by rw [List.append_eq_nil_iff] at e;rw [e.2] at hpos;simp at hpos)
 have hN:=hr.nats hc1 (by unfold maxLen at hc2;omega)
 have ct:=fO _ _ w2 hN HE.out.2
 rw [HE.out.1] at ct
 have CT:=Ha ct
 clear ct h2 hr hN
 refine CT.out.mono ?_
 rintro e w' ⟨rfl,u,rfl,hu,hob⟩
 have HU:=Ha (Hb hu hob)
 clear hu hob CT
 go_wp2
 go_ret
 exact ⟨u,rfl,HU.out.1,fun k hk=>by rw [HU.out.2] at hk;cases hk;exact hg,HB2.out⟩
theorem di {a:Nat}:am a≤a:=by
 have:=(bZ a).1
 by_cases h0:am a=0
 ·omega
 ·exact Nat.le_trans (Nat.le_mul_of_pos_left _ (by omega)) this
theorem nv (n:Nat):(dg (n+1)).length≤(dg n).length+1:=by
 rw [av]
 have h:=(av n _).1 (Nat.le_refl _)
 rw [Nat.pow_succ]
 have:B ^ (dg n).length*2≤B ^ (dg n).length*B:=Nat.mul_le_mul_left _ (by decide)
 omega
theorem qH (n p:Nat):(dg (n*B ^ p)).length≤(dg n).length+p:=by
 rw [av,Nat.pow_add]
 exact Nat.mul_lt_mul_of_pos_right ((av n _).1 (Nat.le_refl _)) (Nat.pow_pos cK)
theorem Aj (w:World):IsNat (w.alloc (.cells #[.int .u64 1] 82)) (.slice (some ⟨w.heap.size,0,none⟩) 1 1) 1:=by
 show Nats _ _ (dg 1)
 rw [show dg 1 = [1] by decide+kernel]
 exact Nats.of_cells (l := [1]) (Nat.le_refl _) (by decide) (fun i hi=>by
  match i,hi with
  | 0,_=>go_cell)
theorem CO (L:Nat):∀ (va:Value) (a:Nat) (w:World),IsNat w va a→(dg a).length≤L→L≤1000 →
  Calls Tryz.prog 300 #[va] w fun e W'=>∃ v,e = .returned v∧IsNat W' v (am a)∧Fresh w.heap.size v∧Below w.heap.size w W':=by
 induction L using Nat.strongRecOn with
 | _ L ih =>
 intro va a w ha hl hL
 by_cases h2:(dg a).length≤2
 ·exact xg va a w ha (by have:=(av a 2).1 h2;rwa [show B ^ 2=1000000000000000000 from rfl] at this)
 ·obtain ⟨n,hn⟩:∃ n,(dg a).length=n:=⟨_,rfl⟩
  obtain ⟨P,hP⟩:∃ P,(n+1) / 4=P:=⟨_,rfl⟩
  have hP1:1≤P:=by omega
  have hP2:2*P<n:=by omega
  have hsh:∃ b off ca,va = .slice (some ⟨b,off,none⟩) n ca∧n≤ca:=by
   obtain ⟨p,cap,rfl,h1,h2,h3⟩:=ha
   obtain ⟨b,off,rfl,_⟩:=h3 (by intro e;rw [e] at hn;simp at hn;omega)
   exact ⟨b,off,cap,by rw [hn],by omega⟩
  obtain ⟨b,off,ca,rfl,hca⟩:=hsh
  have ha':Nats w (.slice (some ⟨b,off,none⟩) (dg a).length ca) (dg a):=by rw [hn];exact ha
  have hsub:=ha'.drop (k:=2*P) (by omega)
  rw [yG,hn] at hsub
  have hlen:(dg (a / B ^ (2*P))).length=n - 2*P:=by rw [←yG,List.length_drop,hn]
  have cr:=ih (n - 2*P) (by omega) _ (a / B ^ (2*P)) w hsub (Nat.le_of_eq hlen) (by omega)
  obtain ⟨r,hr⟩:∃ r,am (a / B ^ (2*P))=r:=⟨_,rfl⟩
  have hrl:(dg r).length≤1000:=by
   have h1:=aZ (show r≤a / B ^ (2*P) by rw [←hr];exact di)
   omega
  have hst:am a≤(r+1)*B ^ P:=xk (by rw [←hr];exact bZ _)
  rw [hr] at cr
  have cs:=fun v W (h:IsNat W v r)=>nU v (.slice (some ⟨W.heap.size,0,none⟩) 1 1) r 1 (W.alloc (.cells #[.int .u64 1] 82)) (h.next ((Below.refl _ W).alloc (Nat.le_refl _) _)) (Aj W) (by omega) (by rw [show dg 1 = [1] by decide+kernel];decide)
  have ch:=fun v W (h:IsNat W v (r+1))=>vj v (r+1) P W h (by omega) (by have:=nv r;omega) (by omega)
  have CR:=Ha (Hb cr (Hb cs ch))
  have HA:=Ha (Hb ha (Hb hst hrl))
  have eP:((n:Int)+1) / 4=(P:Int):=by omega
  have hn2:¬ (n:Int)≤2:=by omega
  have hPn:(2:Int)*(P:Int)≤(n:Int):=by omega
  have HN:=Ha (Hb hn (Hb hl hL))
  have hnL:n≤1000:=by omega
  clear cr cs ch ih hsub ha' hlen hr hst hrl h2 hn hl hL ha hP
  go_enter Tryz.func300,Tryz.ntmps300
  go_wp2_with fail
  refine CR.out.1.mono ?_
  rintro e w1 ⟨v1,rfl,hv1,_,hb1⟩
  obtain ⟨p1,c1,rfl⟩:=hv1.shape
  have H1:=Ha (Hb hv1 hb1)
  have CS:=Ha (CR.out.2.1 _ w1 hv1)
  clear hv1 hb1
  go_wp2_with fail
  refine CS.out.mono ?_
  rintro e w2 ⟨v2,rfl,hv2,_,hb2⟩
  obtain ⟨p2,c2,rfl⟩:=hv2.shape
  have hB2:Below w.heap.size w w2:=H1.out.2.trans ((((Below.refl _ w1).alloc (Nat.le_refl _) _).trans (hb2.mono (by simp))).mono H1.out.2.size)
  have CH:=Ha (CR.out.2.2 _ w2 hv2)
  have H2:=Ha hB2
  clear hv2 hb2 hB2 CS H1 CR
  go_wp2_with fail
  refine CH.out.mono ?_
  rintro e w3 ⟨v3,rfl,hv3,hf3,hb3⟩
  have H3:=Ha (Hb hv3 (Hb (hf3.mono H2.out.size) (H2.out.trans (hb3.mono H2.out.size))))
  clear hv3 hf3 hb3 H2 CH
  go_wp2
  go_loopw [4] (fun x wr=>∃ (g:Nat),Hid (IsNat wr x g)∧Hid (am a≤g∧0<g∧(dg g).length≤400000∧Fresh w.heap.size x)∧Hid (Below w.heap.size w wr))
   (fun x wr=>a6 wr x)
  case atStart =>
   refine ⟨(r+1)*B ^ P,H3.out.1,⟨HA.out.2.1,Nat.mul_pos (Nat.succ_pos r) (Nat.pow_pos cK),?_,H3.out.2.1⟩,H3.out.2.2⟩
   have h1:=qH (r+1) P
   have h2:=nv r
   have h3:=HA.out.2.2
   omega
  case round =>
   clear H3
   obtain ⟨g,hg,hgb,hbel⟩:=hrel
   have ha3:=HA.out.1.next hbel.out
   have hal:(dg a).length≤900000:=by rw [HN.out.1];omega
   have cd:=eh _ _ a g wr ha3 hg.out (by have:=hgb.out.2.1;omega) hal
   have hql:(dg (a / g)).length≤1000:=by
    have:=aZ (Nat.div_le_self a g)
    rw [HN.out.1] at this;omega
   have CD:=Ha cd
   have HQ:=Ha hql
   clear cd ha3 hal hql
   go_wp2_with fail
   refine CD.out.mono ?_
   rintro e w4 ⟨q,q0,rfl,hq,_,_,_,hb4⟩
   obtain ⟨pq,cq,rfl⟩:=hq.shape
   have H4:=Ha (Hb hq (Hb (hg.out.next hb4) (hbel.out.trans (hb4.mono hbel.out.size))))
   have CS:=Ha (nU _ _ g (a / g) w4 (hg.out.next hb4) hq (by have:=hgb.out.2.2.1;omega) (by have:=HQ.out;omega))
   clear hq hb4 CD
   go_wp2_with fail
   refine CS.out.mono ?_
   rintro e w5 ⟨s,rfl,hs,_,hb5⟩
   obtain ⟨ps,cs,rfl⟩:=hs.shape
   have hsl:(dg (g+a / g)).length≤1000000:=by
    have h1:=hgb.out.2.2.1
    have h2:=HQ.out
    rw [av] at h1 h2 ⊢
    obtain ⟨k1,e1⟩:∃ k,k=1000:=⟨_,rfl⟩
    obtain ⟨k2,e2⟩:∃ k,k=400000:=⟨_,rfl⟩
    obtain ⟨k3,e3⟩:∃ k,k=1000000:=⟨_,rfl⟩
    rw [←e1] at h2
    rw [←e2] at h1
    rw [←e3]
    have h3:B ^ k1≤B ^ k2:=Nat.pow_le_pow_right cK (by omega)
    have h4:B ^ k2*B≤B ^ k3:=by rw [←Nat.pow_succ];exact Nat.pow_le_pow_right cK (by omega)
    have h5:B ^ k2*2≤B ^ k2*B:=Nat.mul_le_mul_left _ (by decide)
    clear e1 e2 e3
    generalize B ^ k1=X at *
    generalize B ^ k2=Y at *
    generalize B ^ k3=Z at *
    omega
   have ch:=fV _ (dg (g+a / g)) 2 w5 hs (aB _) hsl (by decide) (by decide)
   rw [aE] at ch
   have CH:=Ha ch
   have H5:=Ha (Hb (H4.out.2.1.next hb5) (H4.out.2.2.trans (hb5.mono H4.out.2.2.size)))
   clear hs hb5 CS ch H4 hsl
   go_wp2_with fail
   refine CH.out.mono ?_
   rintro e w6 ⟨x,rfl,hx,hxf,hb6⟩
   obtain ⟨px,cx,rfl⟩:=hx.shape
   have H6:=Ha (Hb hx (Hb (H5.out.1.next hb6) (Hb (hxf.mono H5.out.2.size) (H5.out.2.trans (hb6.mono H5.out.2.size)))))
   have CC:=Ha (fS _ _ _ _ w6 hx (H5.out.1.next hb6))
   clear hx hxf hb6 CH H5
   go_wp2_with fail
   refine CC.out.mono ?_
   rintro e w7 ⟨rfl,k,rfl⟩
   have HGB:=Ha (qL a g hgb.out.2.1 (am a) (bZ a))
   clear CC
   by_cases hc:(g+a / g) / 2<g
   ·rw [cT hc]
    have HC:=Ha hc
    clear hc
    go_wp2
    go_roundw
    case rel =>
     refine ⟨(g+a / g) / 2,H6.out.1.next (Below.drewK _ _ _),⟨HGB.out,?_,?_,H6.out.2.2.1⟩,H6.out.2.2.2.trans (Below.drewK _ _ _)⟩
     ·have h1:=HGB.out
      have h2:0<am a:=by
       rcases Nat.eq_zero_or_pos (am a) with h | h
       ·exfalso
        have h3:=(bZ a).2
        rw [h] at h3
        have h4:a=0:=by omega
        have h5:=HN.out.1
        rw [h4,aD] at h5
        simp at h5
        omega
       ·exact h
      omega
     ·have:=aZ (Nat.le_of_lt HC.out)
      have:=hgb.out.2.2.1
      omega
    case measure =>
     have e1:=aR (H6.out.1.next (Below.drewK w6.heap.size w6 k))
     have e2:=aR hg.out
     show a6 _ (Value.slice px _ cx)<a6 wr _
     rw [e1]
     refine Nat.lt_of_lt_of_eq HC.out e2.symm
   ·have hge:¬ bM ((g+a / g) / 2) g<0:=by
     unfold bM;rw [if_neg hc];split <;> omega
    have he:g=am a:=mN a g (am a) hgb.out.2.1 (bZ a) hgb.out.1 (by omega)
    generalize bM ((g+a / g) / 2) g=c at *
    have HE:=Ha he
    clear he hc
    go_wp2
    go_ret
    exact ⟨_,rfl,by rw [←HE.out];exact H6.out.2.1.next (Below.drewK _ _ _),hgb.out.2.2.2,H6.out.2.2.2.trans (Below.drewK _ _ _)⟩
theorem Er (a b:ByteArray) (w:World) (k1:chk a.data.toList=0) (k2:chk b.data.toList=0) (s1:(szB a).size≤18) (s2:(szB b).size≤18) (ht:Tab w) :
  Calls Tryz.prog 14 #[.string a,.string b] w fun e W'=>e = .returned (.tuple #[.string (aa (Nat.gcd (ah (szL a.data.toList)) (ah (szL b.data.toList)):Nat)),.int .i64 0])∧Below w.heap.size w W':=by
 have q1:=bP k1
 have q2:=bP k2
 have cb:=bW a b w (by unfold maxLen;omega) (by unfold maxLen;omega)
 have hc2:c9 a.data.toList b.data.toList=0:=by unfold c9;rw [if_pos k1];exact k2
 rw [hc2] at cb
 have z1:=eK a
 have z2:=eK b
 have i1:=fun W=>aY (szB a) W (by unfold maxLen;omega)
 have i2:=fun W=>aY (szB b) W (by unfold maxLen;omega)
 have t1:decide (((szB a).size:Int)≤18)=true:=by simp;omega
 have t2:decide (((szB b).size:Int)≤18)=true:=by simp;omega
 rw [t1] at i1;rw [t2] at i2
 have m1:=fun W=>gU (szB a) W (by omega) (by rw [bL];exact dh k1)
 have m2:=fun W=>gU (szB b) W (by omega) (by rw [bL];exact dh k2)
 rw [bL] at m1 m2
 have v1:=jo _ (dh k1) (by have:=s1;rw [←ag,bL] at this;exact this)
 have v2:=jo _ (dh k2) (by have:=s2;rw [←ag,bL] at this;exact this)
 have y1:=fun W=>cF a W (by unfold maxLen;omega)
 have y2:=fun W=>cF b W (by unfold maxLen;omega)
 generalize ah (szL a.data.toList)=x at *
 generalize ah (szL b.data.toList)=y at *
 have dm:=fun W=>gB x y W (by omega) (by omega)
 have hg:Nat.gcd x y<1000000000000000000:=by
  by_cases h0:x=0
  ·subst h0;rw [Nat.gcd_zero_left];exact v2
  ·exact Nat.lt_of_le_of_lt (Nat.gcd_le_left _ (by omega)) v1
 generalize Nat.gcd x y=g at *
 have o1:=fun W (h:Below w.heap.size w W)=>dt (g:Nat) W (by omega) (by omega) (ht.next h)
 clear s1 s2
 generalize szB a=sa at *
 generalize szB b=sb at *
 have C:=Ha (Hb cb (Hb y1 (Hb y2 (Hb i1 (Hb i2 (Hb m1 (Hb m2 (Hb dm o1))))))))
 clear cb i1 i2 m1 m2 dm o1 y1 y2 v1 v2 t1 t2 hc2 ht k1 k2 z1 z2
 go_enter Tryz.func14,Tryz.ntmps14
 go_wp2_with fail
 refine C.out.1.mono ?_
 rintro e w' ⟨rfl,rfl⟩
 go_wp2_with fail
 refine (C.out.2.1 _).mono ?_
 rintro e w' ⟨rfl,rfl⟩
 go_wp2_with fail
 refine (C.out.2.2.1 _).mono ?_
 rintro e w' ⟨rfl,rfl⟩
 go_wp2_with fail
 refine (C.out.2.2.2.1 _).mono ?_
 rintro e w' ⟨rfl,rfl⟩
 go_wp2_with fail
 refine (C.out.2.2.2.2.1 _).mono ?_
 rintro e w' ⟨rfl,rfl⟩
 go_wp2_with fail
 refine (C.out.2.2.2.2.2.1 _).mono ?_
 rintro e w' ⟨rfl,rfl⟩
 go_wp2_with fail
 refine (C.out.2.2.2.2.2.2.1 _).mono ?_
 rintro e w' ⟨rfl,rfl⟩
 go_wp2_with fail
 refine (C.out.2.2.2.2.2.2.2.1 _).mono ?_
 rintro e w' ⟨rfl,nn,rfl⟩
 go_wp2_with fail
 refine (C.out.2.2.2.2.2.2.2.2 _ (Below.drewN' nn)).mono ?_
 rintro e w1 ⟨rfl,b1⟩
 have H1:=Ha ((Below.drewN' nn).trans (show Below w.heap.size (w.drewN nn) w1 from b1));clear b1 C
 go_wp2
 go_ret2
 exact ⟨rfl,H1.out⟩
theorem kI (l:List UInt8):(valOf l).natAbs=ah (szL l):=by rw [←fD,lR]
theorem iw (x:Int):aw (aa x).data.toList=decide (x<0):=by
 rw [aF];exact bH x
theorem qa {x:Int} (hx:x.natAbs<lim):ah (szL (aa x).data.toList)=x.natAbs:=by
 rw [←kI,bo]
theorem Ak {x:Int} (hx:x.natAbs<lim) (h:0≤x):ah (aa x).data.toList=x.natAbs:=by
 have h1:=qa hx
 have h2:szL (aa x).data.toList=(aa x).data.toList:=by
  unfold szL;rw [iw,decide_eq_false (by omega)];rfl
 rwa [h2] at h1
theorem vk (x:Int) (w:World) (h0:0≤x) (hx:x.natAbs<lim) (ht:Tab w) :
  Calls Tryz.prog 290 #[.string (aa x)] w fun e W'=>e = .returned (.tuple #[.string (aa (am x.natAbs:Nat)),.int .i64 0])∧Below w.heap.size w W':=by
 have hs:=aM hx
 have hd:=dh (dH hx)
 have hneg:aw (aa x).data.toList=false:=by rw [iw];exact decide_eq_false (by omega)
 have hz:szL (aa x).data.toList=(aa x).data.toList:=by unfold szL;rw [hneg];rfl
 rw [hz] at hd
 have c0:=f9 (aa x) w (by unfold maxLen;omega)
 rw [dH hx] at c0
 have c1:=fun W=>bK (aa x) W
 rw [hneg] at c1
 have c2:=fun W=>iT (aa x) W (by omega) hd
 have hn:=Ak hx h0
 rw [hn] at c2
 have hr:am x.natAbs<lim:=Nat.lt_of_le_of_lt di hx
 have hl:(dg x.natAbs).length≤1000:=Nat.le_trans (fk hx) (by decide)
 generalize x.natAbs=n at *
 have c3:=fun v W (h:IsNat W v n)=>CO 1000 v n W h hl (Nat.le_refl _)
 have e1:iM (aL false (am n))=aa (am n:Nat):=by unfold aL;exact if_pos (by simpa using hr)
 have e2:iN (aL false (am n))=0:=by unfold aL;exact if_pos (by simpa using hr)
 have tx:=fun v W (h:IsNat W v (am n)) (hb:Below w.heap.size w W)=>io false v (am n) W h (Nat.le_trans (fk hr) (by decide)) (ht.next hb)
 rw [e1,e2] at tx
 have C:=Ha (Hb c0 (Hb c1 (Hb c2 (Hb c3 tx))))
 clear c0 c1 c2 c3 tx e1 e2 hr hl hn hd hz hneg hx h0 ht
 generalize aa x=sx at *
 generalize am n=r at *
 go_enter Tryz.func290,Tryz.ntmps290
 go_wp2_with fail
 refine C.out.1.mono ?_
 rintro e w' ⟨rfl,rfl⟩
 go_wp2_with fail
 refine (C.out.2.1 _).mono ?_
 rintro e w' ⟨rfl,rfl⟩
 go_wp2_with fail
 refine (C.out.2.2.1 _).mono ?_
 rintro e w1 ⟨v1,rfl,h1,_,b1⟩
 have H1:=Ha (Hb h1 b1);clear h1 b1
 go_wp2_with fail
 refine (C.out.2.2.2.1 _ _ H1.out.1).mono ?_
 rintro e w2 ⟨v2,rfl,h2,_,b2⟩
 obtain ⟨p2,cap2,rfl⟩:=h2.shape
 have H2:=Ha (Hb h2 (H1.out.2.trans (b2.mono H1.out.2.size)));clear h2 b2 H1
 go_wp2_with fail
 refine (C.out.2.2.2.2 _ _ H2.out.1 H2.out.2).mono ?_
 rintro e w3 ⟨rfl,b3⟩
 have H3:=Ha (H2.out.2.trans (b3.mono H2.out.2.size));clear b3 H2 C
 go_wp2
 go_ret2
 exact ⟨rfl,H3.out⟩
end
section
theorem xl {a b c d:Nat} {x1 y1 x2 y2 s:Int} (h1:x1*a+y1*b=c) (h2:x2*a+y2*b=d) (hs:s=1∨s = -1) (hd:x1*y2 - x2*y1=s):Nat.gcd c d=Nat.gcd a b:=by
 refine Nat.dvd_antisymm (Nat.dvd_gcd ?_ ?_) (Nat.dvd_gcd ?_ ?_)
 ·have hc:((Nat.gcd c d:Nat):Int)∣c:=Int.natCast_dvd_natCast.2 (Nat.gcd_dvd_left c d)
  have hd':((Nat.gcd c d:Nat):Int)∣d:=Int.natCast_dvd_natCast.2 (Nat.gcd_dvd_right c d)
  have e:(a:Int)=s*(y2*c - y1*d):=by rcases hs with rfl | rfl <;> grind
  refine Int.natCast_dvd_natCast.1 ?_
  rw [e]
  exact Int.dvd_mul_of_dvd_right (Int.dvd_sub (Int.dvd_mul_of_dvd_right hc) (Int.dvd_mul_of_dvd_right hd'))
 ·have hc:((Nat.gcd c d:Nat):Int)∣c:=Int.natCast_dvd_natCast.2 (Nat.gcd_dvd_left c d)
  have hd':((Nat.gcd c d:Nat):Int)∣d:=Int.natCast_dvd_natCast.2 (Nat.gcd_dvd_right c d)
  have e:(b:Int)=s*(x1*d - x2*c):=by rcases hs with rfl | rfl <;> grind
  refine Int.natCast_dvd_natCast.1 ?_
  rw [e]
  exact Int.dvd_mul_of_dvd_right (Int.dvd_sub (Int.dvd_mul_of_dvd_right hd') (Int.dvd_mul_of_dvd_right hc))
 ·refine Int.natCast_dvd_natCast.1 ?_
  rw [←h1]
  exact Int.dvd_add (Int.dvd_mul_of_dvd_right (Int.natCast_dvd_natCast.2 (Nat.gcd_dvd_left a b))) (Int.dvd_mul_of_dvd_right (Int.natCast_dvd_natCast.2 (Nat.gcd_dvd_right a b)))
 ·refine Int.natCast_dvd_natCast.1 ?_
  rw [←h2]
  exact Int.dvd_add (Int.dvd_mul_of_dvd_right (Int.natCast_dvd_natCast.2 (Nat.gcd_dvd_left a b))) (Int.dvd_mul_of_dvd_right (Int.natCast_dvd_natCast.2 (Nat.gcd_dvd_right a b)))
def Good (a b:Nat) (x1 y1 x2 y2:Int):Prop :=
 ∃ c d:Nat,x1*a+y1*b=c∧x2*a+y2*b=d∧d<c∧c<a∧Nat.gcd c d=Nat.gcd a b ∧
  ((0≤x1∧y1≤0∧x2≤0∧0≤y2)∨(x1≤0∧0≤y1∧0≤x2∧y2≤0)) ∧
  x1.natAbs<1000000000∧y1.natAbs<1000000000∧x2.natAbs<1000000000∧y2.natAbs<1000000000
theorem xm {a b sc D P Q al bl p q x0 x1 y0 y1:Nat} {s:Int} (ha:a*sc=P*D+al) (hb:b*sc=Q*D+bl) (hal:al<D) (hbl:bl<D)
  (hP:P=y1*p+y0*q) (hQ:Q=x1*p+x0*q) (hs:s=1∨s = -1) (hdet:(x0:Int)*y1 - (x1:Int)*y0=s) (hq:y1≤q) (hpq:q+(y0+y1)≤p)
  (hx0:x0≤y0) (hx1:x1≤y1) (hy:y0≤y1) (hy0:1≤y0) (hP18:P<1000000000000000000) :
  Good a b (s*x0) (-s*y0) (-s*x1) (s*y1):=by
 have hD:0<D:=by omega
 have hy9:y1<1000000000:=by
  apply Decidable.byContradiction
  intro hc
  have h1:y1*y1≤y1*p:=Nat.mul_le_mul_left _ (by omega)
  have h2:1000000000*1000000000≤y1*y1:=Nat.mul_le_mul (by omega) (by omega)
  omega
 have b1:x0*al≤y0*al:=Nat.mul_le_mul_right _ hx0
 have b2:x1*al≤y1*al:=Nat.mul_le_mul_right _ hx1
 have b3:y0*al+y0≤y0*D:=by rw [←Nat.mul_succ];exact Nat.mul_le_mul_left _ hal
 have b4:y1*al+y1≤y1*D:=by rw [←Nat.mul_succ];exact Nat.mul_le_mul_left _ hal
 have b5:y0*bl+y0≤y0*D:=by rw [←Nat.mul_succ];exact Nat.mul_le_mul_left _ hbl
 have b6:y1*bl+y1≤y1*D:=by rw [←Nat.mul_succ];exact Nat.mul_le_mul_left _ hbl
 have b7:y1*D≤q*D:=Nat.mul_le_mul_right _ hq
 have b8:q*D+(y0*D+y1*D)≤p*D:=by rw [←Nat.add_mul,←Nat.add_mul];exact Nat.mul_le_mul_right _ hpq
 have b9:(p+y0)*D≤P*D:=by
  refine Nat.mul_le_mul_right _ ?_
  have h1:1*p≤y1*p:=Nat.mul_le_mul_right _ (by omega)
  have h2:y0*1≤y0*q:=Nat.mul_le_mul_left _ (by omega)
  omega
 rw [Nat.add_mul] at b9
 have c1:(s*x0*a + -s*y0*b)*sc=(p:Int)*D+s*(x0*al - y0*bl):=by
  have ha':(a:Int)*sc=P*D+al:=by exact_mod_cast ha
  have hb':(b:Int)*sc=Q*D+bl:=by exact_mod_cast hb
  have hP':(P:Int)=y1*p+y0*q:=by exact_mod_cast hP
  have hQ':(Q:Int)=x1*p+x0*q:=by exact_mod_cast hQ
  rcases hs with rfl | rfl <;> grind
 have c2:(-s*x1*a+s*y1*b)*sc=(q:Int)*D+s*(y1*bl - x1*al):=by
  have ha':(a:Int)*sc=P*D+al:=by exact_mod_cast ha
  have hb':(b:Int)*sc=Q*D+bl:=by exact_mod_cast hb
  have hP':(P:Int)=y1*p+y0*q:=by exact_mod_cast hP
  have hQ':(Q:Int)=x1*p+x0*q:=by exact_mod_cast hQ
  rcases hs with rfl | rfl <;> grind
 have hsc:0<sc:=by
  rcases Nat.eq_zero_or_pos sc with h | h
  ·subst h;omega
  ·exact h
 have ha':(a:Int)*sc=P*D+al:=by exact_mod_cast ha
 have n1:((x0*al:Nat):Int)=(x0:Int)*al:=Int.natCast_mul _ _
 have n2:((y0*bl:Nat):Int)=(y0:Int)*bl:=Int.natCast_mul _ _
 have n3:((x1*al:Nat):Int)=(x1:Int)*al:=Int.natCast_mul _ _
 have n4:((y1*bl:Nat):Int)=(y1:Int)*bl:=Int.natCast_mul _ _
 have n5:((p*D:Nat):Int)=(p:Int)*D:=Int.natCast_mul _ _
 have n6:((q*D:Nat):Int)=(q:Int)*D:=Int.natCast_mul _ _
 have n7:((P*D:Nat):Int)=(P:Int)*D:=Int.natCast_mul _ _
 rw [←n5,←n1,←n2] at c1
 rw [←n6,←n3,←n4] at c2
 rw [←n7] at ha'
 have hsc':(0:Int)<sc:=by omega
 generalize hA:s*x0*a + -s*y0*b=A at *
 generalize hB : -s*x1*a+s*y1*b=C at *
 have d1:0≤C*sc:=by rcases hs with rfl | rfl <;> omega
 have d2:C*sc<A*sc:=by rcases hs with rfl | rfl <;> omega
 have d3:A*sc<a*sc:=by rcases hs with rfl | rfl <;> omega
 have f1:0≤C:=Int.nonneg_of_mul_nonneg_left d1 hsc'
 have f2:C<A:=Int.lt_of_mul_lt_mul_right d2 (by omega)
 have f3:A<a:=Int.lt_of_mul_lt_mul_right d3 (by omega)
 obtain ⟨c,hc⟩:∃ c:Nat,A=c:=⟨A.toNat,by omega⟩
 obtain ⟨d,hd⟩:∃ d:Nat,C=d:=⟨C.toNat,by omega⟩
 subst hc
 subst hd
 refine ⟨c,d,hA,hB,by omega,by omega,xl hA hB hs ?_,?_,?_,?_,?_,?_⟩
 ·rcases hs with rfl | rfl <;> grind
 ·rcases hs with rfl | rfl
  ·left;omega
  ·right;omega
 ·rcases hs with rfl | rfl <;> omega
 ·rcases hs with rfl | rfl <;> omega
 ·rcases hs with rfl | rfl <;> omega
 ·rcases hs with rfl | rfl <;> omega
theorem vm {P Q p q x1 x2 y1 y2:Nat} {s:Int} (hP:P=y2*p+y1*q) (hQ:Q=x2*p+x1*q) (hdet:(x1:Int)*y2 - (x2:Int)*y1 = -s) (_hq:0<q) :
  P=(y1+p / q*y2)*q+y2*(p % q)∧Q=(x1+p / q*x2)*q+x2*(p % q)∧(x2:Int)*((y1+p / q*y2:Nat):Int) - ((x1+p / q*x2:Nat):Int)*y2=s:=by
 have e:=Nat.div_add_mod p q
 generalize p / q=t at *
 generalize p % q=r at *
 subst e
 refine ⟨?_,?_,?_⟩
 ·rw [hP];grind
 ·rw [hQ];grind
 ·rw [Int.natCast_add,Int.natCast_add,Int.natCast_mul,Int.natCast_mul];grind
end
end Go.Proofs.YtbhbhlfkdlfimaaGreatDoor
