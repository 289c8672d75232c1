/- Parts of the proof of the text YtjdfjgfdbgmbiaaGreatDoorHB39. -/
import Derived.Test.YtjdfjgfdbgmbiaaGreatDoorHB1
import Derived.Test.YtjdfjgfdbgmbiaaGreatDoorHB17
import Derived.Test.YtjdfjgfdbgmbiaaGreatDoorHB18
import Derived.Test.YtjdfjgfdbgmbiaaGreatDoorHB21
import Derived.Test.YtjdfjgfdbgmbiaaGreatDoorHB22
set_option linter.all false
set_option maxRecDepth 100000
set_option maxHeartbeats 8000000
namespace Go.Proofs.YtjdfjgfdbgmbiaaGreatDoor
open Go.RowKit
theorem lowestL_gcd (n d N D:Int) (o:Bool) (w:World) (hn:short n) (hd:short d) (hN:short N) (hD:short D) (hs:0<D) (ho:decide (d<0)=o) (hS:(o=true∧N = -n∧D = -d)∨(o=false∧N=n∧D=d)) (hg:¬ gcdZ N D=1) (ht:Tab w) :
  Calls Tryz.prog 61 #[.agg #[.string (strB n),.int .i64 0,.string (strB d),.int .i64 0]] w fun e W'=>e = .returned (.tuple #[.string (strT (N.fdiv (gcdZ N D)) (D.fdiv (gcdZ N D))),.int .i64 0])∧Below w.heap.size w W':=by
 have cf:∀ W,Calls Tryz.prog 80 #[.agg #[.string (strB n),.int .i64 0,.string (strB d),.int .i64 0]] W fun e W'=>e = .returned (.int .i64 0)∧Below W.heap.size W W':=fun W=>fitL_some n (some d) W
 have cn:=fun W=>long_neg d W
 rw [ho] at cn
 have co1:=fun W (hW:Below w.heap.size w W)=>long_opp1 n W hn (ht.next hW)
 have co2:=fun W (hW:Below w.heap.size w W)=>long_opp1 d W hd (ht.next hW)
 have cg:=fun W (hW:Below w.heap.size w W)=>long_div1 N D W hN hD (ht.next hW)
 have c1:=fun W=>long_one (gcdZ N D) W
 rw [show (decide (gcdZ N D=1))=false by simpa using hg] at c1
 have hgp:=gcdZ_pos (n:=N) (d:=D) (by omega)
 have hgs:=gcdZ_short hN hD
 have cv1:=fun W (hW:Below w.heap.size w W)=>long_over1 N (gcdZ N D) W hN hgs (by omega) (ht.next hW)
 have cv2:=fun W (hW:Below w.heap.size w W)=>long_over1 D (gcdZ N D) W hD hgs (by omega) (ht.next hW)
 have ct:=fun W (_:Below w.heap.size w W)=>textL_any (N.fdiv (gcdZ N D)) (D.fdiv (gcdZ N D)) W (fdiv_short hN (by omega)) (fdiv_short hD (by omega))
 clear hgp hgs
 have hT:(o=true∧strB (-n)=strB N∧strB (-d)=strB D)∨(o=false∧strB n=strB N∧strB d=strB D):=by
  rcases hS with ⟨h1,h2,h3⟩ | ⟨h1,h2,h3⟩
  ·exact .inl ⟨h1,by rw [h2],by rw [h3]⟩
  ·exact .inr ⟨h1,by rw [h2],by rw [h3]⟩
 have C:=Lib.hid (And.intro cf (And.intro cn (And.intro co1 (And.intro co2 (And.intro cg (And.intro c1 (And.intro cv1 (And.intro cv2 ct))))))))
 clear cf cn co1 co2 cg c1 cv1 cv2 ct ht hn hd hN hD hs hg ho hS
 generalize strT (N.fdiv (gcdZ N D)) (D.fdiv (gcdZ N D))=res at *
 generalize strB (N.fdiv (gcdZ N D))=qn at *
 generalize strB (D.fdiv (gcdZ N D))=qd at *
 generalize strB (gcdZ N D)=sg at *
 generalize strB (-n)=mn at *
 generalize strB (-d)=md at *
 generalize strB N=tn at *
 generalize strB D=td at *
 generalize strB n=sn at *
 generalize strB d=sd at *
 go_enter Tryz.func61,Tryz.ntmps61
 go_wp2_with fail
 have hb:BB w w.heap.size #[.string sn,.int .i64 0,.string sd,.int .i64 0] (w.alloc (.cells #[.string sn,.int .i64 0,.string sd,.int .i64 0] 87)):=BB.new w _ _
 generalize w.alloc (.cells #[.string sn,.int .i64 0,.string sd,.int .i64 0] 87)=W0 at *
 generalize hk:w.heap.size=k at *
 have HK:=Lib.hid hk;clear hk
 have HB:=Lib.hid hb;clear hb
 refine (C.out.1 _).mono ?_
 rintro e w1 ⟨rfl,b⟩
 have H1:=Lib.hid (HB.out.next b);clear b HB
 have c0:=H1.out.blk.cell 0 (.string sn) rfl;have c1:=H1.out.blk.cell 1 (.int .i64 0) rfl;have c2:=H1.out.blk.cell 2 (.string sd) rfl;have c3:=H1.out.blk.cell 3 (.int .i64 0) rfl
 go_wp2_with fail
 refine (C.out.2.1 _).mono ?_
 rintro e w2 ⟨rfl,b⟩
 have H2:=Lib.hid (H1.out.next b);clear b H1;have H1:=H2;clear H2
 clear c0 c1 c2 c3
 go_upto_if 14 with fail
 go_cut [] from 15 to 23 (fun wx=>BB w k #[.string tn,.int .i64 0,.string td,.int .i64 0] wx)
 case first =>
  rcases hT with ⟨rfl,rfl,rfl⟩ | ⟨rfl,rfl,rfl⟩
  ·have c0:=H1.out.blk.cell 0 (.string sn) rfl;have c1:=H1.out.blk.cell 1 (.int .i64 0) rfl;have c2:=H1.out.blk.cell 2 (.string sd) rfl;have c3:=H1.out.blk.cell 3 (.int .i64 0) rfl
   have f0:=H1.out.blk.free 0;have f1:=H1.out.blk.free 1;have f2:=H1.out.blk.free 2;have f3:=H1.out.blk.free 3
   go_wp2_with fail
   skip
   have HD:=Lib.hid (H1.out.next (Below.refl _ _).drew);clear H1;have H1:=HD;clear HD
   have c0:=H1.out.blk.cell 0 (.string sn) rfl;have c1:=H1.out.blk.cell 1 (.int .i64 0) rfl;have c2:=H1.out.blk.cell 2 (.string sd) rfl;have c3:=H1.out.blk.cell 3 (.int .i64 0) rfl
   have f0:=H1.out.blk.free 0;have f1:=H1.out.blk.free 1;have f2:=H1.out.blk.free 2;have f3:=H1.out.blk.free 3
   go_region_with (first | (go_at_call 306;refine (C.out.2.2.1 _ (by have:=H1.out.below;rwa [HK.out] at this)).mono ?_;rintro e wr ⟨rfl,hbw⟩;have HN:=Lib.hid (H1.out.next hbw);clear H1 hbw;have H1:=HN;clear HN;have c0:=H1.out.blk.cell 0 (.string sn) rfl;have c1:=H1.out.blk.cell 1 (.int .i64 0) rfl;have c2:=H1.out.blk.cell 2 (.string sd) rfl;have c3:=H1.out.blk.cell 3 (.int .i64 0) rfl;have f0:=H1.out.blk.free 0;have f1:=H1.out.blk.free 1;have f2:=H1.out.blk.free 2;have f3:=H1.out.blk.free 3) | (go_at_call 306;refine (C.out.2.2.2.1 _ (by have:=H1.out.below;rwa [HK.out] at this)).mono ?_;rintro e wr ⟨rfl,hbw⟩;have HN:=Lib.hid (H1.out.next hbw);clear H1 hbw;have H1:=HN;clear HN;have c0:=H1.out.blk.cell 0 (.string sn) rfl;have c1:=H1.out.blk.cell 1 (.int .i64 0) rfl;have c2:=H1.out.blk.cell 2 (.string sd) rfl;have c3:=H1.out.blk.cell 3 (.int .i64 0) rfl;have f0:=H1.out.blk.free 0;have f1:=H1.out.blk.free 1;have f2:=H1.out.blk.free 2;have f3:=H1.out.blk.free 3))
   all_goals
    have HP:=Lib.hid (H1.out.put4 (.string mn) (.int .i64 0) (.string md) (.int .i64 0))
    go_wp2_with fail
    go_meet
    exact HP.out
  ·go_wp2_with fail
   go_meet
   exact H1.out
 case rest =>
 clear H1
 have H1:=Lib.hid hcut;clear hcut hT
 have c0:=H1.out.blk.cell 0 (.string tn) rfl;have c1:=H1.out.blk.cell 1 (.int .i64 0) rfl;have c2:=H1.out.blk.cell 2 (.string td) rfl;have c3:=H1.out.blk.cell 3 (.int .i64 0) rfl
 go_wp2_with fail
 refine (C.out.2.2.2.2.1 _ (by have:=H1.out.below;rwa [HK.out] at this)).mono ?_
 rintro e w3 ⟨rfl,b⟩
 have H2:=Lib.hid (H1.out.next b);clear b H1;have H1:=H2;clear H2
 have c0:=H1.out.blk.cell 0 (.string tn) rfl;have c1:=H1.out.blk.cell 1 (.int .i64 0) rfl;have c2:=H1.out.blk.cell 2 (.string td) rfl;have c3:=H1.out.blk.cell 3 (.int .i64 0) rfl
 go_wp2_with fail
 have HM:=Lib.hid (Blk.new w3 #[.string sg,.int .i64 0] 66)
 have H2:=Lib.hid (H1.out.next ((Below.refl _ w3).alloc (Nat.le_refl _) (.cells #[.string sg,.int .i64 0] 66)))
 have hkj:k≠w3.heap.size:=by have:=H1.out.blk.lt;omega
 clear H1 c0 c1 c2 c3;have H1:=H2;clear H2
 generalize w3.alloc (.cells #[.string sg,.int .i64 0] 66)=w3' at *
 generalize w3.heap.size=j at *
 refine (C.out.2.2.2.2.2.1 _).mono ?_
 rintro e w4 ⟨rfl,b⟩
 have H2:=Lib.hid (H1.out.next b);clear H1;have H1:=H2;clear H2
 have HM2:=Lib.hid (HM.out.next b);clear HM b;have HM:=HM2;clear HM2
 have c0:=H1.out.blk.cell 0 (.string tn) rfl;have c1:=H1.out.blk.cell 1 (.int .i64 0) rfl;have c2:=H1.out.blk.cell 2 (.string td) rfl;have c3:=H1.out.blk.cell 3 (.int .i64 0) rfl
 have f0:=H1.out.blk.free 0;have f1:=H1.out.blk.free 1;have f2:=H1.out.blk.free 2;have f3:=H1.out.blk.free 3
 have m0:=HM.out.cell 0 (.string sg) rfl;have m1:=HM.out.cell 1 (.int .i64 0) rfl
 go_upto_region 8 with fail
 go_cut [] from 34 to 44 (fun wx=>BB w k #[.string qn,.int .i64 0,.string qd,.int .i64 0] wx)
 case first =>
  have HMN:=Lib.hid (HM.out.next (Below.refl _ _).drew);clear HM;have HM:=HMN;clear HMN;have m0:=HM.out.cell 0 (.string sg) rfl;have m1:=HM.out.cell 1 (.int .i64 0) rfl
  have HD:=Lib.hid (H1.out.next (Below.refl _ _).drew);clear H1;have H1:=HD;clear HD
  have c0:=H1.out.blk.cell 0 (.string tn) rfl;have c1:=H1.out.blk.cell 1 (.int .i64 0) rfl;have c2:=H1.out.blk.cell 2 (.string td) rfl;have c3:=H1.out.blk.cell 3 (.int .i64 0) rfl
  have f0:=H1.out.blk.free 0;have f1:=H1.out.blk.free 1;have f2:=H1.out.blk.free 2;have f3:=H1.out.blk.free 3
  go_region_with (first | (go_at_call 307;refine (C.out.2.2.2.2.2.2.1 _ (by have:=H1.out.below;rwa [HK.out] at this)).mono ?_;rintro e wr ⟨rfl,hbw⟩;have HMN:=Lib.hid (HM.out.next hbw);clear HM;have HM:=HMN;clear HMN;have m0:=HM.out.cell 0 (.string sg) rfl;have m1:=HM.out.cell 1 (.int .i64 0) rfl;have HN:=Lib.hid (H1.out.next hbw);clear H1 hbw;have H1:=HN;clear HN;have c0:=H1.out.blk.cell 0 (.string tn) rfl;have c1:=H1.out.blk.cell 1 (.int .i64 0) rfl;have c2:=H1.out.blk.cell 2 (.string td) rfl;have c3:=H1.out.blk.cell 3 (.int .i64 0) rfl;have f0:=H1.out.blk.free 0;have f1:=H1.out.blk.free 1;have f2:=H1.out.blk.free 2;have f3:=H1.out.blk.free 3) | (go_at_call 307;refine (C.out.2.2.2.2.2.2.2.1 _ (by have:=H1.out.below;rwa [HK.out] at this)).mono ?_;rintro e wr ⟨rfl,hbw⟩;have HMN:=Lib.hid (HM.out.next hbw);clear HM;have HM:=HMN;clear HMN;have m0:=HM.out.cell 0 (.string sg) rfl;have m1:=HM.out.cell 1 (.int .i64 0) rfl;have HN:=Lib.hid (H1.out.next hbw);clear H1 hbw;have H1:=HN;clear HN;have c0:=H1.out.blk.cell 0 (.string tn) rfl;have c1:=H1.out.blk.cell 1 (.int .i64 0) rfl;have c2:=H1.out.blk.cell 2 (.string td) rfl;have c3:=H1.out.blk.cell 3 (.int .i64 0) rfl;have f0:=H1.out.blk.free 0;have f1:=H1.out.blk.free 1;have f2:=H1.out.blk.free 2;have f3:=H1.out.blk.free 3))
  all_goals
   have HP:=Lib.hid (H1.out.put4 (.string qn) (.int .i64 0) (.string qd) (.int .i64 0))
   go_wp2_with fail
   go_meet
   exact HP.out
 case rest =>
 clear H1 c0 c1 c2 c3 f0 f1 f2 f3 HM m0 m1
 have H1:=Lib.hid hcut;clear hcut
 have c0:=H1.out.blk.cell 0 (.string qn) rfl;have c1:=H1.out.blk.cell 1 (.int .i64 0) rfl;have c2:=H1.out.blk.cell 2 (.string qd) rfl;have c3:=H1.out.blk.cell 3 (.int .i64 0) rfl
 go_wp2_with fail
 refine (C.out.2.2.2.2.2.2.2.2 _ (by have:=H1.out.below;rwa [HK.out] at this)).mono ?_
 rintro e w5 ⟨rfl,b⟩
 have H2:=Lib.hid (H1.out.below.trans (b.mono H1.out.below.size))
 clear b c0 c1 c2 c3
 go_wp2
 go_ret2
 exact ⟨rfl,by have:=H2.out;rwa [HK.out] at this ⊢⟩
def lowOB:Option Int→Option Int→ByteArray
 | some n,some d=>strQ (Rat.divInt n d)
 | _,_=>⟨#[]⟩
def lowOE:Option Int→Option Int→Int
 | some _,some _=>0
 | _,_=>4
end Go.Proofs.YtjdfjgfdbgmbiaaGreatDoor
