/- Parts of the proof of the text YtjdomibbaemdnaaGreatDoorZK42. -/
import Derived.Test.YtjdomibbaemdnaaGreatDoorZK1
import Derived.Test.YtjdomibbaemdnaaGreatDoorZK16
import Derived.Test.YtjdomibbaemdnaaGreatDoorZK17
import Derived.Test.YtjdomibbaemdnaaGreatDoorZK20
import Derived.Test.YtjdomibbaemdnaaGreatDoorZK21
import Derived.Test.YtjdomibbaemdnaaGreatDoorZK7
import Derived.Test.YtjdomibbaemdnaaGreatDoorZK8
import Derived.Test.YtjdomibbaemdnaaGreatDoorZK9
set_option linter.all false
set_option maxRecDepth 100000
set_option maxHeartbeats 8000000
namespace Go.Proofs.YtjdomibbaemdnaaGreatDoor
section
open Go.RowKit
theorem qL (n d N D:Int) (o:Bool) (w:World) (hn:short n) (hd:short d) (hN:short N) (hD:short D) (hs:0<D) (ho:decide (d<0)=o) (hS:(o=true∧N = -n∧D = -d)∨(o=false∧N=n∧D=d)) (hg:¬ aE N D=1) (ht:Tab w) :
  Calls Tryz.prog 131 #[.agg #[.string (aa n),.int .i64 0,.string (aa d),.int .i64 0]] w fun e W'=>e = .returned (.tuple #[.string (dc (N.fdiv (aE N D)) (D.fdiv (aE N D))),.int .i64 0])∧Below w.heap.size w W':=by
 have cf:∀ W,Calls Tryz.prog 177 #[.agg #[.string (aa n),.int .i64 0,.string (aa d),.int .i64 0]] W fun e W'=>e = .returned (.int .i64 0)∧Below W.heap.size W W':=fun W=>lc n (some d) W
 have cn:=fun W=>qC d W
 rw [ho] at cn
 have co1:=fun W (hW:Below w.heap.size w W)=>jc n W hn (ht.next hW)
 have co2:=fun W (hW:Below w.heap.size w W)=>jc d W hd (ht.next hW)
 have cg:=fun W (hW:Below w.heap.size w W)=>ld N D W hN hD (ht.next hW)
 have c1:=fun W=>jV (aE N D) W
 rw [show (decide (aE N D=1))=false by simpa using hg] at c1
 have hgp:=j2 (n:=N) (d:=D) (by omega)
 have hgs:=ic hN hD
 have cv1:=fun W (hW:Below w.heap.size w W)=>mR N (aE N D) W hN hgs (by omega) (ht.next hW)
 have cv2:=fun W (hW:Below w.heap.size w W)=>mR D (aE N D) W hD hgs (by omega) (ht.next hW)
 have ct:=fun W (_:Below w.heap.size w W)=>oE (N.fdiv (aE N D)) (D.fdiv (aE N D)) W (dW hN (by omega)) (dW hD (by omega))
 clear hgp hgs
 have hT:(o=true∧aa (-n)=aa N∧aa (-d)=aa D)∨(o=false∧aa n=aa N∧aa d=aa D):=by
  rcases hS with ⟨h1,h2,h3⟩ | ⟨h1,h2,h3⟩
  ·exact .inl ⟨h1,by rw [h2],by rw [h3]⟩
  ·exact .inr ⟨h1,by rw [h2],by rw [h3]⟩
 have C:=Ha (Hb cf (Hb cn (Hb co1 (Hb co2 (Hb cg (Hb c1 (Hb cv1 (Hb cv2 ct))))))))
 clear cf cn co1 co2 cg c1 cv1 cv2 ct ht hn hd hN hD hs hg ho hS
 generalize dc (N.fdiv (aE N D)) (D.fdiv (aE N D))=res at *
 generalize aa (N.fdiv (aE N D))=qn at *
 generalize aa (D.fdiv (aE N D))=qd at *
 generalize aa (aE N D)=sg at *
 generalize aa (-n)=mn at *
 generalize aa (-d)=md at *
 generalize aa N=tn at *
 generalize aa D=td at *
 generalize aa n=sn at *
 generalize aa d=sd at *
 go_enter Tryz.func131,Tryz.ntmps131
 go_wp2_with fail
 have hb:BB w w.heap.size #[.string sn,.int .i64 0,.string sd,.int .i64 0] (w.alloc (.cells #[.string sn,.int .i64 0,.string sd,.int .i64 0] 140)):=BB.new w _ _
 generalize w.alloc (.cells #[.string sn,.int .i64 0,.string sd,.int .i64 0] 140)=W0 at *
 generalize hk:w.heap.size=k at *
 have HK:=Ha hk;clear hk
 have HB:=Ha hb;clear hb
 refine (C.out.1 _).mono ?_
 rintro e w1 ⟨rfl,b⟩
 have H1:=Ha (HB.out.next b);clear b HB
 have c0:=H1.out.blk.cell 0 (.string sn) rfl;have c1:=H1.out.blk.cell 1 (.int .i64 0) rfl;have c2:=H1.out.blk.cell 2 (.string sd) rfl;have c3:=H1.out.blk.cell 3 (.int .i64 0) rfl
 go_wp2_with fail
 refine (C.out.2.1 _).mono ?_
 rintro e w2 ⟨rfl,b⟩
 have H2:=Ha (H1.out.next b);clear b H1;have H1:=H2;clear H2
 clear c0 c1 c2 c3
 go_upto_if 14 with fail
 go_cut [] from 15 to 23 (fun wx=>BB w k #[.string tn,.int .i64 0,.string td,.int .i64 0] wx)
 case first =>
  rcases hT with ⟨rfl,rfl,rfl⟩ | ⟨rfl,rfl,rfl⟩
  ·have c0:=H1.out.blk.cell 0 (.string sn) rfl;have c1:=H1.out.blk.cell 1 (.int .i64 0) rfl;have c2:=H1.out.blk.cell 2 (.string sd) rfl;have c3:=H1.out.blk.cell 3 (.int .i64 0) rfl
   have f0:=H1.out.blk.free 0;have f1:=H1.out.blk.free 1;have f2:=H1.out.blk.free 2;have f3:=H1.out.blk.free 3
   go_wp2_with fail
   skip
   have HD:=Ha (H1.out.next (Below.refl _ _).drew);clear H1;have H1:=HD;clear HD
   have c0:=H1.out.blk.cell 0 (.string sn) rfl;have c1:=H1.out.blk.cell 1 (.int .i64 0) rfl;have c2:=H1.out.blk.cell 2 (.string sd) rfl;have c3:=H1.out.blk.cell 3 (.int .i64 0) rfl
   have f0:=H1.out.blk.free 0;have f1:=H1.out.blk.free 1;have f2:=H1.out.blk.free 2;have f3:=H1.out.blk.free 3
   go_region_with (first | (go_at_call 283;refine (C.out.2.2.1 _ (by have:=H1.out.below;rwa [HK.out] at this)).mono ?_;rintro e wr ⟨rfl,hbw⟩;have HN:=Ha (H1.out.next hbw);clear H1 hbw;have H1:=HN;clear HN;have c0:=H1.out.blk.cell 0 (.string sn) rfl;have c1:=H1.out.blk.cell 1 (.int .i64 0) rfl;have c2:=H1.out.blk.cell 2 (.string sd) rfl;have c3:=H1.out.blk.cell 3 (.int .i64 0) rfl;have f0:=H1.out.blk.free 0;have f1:=H1.out.blk.free 1;have f2:=H1.out.blk.free 2;have f3:=H1.out.blk.free 3) | (go_at_call 283;refine (C.out.2.2.2.1 _ (by have:=H1.out.below;rwa [HK.out] at this)).mono ?_;rintro e wr ⟨rfl,hbw⟩;have HN:=Ha (H1.out.next hbw);clear H1 hbw;have H1:=HN;clear HN;have c0:=H1.out.blk.cell 0 (.string sn) rfl;have c1:=H1.out.blk.cell 1 (.int .i64 0) rfl;have c2:=H1.out.blk.cell 2 (.string sd) rfl;have c3:=H1.out.blk.cell 3 (.int .i64 0) rfl;have f0:=H1.out.blk.free 0;have f1:=H1.out.blk.free 1;have f2:=H1.out.blk.free 2;have f3:=H1.out.blk.free 3))
   all_goals
    have HP:=Ha (H1.out.put4 (.string mn) (.int .i64 0) (.string md) (.int .i64 0))
    go_wp2_with fail
    go_meet
    exact HP.out
  ·go_wp2_with fail
   go_meet
   exact H1.out
 case rest =>
 clear H1
 have H1:=Ha hcut;clear hcut hT
 have c0:=H1.out.blk.cell 0 (.string tn) rfl;have c1:=H1.out.blk.cell 1 (.int .i64 0) rfl;have c2:=H1.out.blk.cell 2 (.string td) rfl;have c3:=H1.out.blk.cell 3 (.int .i64 0) rfl
 go_wp2_with fail
 refine (C.out.2.2.2.2.1 _ (by have:=H1.out.below;rwa [HK.out] at this)).mono ?_
 rintro e w3 ⟨rfl,b⟩
 have H2:=Ha (H1.out.next b);clear b H1;have H1:=H2;clear H2
 have c0:=H1.out.blk.cell 0 (.string tn) rfl;have c1:=H1.out.blk.cell 1 (.int .i64 0) rfl;have c2:=H1.out.blk.cell 2 (.string td) rfl;have c3:=H1.out.blk.cell 3 (.int .i64 0) rfl
 go_wp2_with fail
 have HM:=Ha (Blk.new w3 #[.string sg,.int .i64 0] 103)
 have H2:=Ha (H1.out.next ((Below.refl _ w3).alloc (Nat.le_refl _) (.cells #[.string sg,.int .i64 0] 103)))
 have hkj:k≠w3.heap.size:=by have:=H1.out.blk.lt;omega
 clear H1 c0 c1 c2 c3;have H1:=H2;clear H2
 generalize w3.alloc (.cells #[.string sg,.int .i64 0] 103)=w3' at *
 generalize w3.heap.size=j at *
 refine (C.out.2.2.2.2.2.1 _).mono ?_
 rintro e w4 ⟨rfl,b⟩
 have H2:=Ha (H1.out.next b);clear H1;have H1:=H2;clear H2
 have HM2:=Ha (HM.out.next b);clear HM b;have HM:=HM2;clear HM2
 have c0:=H1.out.blk.cell 0 (.string tn) rfl;have c1:=H1.out.blk.cell 1 (.int .i64 0) rfl;have c2:=H1.out.blk.cell 2 (.string td) rfl;have c3:=H1.out.blk.cell 3 (.int .i64 0) rfl
 have f0:=H1.out.blk.free 0;have f1:=H1.out.blk.free 1;have f2:=H1.out.blk.free 2;have f3:=H1.out.blk.free 3
 have m0:=HM.out.cell 0 (.string sg) rfl;have m1:=HM.out.cell 1 (.int .i64 0) rfl
 go_upto_region 8 with fail
 go_cut [] from 34 to 44 (fun wx=>BB w k #[.string qn,.int .i64 0,.string qd,.int .i64 0] wx)
 case first =>
  have HMN:=Ha (HM.out.next (Below.refl _ _).drew);clear HM;have HM:=HMN;clear HMN;have m0:=HM.out.cell 0 (.string sg) rfl;have m1:=HM.out.cell 1 (.int .i64 0) rfl
  have HD:=Ha (H1.out.next (Below.refl _ _).drew);clear H1;have H1:=HD;clear HD
  have c0:=H1.out.blk.cell 0 (.string tn) rfl;have c1:=H1.out.blk.cell 1 (.int .i64 0) rfl;have c2:=H1.out.blk.cell 2 (.string td) rfl;have c3:=H1.out.blk.cell 3 (.int .i64 0) rfl
  have f0:=H1.out.blk.free 0;have f1:=H1.out.blk.free 1;have f2:=H1.out.blk.free 2;have f3:=H1.out.blk.free 3
  go_region_with (first | (go_at_call 284;refine (C.out.2.2.2.2.2.2.1 _ (by have:=H1.out.below;rwa [HK.out] at this)).mono ?_;rintro e wr ⟨rfl,hbw⟩;have HMN:=Ha (HM.out.next hbw);clear HM;have HM:=HMN;clear HMN;have m0:=HM.out.cell 0 (.string sg) rfl;have m1:=HM.out.cell 1 (.int .i64 0) rfl;have HN:=Ha (H1.out.next hbw);clear H1 hbw;have H1:=HN;clear HN;have c0:=H1.out.blk.cell 0 (.string tn) rfl;have c1:=H1.out.blk.cell 1 (.int .i64 0) rfl;have c2:=H1.out.blk.cell 2 (.string td) rfl;have c3:=H1.out.blk.cell 3 (.int .i64 0) rfl;have f0:=H1.out.blk.free 0;have f1:=H1.out.blk.free 1;have f2:=H1.out.blk.free 2;have f3:=H1.out.blk.free 3) | (go_at_call 284;refine (C.out.2.2.2.2.2.2.2.1 _ (by have:=H1.out.below;rwa [HK.out] at this)).mono ?_;rintro e wr ⟨rfl,hbw⟩;have HMN:=Ha (HM.out.next hbw);clear HM;have HM:=HMN;clear HMN;have m0:=HM.out.cell 0 (.string sg) rfl;have m1:=HM.out.cell 1 (.int .i64 0) rfl;have HN:=Ha (H1.out.next hbw);clear H1 hbw;have H1:=HN;clear HN;have c0:=H1.out.blk.cell 0 (.string tn) rfl;have c1:=H1.out.blk.cell 1 (.int .i64 0) rfl;have c2:=H1.out.blk.cell 2 (.string td) rfl;have c3:=H1.out.blk.cell 3 (.int .i64 0) rfl;have f0:=H1.out.blk.free 0;have f1:=H1.out.blk.free 1;have f2:=H1.out.blk.free 2;have f3:=H1.out.blk.free 3))
  all_goals
   have HP:=Ha (H1.out.put4 (.string qn) (.int .i64 0) (.string qd) (.int .i64 0))
   go_wp2_with fail
   go_meet
   exact HP.out
 case rest =>
 clear H1 c0 c1 c2 c3 f0 f1 f2 f3 HM m0 m1
 have H1:=Ha hcut;clear hcut
 have c0:=H1.out.blk.cell 0 (.string qn) rfl;have c1:=H1.out.blk.cell 1 (.int .i64 0) rfl;have c2:=H1.out.blk.cell 2 (.string qd) rfl;have c3:=H1.out.blk.cell 3 (.int .i64 0) rfl
 go_wp2_with fail
 refine (C.out.2.2.2.2.2.2.2.2 _ (by have:=H1.out.below;rwa [HK.out] at this)).mono ?_
 rintro e w5 ⟨rfl,b⟩
 have H2:=Ha (H1.out.below.trans (b.mono H1.out.below.size))
 clear b c0 c1 c2 c3
 go_wp2
 go_ret2
 exact ⟨rfl,by have:=H2.out;rwa [HK.out] at this ⊢⟩
end
end Go.Proofs.YtjdomibbaemdnaaGreatDoor
