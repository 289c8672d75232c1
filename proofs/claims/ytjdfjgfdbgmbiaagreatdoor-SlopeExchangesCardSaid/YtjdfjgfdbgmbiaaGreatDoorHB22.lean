/- Parts of the proof of the text YtjdfjgfdbgmbiaaGreatDoorHB39. -/
import Derived.Deep.CutRange
import Derived.Deep.RegionWith
import Derived.Test.YtjdfjgfdbgmbiaaGreatDoorHB1
import Derived.Test.YtjdfjgfdbgmbiaaGreatDoorHB16
import Derived.Test.YtjdfjgfdbgmbiaaGreatDoorHB18
import Derived.Test.YtjdfjgfdbgmbiaaGreatDoorHB19
import Derived.Test.YtjdfjgfdbgmbiaaGreatDoorHB20
import Derived.Test.YtjdfjgfdbgmbiaaGreatDoorHB21
set_option linter.all false
set_option maxRecDepth 100000
set_option maxHeartbeats 8000000
namespace Go.Proofs.YtjdfjgfdbgmbiaaGreatDoor
open Go.RowKit
theorem fitL_none (p:Option Int) (w:World) :
  Calls Tryz.prog 80 #[.agg #[.string (LB none),.int .i64 (LE none),.string (LB p),.int .i64 (LE p)]] w fun e W'=>e = .returned (.int .i64 4)∧Below w.heap.size w W':=by
 have c:=fun W=>long_err none W
 rw [show LE none=4 from rfl] at c ⊢
 have C:=Lib.hid c;clear c
 generalize LB none=nb at *
 generalize LB p=pb at *
 generalize LE p=pe at *
 go_enter Tryz.func80,Tryz.ntmps80
 go_wp2_with fail
 refine (C.out _).mono ?_
 rintro e w1 ⟨rfl,b⟩
 have B:=Lib.hid (((Below.refl _ w).alloc (Nat.le_refl _) _).trans (b.mono (by simp)))
 clear b
 go_wp2
 go_ret
 exact ⟨rfl,B.out⟩
theorem fitL_some (n:Int) (p:Option Int) (w:World) :
  Calls Tryz.prog 80 #[.agg #[.string (strB n),.int .i64 0,.string (LB p),.int .i64 (LE p)]] w fun e W'=>e = .returned (.int .i64 (LE p))∧Below w.heap.size w W':=by
 have c:∀ W,Calls Tryz.prog 304 #[.agg #[.string (strB n),.int .i64 0]] W fun e W'=>e = .returned (.int .i64 0)∧Below W.heap.size W W':=fun W=>long_err (some n) W
 have C:=Lib.hid (And.intro c (fun W=>long_err p W));clear c
 generalize strB n=nb at *
 generalize LB p=pb at *
 generalize LE p=pe at *
 go_enter Tryz.func80,Tryz.ntmps80
 go_wp2_with fail
 have hb:BB w w.heap.size #[.string nb,.int .i64 0,.string pb,.int .i64 pe] (w.alloc (.cells #[.string nb,.int .i64 0,.string pb,.int .i64 pe] 87)):=BB.new w _ _
 generalize w.alloc (.cells #[.string nb,.int .i64 0,.string pb,.int .i64 pe] 87)=W0 at *
 generalize hk:w.heap.size=k at *
 have HK:=Lib.hid hk;clear hk
 have HB:=Lib.hid hb;clear hb
 refine (C.out.1 _).mono ?_
 rintro e w1 ⟨rfl,b⟩
 have H1:=Lib.hid (HB.out.next b);clear b HB
 have c0:=H1.out.blk.cell 0 (.string nb) rfl;have c1:=H1.out.blk.cell 1 (.int .i64 0) rfl;have c2:=H1.out.blk.cell 2 (.string pb) rfl;have c3:=H1.out.blk.cell 3 (.int .i64 pe) rfl
 go_wp2_with fail
 refine (C.out.2 _).mono ?_
 rintro e w2 ⟨rfl,b⟩
 have H2:=Lib.hid (H1.out.below.trans (b.mono H1.out.below.size))
 clear b c0 c1 c2 c3
 go_wp2
 go_ret
 exact ⟨rfl,by have:=H2.out;rwa [HK.out] at this ⊢⟩
theorem neg_short {z:Int} (h:short z):short (-z):=by show Int.natAbs (-z)<lim;rw [Int.natAbs_neg];exact h
theorem long_opp1 (n:Int) (w:World) (hn:short n) (ht:Tab w) :
  Calls Tryz.prog 306 #[.agg #[.string (strB n),.int .i64 0]] w fun e W'=>e = .returned (.agg #[.string (strB (-n)),.int .i64 0])∧Below w.heap.size w W':=by
 have c:=long_opp (some n) w (some_wf hn) ht
 rw [show opL (· - ·) (some 0) (some n)=some (-n) by show mkL (0 - n)=_;rw [Int.zero_sub,mkL_some (neg_short hn)]] at c
 exact c
theorem long_div1 (n d:Int) (w:World) (hn:short n) (hd:short d) (ht:Tab w) :
  Calls Tryz.prog 100 #[.agg #[.string (strB n),.int .i64 0],.agg #[.string (strB d),.int .i64 0]] w fun e W'=>e = .returned (.agg #[.string (strB (gcdZ n d)),.int .i64 0])∧Below w.heap.size w W':=by
 have c:=long_divisor (some n) (some d) w (some_wf hn) (some_wf hd) ht
 rw [show opL gcdZ (some n) (some d)=some (gcdZ n d) by show mkL _=_;rw [mkL_some (gcdZ_short hn hd)]] at c
 exact c
theorem long_over1 (n d:Int) (w:World) (hn:short n) (hd:short d) (h0:d≠0) (ht:Tab w) :
  Calls Tryz.prog 307 #[.agg #[.string (strB n),.int .i64 0],.agg #[.string (strB d),.int .i64 0]] w fun e W'=>e = .returned (.agg #[.string (strB (n.fdiv d)),.int .i64 0])∧Below w.heap.size w W':=by
 have c:=long_over (some n) (some d) w (some_wf hn) (some_wf hd) (fun e=>h0 (Option.some.inj e)) ht
 rw [show opL Int.fdiv (some n) (some d)=some (n.fdiv d) by show mkL _=_;rw [mkL_some (fdiv_short hn h0)]] at c
 exact c
theorem lowestL_bad (o p:Option Int) (w:World) (h:o=none∨p=none) :
  Calls Tryz.prog 61 #[.agg #[.string (LB o),.int .i64 (LE o),.string (LB p),.int .i64 (LE p)]] w fun e W'=>e = .returned (.tuple #[.string ⟨#[]⟩,.int .i64 4])∧Below w.heap.size w W':=by
 have c:∀ W,Calls Tryz.prog 80 #[.agg #[.string (LB o),.int .i64 (LE o),.string (LB p),.int .i64 (LE p)]] W fun e W'=>e = .returned (.int .i64 4)∧Below W.heap.size W W':=fun W=>by
  cases o with
  | none=>exact fitL_none p W
  | some n =>
   have hp:=h.resolve_left (by simp)
   subst hp
   exact fitL_some n none W
 have C:=Lib.hid c
 clear c h
 generalize LB o=ob at *
 generalize LE o=oe at *
 generalize LB p=pb at *
 generalize LE p=pe at *
 go_enter Tryz.func61,Tryz.ntmps61
 go_wp2_with fail
 refine (C.out _).mono ?_
 rintro e w1 ⟨rfl,b⟩
 have B:=Lib.hid (((Below.refl _ w).alloc (Nat.le_refl _) _).trans (b.mono (by simp)))
 clear b
 go_wp2
 go_ret2
 exact ⟨rfl,B.out⟩
theorem lowestL_one (n d N D:Int) (o:Bool) (w:World) (hn:short n) (hd:short d) (hN:short N) (hD:short D) (hs:0<D) (ho:decide (d<0)=o) (hS:(o=true∧N = -n∧D = -d)∨(o=false∧N=n∧D=d)) (hg:gcdZ N D=1) (ht:Tab w) :
  Calls Tryz.prog 61 #[.agg #[.string (strB n),.int .i64 0,.string (strB d),.int .i64 0]] w fun e W'=>e = .returned (.tuple #[.string (strT N D),.int .i64 0])∧Below w.heap.size w W':=by
 have cf:∀ W,Calls Tryz.prog 80 #[.agg #[.string (strB n),.int .i64 0,.string (strB d),.int .i64 0]] W fun e W'=>e = .returned (.int .i64 0)∧Below W.heap.size W W':=fun W=>fitL_some n (some d) W
 have cn:=fun W=>long_neg d W
 rw [ho] at cn
 have co1:=fun W (hW:Below w.heap.size w W)=>long_opp1 n W hn (ht.next hW)
 have co2:=fun W (hW:Below w.heap.size w W)=>long_opp1 d W hd (ht.next hW)
 have cg:=fun W (hW:Below w.heap.size w W)=>long_div1 N D W hN hD (ht.next hW)
 have c1:=fun W=>long_one (gcdZ N D) W
 rw [show (decide (gcdZ N D=1))=true by simpa using hg] at c1
 have cv1:=trivial
 have cv2:=trivial
 have ct:=fun W (_:Below w.heap.size w W)=>textL_any N D W hN hD
 have hT:(o=true∧strB (-n)=strB N∧strB (-d)=strB D)∨(o=false∧strB n=strB N∧strB d=strB D):=by
  rcases hS with ⟨h1,h2,h3⟩ | ⟨h1,h2,h3⟩
  ·exact .inl ⟨h1,by rw [h2],by rw [h3]⟩
  ·exact .inr ⟨h1,by rw [h2],by rw [h3]⟩
 have C:=Lib.hid (And.intro cf (And.intro cn (And.intro co1 (And.intro co2 (And.intro cg (And.intro c1 (And.intro cv1 (And.intro cv2 ct))))))))
 clear cf cn co1 co2 cg c1 cv1 cv2 ct ht hn hd hN hD hs hg ho hS
 generalize strT N D=res at *
 generalize strB (gcdZ N D)=sg at *
 generalize strB (-n)=mn at *
 generalize strB (-d)=md at *
 generalize strB N=tn at *
 generalize strB D=td at *
 generalize strB n=sn at *
 generalize strB d=sd at *
 go_enter Tryz.func61,Tryz.ntmps61
 go_wp2_with fail
 have hb:BB w w.heap.size #[.string sn,.int .i64 0,.string sd,.int .i64 0] (w.alloc (.cells #[.string sn,.int .i64 0,.string sd,.int .i64 0] 87)):=BB.new w _ _
 generalize w.alloc (.cells #[.string sn,.int .i64 0,.string sd,.int .i64 0] 87)=W0 at *
 generalize hk:w.heap.size=k at *
 have HK:=Lib.hid hk;clear hk
 have HB:=Lib.hid hb;clear hb
 refine (C.out.1 _).mono ?_
 rintro e w1 ⟨rfl,b⟩
 have H1:=Lib.hid (HB.out.next b);clear b HB
 have c0:=H1.out.blk.cell 0 (.string sn) rfl;have c1:=H1.out.blk.cell 1 (.int .i64 0) rfl;have c2:=H1.out.blk.cell 2 (.string sd) rfl;have c3:=H1.out.blk.cell 3 (.int .i64 0) rfl
 go_wp2_with fail
 refine (C.out.2.1 _).mono ?_
 rintro e w2 ⟨rfl,b⟩
 have H2:=Lib.hid (H1.out.next b);clear b H1;have H1:=H2;clear H2
 clear c0 c1 c2 c3
 go_upto_if 14 with fail
 go_cut [] from 15 to 23 (fun wx=>BB w k #[.string tn,.int .i64 0,.string td,.int .i64 0] wx)
 case first =>
  rcases hT with ⟨rfl,rfl,rfl⟩ | ⟨rfl,rfl,rfl⟩
  ·have c0:=H1.out.blk.cell 0 (.string sn) rfl;have c1:=H1.out.blk.cell 1 (.int .i64 0) rfl;have c2:=H1.out.blk.cell 2 (.string sd) rfl;have c3:=H1.out.blk.cell 3 (.int .i64 0) rfl
   have f0:=H1.out.blk.free 0;have f1:=H1.out.blk.free 1;have f2:=H1.out.blk.free 2;have f3:=H1.out.blk.free 3
   go_wp2_with fail
   skip
   have HD:=Lib.hid (H1.out.next (Below.refl _ _).drew);clear H1;have H1:=HD;clear HD
   have c0:=H1.out.blk.cell 0 (.string sn) rfl;have c1:=H1.out.blk.cell 1 (.int .i64 0) rfl;have c2:=H1.out.blk.cell 2 (.string sd) rfl;have c3:=H1.out.blk.cell 3 (.int .i64 0) rfl
   have f0:=H1.out.blk.free 0;have f1:=H1.out.blk.free 1;have f2:=H1.out.blk.free 2;have f3:=H1.out.blk.free 3
   go_region_with (first | (go_at_call 306;refine (C.out.2.2.1 _ (by have:=H1.out.below;rwa [HK.out] at this)).mono ?_;rintro e wr ⟨rfl,hbw⟩;have HN:=Lib.hid (H1.out.next hbw);clear H1 hbw;have H1:=HN;clear HN;have c0:=H1.out.blk.cell 0 (.string sn) rfl;have c1:=H1.out.blk.cell 1 (.int .i64 0) rfl;have c2:=H1.out.blk.cell 2 (.string sd) rfl;have c3:=H1.out.blk.cell 3 (.int .i64 0) rfl;have f0:=H1.out.blk.free 0;have f1:=H1.out.blk.free 1;have f2:=H1.out.blk.free 2;have f3:=H1.out.blk.free 3) | (go_at_call 306;refine (C.out.2.2.2.1 _ (by have:=H1.out.below;rwa [HK.out] at this)).mono ?_;rintro e wr ⟨rfl,hbw⟩;have HN:=Lib.hid (H1.out.next hbw);clear H1 hbw;have H1:=HN;clear HN;have c0:=H1.out.blk.cell 0 (.string sn) rfl;have c1:=H1.out.blk.cell 1 (.int .i64 0) rfl;have c2:=H1.out.blk.cell 2 (.string sd) rfl;have c3:=H1.out.blk.cell 3 (.int .i64 0) rfl;have f0:=H1.out.blk.free 0;have f1:=H1.out.blk.free 1;have f2:=H1.out.blk.free 2;have f3:=H1.out.blk.free 3))
   all_goals
    have HP:=Lib.hid (H1.out.put4 (.string mn) (.int .i64 0) (.string md) (.int .i64 0))
    go_wp2_with fail
    go_meet
    exact HP.out
  ·go_wp2_with fail
   go_meet
   exact H1.out
 case rest =>
 clear H1
 have H1:=Lib.hid hcut;clear hcut hT
 have c0:=H1.out.blk.cell 0 (.string tn) rfl;have c1:=H1.out.blk.cell 1 (.int .i64 0) rfl;have c2:=H1.out.blk.cell 2 (.string td) rfl;have c3:=H1.out.blk.cell 3 (.int .i64 0) rfl
 go_wp2_with fail
 refine (C.out.2.2.2.2.1 _ (by have:=H1.out.below;rwa [HK.out] at this)).mono ?_
 rintro e w3 ⟨rfl,b⟩
 have H2:=Lib.hid (H1.out.next b);clear b H1;have H1:=H2;clear H2
 have c0:=H1.out.blk.cell 0 (.string tn) rfl;have c1:=H1.out.blk.cell 1 (.int .i64 0) rfl;have c2:=H1.out.blk.cell 2 (.string td) rfl;have c3:=H1.out.blk.cell 3 (.int .i64 0) rfl
 go_wp2_with fail
 have HM:=Lib.hid (Blk.new w3 #[.string sg,.int .i64 0] 66)
 have H2:=Lib.hid (H1.out.next ((Below.refl _ w3).alloc (Nat.le_refl _) (.cells #[.string sg,.int .i64 0] 66)))
 have hkj:k≠w3.heap.size:=by have:=H1.out.blk.lt;omega
 clear H1 c0 c1 c2 c3;have H1:=H2;clear H2
 generalize w3.alloc (.cells #[.string sg,.int .i64 0] 66)=w3' at *
 generalize w3.heap.size=j at *
 refine (C.out.2.2.2.2.2.1 _).mono ?_
 rintro e w4 ⟨rfl,b⟩
 have H2:=Lib.hid (H1.out.next b);clear H1;have H1:=H2;clear H2
 have HM2:=Lib.hid (HM.out.next b);clear HM b;have HM:=HM2;clear HM2
 have c0:=H1.out.blk.cell 0 (.string tn) rfl;have c1:=H1.out.blk.cell 1 (.int .i64 0) rfl;have c2:=H1.out.blk.cell 2 (.string td) rfl;have c3:=H1.out.blk.cell 3 (.int .i64 0) rfl
 go_wp2_with fail
 refine (C.out.2.2.2.2.2.2.2.2 _ (by have:=H1.out.below;rwa [HK.out] at this)).mono ?_
 rintro e w5 ⟨rfl,b⟩
 have H2:=Lib.hid (H1.out.below.trans (b.mono H1.out.below.size))
 clear b c0 c1 c2 c3
 go_wp2
 go_ret2
 exact ⟨rfl,by have:=H2.out;rwa [HK.out] at this ⊢⟩
def rlN (s:ByteArray):ByteArray:=if chkQ s.data.toList=0 then bN s else ⟨#[]⟩
def rlD (s:ByteArray):ByteArray:=if chkQ s.data.toList=0 then bD s else ⟨#[]⟩
theorem rl_bad {s:ByteArray} {r:Int} (h:chkQ s.data.toList=r) (hr:r≠0):rlN s=⟨#[]⟩∧rlD s=⟨#[]⟩∧chkQ s.data.toList=r :=
 ⟨if_neg (by rw [h];exact hr),if_neg (by rw [h];exact hr),h⟩
theorem rl_good {s:ByteArray} (h:chkQ s.data.toList=0):rlN s=bN s∧rlD s=bD s:=⟨if_pos h,if_pos h⟩
theorem toList_48 (s:ByteArray) (l:List UInt8):(s.toList==l)=(s.data.toList==l):=by rw [ByteArray.toList_eq]
theorem bool_ne {a b:Int} (h:a≠b):(a==b)=false∧(a != b)=true:=by
 constructor
 ·rw [beq_eq_false_iff_ne];exact h
 ·rw [bne_iff_ne];exact h
theorem str_chk {s:ByteArray} (h:chk s.data.toList=0):s=strB (valOf s.data.toList):=bytes_ext (by rw [strB_data,itoa_valOf _ h])
theorem chk_short {l:List UInt8} (h:chk l=0):short (valOf l):=by
 have h1:=chk_itoa (valOf l)
 rw [itoa_valOf _ h,h] at h1
 show Int.natAbs _<lim
 by_cases q:(valOf l).natAbs<lim
 ·exact q
 ·rw [if_neg q] at h1;cases h1
theorem readLong_any (s:ByteArray) (w:World) (hs:s.size≤maxLen) (ht:Tab w) :
  Calls Tryz.prog 70 #[.string s] w fun e W'=>e = .returned (.tuple #[.agg #[.string (rlN s),.int .i64 0,.string (rlD s),.int .i64 0],.int .i64 (chkQ s.data.toList)])∧Below w.heap.size w W':=by
 have hm1:1≤maxLen:=by unfold maxLen;omega
 have hD:(bD s).size≤maxLen:=by
  by_cases h0:0<s.size
  ·exact Nat.le_trans (bD_size s h0) hs
  ·have h1:=data_nil (s:=s) (by omega)
   rw [←size_len,bD_data,h1];exact hm1
 have kc:=fun W (_:Below w.heap.size w W)=>cut_any s W hs
 have k1:CqB w 99 #[.string (bN s)] (.int .i64 (chk (cutN s.data.toList))):=fun W _=>by
  have c:=check_any (bN s) W (Nat.le_trans (bN_size s) hs)
  rw [bN_data] at c
  exact c.mono fun e W' h=>⟨h.1,by rw [←h.2];exact Below.refl _ _⟩
 have k2:CqB w 99 #[.string (bD s)] (.int .i64 (chk (cutD s.data.toList))):=fun W _=>by
  have c:=check_any (bD s) W hD
  rw [bD_data] at c
  exact c.mono fun e W' h=>⟨h.1,by rw [←h.2];exact Below.refl _ _⟩
 by_cases e1:chk (cutN s.data.toList)=11
 ·have hq:chkQ s.data.toList=11:=by
   unfold chkQ
   rw [if_pos]
   unfold formQ;rw [e1];rfl
  obtain ⟨q1,q2,q3⟩:=rl_bad hq (by decide)
  rw [e1] at k1
  rw [q1,q2,q3]
  exact rl_n s (bN s) (bD s) _ _ w kc k1 k2
 have n1:=bool_ne e1
 by_cases e2:chk (cutD s.data.toList)=11
 ·have hq:chkQ s.data.toList=11:=by
   unfold chkQ
   rw [if_pos]
   unfold formQ;rw [e2];simp
  obtain ⟨q1,q2,q3⟩:=rl_bad hq (by decide)
  rw [e2] at k2
  rw [q1,q2,q3]
  exact rl_d s (bN s) (bD s) _ _ w n1.1 n1.2 kc k1 k2
 have n2:=bool_ne e2
 have hp:0<(bD s).size:=by
  rcases Nat.eq_zero_or_pos (bD s).size with h | h
  ·exfalso;apply e2
   rw [←bD_data,data_nil h];decide
  ·exact h
 have hp':(0:Int)<(bD s).size:=by omega
 have hng:=isNeg_pos hp
 rw [bD_data] at hng
 by_cases hn1:isNeg (cutD s.data.toList)=true
 ·have hn:=hn1
  have hq:chkQ s.data.toList=11:=by
   unfold chkQ
   rw [if_pos]
   unfold formQ;rw [hn];simp
  obtain ⟨q1,q2,q3⟩:=rl_bad hq (by decide)
  rw [q1,q2,q3]
  exact rl_m s (bN s) (bD s) _ _ _ w n1.1 n1.2 n2.1 n2.2 hp hp' (hng.trans hn) (by rw [bne,hng.trans hn];rfl) kc k1 k2
 have hn:isNeg (cutD s.data.toList)=false:=by simpa using hn1
 have hm:=hng.trans hn
 have hm':(((bD s)[0].toNat:Int) != 45)=true:=by rw [bne,hm];rfl
 by_cases e0:cutD s.data.toList = [48]
 ·have hq:chkQ s.data.toList=11:=by
   unfold chkQ
   rw [if_pos]
   unfold formQ;rw [e0];simp
  obtain ⟨q1,q2,q3⟩:=rl_bad hq (by decide)
  rw [q1,q2,q3]
  have z:((bD s).toList == [48])=true:=by rw [toList_48,bD_data,e0];rfl
  exact rl_0 s (bN s) (bD s) _ _ _ w n1.1 n1.2 n2.1 n2.2 hp hp' hm hm' z (by rw [bne,z];rfl) kc k1 k2
 have z0:((bD s).toList == [48])=false:=by rw [toList_48,bD_data,beq_eq_false_iff_ne];exact e0
 have z0':((bD s).toList != [48])=true:=by rw [bne,z0];rfl
 cases hf:hasS s.data.toList
 ·rw [hf] at kc
  have hform:formQ s.data.toList=true:=by
   unfold formQ;rw [hf,hn];simp [e1,e2,e0]
  by_cases b1:chk (cutN s.data.toList)=0
  ·by_cases b2:chk (cutD s.data.toList)=0
   ·have hd:cutD s.data.toList = [49]:=by unfold cutD;rw [hf];rfl
    have hq:chkQ s.data.toList=0:=by
     unfold chkQ
     rw [hform,if_neg (by decide),if_neg (by rw [b1,b2];simp),if_pos (by rw [hd,natOf_one,Nat.gcd_one_right])]
    obtain ⟨q1,q2⟩:=rl_good hq
    rw [q1,q2,hq]
    rw [b1] at k1
    rw [b2] at k2
    exact rl_ok s (bN s) (bD s) w hp hp' hm hm' z0 z0' kc k1 k2
   ·have hq:chkQ s.data.toList=4:=by
     unfold chkQ
     rw [hform,if_neg (by decide),if_pos (.inr b2)]
    obtain ⟨q1,q2,q3⟩:=rl_bad hq (by decide)
    rw [q1,q2,q3]
    rw [b1] at k1
    have m2:=bool_ne b2
    exact rl_b0 s (bN s) (bD s) _ w n2.1 n2.2 hp hp' hm hm' z0 z0' m2.1 m2.2 kc k1 k2
  ·have hq:chkQ s.data.toList=4:=by
    unfold chkQ
    rw [hform,if_neg (by decide),if_pos (.inl b1)]
   obtain ⟨q1,q2,q3⟩:=rl_bad hq (by decide)
   rw [q1,q2,q3]
   have m1:=bool_ne b1
   exact rl_a0 s (bN s) (bD s) _ _ w n1.1 n1.2 n2.1 n2.2 hp hp' hm hm' z0 z0' m1.1 m1.2 kc k1 k2
 ·rw [hf] at kc
  by_cases e9:cutD s.data.toList = [49]
  ·have hq:chkQ s.data.toList=11:=by
    unfold chkQ
    rw [if_pos]
    unfold formQ;rw [hf,e9];simp
   obtain ⟨q1,q2,q3⟩:=rl_bad hq (by decide)
   rw [q1,q2,q3]
   exact rl_1 s (bN s) (bD s) _ _ w n1.1 n1.2 n2.1 n2.2 hp hp' hm hm' z0 z0' (by rw [toList_48,bD_data,e9];rfl) kc k1 k2
  have z1:((bD s).toList == [49])=false:=by rw [toList_48,bD_data,beq_eq_false_iff_ne];exact e9
  have hform:formQ s.data.toList=true:=by
   unfold formQ;rw [hf,hn];simp [e1,e2,e0,e9]
  by_cases b1:chk (cutN s.data.toList)=0
  ·by_cases b2:chk (cutD s.data.toList)=0
   ·rw [b1] at k1
    rw [b2] at k2
    have s1:=str_chk (s:=bN s) (by rw [bN_data];exact b1)
    have s2:=str_chk (s:=bD s) (by rw [bD_data];exact b2)
    rw [bN_data] at s1
    rw [bD_data] at s2
    have hnat:=natOf_val hn
    have kd:CqB w 100 #[.agg #[.string (bN s),.int .i64 0],.agg #[.string (bD s),.int .i64 0]] (.agg #[.string (strB (gcdZ (valOf (cutN s.data.toList)) (valOf (cutD s.data.toList)))),.int .i64 0]):=fun W hW=>by
     rw [s1,s2]
     exact long_div1 _ _ W (chk_short b1) (chk_short b2) (ht.next hW)
    have ko:=fun W (_:Below w.heap.size w W)=>long_one (gcdZ (valOf (cutN s.data.toList)) (valOf (cutD s.data.toList))) W
    by_cases g1:gcdZ (valOf (cutN s.data.toList)) (valOf (cutD s.data.toList))=1
    ·have hq:chkQ s.data.toList=0:=by
      unfold chkQ
      rw [hform,if_neg (by decide),if_neg (by rw [b1,b2];simp),if_pos]
      unfold gcdZ at g1
      rw [←hnat,Int.natAbs_natCast] at g1
      exact Int.ofNat.inj g1
     obtain ⟨q1,q2⟩:=rl_good hq
     rw [q1,q2,hq]
     rw [decide_eq_true g1] at ko
     exact rl_ok2 s (bN s) (bD s) _ w hp hp' hm hm' z0 z0' z1 kc k1 k2 kd ko
    ·have hq:chkQ s.data.toList=11:=by
      unfold chkQ
      rw [hform,if_neg (by decide),if_neg (by rw [b1,b2];simp),if_neg]
      intro h
      apply g1
      unfold gcdZ
      rw [←hnat,Int.natAbs_natCast,h];rfl
     obtain ⟨q1,q2,q3⟩:=rl_bad hq (by decide)
     rw [q1,q2,q3]
     rw [decide_eq_false g1] at ko
     exact rl_g s (bN s) (bD s) _ w hp hp' hm hm' z0 z0' z1 kc k1 k2 kd ko
   ·have hq:chkQ s.data.toList=4:=by
     unfold chkQ
     rw [hform,if_neg (by decide),if_pos (.inr b2)]
    obtain ⟨q1,q2,q3⟩:=rl_bad hq (by decide)
    rw [q1,q2,q3]
    rw [b1] at k1
    have m2:=bool_ne b2
    exact rl_b1 s (bN s) (bD s) _ w n2.1 n2.2 hp hp' hm hm' z0 z0' z1 m2.1 m2.2 kc k1 k2
  ·have hq:chkQ s.data.toList=4:=by
    unfold chkQ
    rw [hform,if_neg (by decide),if_pos (.inl b1)]
   obtain ⟨q1,q2,q3⟩:=rl_bad hq (by decide)
   rw [q1,q2,q3]
   have m1:=bool_ne b1
   exact rl_a1 s (bN s) (bD s) _ _ w n1.1 n1.2 n2.1 n2.2 hp hp' hm hm' z0 z0' z1 m1.1 m1.2 kc k1 k2
theorem readMachines_yes (a b:ByteArray) (w:World) (ha:a.size≤maxLen) (hb:b.size≤maxLen) (oa:mOK a.data.toList=true) (ob:mOK b.data.toList=true) (ht:Tab64 w) :
  Calls Tryz.prog 69 #[.string a,.string b] w fun e W'=>e = .returned (.tuple #[.agg #[.int .i64 (valOf (cutN a.data.toList)),.int .i64 (valOf (cutD a.data.toList))],.agg #[.int .i64 (valOf (cutN b.data.toList)),.int .i64 (valOf (cutD b.data.toList))],.bool true])∧Below w.heap.size w W':=by
 have c:=readMachines_two a b _ _ true (fun z u=>z=valOf (cutN b.data.toList)∧u=valOf (cutD b.data.toList)) w (fun W hW=>readMachine_ok a W ha oa (TabQ_next ht hW))
  (fun W hW=>(readMachine_ok b W hb ob (TabQ_next ht hW)).mono fun e W' h=>⟨⟨_,_,⟨rfl,rfl⟩,h.1⟩,h.2⟩)
 refine c.mono ?_
 rintro e W' ⟨⟨z,u,⟨rfl,rfl⟩,he⟩,hB⟩
 exact ⟨he,hB⟩
theorem readMachines_no (a b:ByteArray) (w:World) (ha:a.size≤maxLen) (hb:b.size≤maxLen) (h:¬ (mOK a.data.toList=true∧mOK b.data.toList=true)) (ht:Tab64 w) :
  Calls Tryz.prog 69 #[.string a,.string b] w fun e W'=>(∃ x y z u,e = .returned (.tuple #[.agg #[.int .i64 x,.int .i64 y],.agg #[.int .i64 z,.int .i64 u],.bool false]))∧Below w.heap.size w W':=by
 cases oa:mOK a.data.toList
 ·exact readMachines_no1 a b w (fun W hW=>readMachine_no a W ha oa (TabQ_next ht hW))
 ·have ob:mOK b.data.toList=false:=by
   cases ob:mOK b.data.toList
   ·rfl
   ·exact absurd ⟨oa,ob⟩ h
  have c:=readMachines_two a b _ _ false (fun _ _=>True) w (fun W hW=>readMachine_ok a W ha oa (TabQ_next ht hW))
   (fun W hW=>(readMachine_no b W hb ob (TabQ_next ht hW)).mono fun e W' ⟨⟨x,y,he⟩,hB⟩=>⟨⟨x,y,trivial,he⟩,hB⟩)
  exact c.mono fun e W' ⟨⟨z,u,_,he⟩,hB⟩=>⟨⟨_,_,z,u,he⟩,hB⟩
theorem checkQ_core (s:ByteArray) (x y:Int) (r:Int) (n d:ByteArray) (o:Bool) (w:World) (h1:o=true→r=0)
  (hm:∀ W,Below w.heap.size w W→Calls Tryz.prog 97 #[.string s] W fun e W'=>(∃ x y,e = .returned (.tuple #[.agg #[.int .i64 x,.int .i64 y],.bool o]))∧Below W.heap.size W W')
  (hl:CqB w 70 #[.string s] (.tuple #[.agg #[.string n,.int .i64 0,.string d,.int .i64 0],.int .i64 r])) :
  Calls Tryz.prog 107 #[.string s] w fun e W'=>e = .returned (.int .i64 r)∧Below w.heap.size w W':=by
 have C:=Lib.hid (And.intro hm hl);clear hm hl
 cases o
 ·clear h1
  go_enter Tryz.func107,Tryz.ntmps107
  go_wp2_with fail
  refine (C.out.1 _ (Below.refl _ _)).mono ?_
  rintro e w1 ⟨⟨x,y,rfl⟩,b⟩
  go_wp2_with fail
  have H1:=Lib.hid (b.alloc b.size (.cells #[.int .i64 x,.int .i64 y] 83));clear b
  generalize w1.alloc (.cells #[.int .i64 x,.int .i64 y] 83)=w2 at *
  refine (C.out.2 _ H1.out).mono ?_
  rintro e w3 ⟨rfl,b⟩
  have H2:=Lib.hid ((H1.out.trans (b.mono H1.out.size)).alloc (Nat.le_trans H1.out.size b.size) (.cells #[.string n,.int .i64 0,.string d,.int .i64 0] 87));clear b H1
  go_wp2
  go_ret
  exact ⟨rfl,H2.out⟩
 ·have hr:=h1 rfl
  subst hr
  go_enter Tryz.func107,Tryz.ntmps107
  go_wp2_with fail
  refine (C.out.1 _ (Below.refl _ _)).mono ?_
  rintro e w1 ⟨⟨x,y,rfl⟩,b⟩
  have H1:=Lib.hid (b.alloc b.size (.cells #[.int .i64 x,.int .i64 y] 83));clear b
  go_wp2
  go_ret
  exact ⟨rfl,H1.out⟩
theorem checkQ_any (s:ByteArray) (w:World) (hs:s.size≤maxLen) (ht:Tab w) (ht2:Tab64 w) :
  Calls Tryz.prog 107 #[.string s] w fun e W'=>e = .returned (.int .i64 (chkQ s.data.toList))∧Below w.heap.size w W':=by
 have kl:=fun W (hW:Below w.heap.size w W)=>readLong_any s W hs (ht.next hW)
 cases o:mOK s.data.toList
 ·exact checkQ_core s 0 0 _ _ _ false w (fun h=>by cases h) (fun W hW=>readMachine_no s W hs o (TabQ_next ht2 hW)) kl
 ·exact checkQ_core s 0 0 _ _ _ true w (fun _=>(mOK_chk o).1) (fun W hW=>(readMachine_ok s W hs o (TabQ_next ht2 hW)).mono fun e W' h=>⟨⟨_,_,h.1⟩,h.2⟩) kl
def paN (s:ByteArray):ByteArray:=if chkQ s.data.toList=0 then bN s else ⟨#[]⟩
def paD (s:ByteArray):ByteArray:=if chkQ s.data.toList=0 then bD s else ⟨#[]⟩
theorem partsQ_any (s:ByteArray) (w:World) (hs:s.size≤maxLen) (ht:Tab w) (ht2:Tab64 w) :
  Calls Tryz.prog 129 #[.string s] w fun e W'=>e = .returned (.tuple #[.string (paN s),.string (paD s),.int .i64 (chkQ s.data.toList)])∧Below w.heap.size w W':=by
 have kk:=checkQ_any s w hs ht ht2
 have kc:=fun W=>cut_any s W hs
 by_cases h:chkQ s.data.toList=0
 ·unfold paN paD
  rw [if_pos h,if_pos h]
  rw [h] at kk ⊢
  have C:=Lib.hid (And.intro kk kc);clear kk kc h ht ht2 hs
  generalize bN s=n at *
  generalize bD s=d at *
  generalize hasS s.data.toList=f at *
  go_enter Tryz.func129,Tryz.ntmps129
  go_wp2_with fail
  refine C.out.1.mono ?_
  rintro e w1 ⟨rfl,b⟩
  have H1:=Lib.hid b;clear b
  go_wp2_with fail
  refine (C.out.2 _).mono ?_
  rintro e w2 ⟨rfl,b⟩
  have H2:=Lib.hid (H1.out.trans (b.mono H1.out.size));clear b
  go_wp2
  go_ret3
  exact ⟨rfl,H2.out⟩
 ·unfold paN paD
  rw [if_neg h,if_neg h]
  have n:=bool_ne h
  have C:=Lib.hid kk;clear kk kc h ht ht2 hs
  obtain ⟨n1,n2⟩:=n
  generalize chkQ s.data.toList=c at *
  go_enter Tryz.func129,Tryz.ntmps129
  go_wp2_with fail
  refine C.out.mono ?_
  rintro e w1 ⟨rfl,b⟩
  have H1:=Lib.hid b;clear b
  go_wp2
  go_ret3
  exact ⟨rfl,H1.out⟩
end Go.Proofs.YtjdfjgfdbgmbiaaGreatDoor
namespace Go.Proofs.YtjdfjgfdbgmbiaaGreatDoor.T
open Go.Proofs.YtjdfjgfdbgmbiaaGreatDoor
def strip (p n:Nat):Nat × Nat :=
 if _h:2≤p∧0<n∧n % (p*p)=0 then (p*(strip p (n / (p*p))).1,(strip p (n / (p*p))).2) else (1,n)
termination_by n
decreasing_by all_goals exact Nat.div_lt_self _h.2.1 (Nat.lt_of_lt_of_le (by decide:1<2*2) (Nat.mul_le_mul _h.1 _h.1))
theorem strip_yes {p n:Nat} (hp:2≤p) (hn:0<n) (h:n % (p*p)=0):strip p n=(p*(strip p (n / (p*p))).1,(strip p (n / (p*p))).2):=by
 rw [strip,dif_pos ⟨hp,hn,h⟩]
theorem strip_no {p n:Nat} (h:n % (p*p)≠0):strip p n=(1,n):=by
 rw [strip,dif_neg (fun q=>h q.2.2)]
theorem pp_pos {p:Nat} (hp:2≤p):1<p*p:=Nat.lt_of_lt_of_le (by decide:1<2*2) (Nat.mul_le_mul hp hp)
theorem strip_ind {p:Nat} (hp:2≤p) {C:Nat→Prop} (no:∀ n,0<n→n % (p*p)≠0→C n) (yes:∀ n,0<n→C n→C (p*p*n)) :
  ∀ n,0<n→C n:=by
 intro n
 induction n using Nat.strongRecOn with
 | _ n ih =>
  intro hn
  rcases Nat.decEq (n % (p*p)) 0 with h | h
  ·exact no n hn h
  ·have e:n=p*p*(n / (p*p)):=by have:=Nat.div_add_mod n (p*p);omega
   have q:0<n / (p*p):=Nat.pos_of_ne_zero fun z=>by rw [z] at e;omega
   rw [e];exact yes _ q (ih _ (Nat.div_lt_self hn (pp_pos hp)) q)
theorem strip_mulp {p n:Nat} (hp:2≤p) (hn:0<n):strip p (p*p*n)=(p*(strip p n).1,(strip p n).2):=by
 have q:=pp_pos hp
 rw [strip_yes hp (Nat.mul_pos (by omega) hn) (Nat.mul_mod_right _ _),Nat.mul_div_cancel_left _ (by omega)]
theorem strip_spec {p n:Nat} (hp:2≤p) (hn:0<n):n=(strip p n).1*(strip p n).1*(strip p n).2∧0<(strip p n).1∧0<(strip p n).2∧¬ p*p∣(strip p n).2:=by
 refine strip_ind hp (C:=fun n=>n=(strip p n).1*(strip p n).1*(strip p n).2∧0<(strip p n).1∧0<(strip p n).2∧¬ p*p∣(strip p n).2) ?_ ?_ n hn
 ·intro n hn h
  rw [strip_no h]
  exact ⟨by simp,Nat.one_pos,hn,fun d=>h (Nat.mod_eq_zero_of_dvd d)⟩
 ·rintro n hn ⟨h1,h2,h3,h4⟩
  rw [strip_mulp hp hn]
  refine ⟨?_,Nat.mul_pos (by omega) h2,h3,h4⟩
  show p*p*n=p*(strip p n).1*(p*(strip p n).1)*(strip p n).2
  rw [Nat.mul_mul_mul_comm,Nat.mul_assoc (p*p),←h1]
theorem strip_small {p n:Nat} (hn:0<n) (h:n<p*p):strip p n=(1,n):=strip_no (by rw [Nat.mod_eq_of_lt h];omega)
def strips:List Nat→Nat→Nat × Nat
 | [],n=>(1,n)
 | p::l,n=>((strip p n).1*(strips l (strip p n).2).1,(strips l (strip p n).2).2)
theorem strips_spec:∀ (l:List Nat) (_:∀ p∈l,2≤p) {n:Nat} (_:0<n),n=(strips l n).1*(strips l n).1*(strips l n).2∧0<(strips l n).1∧0<(strips l n).2∧(strips l n).2∣n∧∀ p∈l,¬ p*p∣(strips l n).2
 | [],_,n,hn=>⟨by simp [strips],Nat.one_pos,hn,Nat.dvd_refl _,by simp⟩
 | p::l,hl,n,hn=>by
  obtain ⟨a1,a2,a3,a4⟩:=strip_spec (hl p (by simp)) hn
  obtain ⟨b1,b2,b3,b4,b5⟩:=strips_spec l (fun q hq=>hl q (by simp [hq])) a3
  simp only [strips]
  generalize (strip p n).1=k at *
  generalize (strip p n).2=m at *
  generalize (strips l m).1=k' at *
  generalize (strips l m).2=m' at *
  refine ⟨?_,Nat.mul_pos a2 b2,b3,?_,?_⟩
  ·rw [a1,b1,Nat.mul_mul_mul_comm k k' k k',Nat.mul_assoc (k*k) (k'*k') m']
  ·rw [a1];exact Nat.dvd_trans b4 (Nat.dvd_mul_left _ _)
  ·intro q hq
   rcases List.mem_cons.1 hq with rfl | hq
   ·exact fun d=>a4 (Nat.dvd_trans d b4)
   ·exact b5 q hq
theorem strips_small {v:Nat} (hv:0<v):∀ (l:List Nat) (_:∀ p∈l,v<p*p),strips l v=(1,v)
 | [],_=>rfl
 | p::l,hl=>by
  simp only [strips];rw [strip_small hv (hl p (by simp))]
  simp only [strips_small hv l (fun q hq=>hl q (by simp [hq]))]
def Pr (p:Nat):Prop:=2≤p∧∀ d,d∣p→d=1∨d=p
theorem Pr.gcd {p:Nat} (h:Pr p) (x:Nat):p∣x∨Nat.Coprime p x:=by
 rcases h.2 _ (Nat.gcd_dvd_left p x) with e | e
 ·exact .inr e
 ·exact .inl (e ▸ Nat.gcd_dvd_right p x)
theorem Pr.sq {p x y:Nat} (h:Pr p) (c:Nat.Coprime x y) (d:p*p∣x*y):p*p∣x∨p*p∣y:=by
 rcases h.gcd y with e | e
 ·rcases h.gcd x with f | f
  ·exact absurd (Nat.dvd_gcd f e) (by
    rw [show Nat.gcd x y=1 from c];intro q;have:=Nat.le_of_dvd Nat.one_pos q;have:=h.1;omega)
  ·exact .inr ((f.mul_left f).dvd_of_dvd_mul_left d)
 ·exact .inl ((e.mul_left e).dvd_of_dvd_mul_right d)
theorem strip_cop {p:Nat} (hp:Pr p):∀ (n x y:Nat),n=x*y→0<x→0<y→Nat.Coprime x y →
  strip p (x*y)=((strip p x).1*(strip p y).1,(strip p x).2*(strip p y).2):=by
 have q:=pp_pos hp.1
 intro n
 induction n using Nat.strongRecOn with
 | _ n ih =>
  intro x y hn hx hy c
  rcases Nat.decEq ((x*y) % (p*p)) 0 with h | h
  ·have h1:x % (p*p)≠0:=fun z=>h (Nat.mod_eq_zero_of_dvd (Nat.dvd_trans (Nat.dvd_of_mod_eq_zero z) (Nat.dvd_mul_right _ _)))
   have h2:y % (p*p)≠0:=fun z=>h (Nat.mod_eq_zero_of_dvd (Nat.dvd_trans (Nat.dvd_of_mod_eq_zero z) (Nat.dvd_mul_left _ _)))
   rw [strip_no h,strip_no h1,strip_no h2,Nat.mul_one]
  ·rcases hp.sq c (Nat.dvd_of_mod_eq_zero h) with ⟨x',rfl⟩ | ⟨y',rfl⟩
   ·have hx':0<x':=Nat.pos_of_ne_zero fun z=>by subst z;omega
    have hl:x'*y<n:=by
     rw [hn,Nat.mul_assoc];exact (Nat.lt_mul_iff_one_lt_left (Nat.mul_pos hx' hy)).2 q
    have:=ih _ hl x' y rfl hx' hy (Nat.Coprime.coprime_dvd_left (Nat.dvd_mul_left _ _) c)
    rw [Nat.mul_assoc,strip_mulp hp.1 (Nat.mul_pos hx' hy),strip_mulp hp.1 hx',this]
    simp only [Nat.mul_assoc]
   ·have hy':0<y':=Nat.pos_of_ne_zero fun z=>by subst z;omega
    have hl:x*y'<n:=by
     rw [hn,Nat.mul_left_comm];exact (Nat.lt_mul_iff_one_lt_left (Nat.mul_pos hx hy')).2 q
    have:=ih _ hl x y' rfl hx hy' (Nat.Coprime.coprime_dvd_right (Nat.dvd_mul_left _ _) c)
    rw [Nat.mul_left_comm,strip_mulp hp.1 (Nat.mul_pos hx hy'),strip_mulp hp.1 hy',this]
    simp only [Nat.mul_left_comm]
theorem strips_cop:∀ (l:List Nat) (_:∀ p∈l,Pr p) (x y:Nat),0<x→0<y→Nat.Coprime x y →
  strips l (x*y)=((strips l x).1*(strips l y).1,(strips l x).2*(strips l y).2)
 | [],_,x,y,_,_,_=>by simp [strips]
 | p::l,hl,x,y,hx,hy,c=>by
  have hp:=hl p (by simp)
  obtain ⟨a1,a2,a3,_⟩:=strip_spec hp.1 hx
  obtain ⟨b1,b2,b3,_⟩:=strip_spec hp.1 hy
  have c':Nat.Coprime (strip p x).2 (strip p y).2 :=
   Nat.Coprime.coprime_dvd_left (k:=x) ⟨_,a1.trans (Nat.mul_comm _ _)⟩ (Nat.Coprime.coprime_dvd_right (m:=y) ⟨_,b1.trans (Nat.mul_comm _ _)⟩ c)
  simp only [strips]
  rw [strip_cop hp _ x y rfl hx hy c]
  simp only
  rw [strips_cop l (fun q hq=>hl q (by simp [hq])) _ _ a3 b3 c']
  simp only [Nat.mul_assoc,Nat.mul_left_comm]
def Sqr (n:Nat):Prop:=∃ r,r*r=n
theorem Sqr.mul {x y:Nat} (h:Sqr x) (k:Sqr y):Sqr (x*y):=by
 obtain ⟨r,rfl⟩:=h;obtain ⟨s,rfl⟩:=k;exact ⟨r*s,Nat.mul_mul_mul_comm _ _ _ _⟩
def primes:List Nat := [2,3,5,7,11,13,17,19,23,29,31,37,41,43,47,53,59,61,67,71,73,79,83,89,97]
theorem pr_of {p:Nat} (h2:2≤p) (h:∀ d,d<p+1→d∣p→d=1∨d=p):Pr p :=
 ⟨h2,fun d hd=>h d (Nat.lt_succ_of_le (Nat.le_of_dvd (by omega) hd)) hd⟩
theorem primes_pr:∀ p∈primes,Pr p:=by
 intro p hp
 refine pr_of ?_ ?_
 ·revert p;decide+kernel
 ·revert p;decide+kernel
theorem primes_2:∀ p∈primes,2≤p:=fun p hp=>(primes_pr p hp).1
theorem cmpZ_iff {x y u v:Int} (h1:x<y↔u<v) (h2:y<x↔v<u):cmpZ x y=cmpZ u v:=by
 unfold cmpZ
 by_cases a:x<y
 ·rw [if_pos a,if_pos (h1.1 a)]
 ·rw [if_neg a,if_neg (fun q=>a (h1.2 q))]
  by_cases b:y<x
  ·rw [if_pos b,if_pos (h2.1 b)]
  ·rw [if_neg b,if_neg (fun q=>b (h2.2 q))]
def RQ (q:Rat) (r:Nat):Prop:=((r*r:Nat):Rat)≤q∧q<(((r+1)*(r+1):Nat):Rat)
theorem nat_div_lt {n d x:Nat} (hd:0<d):mkRat n d<(x:Rat)↔n<x*d:=by
 have h:(0:Rat)<(d:Rat):=by have:=Rat.natCast_lt_natCast (a:=0) (b:=d);exact this.2 hd
 rw [Rat.mkRat_eq_div,Rat.intCast_natCast,Rat.div_lt_iff h,←Rat.natCast_mul,Rat.natCast_lt_natCast]
theorem le_nat_div {n d x:Nat} (hd:0<d):(x:Rat)≤mkRat n d↔x*d≤n:=by
 rw [←Rat.not_lt,nat_div_lt hd,Nat.not_lt]
theorem RQ.floor {q:Rat} {r:Nat} (h0:0≤q) (h:IsRoot q.floor.toNat r):RQ q r:=by
 have f:0≤q.floor:=Rat.le_floor_iff.2 h0
 have e:((q.floor.toNat:Nat):Int)=q.floor:=Int.toNat_of_nonneg f
 constructor
 ·have:((r*r:Nat):Int)≤q.floor:=by have:=h.1;omega
  have:=Rat.le_floor_iff.1 this
  rwa [Rat.intCast_natCast] at this
 ·have:q.floor<(((r+1)*(r+1):Nat):Int):=by have:=h.2;omega
  have:=Rat.floor_lt_iff.1 this
  rwa [Rat.intCast_natCast] at this
theorem norm_no {n d:Nat} (hn:0<n) (hd:0<d) (c:Nat.Coprime n d) (l:List Nat) (hl:∀ p∈l,Pr p) :
  mkRat ((strips l (n*d)).1:Nat) d=mkRat ((strips l n).1:Nat) ((strips l d).1*(strips l d).2) ∧
  (strips l (n*d)).2=(strips l n).2*(strips l d).2∧Nat.Coprime (strips l n).1 ((strips l d).1*(strips l d).2)∧0<(strips l d).1*(strips l d).2:=by
 obtain ⟨a1,a2,a3,a4,_⟩:=strips_spec l (fun p h=>(hl p h).1) hn
 obtain ⟨b1,b2,b3,b4,_⟩:=strips_spec l (fun p h=>(hl p h).1) hd
 have e:=strips_cop l hl n d hn hd c
 generalize strips l (n*d)=s at *
 subst e
 generalize (strips l n).1=a at *
 generalize (strips l n).2=m at *
 generalize (strips l d).1=b at *
 generalize (strips l d).2=k at *
 have hbk:0<b*k:=Nat.mul_pos b2 b3
 refine ⟨?_,rfl,?_,hbk⟩
 ·refine (Rat.mkRat_eq_iff (Nat.ne_of_gt hd) (Nat.ne_of_gt hbk)).2 ?_
  rw [←Int.natCast_mul,←Int.natCast_mul]
  congr 1
  show a*b*(b*k)=a*d
  rw [b1];simp only [Nat.mul_assoc]
 ·refine Nat.Coprime.coprime_dvd_left (k:=n) ?_ (Nat.Coprime.coprime_dvd_right (m:=d) ?_ c)
  ·rw [a1,Nat.mul_assoc];exact Nat.dvd_mul_right _ _
  ·rw [b1,Nat.mul_assoc];exact Nat.dvd_mul_left _ _
theorem norm_sq {n d:Nat} (hn:0<n) (hd:0<d) (l:List Nat) (hl:∀ p∈l,2≤p) :
  mkRat ((strips l n).1:Nat) ((strips l d).1*(strips l d).2)*mkRat ((strips l n).1:Nat) ((strips l d).1*(strips l d).2)*(((strips l n).2*(strips l d).2:Nat):Rat)=mkRat n d:=by
 obtain ⟨a1,a2,a3,a4,_⟩:=strips_spec l hl hn
 obtain ⟨b1,b2,b3,b4,_⟩:=strips_spec l hl hd
 generalize (strips l n).1=a at *
 generalize (strips l n).2=m at *
 generalize (strips l d).1=b at *
 generalize (strips l d).2=k at *
 have hbk:0<b*k:=Nat.mul_pos b2 b3
 rw [show (((m*k:Nat):Rat))=mkRat ((m*k:Nat):Int) 1 from by rw [Rat.mkRat_one,Rat.intCast_natCast],Rat.mkRat_mul_mkRat,Rat.mkRat_mul_mkRat]
 refine (Rat.mkRat_eq_iff (Nat.ne_of_gt (by rw [Nat.mul_one];exact Nat.mul_pos hbk hbk)) (Nat.ne_of_gt hd)).2 ?_
 rw [←Int.natCast_mul,←Int.natCast_mul,←Int.natCast_mul,←Int.natCast_mul]
 congr 1
 rw [Nat.mul_one,a1,b1]
 simp only [Nat.mul_assoc,Nat.mul_left_comm]
end Go.Proofs.YtjdfjgfdbgmbiaaGreatDoor.T
namespace Go.Proofs.YtjdfjgfdbgmbiaaGreatDoor.T
open Go.Proofs.YtjdfjgfdbgmbiaaGreatDoor
theorem cast1:((1:Nat):Rat)=1:=rfl
theorem sqr_root {n:Nat}:Sqr n↔rootN n*rootN n=n:=by
 constructor
 ·rintro ⟨r,rfl⟩
  rw [rootN_eq (r:=r) ⟨Nat.le_refl _,by simp only [Nat.add_mul,Nat.mul_add];omega⟩]
 ·exact fun h=>⟨_,h⟩
def bothS (q:Rat):Prop:=rootN q.num.natAbs*rootN q.num.natAbs=q.num.natAbs∧rootN q.den*rootN q.den=q.den
noncomputable instance (q:Rat):Decidable (bothS q):=inferInstanceAs (Decidable (_∧_))
theorem bothS_iff {q:Rat}:bothS q↔Sqr q.num.natAbs∧Sqr q.den:=by unfold bothS;rw [sqr_root,sqr_root]
noncomputable def cN (q:Rat):Nat:=if bothS q then rootN q.num.natAbs else (strips primes q.num.natAbs).1
noncomputable def cD (q:Rat):Nat:=if bothS q then rootN q.den else (strips primes q.den).1*(strips primes q.den).2
noncomputable def nN (q:Rat):Nat:=if bothS q then 1 else (strips primes q.num.natAbs).2*(strips primes q.den).2
noncomputable def nC (q:Rat):Rat:=mkRat (cN q:Nat) (cD q)
theorem num_nat {q:Rat} (h:0≤q):((q.num.natAbs:Nat):Int)=q.num:=by
 have:=Rat.num_nonneg.2 h;omega
theorem mk_nat {q:Rat} (h:0≤q):mkRat ((q.num.natAbs:Nat):Int) q.den=q:=by rw [num_nat h,Rat.mkRat_self]
theorem root_0:rootN 0=0:=rootN_eq ⟨Nat.le_refl _,by decide⟩
theorem root_1:rootN 1=1:=rootN_eq ⟨by decide,by decide⟩
theorem num_pos_of {q:Rat} (h:¬ bothS q):0<q.num.natAbs:=by
 refine Nat.pos_of_ne_zero fun z=>h ?_
 have e:q.num=0:=by omega
 have d:q.den=1:=by have:=q.reduced;rw [z] at this;exact (Nat.coprime_zero_left _).1 this
 unfold bothS;rw [z,d,root_0,root_1];exact ⟨rfl,rfl⟩
theorem cD_pos (q:Rat):0<cD q:=by
 unfold cD
 split
 ·rename_i h;exact Nat.pos_of_ne_zero fun z=>by have:=h.2;rw [z] at this;have:=q.den_pos;omega
 ·obtain ⟨_,b2,b3,_⟩:=strips_spec primes primes_2 q.den_pos;exact Nat.mul_pos b2 b3
theorem nN_pos (q:Rat):0<nN q:=by
 unfold nN
 split
 ·exact Nat.one_pos
 ·rename_i h
  obtain ⟨_,_,a3,_⟩:=strips_spec primes primes_2 (num_pos_of h)
  obtain ⟨_,_,b3,_⟩:=strips_spec primes primes_2 q.den_pos
  exact Nat.mul_pos a3 b3
theorem cop (q:Rat):Nat.Coprime (cN q) (cD q):=by
 unfold cN cD
 split
 ·rename_i h
  refine Nat.Coprime.coprime_dvd_left (k:=q.num.natAbs) ?_ (Nat.Coprime.coprime_dvd_right (m:=q.den) ?_ q.reduced)
  ·exact ⟨_,h.1.symm⟩
  ·exact ⟨_,h.2.symm⟩
 ·rename_i h;exact (norm_no (num_pos_of h) q.den_pos q.reduced primes primes_pr).2.2.1
theorem nC_sq {q:Rat} (h0:0≤q):nC q*nC q*((nN q:Nat):Rat)=q:=by
 unfold nC cN cD nN
 split
 ·rename_i h
  rw [Rat.mkRat_mul_mkRat,←Int.natCast_mul,h.1,h.2,mk_nat h0,cast1,Rat.mul_one]
 ·rename_i h
  rw [norm_sq (num_pos_of h) q.den_pos primes primes_2,mk_nat h0]
theorem nN_free (q:Rat):∀ p∈primes,¬ p*p∣nN q:=by
 intro p hp
 unfold nN
 split
 ·intro d
  have:=Nat.le_of_dvd Nat.one_pos d
  have:=pp_pos (primes_2 p hp);omega
 ·rename_i h
  obtain ⟨_,_,_,a4,a5⟩:=strips_spec primes primes_2 (num_pos_of h)
  obtain ⟨_,_,_,b4,b5⟩:=strips_spec primes primes_2 q.den_pos
  intro d
  rcases (primes_pr p hp).sq (Nat.Coprime.coprime_dvd_left a4 (Nat.Coprime.coprime_dvd_right b4 q.reduced)) d with e | e
  ·exact a5 p hp e
  ·exact b5 p hp e
theorem sq_parts (c:Rat):(c*c).num.natAbs=c.num.natAbs*c.num.natAbs∧(c*c).den=c.den*c.den:=by
 have hc:Nat.Coprime (c.num*c.num).natAbs (c.den*c.den):=by
  rw [Int.natAbs_mul];exact (c.reduced.mul_left c.reduced).mul_right (c.reduced.mul_left c.reduced)
 have e:c*c=⟨c.num*c.num,c.den*c.den,Nat.ne_of_gt (Nat.mul_pos c.den_pos c.den_pos),hc⟩:=by
  rw [Rat.mk_eq_mkRat,←Rat.mkRat_mul_mkRat,Rat.mkRat_self]
 rw [e];exact ⟨Int.natAbs_mul _ _,rfl⟩
theorem nN_one {q:Rat} (h0:0≤q):nN q=1↔∃ c:Rat,c*c=q:=by
 constructor
 ·intro h
  refine ⟨nC q,?_⟩
  have:=nC_sq h0
  rwa [h,cast1,Rat.mul_one] at this
 ·rintro ⟨c,rfl⟩
  unfold nN
  rw [if_pos]
  rw [bothS_iff,(sq_parts c).1,(sq_parts c).2]
  exact ⟨⟨_,rfl⟩,⟨_,rfl⟩⟩
theorem nC_nonneg (q:Rat):0≤nC q:=by
 have h:=(le_nat_div (n:=cN q) (x:=0) (cD_pos q)).2 (by rw [Nat.zero_mul];exact Nat.zero_le _)
 exact h
end Go.Proofs.YtjdfjgfdbgmbiaaGreatDoor.T
namespace Go.Proofs.YtjdfjgfdbgmbiaaGreatDoor.T
open Go.Proofs.YtjdfjgfdbgmbiaaGreatDoor
theorem castn_nonneg (r:Nat):(0:Rat)≤(r:Rat):=by
 have:=Rat.natCast_le_natCast (a:=0) (b:=r)
 exact this.2 (Nat.zero_le _)
theorem RQ.le {z:Rat} {r:Nat} (h:RQ z r):(r:Rat)*r≤z:=by have:=h.1;rwa [Rat.natCast_mul] at this
theorem RQ.lt {z:Rat} {r:Nat} (h:RQ z r):z<((r:Rat)+1)*((r:Rat)+1):=by
 have:=h.2;rw [Rat.natCast_mul,Rat.natCast_add] at this;exact this
def CQ (z:Rat) (c:Nat):Prop:=z≤((c*c:Nat):Rat)∧∀ k:Nat,z≤((k*k:Nat):Rat)→c≤k
theorem CQ.exact {z:Rat} {r:Nat} (h:((r*r:Nat):Rat)=z):CQ z r:=by
 subst h
 refine ⟨Rat.le_refl,fun k hk => ?_⟩
 have:=Rat.natCast_le_natCast.1 hk
 rcases Nat.lt_or_ge k r with l | l
 ·exact absurd (Nat.mul_self_lt_mul_self l) (by omega)
 ·exact l
theorem CQ.next {z:Rat} {r:Nat} (h:RQ z r) (hn:((r*r:Nat):Rat)≠z):CQ z (r+1):=by
 refine ⟨Rat.le_of_lt h.2,fun k hk => ?_⟩
 have a:((r*r:Nat):Rat)<((k*k:Nat):Rat):=Std.lt_of_lt_of_le (Rat.lt_of_le_of_ne h.1 hn) hk
 have:=Rat.natCast_lt_natCast.1 a
 rcases Nat.lt_or_ge r k with l | l
 ·exact l
 ·exact absurd (Nat.mul_self_le_mul_self l) (by omega)
end Go.Proofs.YtjdfjgfdbgmbiaaGreatDoor.T
