/- Parts of the proof of the text YtjdfjgfdbgmbiaaGreatDoorHB39. -/
import Derived.Test.YtjdfjgfdbgmbiaaGreatDoorHB1
import Derived.Test.YtjdfjgfdbgmbiaaGreatDoorHB16
import Derived.Test.YtjdfjgfdbgmbiaaGreatDoorHB17
import Derived.Test.YtjdfjgfdbgmbiaaGreatDoorHB18
import Derived.Test.YtjdfjgfdbgmbiaaGreatDoorHB20
import Derived.Test.YtjdfjgfdbgmbiaaGreatDoorHB22
import Derived.Test.YtjdfjgfdbgmbiaaGreatDoorHB24
import Derived.Test.YtjdfjgfdbgmbiaaGreatDoorHB7
import Derived.Test.YtjdfjgfdbgmbiaaGreatDoorHB40
set_option linter.all false
set_option maxRecDepth 100000
set_option maxHeartbeats 8000000
namespace Go.Proofs.YtjdfjgfdbgmbiaaGreatDoor
open Go.RowKit
theorem lowestL_any (o p:Option Int) (w:World) (ho:Lwf o) (hp:Lwf p) (h0:p≠some 0) (ht:Tab w) :
  Calls Tryz.prog 61 #[.agg #[.string (LB o),.int .i64 (LE o),.string (LB p),.int .i64 (LE p)]] w fun e W'=>e = .returned (.tuple #[.string (lowOB o p),.int .i64 (lowOE o p)])∧Below w.heap.size w W':=by
 cases o with
 | none=>exact lowestL_bad none p w (.inl rfl)
 | some n =>
  cases p with
  | none=>exact lowestL_bad (some n) none w (.inr rfl)
  | some d =>
   have hn:=ho n rfl
   have hd:=hp d rfl
   have hz:d≠0:=fun e=>h0 (by rw [e])
   show Calls _ _ _ _ (fun e W'=>e = .returned (.tuple #[.string (strQ (Rat.divInt n d)),.int .i64 0])∧_)
   have key:∀ (N D:Int) (o:Bool),short N→short D→0<D→decide (d<0)=o→((o=true∧N = -n∧D = -d)∨(o=false∧N=n∧D=d))→Calls Tryz.prog 61 #[.agg #[.string (strB n),.int .i64 0,.string (strB d),.int .i64 0]] w fun e W'=>e = .returned (.tuple #[.string (strQ (Rat.divInt N D)),.int .i64 0])∧Below w.heap.size w W':=by
    intro N D o hN hD hs ho hS
    by_cases hg:gcdZ N D=1
    ·have c:=lowestL_one n d N D o w hn hd hN hD hs ho hS hg ht
     rw [low_1 hs hg] at c;exact c
    ·have c:=lowestL_gcd n d N D o w hn hd hN hD hs ho hS hg ht
     rw [low_f hs] at c;exact c
   rcases Int.lt_or_gt_of_ne hz with hs | hs
   ·have c:=key (-n) (-d) true (neg_short hn) (neg_short hd) (by omega) (decide_eq_true hs) (.inl ⟨rfl,rfl,rfl⟩)
    rw [Rat.neg_divInt_neg] at c;exact c
   ·exact key n d false hn hd hs (decide_eq_false (by omega)) (.inr ⟨rfl,rfl,rfl⟩)
theorem isNaN_m (x:Int) (w:World) :
  Calls Tryz.prog 301 #[.int .i64 x] w fun e W'=>e = .returned (.bool false)∧w=W':=by
 go_enter Tryz.func301,Tryz.ntmps301
 go_wp2
 go_ret
 exact ⟨by simp,rfl⟩
theorem cmpM_any (x y:Int) (w:World) :
  Calls Tryz.prog 299 #[.int .i64 x,.int .i64 y] w fun e W'=>e = .returned (.int .i64 (cmpZ x y))∧w=W':=by
 have C:=Lib.hid (And.intro (fun W=>isNaN_m x W) (fun W=>isNaN_m y W))
 have hc:(x<y∧cmpZ x y = -1)∨(¬ x<y∧y<x∧cmpZ x y=1)∨(¬ x<y∧¬ y<x∧cmpZ x y=0):=by
  unfold cmpZ
  by_cases h:x<y
  ·exact .inl ⟨h,if_pos h⟩
  ·by_cases h2:y<x
   ·exact .inr (.inl ⟨h,h2,by rw [if_neg h,if_pos h2]⟩)
   ·exact .inr (.inr ⟨h,h2,by rw [if_neg h,if_neg h2]⟩)
 rcases hc with ⟨h1,h2⟩ | ⟨h1,h3,h2⟩ | ⟨h1,h3,h2⟩
 all_goals
  rw [h2]
  clear h2
  go_enter Tryz.func299,Tryz.ntmps299
  go_wp2_with fail
  refine (C.out.1 _).mono ?_
  rintro e w' ⟨rfl,rfl⟩
  go_wp2_with fail
  refine (C.out.2 _).mono ?_
  rintro e w' ⟨rfl,rfl⟩
  go_wp2
  go_ret
  exact ⟨rfl,rfl⟩
theorem mach_cmp (x y:Int) (w:World) :
  Calls Tryz.prog 290 #[.int .i64 x,.int .i64 y] w fun e W'=>e = .returned (.int .i64 (cmpZ x y))∧w=W':=by
 have C:=Lib.hid (fun W=>cmpM_any x y W)
 generalize cmpZ x y=c at *
 go_enter Tryz.func290,Tryz.ntmps290
 go_wp2_with fail
 refine (C.out _).mono ?_
 rintro e w' ⟨rfl,rfl⟩
 go_wp2
 go_ret
 exact ⟨rfl,rfl⟩
theorem productM_any (a b c d:Int) (w:World) (ha:B18 a) (hb:B18 b) (hc:B18 c) (hd:B18 d) :
  Calls Tryz.prog 56 #[.agg #[.int .i64 a,.int .i64 b],.agg #[.int .i64 c,.int .i64 d]] w fun e W'=>e = .returned (.agg #[.int .i64 (timesM a c),.int .i64 (timesM b d)])∧Below w.heap.size w W':=by
 have q0:=fun W=>still (mach_times a c W ha.lo ha.hi hc.lo hc.hi)
 have q1:=fun W=>still (mach_times b d W hb.lo hb.hi hd.lo hd.hi)
 have C:=Lib.hid (And.intro q0 (And.intro q1 trivial))
 clear q0 q1 ha hb hc hd
 go_enter Tryz.func56,Tryz.ntmps56
 go_wp2
 have hbx:=boxes_new w (.int .i64 a) (.int .i64 b) (.int .i64 c) (.int .i64 d) (.int .i64 0) (.int .i64 0) 83
 generalize ((w.alloc (.cells #[.int .i64 a,.int .i64 b] 83)).alloc (.cells #[.int .i64 c,.int .i64 d] 83)).alloc (.cells #[.int .i64 0,.int .i64 0] 83)=W0 at *
 generalize hk:w.heap.size=k at *
 have HK:=Lib.hid hk;clear hk
 have HBD:=Lib.hid hbx.drew
 clear hbx
 obtain ⟨c1,c2,c3,c4,c5,c6,f5,f6,_,_⟩:=HBD.out
 have m1:=mth_times
 have en1:∀ args W,(callFunc 297 args).run Tryz.prog W = .ok (.enter 297 args) W:=enters_of Tryz.func297 (by kernel_rfl) rfl
 go_still_tail 12,(by kernel_rfl)
 still_call (C.out.1 _)
 repeat still_step
 still_call (C.out.2.1 _)
 repeat still_step
 refine wpStill_nil ?_
 change wpList _ _ _ _ _ W0.drew
 clear c1 c2 c3 c4
 generalize W0.drew=W2 at *
 obtain ⟨g5,g6⟩:=two_back c5 c6 (.int .i64 (timesM a c)) (.int .i64 (timesM b d))
 go_wp2
 refine bodyPost_ret (v := .agg #[.int .i64 (timesM a c),.int .i64 (timesM b d)]) (by simp [results,Tryz.results56,go_sem,g5,g6]) rfl ?_
 refine ⟨rfl,?_⟩
 rw [HK.out]
 exact ((HBD.out.below).setCell (p:=⟨k+1+1,0,none⟩) (by show k≤k+1+1;omega) _).setCell (p:=⟨k+1+1,1,none⟩) (by show k≤k+1+1;omega) _
theorem ratioM_any (a b c d:Int) (w:World) (ha:B18 a) (hb:B18 b) (hc:B18 c) (hd:B18 d) :
  Calls Tryz.prog 77 #[.agg #[.int .i64 a,.int .i64 b],.agg #[.int .i64 c,.int .i64 d]] w fun e W'=>e = .returned (.agg #[.int .i64 (timesM a d),.int .i64 (timesM c b)])∧Below w.heap.size w W':=by
 have q0:=fun W=>still (mach_times a d W ha.lo ha.hi hd.lo hd.hi)
 have q1:=fun W=>still (mach_times c b W hc.lo hc.hi hb.lo hb.hi)
 have C:=Lib.hid (And.intro q0 (And.intro q1 trivial))
 clear q0 q1 ha hb hc hd
 go_enter Tryz.func77,Tryz.ntmps77
 go_wp2
 have hbx:=boxes_new w (.int .i64 a) (.int .i64 b) (.int .i64 c) (.int .i64 d) (.int .i64 0) (.int .i64 0) 83
 generalize ((w.alloc (.cells #[.int .i64 a,.int .i64 b] 83)).alloc (.cells #[.int .i64 c,.int .i64 d] 83)).alloc (.cells #[.int .i64 0,.int .i64 0] 83)=W0 at *
 generalize hk:w.heap.size=k at *
 have HK:=Lib.hid hk;clear hk
 have HBD:=Lib.hid hbx.drew
 clear hbx
 obtain ⟨c1,c2,c3,c4,c5,c6,f5,f6,_,_⟩:=HBD.out
 have m1:=mth_times
 have en1:∀ args W,(callFunc 297 args).run Tryz.prog W = .ok (.enter 297 args) W:=enters_of Tryz.func297 (by kernel_rfl) rfl
 go_still_tail 12,(by kernel_rfl)
 still_call (C.out.1 _)
 repeat still_step
 still_call (C.out.2.1 _)
 repeat still_step
 refine wpStill_nil ?_
 change wpList _ _ _ _ _ W0.drew
 clear c1 c2 c3 c4
 generalize W0.drew=W2 at *
 obtain ⟨g5,g6⟩:=two_back c5 c6 (.int .i64 (timesM a d)) (.int .i64 (timesM c b))
 go_wp2
 refine bodyPost_ret (v := .agg #[.int .i64 (timesM a d),.int .i64 (timesM c b)]) (by simp [results,Tryz.results77,go_sem,g5,g6]) rfl ?_
 refine ⟨rfl,?_⟩
 rw [HK.out]
 exact ((HBD.out.below).setCell (p:=⟨k+1+1,0,none⟩) (by show k≤k+1+1;omega) _).setCell (p:=⟨k+1+1,1,none⟩) (by show k≤k+1+1;omega) _
theorem short_m {z:Int} (h:z.natAbs<9223372036854775808):short z :=
 Nat.lt_of_lt_of_le (Nat.lt_of_lt_of_le h (by decide:9223372036854775808≤tenTo 19)) (tenTo_mono (by decide:19≤300))
theorem timesM_n {a b:Int} (h:timesM a b≠tooL):timesM a b=a*b∧(a*b).natAbs<4611686018427387904:=by
 unfold timesM at h ⊢
 by_cases c:(a*b).natAbs<4611686018427387904
 ·rw [if_pos c];exact ⟨rfl,c⟩
 ·rw [if_neg c] at h;exact absurd rfl h
theorem MOK.lo {x:Int} (h:MOK x) : -9223372036854775808≤x:=by
 rcases h with h | h
 ·rw [h];unfold tooL;omega
 ·omega
theorem MOK.hi {x:Int} (h:MOK x):x≤9223372036854775807:=by
 rcases h with h | h
 ·rw [h];unfold tooL;omega
 ·omega
theorem plusM_lo {x y:Int} (hx:MOK x) (hy:MOK y) : -9223372036854775808≤plusM x y∧plusM x y≤9223372036854775807:=by
 unfold plusM
 split
 ·unfold tooL;omega
 ·rename_i h
  rw [not_or] at h
  have h1:=hx.resolve_left h.1
  have h2:=hy.resolve_left h.2
  omega
theorem plusM_n {x y:Int} (h:plusM x y≠tooL):x≠tooL∧y≠tooL∧plusM x y=x+y:=by
 unfold plusM at h ⊢
 by_cases c:x=tooL∨y=tooL
 ·rw [if_pos c] at h;exact absurd rfl h
 ·rw [if_neg c];rw [not_or] at c;exact ⟨c.1,c.2,rfl⟩
theorem lowRE_ne {n d:Int} (h:lowRE n d=0):n≠tooL∧d≠tooL:=by
 unfold lowRE at h
 by_cases c:n=tooL∨d=tooL
 ·rw [if_pos c] at h;cases h
 ·rwa [not_or] at c
theorem lowR_ne {n d:Int} (h1:n≠tooL) (h2:d≠tooL):lowR n d=strQ (Rat.divInt n d):=if_neg (by rintro (h | h);exact h1 h;exact h2 h)
theorem timesM_0 {a b:Int} (ha:a≠0) (hb:b≠0):timesM a b≠0:=by
 unfold timesM
 split
 ·intro h
  rcases Int.mul_eq_zero.1 h with h | h
  ·exact ha h
  ·exact hb h
 ·unfold tooL;omega
theorem den_0 (x:Rat):(x.den:Int)≠0:=by have:=x.den_nz;omega
theorem lowB_pos {n d:Int} (h1:short n) (h2:short d):lowB n d=strQ (Rat.divInt n d)∧lowE n d=0:=⟨if_pos ⟨h1,h2⟩,if_pos ⟨h1,h2⟩⟩
theorem addM_ok (x y:Rat) (h:lowRE (plusM (timesM x.num y.den) (timesM y.num x.den)) (timesM x.den y.den)=0):lowR (plusM (timesM x.num y.den) (timesM y.num x.den)) (timesM x.den y.den)=qaddB x y∧qaddE x y=0:=by
 obtain ⟨h1,h2⟩:=lowRE_ne h
 obtain ⟨h3,h4,e1⟩:=plusM_n h1
 rw [lowR_ne h1 h2,e1]
 obtain ⟨e3,b3⟩:=timesM_n h3
 obtain ⟨e4,b4⟩:=timesM_n h4
 obtain ⟨e2,b2⟩:=timesM_n h2
 rw [e2,e3,e4]
 have hc:crossOK x y:=⟨short_m (by omega),short_m (by omega)⟩
 obtain ⟨l1,l2⟩:=lowB_pos (n:=x.num*y.den+y.num*x.den) (d:=x.den*y.den) (short_m (by omega)) (short_m (by omega))
 unfold qaddB qaddE
 rw [if_pos hc,if_pos hc,l1,l2]
 exact ⟨rfl,rfl⟩
theorem mulM_ok (x y:Rat) (h:lowRE (timesM x.num y.num) (timesM x.den y.den)=0):lowR (timesM x.num y.num) (timesM x.den y.den)=qmulB x y∧qmulE x y=0:=by
 obtain ⟨h1,h2⟩:=lowRE_ne h
 rw [lowR_ne h1 h2]
 obtain ⟨e1,b1⟩:=timesM_n h1
 obtain ⟨e2,b2⟩:=timesM_n h2
 rw [e1,e2]
 obtain ⟨l1,l2⟩:=lowB_pos (n:=x.num*y.num) (d:=x.den*y.den) (short_m (by omega)) (short_m (by omega))
 unfold qmulB qmulE
 rw [l1,l2]
 exact ⟨rfl,rfl⟩
theorem divM_ok (x y:Rat) (h:lowRE (timesM x.num y.den) (timesM y.num x.den)=0):lowR (timesM x.num y.den) (timesM y.num x.den)=qdivB x y∧qdivE x y=0:=by
 obtain ⟨h1,h2⟩:=lowRE_ne h
 rw [lowR_ne h1 h2]
 obtain ⟨e1,b1⟩:=timesM_n h1
 obtain ⟨e2,b2⟩:=timesM_n h2
 rw [e1,e2]
 obtain ⟨l1,l2⟩:=lowB_pos (n:=x.num*y.den) (d:=y.num*x.den) (short_m (by omega)) (short_m (by omega))
 unfold qdivB qdivE
 rw [l1,l2]
 exact ⟨rfl,rfl⟩
def ordR (n d:Int):Int:=if n=tooL∨d=tooL then 0 else cmpZ n d
theorem ordM_ok (x y:Rat) (h:lowRE (timesM x.num y.den) (timesM y.num x.den)=0):ordR (timesM x.num y.den) (timesM y.num x.den)=qcmpR x y∧qcmpE x y=0:=by
 obtain ⟨h1,h2⟩:=lowRE_ne h
 unfold ordR
 rw [if_neg (by rintro (h | h);exact h1 h;exact h2 h)]
 obtain ⟨e1,b1⟩:=timesM_n h1
 obtain ⟨e2,b2⟩:=timesM_n h2
 rw [e1,e2]
 have hc:crossOK x y:=⟨short_m (by omega),short_m (by omega)⟩
 unfold qcmpR qcmpE
 rw [if_pos hc,if_pos hc]
 exact ⟨rfl,rfl⟩
theorem opL_some (f:Int→Int→Int) (a b:Int):opL f (some a) (some b)=mkL (f a b):=rfl
theorem lowO_none (o:Option Int):lowOB none o=⟨#[]⟩∧lowOE none o=4:=by cases o <;> exact ⟨rfl,rfl⟩
theorem lowO_mk (n d:Int):lowOB (mkL n) (mkL d)=lowB n d∧lowOE (mkL n) (mkL d)=lowE n d:=by
 unfold lowB lowE mkL
 by_cases h1:short n
 ·by_cases h2:short d
  ·rw [if_pos h1,if_pos h2,if_pos (show short n∧short d from ⟨h1,h2⟩),if_pos (show short n∧short d from ⟨h1,h2⟩)];exact ⟨rfl,rfl⟩
  ·rw [if_pos h1,if_neg h2,if_neg (show ¬ (short n∧short d) from fun h=>h2 h.2),if_neg (show ¬ (short n∧short d) from fun h=>h2 h.2)];exact ⟨rfl,rfl⟩
 ·rw [if_neg h1,if_neg (show ¬ (short n∧short d) from fun h=>h1 h.1),if_neg (show ¬ (short n∧short d) from fun h=>h1 h.1)];exact lowO_none _
theorem opL_mk (f:Int→Int→Int) (a b:Int):opL f (mkL a) (mkL b)=if short a∧short b then mkL (f a b) else none:=by
 by_cases h1:short a
 ·by_cases h2:short b
  ·rw [if_pos ⟨h1,h2⟩,mkL_some h1,mkL_some h2];rfl
  ·rw [if_neg (fun h=>h2 h.2),show mkL b=none from if_neg h2,opL_none]
 ·rw [if_neg (fun h=>h1 h.1),show mkL a=none from if_neg h1];rfl
theorem addL_ok (x y:Rat):lowOB (opL (· + ·) (opL (· * ·) (some x.num) (some y.den)) (opL (· * ·) (some y.num) (some x.den))) (opL (· * ·) (some x.den) (some y.den))=qaddB x y∧lowOE (opL (· + ·) (opL (· * ·) (some x.num) (some y.den)) (opL (· * ·) (some y.num) (some x.den))) (opL (· * ·) (some x.den) (some y.den))=qaddE x y:=by
 rw [opL_some,opL_some,opL_some,opL_mk]
 unfold qaddB qaddE
 by_cases hc:crossOK x y
 ·rw [if_pos hc,if_pos hc,if_pos (show short (x.num*y.den)∧short (y.num*x.den) from hc)]
  exact lowO_mk _ _
 ·rw [if_neg hc,if_neg hc,if_neg (show ¬ (short (x.num*y.den)∧short (y.num*x.den)) from hc)]
  exact lowO_none _
theorem mulL_ok (x y:Rat):lowOB (opL (· * ·) (some x.num) (some y.num)) (opL (· * ·) (some x.den) (some y.den))=qmulB x y∧lowOE (opL (· * ·) (some x.num) (some y.num)) (opL (· * ·) (some x.den) (some y.den))=qmulE x y:=by
 rw [opL_some,opL_some]
 exact lowO_mk _ _
theorem divL_ok (x y:Rat):lowOB (opL (· * ·) (some x.num) (some y.den)) (opL (· * ·) (some y.num) (some x.den))=qdivB x y∧lowOE (opL (· * ·) (some x.num) (some y.den)) (opL (· * ·) (some y.num) (some x.den))=qdivE x y:=by
 rw [opL_some,opL_some]
 exact lowO_mk _ _
def ordOR:Option Int→Option Int→Int
 | some n,some d=>cmpZ n d
 | _,_=>0
theorem ordL_ok (x y:Rat):ordOR (opL (· * ·) (some x.num) (some y.den)) (opL (· * ·) (some y.num) (some x.den))=qcmpR x y∧lowOE (opL (· * ·) (some x.num) (some y.den)) (opL (· * ·) (some y.num) (some x.den))=qcmpE x y:=by
 rw [opL_some,opL_some]
 unfold qcmpR qcmpE mkL
 by_cases h1:short (x.num*y.den)
 ·by_cases h2:short (y.num*x.den)
  ·have hc:crossOK x y:=⟨h1,h2⟩
   rw [if_pos h1,if_pos h2,if_pos hc,if_pos hc];exact ⟨rfl,rfl⟩
  ·have hc:¬ crossOK x y:=fun h=>h2 h.2
   rw [if_pos h1,if_neg h2,if_neg hc,if_neg hc];exact ⟨rfl,rfl⟩
 ·have hc:¬ crossOK x y:=fun h=>h1 h.1
  rw [if_neg h1,if_neg hc,if_neg hc]
  cases (if short (y.num*x.den) then some (y.num*x.den) else none) <;> exact ⟨rfl,rfl⟩
theorem sumL_any (a b c d:Option Int) (w:World) (ha:Lwf a) (hb:Lwf b) (hc:Lwf c) (hd:Lwf d) (ht:Tab w) :
  Calls Tryz.prog 39 #[.agg #[.string (LB a),.int .i64 (LE a),.string (LB b),.int .i64 (LE b)],.agg #[.string (LB c),.int .i64 (LE c),.string (LB d),.int .i64 (LE d)]] w fun e W'=>e = .returned (.agg #[.string (LB (opL (· + ·) (opL (· * ·) a d) (opL (· * ·) c b))),.int .i64 (LE (opL (· + ·) (opL (· * ·) a d) (opL (· * ·) c b))),.string (LB (opL (· * ·) b d)),.int .i64 (LE (opL (· * ·) b d))])∧Below w.heap.size w W':=by
 have ct:=fun o p W (ho:Lwf o) (hp:Lwf p) (hW:Below w.heap.size w W)=>long_times o p W ho hp (ht.next hW)
 have cp:=fun o p W (ho:Lwf o) (hp:Lwf p) (hW:Below w.heap.size w W)=>long_plus o p W ho hp (ht.next hW)
 have cm:=fun o p W (ho:Lwf o) (hp:Lwf p) (hW:Below w.heap.size w W)=>long_minus o p W ho hp (ht.next hW)
 have C:=Lib.hid (And.intro ct (And.intro cp cm))
 clear ct cp cm ht
 go_enter Tryz.func39,Tryz.ntmps39
 go_wp2
 have hbx:Bxs w w.heap.size [[.string (LB a),.int .i64 (LE a),.string (LB b),.int .i64 (LE b)],[.string (LB c),.int .i64 (LE c),.string (LB d),.int .i64 (LE d)],[.string ⟨#[]⟩,.int .i64 0,.string ⟨#[]⟩,.int .i64 0]] (((w.alloc (.cells #[.string (LB a),.int .i64 (LE a),.string (LB b),.int .i64 (LE b)] 87)).alloc (.cells #[.string (LB c),.int .i64 (LE c),.string (LB d),.int .i64 (LE d)] 87)).alloc (.cells #[.string ⟨#[]⟩,.int .i64 0,.string ⟨#[]⟩,.int .i64 0] 87)):=(((Bxs.nil w w (Below.refl _ _)).push rfl [.string (LB a),.int .i64 (LE a),.string (LB b),.int .i64 (LE b)] 87).push (by simp) [.string (LB c),.int .i64 (LE c),.string (LB d),.int .i64 (LE d)] 87).push (by simp) [.string ⟨#[]⟩,.int .i64 0,.string ⟨#[]⟩,.int .i64 0] 87
 generalize ((w.alloc (.cells #[.string (LB a),.int .i64 (LE a),.string (LB b),.int .i64 (LE b)] 87)).alloc (.cells #[.string (LB c),.int .i64 (LE c),.string (LB d),.int .i64 (LE d)] 87)).alloc (.cells #[.string ⟨#[]⟩,.int .i64 0,.string ⟨#[]⟩,.int .i64 0] 87)=W0 at *
 generalize hk:w.heap.size=k at *
 have HK:=Lib.hid hk;clear hk
 have HB:=Lib.hid (hbx.next (Below.refl _ _).drew)
 clear hbx
 have e0:=(show _=some (.string (LB a)) from HB.out.cells 0 _ rfl 0 _ rfl);have e1:=(show _=some (.int .i64 (LE a)) from HB.out.cells 0 _ rfl 1 _ rfl);have e2:=(show _=some (.string (LB b)) from HB.out.cells 0 _ rfl 2 _ rfl);have e3:=(show _=some (.int .i64 (LE b)) from HB.out.cells 0 _ rfl 3 _ rfl);have e4:=(show _=some (.string (LB c)) from HB.out.cells 1 _ rfl 0 _ rfl);have e5:=(show _=some (.int .i64 (LE c)) from HB.out.cells 1 _ rfl 1 _ rfl);have e6:=(show _=some (.string (LB d)) from HB.out.cells 1 _ rfl 2 _ rfl);have e7:=(show _=some (.int .i64 (LE d)) from HB.out.cells 1 _ rfl 3 _ rfl);have z0:=(show World.cell? _ ⟨k+1+1,0,none⟩=some (.string ⟨#[]⟩) from HB.out.cells 2 _ rfl 0 _ rfl);have f0:=(show World.frozen? _ ⟨k+1+1,0,none⟩=false from HB.out.frozen 2 (by simp) 0);have z1:=(show World.cell? _ ⟨k+1+1,1,none⟩=some (.int .i64 0) from HB.out.cells 2 _ rfl 1 _ rfl);have f1:=(show World.frozen? _ ⟨k+1+1,1,none⟩=false from HB.out.frozen 2 (by simp) 1);have z2:=(show World.cell? _ ⟨k+1+1,2,none⟩=some (.string ⟨#[]⟩) from HB.out.cells 2 _ rfl 2 _ rfl);have f2:=(show World.frozen? _ ⟨k+1+1,2,none⟩=false from HB.out.frozen 2 (by simp) 2);have z3:=(show World.cell? _ ⟨k+1+1,3,none⟩=some (.int .i64 0) from HB.out.cells 2 _ rfl 3 _ rfl);have f3:=(show World.frozen? _ ⟨k+1+1,3,none⟩=false from HB.out.frozen 2 (by simp) 3)
 go_region_held3 (fun w'=>w'.cell? ⟨k,0,none⟩=some (.string (LB a))∧w'.cell? ⟨k,1,none⟩=some (.int .i64 (LE a))∧w'.cell? ⟨k,2,none⟩=some (.string (LB b))∧w'.cell? ⟨k,3,none⟩=some (.int .i64 (LE b))∧w'.cell? ⟨k+1,0,none⟩=some (.string (LB c))∧w'.cell? ⟨k+1,1,none⟩=some (.int .i64 (LE c))∧w'.cell? ⟨k+1,2,none⟩=some (.string (LB d))∧w'.cell? ⟨k+1,3,none⟩=some (.int .i64 (LE d))) (first | exact ⟨e0,e1,e2,e3,e4,e5,e6,e7⟩ | (go_keep;done) | ((try dsimp only);refine ⟨?_,?_,?_,?_,?_,?_,?_,?_⟩ <;> (exact far4 (by omega) (by assumption))))
  (first | (go_at_call 309;refine (C.out.1 _ _ _ (by first | assumption | exact opL_wf _ _ _) (by first | assumption | exact opL_wf _ _ _) (by have:=HB.out.below;rwa [HK.out] at this)).mono ?_;rintro e w1 ⟨rfl,hbw⟩;have HN:=Lib.hid (HB.out.next hbw);clear HB hbw;have HB:=HN;clear HN;have e0:=(show _=some (.string (LB a)) from HB.out.cells 0 _ rfl 0 _ rfl);have e1:=(show _=some (.int .i64 (LE a)) from HB.out.cells 0 _ rfl 1 _ rfl);have e2:=(show _=some (.string (LB b)) from HB.out.cells 0 _ rfl 2 _ rfl);have e3:=(show _=some (.int .i64 (LE b)) from HB.out.cells 0 _ rfl 3 _ rfl);have e4:=(show _=some (.string (LB c)) from HB.out.cells 1 _ rfl 0 _ rfl);have e5:=(show _=some (.int .i64 (LE c)) from HB.out.cells 1 _ rfl 1 _ rfl);have e6:=(show _=some (.string (LB d)) from HB.out.cells 1 _ rfl 2 _ rfl);have e7:=(show _=some (.int .i64 (LE d)) from HB.out.cells 1 _ rfl 3 _ rfl);have z0:=(show World.cell? _ ⟨k+1+1,0,none⟩=some (.string ⟨#[]⟩) from HB.out.cells 2 _ rfl 0 _ rfl);have f0:=(show World.frozen? _ ⟨k+1+1,0,none⟩=false from HB.out.frozen 2 (by simp) 0);have z1:=(show World.cell? _ ⟨k+1+1,1,none⟩=some (.int .i64 0) from HB.out.cells 2 _ rfl 1 _ rfl);have f1:=(show World.frozen? _ ⟨k+1+1,1,none⟩=false from HB.out.frozen 2 (by simp) 1);have z2:=(show World.cell? _ ⟨k+1+1,2,none⟩=some (.string ⟨#[]⟩) from HB.out.cells 2 _ rfl 2 _ rfl);have f2:=(show World.frozen? _ ⟨k+1+1,2,none⟩=false from HB.out.frozen 2 (by simp) 2);have z3:=(show World.cell? _ ⟨k+1+1,3,none⟩=some (.int .i64 0) from HB.out.cells 2 _ rfl 3 _ rfl);have f3:=(show World.frozen? _ ⟨k+1+1,3,none⟩=false from HB.out.frozen 2 (by simp) 3)) | (go_at_call 308;refine (C.out.2.1 _ _ _ (by first | assumption | exact opL_wf _ _ _) (by first | assumption | exact opL_wf _ _ _) (by have:=HB.out.below;rwa [HK.out] at this)).mono ?_;rintro e w1 ⟨rfl,hbw⟩;have HN:=Lib.hid (HB.out.next hbw);clear HB hbw;have HB:=HN;clear HN;have e0:=(show _=some (.string (LB a)) from HB.out.cells 0 _ rfl 0 _ rfl);have e1:=(show _=some (.int .i64 (LE a)) from HB.out.cells 0 _ rfl 1 _ rfl);have e2:=(show _=some (.string (LB b)) from HB.out.cells 0 _ rfl 2 _ rfl);have e3:=(show _=some (.int .i64 (LE b)) from HB.out.cells 0 _ rfl 3 _ rfl);have e4:=(show _=some (.string (LB c)) from HB.out.cells 1 _ rfl 0 _ rfl);have e5:=(show _=some (.int .i64 (LE c)) from HB.out.cells 1 _ rfl 1 _ rfl);have e6:=(show _=some (.string (LB d)) from HB.out.cells 1 _ rfl 2 _ rfl);have e7:=(show _=some (.int .i64 (LE d)) from HB.out.cells 1 _ rfl 3 _ rfl);have z0:=(show World.cell? _ ⟨k+1+1,0,none⟩=some (.string ⟨#[]⟩) from HB.out.cells 2 _ rfl 0 _ rfl);have f0:=(show World.frozen? _ ⟨k+1+1,0,none⟩=false from HB.out.frozen 2 (by simp) 0);have z1:=(show World.cell? _ ⟨k+1+1,1,none⟩=some (.int .i64 0) from HB.out.cells 2 _ rfl 1 _ rfl);have f1:=(show World.frozen? _ ⟨k+1+1,1,none⟩=false from HB.out.frozen 2 (by simp) 1);have z2:=(show World.cell? _ ⟨k+1+1,2,none⟩=some (.string ⟨#[]⟩) from HB.out.cells 2 _ rfl 2 _ rfl);have f2:=(show World.frozen? _ ⟨k+1+1,2,none⟩=false from HB.out.frozen 2 (by simp) 2);have z3:=(show World.cell? _ ⟨k+1+1,3,none⟩=some (.int .i64 0) from HB.out.cells 2 _ rfl 3 _ rfl);have f3:=(show World.frozen? _ ⟨k+1+1,3,none⟩=false from HB.out.frozen 2 (by simp) 3)))
 have e0:=(show _=some (.string (LB a)) from HB.out.cells 0 _ rfl 0 _ rfl);have e1:=(show _=some (.int .i64 (LE a)) from HB.out.cells 0 _ rfl 1 _ rfl);have e2:=(show _=some (.string (LB b)) from HB.out.cells 0 _ rfl 2 _ rfl);have e3:=(show _=some (.int .i64 (LE b)) from HB.out.cells 0 _ rfl 3 _ rfl);have e4:=(show _=some (.string (LB c)) from HB.out.cells 1 _ rfl 0 _ rfl);have e5:=(show _=some (.int .i64 (LE c)) from HB.out.cells 1 _ rfl 1 _ rfl);have e6:=(show _=some (.string (LB d)) from HB.out.cells 1 _ rfl 2 _ rfl);have e7:=(show _=some (.int .i64 (LE d)) from HB.out.cells 1 _ rfl 3 _ rfl);have z0:=(show World.cell? _ ⟨k+1+1,0,none⟩=some (.string ⟨#[]⟩) from HB.out.cells 2 _ rfl 0 _ rfl);have f0:=(show World.frozen? _ ⟨k+1+1,0,none⟩=false from HB.out.frozen 2 (by simp) 0);have z1:=(show World.cell? _ ⟨k+1+1,1,none⟩=some (.int .i64 0) from HB.out.cells 2 _ rfl 1 _ rfl);have f1:=(show World.frozen? _ ⟨k+1+1,1,none⟩=false from HB.out.frozen 2 (by simp) 1);have z2:=(show World.cell? _ ⟨k+1+1,2,none⟩=some (.string ⟨#[]⟩) from HB.out.cells 2 _ rfl 2 _ rfl);have f2:=(show World.frozen? _ ⟨k+1+1,2,none⟩=false from HB.out.frozen 2 (by simp) 2);have z3:=(show World.cell? _ ⟨k+1+1,3,none⟩=some (.int .i64 0) from HB.out.cells 2 _ rfl 3 _ rfl);have f3:=(show World.frozen? _ ⟨k+1+1,3,none⟩=false from HB.out.frozen 2 (by simp) 3)
 obtain ⟨g0,g1,g2,g3⟩:=fourB_back z0 z1 z2 z3 (.string (LB (opL (· + ·) (opL (· * ·) a d) (opL (· * ·) c b)))) (.int .i64 (LE (opL (· + ·) (opL (· * ·) a d) (opL (· * ·) c b)))) (.string (LB (opL (· * ·) b d))) (.int .i64 (LE (opL (· * ·) b d)))
 go_wp2
 refine bodyPost_ret (v := .agg #[.string (LB (opL (· + ·) (opL (· * ·) a d) (opL (· * ·) c b))),.int .i64 (LE (opL (· + ·) (opL (· * ·) a d) (opL (· * ·) c b))),.string (LB (opL (· * ·) b d)),.int .i64 (LE (opL (· * ·) b d))]) (by simp [results,Tryz.results39,go_sem,g0,g1,g2,g3]) rfl ?_
 refine ⟨rfl,?_⟩
 have hbl:=HB.out.below
 rw [HK.out] at hbl ⊢
 exact (((hbl.setCell (p:=⟨k+1+1,0,none⟩) (by show k≤k+1+1;omega) _).setCell (p:=⟨k+1+1,1,none⟩) (by show k≤k+1+1;omega) _).setCell (p:=⟨k+1+1,2,none⟩) (by show k≤k+1+1;omega) _).setCell (p:=⟨k+1+1,3,none⟩) (by show k≤k+1+1;omega) _
end Go.Proofs.YtjdfjgfdbgmbiaaGreatDoor
namespace Go.Proofs.YtjdfjgfdbgmbiaaGreatDoor
open Go.Lib
theorem strQ_int (z:Int):strQ (z:Rat)=strB z:=by
 unfold strQ strB itoaQ
 rw [Rat.den_intCast,if_pos rfl,Rat.num_intCast]
theorem strQ_zero:strQ 0=⟨#[48]⟩:=by
 have h:=strQ_int 0
 rw [Rat.intCast_zero] at h
 rw [h];exact str_of 0 [48] itoa_zero
theorem strQ_one:strQ 1=⟨#[49]⟩:=by
 have h:=strQ_int 1
 rw [Rat.intCast_one] at h
 rw [h];exact str_of 1 [49] itoa_one
theorem isNeg_app (l m:List UInt8) (h:l ≠ []):isNeg (l++m)=isNeg l:=by
 cases l with
 | nil=>exact absurd rfl h
 | cons a t=>rfl
theorem itoa_ne (z:Int):itoa z ≠ []:=fun h=>by
 have h1:=chk_itoa z
 rw [h,show chk []=11 by decide] at h1
 split at h1 <;> omega
theorem strQ_neg (q:Rat):isNeg (strQ q).data.toList=decide (q<0):=by
 have h:decide (q<0)=decide (q.num<0):=by
  apply decide_eq_decide.2
  rw [←Rat.not_le,←Rat.num_nonneg];omega
 rw [strQ_data,h]
 unfold itoaQ
 split
 ·rw [head_itoa_neg]
 ·rw [isNeg_app _ _ (itoa_ne _),head_itoa_neg]
theorem strQ_pos (q:Rat):0<(strQ q).size:=by
 rw [←size_len,strQ_data]
 have h:=List.length_pos_iff.2 (itoa_ne q.num)
 unfold itoaQ
 split
 ·exact h
 ·rw [List.length_append];omega
theorem strQ_toList (x y:Rat):((strQ x).toList==(strQ y).toList)=decide (x=y):=by
 by_cases h:x=y
 ·subst h;simp
 ·rw [decide_eq_false h,beq_eq_false_iff_ne,ByteArray.toList_eq,ByteArray.toList_eq,strQ_data,strQ_data]
  exact fun e=>h (itoaQ_inj e)
theorem strQ_is0 (x:Rat):((strQ x).toList == [48])=decide (x=0):=by
 have h:=strQ_toList x 0
 rw [strQ_zero,ByteArray.toList_eq ⟨#[48]⟩] at h
 exact h
theorem Bq_int {k:Nat} {z:Int} (hk:1≤k) (h:Bd k z):Bq k (z:Rat):=by
 refine ⟨by rw [Rat.num_intCast];exact h,?_⟩
 rw [Rat.den_intCast]
 exact Nat.lt_of_lt_of_le (by decide) (tenTo_mono hk)
theorem Bq_zero:Bq 1 0:=by have:=Bq_int (k:=1) (z:=0) (by omega) (by show Int.natAbs 0<tenTo 1;decide);rwa [Rat.intCast_zero] at this
theorem Bq_one:Bq 1 1:=by have:=Bq_int (k:=1) (z:=1) (by omega) (by show Int.natAbs 1<tenTo 1;decide);rwa [Rat.intCast_one] at this
theorem cmpQ_range (x y:Rat):cmpQ x y = -1∧x<y∨cmpQ x y=0∧x=y∨cmpQ x y=1∧y<x:=by
 rcases ratTri x y with h | h | h
 ·exact .inl ⟨cmpQ_lt h,h⟩
 ·subst h;exact .inr (.inl ⟨cmpQ_eq x,rfl⟩)
 ·exact .inr (.inr ⟨cmpQ_gt h,h⟩)
end Go.Proofs.YtjdfjgfdbgmbiaaGreatDoor
namespace Go.Proofs.YtjdfjgfdbgmbiaaGreatDoor
open Go.RowKit
end Go.Proofs.YtjdfjgfdbgmbiaaGreatDoor
