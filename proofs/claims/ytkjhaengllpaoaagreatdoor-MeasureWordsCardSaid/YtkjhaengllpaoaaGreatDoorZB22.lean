/- Parts of the proof of the text YtkjhaengllpaoaaGreatDoorZB27. -/
import Derived.Test.YtkjhaengllpaoaaGreatDoorZB1
import Derived.Test.YtkjhaengllpaoaaGreatDoorZB16
import Derived.Test.YtkjhaengllpaoaaGreatDoorZB17
import Derived.Test.YtkjhaengllpaoaaGreatDoorZB20
import Derived.Test.YtkjhaengllpaoaaGreatDoorZB6
import Derived.Test.YtkjhaengllpaoaaGreatDoorZB8
set_option linter.all false
set_option maxRecDepth 100000
set_option maxHeartbeats 8000000
namespace Go.Proofs.YtkjhaengllpaoaaGreatDoor
open Go.RowKit
theorem orderM_bad (a b c d n m : Int) (x : Int) (n1 : (x == 0) = false) (n2 : (x != 0) = true) (w : World)
   (hr : CqB w 58 #[.agg #[.int .i64 a, .int .i64 b], .agg #[.int .i64 c, .int .i64 d]] (.agg #[.int .i64 n, .int .i64 m]))
   (hf : CqB w 125 #[.agg #[.int .i64 n, .int .i64 m]] (.int .i64 x)) :
   Calls Tryz.prog 82 #[.agg #[.int .i64 a, .int .i64 b], .agg #[.int .i64 c, .int .i64 d]] w fun e W' => e = .returned (.tuple #[.int .i64 0, .int .i64 x]) ∧ Below w.heap.size w W' := by
 have C := Lib.hid (And.intro hr (And.intro hf trivial)); clear hr hf
 have hB : Below w.heap.size w ((w.alloc (.cells #[.int .i64 a, .int .i64 b] 113)).alloc (.cells #[.int .i64 c, .int .i64 d] 113)) := ((Below.refl _ w).alloc (Nat.le_refl _) _).alloc (by simp) _
 go_enter Tryz.func82, Tryz.ntmps82
 go_wp2_with fail
 generalize (w.alloc (.cells #[.int .i64 a, .int .i64 b] 113)).alloc (.cells #[.int .i64 c, .int .i64 d] 113) = W0 at *
 have HB := Lib.hid hB; clear hB
 refine (C.out.1 _ HB.out).mono ?_
 rintro e w1 ⟨rfl, b⟩
 have q0 := Blk.new w1 #[.int .i64 n, .int .i64 m] 113
 have hB := (HB.out.trans (b.mono HB.out.size)).alloc (Nat.le_trans HB.out.size b.size) (.cells #[.int .i64 n, .int .i64 m] 113)
 have c0 := q0.cell 0 (.int .i64 n) rfl
 have c1 := q0.cell 1 (.int .i64 m) rfl
 clear b HB
 go_wp2_with fail
 generalize w1.alloc (.cells #[.int .i64 n, .int .i64 m] 113) = w2 at *
 generalize w1.heap.size = j at *
 have H2 := Lib.hid (And.intro hB q0); clear hB q0 c0 c1
 refine (C.out.2.1 _ H2.out.1).mono ?_
 rintro e w3 ⟨rfl, b⟩
 have H3 := Lib.hid (And.intro (H2.out.1.trans (b.mono H2.out.1.size)) (H2.out.2.next b)); clear b H2
 have c0 := H3.out.2.cell 0 (.int .i64 n) rfl
 have c1 := H3.out.2.cell 1 (.int .i64 m) rfl
 go_wp2
 go_ret2
 exact ⟨rfl, H3.out.1⟩
theorem orderM_ok (a b c d n m : Int) (r : Int) (w : World)
   (hr : CqB w 58 #[.agg #[.int .i64 a, .int .i64 b], .agg #[.int .i64 c, .int .i64 d]] (.agg #[.int .i64 n, .int .i64 m]))
   (hf : CqB w 125 #[.agg #[.int .i64 n, .int .i64 m]] (.int .i64 0))
   (hc : CqB w 232 #[.int .i64 n, .int .i64 m] (.int .i64 r)) :
   Calls Tryz.prog 82 #[.agg #[.int .i64 a, .int .i64 b], .agg #[.int .i64 c, .int .i64 d]] w fun e W' => e = .returned (.tuple #[.int .i64 r, .int .i64 0]) ∧ Below w.heap.size w W' := by
 have C := Lib.hid (And.intro hr (And.intro hf hc)); clear hr hf hc
 have hB : Below w.heap.size w ((w.alloc (.cells #[.int .i64 a, .int .i64 b] 113)).alloc (.cells #[.int .i64 c, .int .i64 d] 113)) := ((Below.refl _ w).alloc (Nat.le_refl _) _).alloc (by simp) _
 go_enter Tryz.func82, Tryz.ntmps82
 go_wp2_with fail
 generalize (w.alloc (.cells #[.int .i64 a, .int .i64 b] 113)).alloc (.cells #[.int .i64 c, .int .i64 d] 113) = W0 at *
 have HB := Lib.hid hB; clear hB
 refine (C.out.1 _ HB.out).mono ?_
 rintro e w1 ⟨rfl, b⟩
 have q0 := Blk.new w1 #[.int .i64 n, .int .i64 m] 113
 have hB := (HB.out.trans (b.mono HB.out.size)).alloc (Nat.le_trans HB.out.size b.size) (.cells #[.int .i64 n, .int .i64 m] 113)
 have c0 := q0.cell 0 (.int .i64 n) rfl
 have c1 := q0.cell 1 (.int .i64 m) rfl
 clear b HB
 go_wp2_with fail
 generalize w1.alloc (.cells #[.int .i64 n, .int .i64 m] 113) = w2 at *
 generalize w1.heap.size = j at *
 have H2 := Lib.hid (And.intro hB q0); clear hB q0 c0 c1
 refine (C.out.2.1 _ H2.out.1).mono ?_
 rintro e w3 ⟨rfl, b⟩
 have H3 := Lib.hid (And.intro (H2.out.1.trans (b.mono H2.out.1.size)) (H2.out.2.next b)); clear b H2
 have c0 := H3.out.2.cell 0 (.int .i64 n) rfl
 have c1 := H3.out.2.cell 1 (.int .i64 m) rfl
 go_wp2_with fail
 refine (C.out.2.2 _ H3.out.1).mono ?_
 rintro e w4 ⟨rfl, b⟩
 have H4 := Lib.hid (H3.out.1.trans (b.mono H3.out.1.size)); clear b
 go_wp2
 go_ret2
 exact ⟨rfl, H4.out⟩
theorem orderL_bad (a b c d n m : ByteArray) (a' b' c' d' n' m' : Int) (x : Int) (n1 : (x == 0) = false) (n2 : (x != 0) = true) (w : World)
   (hr : CqB w 60 #[.agg #[.string a, .int .i64 a', .string b, .int .i64 b'], .agg #[.string c, .int .i64 c', .string d, .int .i64 d']] (.agg #[.string n, .int .i64 n', .string m, .int .i64 m']))
   (hf : CqB w 126 #[.agg #[.string n, .int .i64 n', .string m, .int .i64 m']] (.int .i64 x)) :
   Calls Tryz.prog 83 #[.agg #[.string a, .int .i64 a', .string b, .int .i64 b'], .agg #[.string c, .int .i64 c', .string d, .int .i64 d']] w fun e W' => e = .returned (.tuple #[.int .i64 0, .int .i64 x]) ∧ Below w.heap.size w W' := by
 have C := Lib.hid (And.intro hr (And.intro hf trivial)); clear hr hf
 have hB : Below w.heap.size w ((w.alloc (.cells #[.string a, .int .i64 a', .string b, .int .i64 b'] 117)).alloc (.cells #[.string c, .int .i64 c', .string d, .int .i64 d'] 117)) := ((Below.refl _ w).alloc (Nat.le_refl _) _).alloc (by simp) _
 go_enter Tryz.func83, Tryz.ntmps83
 go_wp2_with fail
 generalize (w.alloc (.cells #[.string a, .int .i64 a', .string b, .int .i64 b'] 117)).alloc (.cells #[.string c, .int .i64 c', .string d, .int .i64 d'] 117) = W0 at *
 have HB := Lib.hid hB; clear hB
 refine (C.out.1 _ HB.out).mono ?_
 rintro e w1 ⟨rfl, b⟩
 have q0 := Blk.new w1 #[.string n, .int .i64 n', .string m, .int .i64 m'] 117
 have hB := (HB.out.trans (b.mono HB.out.size)).alloc (Nat.le_trans HB.out.size b.size) (.cells #[.string n, .int .i64 n', .string m, .int .i64 m'] 117)
 have c0 := q0.cell 0 (.string n) rfl
 have c1 := q0.cell 1 (.int .i64 n') rfl
 have c2 := q0.cell 2 (.string m) rfl
 have c3 := q0.cell 3 (.int .i64 m') rfl
 clear b HB
 go_wp2_with fail
 generalize w1.alloc (.cells #[.string n, .int .i64 n', .string m, .int .i64 m'] 117) = w2 at *
 generalize w1.heap.size = j at *
 have H2 := Lib.hid (And.intro hB q0); clear hB q0 c0 c1 c2 c3
 refine (C.out.2.1 _ H2.out.1).mono ?_
 rintro e w3 ⟨rfl, b⟩
 have H3 := Lib.hid (And.intro (H2.out.1.trans (b.mono H2.out.1.size)) (H2.out.2.next b)); clear b H2
 have c0 := H3.out.2.cell 0 (.string n) rfl
 have c1 := H3.out.2.cell 1 (.int .i64 n') rfl
 have c2 := H3.out.2.cell 2 (.string m) rfl
 have c3 := H3.out.2.cell 3 (.int .i64 m') rfl
 go_wp2
 go_ret2
 exact ⟨rfl, H3.out.1⟩
theorem orderL_ok (a b c d n m : ByteArray) (a' b' c' d' n' m' : Int) (r : Int) (w : World)
   (hr : CqB w 60 #[.agg #[.string a, .int .i64 a', .string b, .int .i64 b'], .agg #[.string c, .int .i64 c', .string d, .int .i64 d']] (.agg #[.string n, .int .i64 n', .string m, .int .i64 m']))
   (hf : CqB w 126 #[.agg #[.string n, .int .i64 n', .string m, .int .i64 m']] (.int .i64 0))
   (hc : CqB w 246 #[.agg #[.string n, .int .i64 n'], .agg #[.string m, .int .i64 m']] (.int .i64 r)) :
   Calls Tryz.prog 83 #[.agg #[.string a, .int .i64 a', .string b, .int .i64 b'], .agg #[.string c, .int .i64 c', .string d, .int .i64 d']] w fun e W' => e = .returned (.tuple #[.int .i64 r, .int .i64 0]) ∧ Below w.heap.size w W' := by
 have C := Lib.hid (And.intro hr (And.intro hf hc)); clear hr hf hc
 have hB : Below w.heap.size w ((w.alloc (.cells #[.string a, .int .i64 a', .string b, .int .i64 b'] 117)).alloc (.cells #[.string c, .int .i64 c', .string d, .int .i64 d'] 117)) := ((Below.refl _ w).alloc (Nat.le_refl _) _).alloc (by simp) _
 go_enter Tryz.func83, Tryz.ntmps83
 go_wp2_with fail
 generalize (w.alloc (.cells #[.string a, .int .i64 a', .string b, .int .i64 b'] 117)).alloc (.cells #[.string c, .int .i64 c', .string d, .int .i64 d'] 117) = W0 at *
 have HB := Lib.hid hB; clear hB
 refine (C.out.1 _ HB.out).mono ?_
 rintro e w1 ⟨rfl, b⟩
 have q0 := Blk.new w1 #[.string n, .int .i64 n', .string m, .int .i64 m'] 117
 have hB := (HB.out.trans (b.mono HB.out.size)).alloc (Nat.le_trans HB.out.size b.size) (.cells #[.string n, .int .i64 n', .string m, .int .i64 m'] 117)
 have c0 := q0.cell 0 (.string n) rfl
 have c1 := q0.cell 1 (.int .i64 n') rfl
 have c2 := q0.cell 2 (.string m) rfl
 have c3 := q0.cell 3 (.int .i64 m') rfl
 clear b HB
 go_wp2_with fail
 generalize w1.alloc (.cells #[.string n, .int .i64 n', .string m, .int .i64 m'] 117) = w2 at *
 generalize w1.heap.size = j at *
 have H2 := Lib.hid (And.intro hB q0); clear hB q0 c0 c1 c2 c3
 refine (C.out.2.1 _ H2.out.1).mono ?_
 rintro e w3 ⟨rfl, b⟩
 have H3 := Lib.hid (And.intro (H2.out.1.trans (b.mono H2.out.1.size)) (H2.out.2.next b)); clear b H2
 have c0 := H3.out.2.cell 0 (.string n) rfl
 have c1 := H3.out.2.cell 1 (.int .i64 n') rfl
 have c2 := H3.out.2.cell 2 (.string m) rfl
 have c3 := H3.out.2.cell 3 (.int .i64 m') rfl
 go_wp2_with fail
 refine (C.out.2.2 _ H3.out.1).mono ?_
 rintro e w4 ⟨rfl, b⟩
 have H4 := Lib.hid (H3.out.1.trans (b.mono H3.out.1.size)); clear b
 go_wp2
 go_ret2
 exact ⟨rfl, H4.out⟩
theorem lowestM_n1 (n d n' d' : Int) (en : -n = n') (ed : -d = d') (w : World) (n0 : -9223372036854775808 < n) (n1 : n ≤ 9223372036854775807) (d0 : -9223372036854775808 < d) (d1 : d ≤ 9223372036854775807) (hd : d < 0) (hg : gcdZ n' d' = 1) (ht : Tab w) (ht2 : Tab64 w) :
   Calls Tryz.prog 103 #[.agg #[.int .i64 n, .int .i64 d]] w fun e W' => e = .returned (.tuple #[.string (strT n' d'), .int .i64 0]) ∧ Below w.heap.size w W' := by
 have cf := fun W => fitM_any n d W
 rw [if_neg (show ¬ (n = tooL ∨ d = tooL) by unfold tooL; omega)] at cf
 have cn := fun W => mach_neg d W
 rw [decide_eq_true hd] at cn
 have co1 := fun W => still (mach_opp n W n0 n1)
 have co2 := fun W => still (mach_opp d W d0 d1)
 rw [en] at co1
 rw [ed] at co2
 have cg := fun W (hW : Below w.heap.size w W) => mach_divisor n' d' W (by omega) (by omega) (by omega) (by omega) (TabQ_next ht2 hW)
 have c1 := fun W => mach_one (gcdZ n' d') W
 rw [show (gcdZ n' d' == 1) = true by simpa using hg] at c1
 have cv1 := trivial
 have cv2 := trivial
 have ct := fun W (hW : Below w.heap.size w W) => textM_any n' d' W (by omega) (by omega) (by omega) (by omega) (ht.next hW)
 have C := Lib.hid (And.intro cf (And.intro cn (And.intro co1 (And.intro co2 (And.intro cg (And.intro c1 (And.intro cv1 (And.intro cv2 ct))))))))
 clear en ed cf cn co1 co2 cg c1 cv1 cv2 ct ht ht2 n0 n1 d0 d1 hd hg
 rw [show ((Nat.gcd (n').natAbs (d').natAbs : Nat) : Int) = gcdZ n' d' from rfl] at C
 generalize gcdZ n' d' = g at *
 go_enter Tryz.func103, Tryz.ntmps103
 go_wp2_with fail
 have hb := Cell2.new w (.int .i64 n) (.int .i64 d) 113
 generalize w.alloc (.cells #[.int .i64 n, .int .i64 d] 113) = W0 at *
 generalize hk : w.heap.size = k at *
 have HK := Lib.hid hk; clear hk
 have HB := Lib.hid hb; clear hb
 refine (C.out.1 _).mono ?_
 rintro e w1 ⟨rfl, b⟩
 have H1 := Lib.hid (HB.out.next b); clear b HB
 have c0 := H1.out.c0
 have c1 := H1.out.c1
 go_wp2_with fail
 refine (C.out.2.1 _).mono ?_
 rintro e w' ⟨rfl, rfl⟩
 have f0 := H1.out.f0
 have f1 := H1.out.f1
 go_wp2
 have H2 := Lib.hid (show Cell2 w k _ _ w1.drew from H1.out.next (Below.refl _ _).drew)
 clear H1
 have c0 := H2.out.c0
 have c1 := H2.out.c1
 have mt := mth_opp
 have en1 : ∀ args W, (callFunc 237 args).run Tryz.prog W = .ok (.enter 237 args) W := enters_of Tryz.func237 (by kernel_rfl) rfl
 go_still_tail 8, (by kernel_rfl)
 still_call (C.out.2.2.1 _)
 repeat still_step
 still_call (C.out.2.2.2.1 _)
 repeat still_step
 refine wpStill_nil ?_
 change wpList _ _ _ _ _ w1.drew
 clear c0 c1 f0 f1 mt en1
 generalize w1.drew = w1 at *
 have f0 := H2.out.f0
 have f1 := H2.out.f1
 have H1 := Lib.hid (H2.out.put2 (.int .i64 n') (.int .i64 d'))
 have c0 := H1.out.c0
 have c1 := H1.out.c1
 have d0 := H2.out.c0
 have d1 := H2.out.c1
 obtain ⟨g0, g1⟩ := two_back d0 d1 (.int .i64 n') (.int .i64 d')
 clear H2
 go_wp2_with fail
 clear f0 f1 d0 d1 g0 g1
 generalize (w1.setCell ⟨k, 0, none⟩ (.int .i64 n')).setCell ⟨k, 1, none⟩ (.int .i64 d') = w1 at *
 go_wp2_with fail
 refine (C.out.2.2.2.2.1 _ (by have := H1.out.below; rwa [HK.out] at this)).mono ?_
 rintro e w' ⟨rfl, rfl⟩
 go_wp2_with fail
 refine (C.out.2.2.2.2.2.1 _).mono ?_
 rintro e w' ⟨rfl, rfl⟩
 go_wp2_with fail
 refine (C.out.2.2.2.2.2.2.2.2 _ (by have := H1.out.below; rwa [HK.out] at this)).mono ?_
 rintro e w2 ⟨rfl, b⟩
 have H2 := Lib.hid (H1.out.below.trans (b.mono H1.out.below.size))
 clear b c0 c1
 go_wp2
 go_ret2
 exact ⟨rfl, by have := H2.out; rwa [HK.out] at this ⊢⟩
theorem lowestM_ng (n d n' d' : Int) (en : -n = n') (ed : -d = d') (w : World) (n0 : -9223372036854775808 < n) (n1 : n ≤ 9223372036854775807) (d0 : -9223372036854775808 < d) (d1 : d ≤ 9223372036854775807) (hd : d < 0) (hg : ¬ gcdZ n' d' = 1) (ht : Tab w) (ht2 : Tab64 w) :
   Calls Tryz.prog 103 #[.agg #[.int .i64 n, .int .i64 d]] w fun e W' => e = .returned (.tuple #[.string (strT (n'.tdiv (gcdZ n' d')) (d'.tdiv (gcdZ n' d'))), .int .i64 0]) ∧ Below w.heap.size w W' := by
 have cf := fun W => fitM_any n d W
 rw [if_neg (show ¬ (n = tooL ∨ d = tooL) by unfold tooL; omega)] at cf
 have cn := fun W => mach_neg d W
 rw [decide_eq_true hd] at cn
 have co1 := fun W => still (mach_opp n W n0 n1)
 have co2 := fun W => still (mach_opp d W d0 d1)
 rw [en] at co1
 rw [ed] at co2
 have cg := fun W (hW : Below w.heap.size w W) => mach_divisor n' d' W (by omega) (by omega) (by omega) (by omega) (TabQ_next ht2 hW)
 have c1 := fun W => mach_one (gcdZ n' d') W
 rw [show (gcdZ n' d' == 1) = false by simpa using hg] at c1
 have hgp := gcdZ_pos (n := n') (d := d') (by omega)
 have hgl : gcdZ n' d' ≤ 9223372036854775807 := by
   have : gcdZ n' d' ≤ d' := Int.le_of_dvd (by omega) (gcdZ_dvd n' d').2
   omega
 have bn := tdiv_b (n := n') hgp (by omega) (by omega)
 have bd := tdiv_b (n := d') hgp (by omega) (by omega)
 have cv1 := fun W => still (mach_over n' (gcdZ n' d') W (by omega) (by omega) hgp hgl)
 have cv2 := fun W => still (mach_over d' (gcdZ n' d') W (by omega) (by omega) hgp hgl)
 have ct := fun W (hW : Below w.heap.size w W) => textM_any (n'.tdiv (gcdZ n' d')) (d'.tdiv (gcdZ n' d')) W bn.1 bn.2 bd.1 bd.2 (ht.next hW)
 clear hgp hgl bn bd
 have C := Lib.hid (And.intro cf (And.intro cn (And.intro co1 (And.intro co2 (And.intro cg (And.intro c1 (And.intro cv1 (And.intro cv2 ct))))))))
 clear en ed cf cn co1 co2 cg c1 cv1 cv2 ct ht ht2 n0 n1 d0 d1 hd hg
 rw [show ((Nat.gcd (n').natAbs (d').natAbs : Nat) : Int) = gcdZ n' d' from rfl] at C
 generalize gcdZ n' d' = g at *
 go_enter Tryz.func103, Tryz.ntmps103
 go_wp2_with fail
 have hb := Cell2.new w (.int .i64 n) (.int .i64 d) 113
 generalize w.alloc (.cells #[.int .i64 n, .int .i64 d] 113) = W0 at *
 generalize hk : w.heap.size = k at *
 have HK := Lib.hid hk; clear hk
 have HB := Lib.hid hb; clear hb
 refine (C.out.1 _).mono ?_
 rintro e w1 ⟨rfl, b⟩
 have H1 := Lib.hid (HB.out.next b); clear b HB
 have c0 := H1.out.c0
 have c1 := H1.out.c1
 go_wp2_with fail
 refine (C.out.2.1 _).mono ?_
 rintro e w' ⟨rfl, rfl⟩
 have f0 := H1.out.f0
 have f1 := H1.out.f1
 go_wp2
 have H2 := Lib.hid (show Cell2 w k _ _ w1.drew from H1.out.next (Below.refl _ _).drew)
 clear H1
 have c0 := H2.out.c0
 have c1 := H2.out.c1
 have mt := mth_opp
 have en1 : ∀ args W, (callFunc 237 args).run Tryz.prog W = .ok (.enter 237 args) W := enters_of Tryz.func237 (by kernel_rfl) rfl
 go_still_tail 8, (by kernel_rfl)
 still_call (C.out.2.2.1 _)
 repeat still_step
 still_call (C.out.2.2.2.1 _)
 repeat still_step
 refine wpStill_nil ?_
 change wpList _ _ _ _ _ w1.drew
 clear c0 c1 f0 f1 mt en1
 generalize w1.drew = w1 at *
 have f0 := H2.out.f0
 have f1 := H2.out.f1
 have H1 := Lib.hid (H2.out.put2 (.int .i64 n') (.int .i64 d'))
 have c0 := H1.out.c0
 have c1 := H1.out.c1
 have d0 := H2.out.c0
 have d1 := H2.out.c1
 obtain ⟨g0, g1⟩ := two_back d0 d1 (.int .i64 n') (.int .i64 d')
 clear H2
 go_wp2_with fail
 clear f0 f1 d0 d1 g0 g1
 generalize (w1.setCell ⟨k, 0, none⟩ (.int .i64 n')).setCell ⟨k, 1, none⟩ (.int .i64 d') = w1 at *
 go_wp2_with fail
 refine (C.out.2.2.2.2.1 _ (by have := H1.out.below; rwa [HK.out] at this)).mono ?_
 rintro e w' ⟨rfl, rfl⟩
 go_wp2_with fail
 refine (C.out.2.2.2.2.2.1 _).mono ?_
 rintro e w' ⟨rfl, rfl⟩
 have f0 := H1.out.f0
 have f1 := H1.out.f1
 go_wp2
 have H2 := Lib.hid (show Cell2 w k _ _ w1.drew from H1.out.next (Below.refl _ _).drew)
 clear H1
 have c0 := H2.out.c0
 have c1 := H2.out.c1
 have mt := mth_over
 have en1 : ∀ args W, (callFunc 238 args).run Tryz.prog W = .ok (.enter 238 args) W := enters_of Tryz.func238 (by kernel_rfl) rfl
 go_still_tail 10, (by kernel_rfl)
 still_call (C.out.2.2.2.2.2.2.1 _)
 repeat still_step
 still_call (C.out.2.2.2.2.2.2.2.1 _)
 repeat still_step
 refine wpStill_nil ?_
 change wpList _ _ _ _ _ w1.drew
 clear c0 c1 f0 f1 mt en1
 generalize w1.drew = w1 at *
 have f0 := H2.out.f0
 have f1 := H2.out.f1
 have H1 := Lib.hid (H2.out.put2 (.int .i64 (n'.tdiv g)) (.int .i64 (d'.tdiv g)))
 have c0 := H1.out.c0
 have c1 := H1.out.c1
 have d0 := H2.out.c0
 have d1 := H2.out.c1
 obtain ⟨g0, g1⟩ := two_back d0 d1 (.int .i64 (n'.tdiv g)) (.int .i64 (d'.tdiv g))
 clear H2
 go_wp2_with fail
 clear f0 f1 d0 d1 g0 g1
 generalize (w1.setCell ⟨k, 0, none⟩ (.int .i64 (n'.tdiv g))).setCell ⟨k, 1, none⟩ (.int .i64 (d'.tdiv g)) = w1 at *
 go_wp2_with fail
 refine (C.out.2.2.2.2.2.2.2.2 _ (by have := H1.out.below; rwa [HK.out] at this)).mono ?_
 rintro e w2 ⟨rfl, b⟩
 have H2 := Lib.hid (H1.out.below.trans (b.mono H1.out.below.size))
 clear b c0 c1
 go_wp2
 go_ret2
 exact ⟨rfl, by have := H2.out; rwa [HK.out] at this ⊢⟩
def lowRE (n d : Int) : Int := if n = tooL ∨ d = tooL then 4 else 0
theorem lowestM_any (n d : Int) (w : World) (n0 : -9223372036854775808 ≤ n) (n1 : n ≤ 9223372036854775807) (d0 : -9223372036854775808 ≤ d) (d1 : d ≤ 9223372036854775807) (hd : d ≠ 0) (ht : Tab w) (ht2 : Tab64 w) :
   Calls Tryz.prog 103 #[.agg #[.int .i64 n, .int .i64 d]] w fun e W' => e = .returned (.tuple #[.string (lowR n d), .int .i64 (lowRE n d)]) ∧ Below w.heap.size w W' := by
 by_cases h : n = tooL ∨ d = tooL
 · have c := lowestM_bad n d w h
   unfold lowR lowRE
   rw [if_pos h, if_pos h]; exact c
 · unfold lowR lowRE
   rw [if_neg h, if_neg h]
   have hn : -9223372036854775808 < n := by
     have : n ≠ tooL := fun e => h (.inl e)
     unfold tooL at this; omega
   have hd2 : -9223372036854775808 < d := by
     have : d ≠ tooL := fun e => h (.inr e)
     unfold tooL at this; omega
   rcases Int.lt_or_gt_of_ne hd with hs | hs
   · have hp : 0 < -d := by omega
     by_cases hg : gcdZ (-n) (-d) = 1
     · have c := lowestM_n1 n d (-n) (-d) rfl rfl w hn n1 hd2 d1 hs hg ht ht2
       rwa [low_1 hp hg, Rat.neg_divInt_neg] at c
     · have c := lowestM_ng n d (-n) (-d) rfl rfl w hn n1 hd2 d1 hs hg ht ht2
       rwa [low_t hp, Rat.neg_divInt_neg] at c
   · by_cases hg : gcdZ n d = 1
     · have c := lowestM_p1 n d w hn n1 hd2 d1 hs hg ht ht2
       rwa [low_1 hs hg] at c
     · have c := lowestM_pg n d w hn n1 hd2 d1 hs hg ht ht2
       rwa [low_t hs] at c
theorem lowestL_gcd (n d N D : Int) (o : Bool) (w : World) (hn : short n) (hd : short d) (hN : short N) (hD : short D) (hs : 0 < D) (ho : decide (d < 0) = o) (hS : (o = true ∧ N = -n ∧ D = -d) ∨ (o = false ∧ N = n ∧ D = d)) (hg : ¬ gcdZ N D = 1) (ht : Tab w) :
   Calls Tryz.prog 105 #[.agg #[.string (strB n), .int .i64 0, .string (strB d), .int .i64 0]] w fun e W' => e = .returned (.tuple #[.string (strT (N.fdiv (gcdZ N D)) (D.fdiv (gcdZ N D))), .int .i64 0]) ∧ Below w.heap.size w W' := by
 have cf : ∀ W, Calls Tryz.prog 126 #[.agg #[.string (strB n), .int .i64 0, .string (strB d), .int .i64 0]] W fun e W' => e = .returned (.int .i64 0) ∧ Below W.heap.size W W' := fun W => fitL_some n (some d) W
 have cn := fun W => long_neg d W
 rw [ho] at cn
 have co1 := fun W (hW : Below w.heap.size w W) => long_opp1 n W hn (ht.next hW)
 have co2 := fun W (hW : Below w.heap.size w W) => long_opp1 d W hd (ht.next hW)
 have cg := fun W (hW : Below w.heap.size w W) => long_div1 N D W hN hD (ht.next hW)
 have c1 := fun W => long_one (gcdZ N D) W
 rw [show (decide (gcdZ N D = 1)) = false by simpa using hg] at c1
 have hgp := gcdZ_pos (n := N) (d := D) (by omega)
 have hgs := gcdZ_short hN hD
 have cv1 := fun W (hW : Below w.heap.size w W) => long_over1 N (gcdZ N D) W hN hgs (by omega) (ht.next hW)
 have cv2 := fun W (hW : Below w.heap.size w W) => long_over1 D (gcdZ N D) W hD hgs (by omega) (ht.next hW)
 have ct := fun W (_ : Below w.heap.size w W) => textL_any (N.fdiv (gcdZ N D)) (D.fdiv (gcdZ N D)) W (fdiv_short hN (by omega)) (fdiv_short hD (by omega))
 clear hgp hgs
 have hT : (o = true ∧ strB (-n) = strB N ∧ strB (-d) = strB D) ∨ (o = false ∧ strB n = strB N ∧ strB d = strB D) := by
   rcases hS with ⟨h1, h2, h3⟩ | ⟨h1, h2, h3⟩
   · exact .inl ⟨h1, by rw [h2], by rw [h3]⟩
   · exact .inr ⟨h1, by rw [h2], by rw [h3]⟩
 have C := Lib.hid (And.intro cf (And.intro cn (And.intro co1 (And.intro co2 (And.intro cg (And.intro c1 (And.intro cv1 (And.intro cv2 ct))))))))
 clear cf cn co1 co2 cg c1 cv1 cv2 ct ht hn hd hN hD hs hg ho hS
 generalize strT (N.fdiv (gcdZ N D)) (D.fdiv (gcdZ N D)) = res at *
 generalize strB (N.fdiv (gcdZ N D)) = qn at *
 generalize strB (D.fdiv (gcdZ N D)) = qd at *
 generalize strB (gcdZ N D) = sg at *
 generalize strB (-n) = mn at *
 generalize strB (-d) = md at *
 generalize strB N = tn at *
 generalize strB D = td at *
 generalize strB n = sn at *
 generalize strB d = sd at *
 go_enter Tryz.func105, Tryz.ntmps105
 go_wp2_with fail
 have hb : BB w w.heap.size #[.string sn, .int .i64 0, .string sd, .int .i64 0] (w.alloc (.cells #[.string sn, .int .i64 0, .string sd, .int .i64 0] 117)) := BB.new w _ _
 generalize w.alloc (.cells #[.string sn, .int .i64 0, .string sd, .int .i64 0] 117) = W0 at *
 generalize hk : w.heap.size = k at *
 have HK := Lib.hid hk; clear hk
 have HB := Lib.hid hb; clear hb
 refine (C.out.1 _).mono ?_
 rintro e w1 ⟨rfl, b⟩
 have H1 := Lib.hid (HB.out.next b); clear b HB
 have c0 := H1.out.blk.cell 0 (.string sn) rfl; have c1 := H1.out.blk.cell 1 (.int .i64 0) rfl; have c2 := H1.out.blk.cell 2 (.string sd) rfl; have c3 := H1.out.blk.cell 3 (.int .i64 0) rfl
 go_wp2_with fail
 refine (C.out.2.1 _).mono ?_
 rintro e w2 ⟨rfl, b⟩
 have H2 := Lib.hid (H1.out.next b); clear b H1; have H1 := H2; clear H2
 clear c0 c1 c2 c3
 go_upto_if 14 with fail
 go_cut [] from 15 to 23 (fun wx => BB w k #[.string tn, .int .i64 0, .string td, .int .i64 0] wx)
 case first =>
   rcases hT with ⟨rfl, rfl, rfl⟩ | ⟨rfl, rfl, rfl⟩
   · have c0 := H1.out.blk.cell 0 (.string sn) rfl; have c1 := H1.out.blk.cell 1 (.int .i64 0) rfl; have c2 := H1.out.blk.cell 2 (.string sd) rfl; have c3 := H1.out.blk.cell 3 (.int .i64 0) rfl
     have f0 := H1.out.blk.free 0; have f1 := H1.out.blk.free 1; have f2 := H1.out.blk.free 2; have f3 := H1.out.blk.free 3
     go_wp2_with fail
     skip
     have HD := Lib.hid (H1.out.next (Below.refl _ _).drew); clear H1; have H1 := HD; clear HD
     have c0 := H1.out.blk.cell 0 (.string sn) rfl; have c1 := H1.out.blk.cell 1 (.int .i64 0) rfl; have c2 := H1.out.blk.cell 2 (.string sd) rfl; have c3 := H1.out.blk.cell 3 (.int .i64 0) rfl
     have f0 := H1.out.blk.free 0; have f1 := H1.out.blk.free 1; have f2 := H1.out.blk.free 2; have f3 := H1.out.blk.free 3
     go_region_with (first | (go_at_call 250; refine (C.out.2.2.1 _ (by have := H1.out.below; rwa [HK.out] at this)).mono ?_; rintro e wr ⟨rfl, hbw⟩; have HN := Lib.hid (H1.out.next hbw); clear H1 hbw; have H1 := HN; clear HN; have c0 := H1.out.blk.cell 0 (.string sn) rfl; have c1 := H1.out.blk.cell 1 (.int .i64 0) rfl; have c2 := H1.out.blk.cell 2 (.string sd) rfl; have c3 := H1.out.blk.cell 3 (.int .i64 0) rfl; have f0 := H1.out.blk.free 0; have f1 := H1.out.blk.free 1; have f2 := H1.out.blk.free 2; have f3 := H1.out.blk.free 3) | (go_at_call 250; refine (C.out.2.2.2.1 _ (by have := H1.out.below; rwa [HK.out] at this)).mono ?_; rintro e wr ⟨rfl, hbw⟩; have HN := Lib.hid (H1.out.next hbw); clear H1 hbw; have H1 := HN; clear HN; have c0 := H1.out.blk.cell 0 (.string sn) rfl; have c1 := H1.out.blk.cell 1 (.int .i64 0) rfl; have c2 := H1.out.blk.cell 2 (.string sd) rfl; have c3 := H1.out.blk.cell 3 (.int .i64 0) rfl; have f0 := H1.out.blk.free 0; have f1 := H1.out.blk.free 1; have f2 := H1.out.blk.free 2; have f3 := H1.out.blk.free 3))
     all_goals
       have HP := Lib.hid (H1.out.put4 (.string mn) (.int .i64 0) (.string md) (.int .i64 0))
       go_wp2_with fail
       go_meet
       exact HP.out
   · go_wp2_with fail
     go_meet
     exact H1.out
 case rest =>
 clear H1
 have H1 := Lib.hid hcut; clear hcut hT
 have c0 := H1.out.blk.cell 0 (.string tn) rfl; have c1 := H1.out.blk.cell 1 (.int .i64 0) rfl; have c2 := H1.out.blk.cell 2 (.string td) rfl; have c3 := H1.out.blk.cell 3 (.int .i64 0) rfl
 go_wp2_with fail
 refine (C.out.2.2.2.2.1 _ (by have := H1.out.below; rwa [HK.out] at this)).mono ?_
 rintro e w3 ⟨rfl, b⟩
 have H2 := Lib.hid (H1.out.next b); clear b H1; have H1 := H2; clear H2
 have c0 := H1.out.blk.cell 0 (.string tn) rfl; have c1 := H1.out.blk.cell 1 (.int .i64 0) rfl; have c2 := H1.out.blk.cell 2 (.string td) rfl; have c3 := H1.out.blk.cell 3 (.int .i64 0) rfl
 go_wp2_with fail
 have HM := Lib.hid (Blk.new w3 #[.string sg, .int .i64 0] 87)
 have H2 := Lib.hid (H1.out.next ((Below.refl _ w3).alloc (Nat.le_refl _) (.cells #[.string sg, .int .i64 0] 87)))
 have hkj : k ≠ w3.heap.size := by have := H1.out.blk.lt; omega
 clear H1 c0 c1 c2 c3; have H1 := H2; clear H2
 generalize w3.alloc (.cells #[.string sg, .int .i64 0] 87) = w3' at *
 generalize w3.heap.size = j at *
 refine (C.out.2.2.2.2.2.1 _).mono ?_
 rintro e w4 ⟨rfl, b⟩
 have H2 := Lib.hid (H1.out.next b); clear H1; have H1 := H2; clear H2
 have HM2 := Lib.hid (HM.out.next b); clear HM b; have HM := HM2; clear HM2
 have c0 := H1.out.blk.cell 0 (.string tn) rfl; have c1 := H1.out.blk.cell 1 (.int .i64 0) rfl; have c2 := H1.out.blk.cell 2 (.string td) rfl; have c3 := H1.out.blk.cell 3 (.int .i64 0) rfl
 have f0 := H1.out.blk.free 0; have f1 := H1.out.blk.free 1; have f2 := H1.out.blk.free 2; have f3 := H1.out.blk.free 3
 have m0 := HM.out.cell 0 (.string sg) rfl; have m1 := HM.out.cell 1 (.int .i64 0) rfl
 go_upto_region 8 with fail
 go_cut [] from 34 to 44 (fun wx => BB w k #[.string qn, .int .i64 0, .string qd, .int .i64 0] wx)
 case first =>
   have HMN := Lib.hid (HM.out.next (Below.refl _ _).drew); clear HM; have HM := HMN; clear HMN; have m0 := HM.out.cell 0 (.string sg) rfl; have m1 := HM.out.cell 1 (.int .i64 0) rfl
   have HD := Lib.hid (H1.out.next (Below.refl _ _).drew); clear H1; have H1 := HD; clear HD
   have c0 := H1.out.blk.cell 0 (.string tn) rfl; have c1 := H1.out.blk.cell 1 (.int .i64 0) rfl; have c2 := H1.out.blk.cell 2 (.string td) rfl; have c3 := H1.out.blk.cell 3 (.int .i64 0) rfl
   have f0 := H1.out.blk.free 0; have f1 := H1.out.blk.free 1; have f2 := H1.out.blk.free 2; have f3 := H1.out.blk.free 3
   go_region_with (first | (go_at_call 251; refine (C.out.2.2.2.2.2.2.1 _ (by have := H1.out.below; rwa [HK.out] at this)).mono ?_; rintro e wr ⟨rfl, hbw⟩; have HMN := Lib.hid (HM.out.next hbw); clear HM; have HM := HMN; clear HMN; have m0 := HM.out.cell 0 (.string sg) rfl; have m1 := HM.out.cell 1 (.int .i64 0) rfl; have HN := Lib.hid (H1.out.next hbw); clear H1 hbw; have H1 := HN; clear HN; have c0 := H1.out.blk.cell 0 (.string tn) rfl; have c1 := H1.out.blk.cell 1 (.int .i64 0) rfl; have c2 := H1.out.blk.cell 2 (.string td) rfl; have c3 := H1.out.blk.cell 3 (.int .i64 0) rfl; have f0 := H1.out.blk.free 0; have f1 := H1.out.blk.free 1; have f2 := H1.out.blk.free 2; have f3 := H1.out.blk.free 3) | (go_at_call 251; refine (C.out.2.2.2.2.2.2.2.1 _ (by have := H1.out.below; rwa [HK.out] at this)).mono ?_; rintro e wr ⟨rfl, hbw⟩; have HMN := Lib.hid (HM.out.next hbw); clear HM; have HM := HMN; clear HMN; have m0 := HM.out.cell 0 (.string sg) rfl; have m1 := HM.out.cell 1 (.int .i64 0) rfl; have HN := Lib.hid (H1.out.next hbw); clear H1 hbw; have H1 := HN; clear HN; have c0 := H1.out.blk.cell 0 (.string tn) rfl; have c1 := H1.out.blk.cell 1 (.int .i64 0) rfl; have c2 := H1.out.blk.cell 2 (.string td) rfl; have c3 := H1.out.blk.cell 3 (.int .i64 0) rfl; have f0 := H1.out.blk.free 0; have f1 := H1.out.blk.free 1; have f2 := H1.out.blk.free 2; have f3 := H1.out.blk.free 3))
   all_goals
     have HP := Lib.hid (H1.out.put4 (.string qn) (.int .i64 0) (.string qd) (.int .i64 0))
     go_wp2_with fail
     go_meet
     exact HP.out
 case rest =>
 clear H1 c0 c1 c2 c3 f0 f1 f2 f3 HM m0 m1
 have H1 := Lib.hid hcut; clear hcut
 have c0 := H1.out.blk.cell 0 (.string qn) rfl; have c1 := H1.out.blk.cell 1 (.int .i64 0) rfl; have c2 := H1.out.blk.cell 2 (.string qd) rfl; have c3 := H1.out.blk.cell 3 (.int .i64 0) rfl
 go_wp2_with fail
 refine (C.out.2.2.2.2.2.2.2.2 _ (by have := H1.out.below; rwa [HK.out] at this)).mono ?_
 rintro e w5 ⟨rfl, b⟩
 have H2 := Lib.hid (H1.out.below.trans (b.mono H1.out.below.size))
 clear b c0 c1 c2 c3
 go_wp2
 go_ret2
 exact ⟨rfl, by have := H2.out; rwa [HK.out] at this ⊢⟩
def lowOB : Option Int → Option Int → ByteArray
 | some n, some d => strQ (Rat.divInt n d)
 | _, _ => ⟨#[]⟩
def lowOE : Option Int → Option Int → Int
 | some _, some _ => 0
 | _, _ => 4
theorem lowestL_any (o p : Option Int) (w : World) (ho : Lwf o) (hp : Lwf p) (h0 : p ≠ some 0) (ht : Tab w) :
   Calls Tryz.prog 105 #[.agg #[.string (LB o), .int .i64 (LE o), .string (LB p), .int .i64 (LE p)]] w fun e W' => e = .returned (.tuple #[.string (lowOB o p), .int .i64 (lowOE o p)]) ∧ Below w.heap.size w W' := by
 cases o with
 | none => exact lowestL_bad none p w (.inl rfl)
 | some n =>
   cases p with
   | none => exact lowestL_bad (some n) none w (.inr rfl)
   | some d =>
     have hn := ho n rfl
     have hd := hp d rfl
     have hz : d ≠ 0 := fun e => h0 (by rw [e])
     show Calls _ _ _ _ (fun e W' => e = .returned (.tuple #[.string (strQ (Rat.divInt n d)), .int .i64 0]) ∧ _)
     have key : ∀ (N D : Int) (o : Bool), short N → short D → 0 < D → decide (d < 0) = o → ((o = true ∧ N = -n ∧ D = -d) ∨ (o = false ∧ N = n ∧ D = d)) → Calls Tryz.prog 105 #[.agg #[.string (strB n), .int .i64 0, .string (strB d), .int .i64 0]] w fun e W' => e = .returned (.tuple #[.string (strQ (Rat.divInt N D)), .int .i64 0]) ∧ Below w.heap.size w W' := by
       intro N D o hN hD hs ho hS
       by_cases hg : gcdZ N D = 1
       · have c := lowestL_one n d N D o w hn hd hN hD hs ho hS hg ht
         rw [low_1 hs hg] at c; exact c
       · have c := lowestL_gcd n d N D o w hn hd hN hD hs ho hS hg ht
         rw [low_f hs] at c; exact c
     rcases Int.lt_or_gt_of_ne hz with hs | hs
     · have c := key (-n) (-d) true (neg_short hn) (neg_short hd) (by omega) (decide_eq_true hs) (.inl ⟨rfl, rfl, rfl⟩)
       rw [Rat.neg_divInt_neg] at c; exact c
     · exact key n d false hn hd hs (decide_eq_false (by omega)) (.inr ⟨rfl, rfl, rfl⟩)
def minusM (x y : Int) : Int := plusM x (negM y)
theorem negM_ok {y : Int} (h : MOK y) : MOK (negM y) := by
 unfold negM
 split
 · exact .inl rfl
 · have := h.resolve_left (by assumption)
   exact .inr (by omega)
theorem mach_oppM (y : Int) (w : World) (hy : MOK y) :
   Calls Tryz.prog 237 #[.int .i64 y] w fun e W' => e = .returned (.int .i64 (negM y)) ∧ w = W' := by
 unfold negM
 by_cases h : y = tooL
 · rw [if_pos h]
   subst h
   unfold tooL
   go_enter Tryz.func237, Tryz.ntmps237
   go_wp2
   go_ret
   exact ⟨ret_int (by unfold wrap64; omega), rfl⟩
 · rw [if_neg h]
   have := hy.resolve_left h
   exact mach_opp y w (by omega) (by omega)
theorem mach_minusM (x y : Int) (w : World) (hx : MOK x) (hy : MOK y) :
   Calls Tryz.prog 236 #[.int .i64 x, .int .i64 y] w fun e W' => e = .returned (.int .i64 (minusM x y)) ∧ w = W' := by
 have C := Lib.hid (And.intro (fun W => mach_oppM y W hy) (fun W => mach_plusM x (negM y) W hx (negM_ok hy)))
 unfold minusM
 clear hx hy
 generalize negM y = z at *
 generalize plusM x z = s at *
 go_enter Tryz.func236, Tryz.ntmps236
 go_wp2_with fail
 refine (C.out.1 _).mono ?_
 rintro e w' ⟨rfl, rfl⟩
 go_wp2_with fail
 refine (C.out.2 _).mono ?_
 rintro e w' ⟨rfl, rfl⟩
 go_wp2
 go_ret
 exact ⟨rfl, rfl⟩
theorem isNaN_m (x : Int) (w : World) :
   Calls Tryz.prog 244 #[.int .i64 x] w fun e W' => e = .returned (.bool false) ∧ w = W' := by
 go_enter Tryz.func244, Tryz.ntmps244
 go_wp2
 go_ret
 exact ⟨by simp, rfl⟩
theorem cmpM_any (x y : Int) (w : World) :
   Calls Tryz.prog 242 #[.int .i64 x, .int .i64 y] w fun e W' => e = .returned (.int .i64 (cmpZ x y)) ∧ w = W' := by
 have C := Lib.hid (And.intro (fun W => isNaN_m x W) (fun W => isNaN_m y W))
 have hc : (x < y ∧ cmpZ x y = -1) ∨ (¬ x < y ∧ y < x ∧ cmpZ x y = 1) ∨ (¬ x < y ∧ ¬ y < x ∧ cmpZ x y = 0) := by
   unfold cmpZ
   by_cases h : x < y
   · exact .inl ⟨h, if_pos h⟩
   · by_cases h2 : y < x
     · exact .inr (.inl ⟨h, h2, by rw [if_neg h, if_pos h2]⟩)
     · exact .inr (.inr ⟨h, h2, by rw [if_neg h, if_neg h2]⟩)
 rcases hc with ⟨h1, h2⟩ | ⟨h1, h3, h2⟩ | ⟨h1, h3, h2⟩
 all_goals
   rw [h2]
   clear h2
   go_enter Tryz.func242, Tryz.ntmps242
   go_wp2_with fail
   refine (C.out.1 _).mono ?_
   rintro e w' ⟨rfl, rfl⟩
   go_wp2_with fail
   refine (C.out.2 _).mono ?_
   rintro e w' ⟨rfl, rfl⟩
   go_wp2
   go_ret
   exact ⟨rfl, rfl⟩
theorem mach_cmp (x y : Int) (w : World) :
   Calls Tryz.prog 232 #[.int .i64 x, .int .i64 y] w fun e W' => e = .returned (.int .i64 (cmpZ x y)) ∧ w = W' := by
 have C := Lib.hid (fun W => cmpM_any x y W)
 generalize cmpZ x y = c at *
 go_enter Tryz.func232, Tryz.ntmps232
 go_wp2_with fail
 refine (C.out _).mono ?_
 rintro e w' ⟨rfl, rfl⟩
 go_wp2
 go_ret
 exact ⟨rfl, rfl⟩
theorem productM_any (a b c d : Int) (w : World) (ha : B18 a) (hb : B18 b) (hc : B18 c) (hd : B18 d) :
   Calls Tryz.prog 99 #[.agg #[.int .i64 a, .int .i64 b], .agg #[.int .i64 c, .int .i64 d]] w fun e W' => e = .returned (.agg #[.int .i64 (timesM a c), .int .i64 (timesM b d)]) ∧ Below w.heap.size w W' := by
 have q0 := fun W => still (mach_times a c W ha.lo ha.hi hc.lo hc.hi)
 have q1 := fun W => still (mach_times b d W hb.lo hb.hi hd.lo hd.hi)
 have C := Lib.hid (And.intro q0 (And.intro q1 trivial))
 clear q0 q1 ha hb hc hd
 go_enter Tryz.func99, Tryz.ntmps99
 go_wp2
 have hbx := boxes_new w (.int .i64 a) (.int .i64 b) (.int .i64 c) (.int .i64 d) (.int .i64 0) (.int .i64 0) 113
 generalize ((w.alloc (.cells #[.int .i64 a, .int .i64 b] 113)).alloc (.cells #[.int .i64 c, .int .i64 d] 113)).alloc (.cells #[.int .i64 0, .int .i64 0] 113) = W0 at *
 generalize hk : w.heap.size = k at *
 have HK := Lib.hid hk; clear hk
 have HBD := Lib.hid hbx.drew
 clear hbx
 obtain ⟨c1, c2, c3, c4, c5, c6, f5, f6, _, _⟩ := HBD.out
 have m1 := mth_times
 have m3 := mth_minus
 have en1 : ∀ args W, (callFunc 240 args).run Tryz.prog W = .ok (.enter 240 args) W := enters_of Tryz.func240 (by kernel_rfl) rfl
 have en3 : ∀ args W, (callFunc 236 args).run Tryz.prog W = .ok (.enter 236 args) W := enters_of Tryz.func236 (by kernel_rfl) rfl
 go_still_tail 12, (by kernel_rfl)
 still_call (C.out.1 _)
 repeat still_step
 still_call (C.out.2.1 _)
 repeat still_step
 refine wpStill_nil ?_
 change wpList _ _ _ _ _ W0.drew
 clear c1 c2 c3 c4
 generalize W0.drew = W2 at *
 obtain ⟨g5, g6⟩ := two_back c5 c6 (.int .i64 (timesM a c)) (.int .i64 (timesM b d))
 go_wp2
 refine bodyPost_ret (v := .agg #[.int .i64 (timesM a c), .int .i64 (timesM b d)]) (by simp [results, Tryz.results99, go_sem, g5, g6]) rfl ?_
 refine ⟨rfl, ?_⟩
 rw [HK.out]
 exact ((HBD.out.below).setCell (p := ⟨k + 1 + 1, 0, none⟩) (by show k ≤ k + 1 + 1; omega) _).setCell (p := ⟨k + 1 + 1, 1, none⟩) (by show k ≤ k + 1 + 1; omega) _
theorem ratioM_any (a b c d : Int) (w : World) (ha : B18 a) (hb : B18 b) (hc : B18 c) (hd : B18 d) :
   Calls Tryz.prog 58 #[.agg #[.int .i64 a, .int .i64 b], .agg #[.int .i64 c, .int .i64 d]] w fun e W' => e = .returned (.agg #[.int .i64 (timesM a d), .int .i64 (timesM c b)]) ∧ Below w.heap.size w W' := by
 have q0 := fun W => still (mach_times a d W ha.lo ha.hi hd.lo hd.hi)
 have q1 := fun W => still (mach_times c b W hc.lo hc.hi hb.lo hb.hi)
 have C := Lib.hid (And.intro q0 (And.intro q1 trivial))
 clear q0 q1 ha hb hc hd
 go_enter Tryz.func58, Tryz.ntmps58
 go_wp2
 have hbx := boxes_new w (.int .i64 a) (.int .i64 b) (.int .i64 c) (.int .i64 d) (.int .i64 0) (.int .i64 0) 113
 generalize ((w.alloc (.cells #[.int .i64 a, .int .i64 b] 113)).alloc (.cells #[.int .i64 c, .int .i64 d] 113)).alloc (.cells #[.int .i64 0, .int .i64 0] 113) = W0 at *
 generalize hk : w.heap.size = k at *
 have HK := Lib.hid hk; clear hk
 have HBD := Lib.hid hbx.drew
 clear hbx
 obtain ⟨c1, c2, c3, c4, c5, c6, f5, f6, _, _⟩ := HBD.out
 have m1 := mth_times
 have m3 := mth_minus
 have en1 : ∀ args W, (callFunc 240 args).run Tryz.prog W = .ok (.enter 240 args) W := enters_of Tryz.func240 (by kernel_rfl) rfl
 have en3 : ∀ args W, (callFunc 236 args).run Tryz.prog W = .ok (.enter 236 args) W := enters_of Tryz.func236 (by kernel_rfl) rfl
 go_still_tail 12, (by kernel_rfl)
 still_call (C.out.1 _)
 repeat still_step
 still_call (C.out.2.1 _)
 repeat still_step
 refine wpStill_nil ?_
 change wpList _ _ _ _ _ W0.drew
 clear c1 c2 c3 c4
 generalize W0.drew = W2 at *
 obtain ⟨g5, g6⟩ := two_back c5 c6 (.int .i64 (timesM a d)) (.int .i64 (timesM c b))
 go_wp2
 refine bodyPost_ret (v := .agg #[.int .i64 (timesM a d), .int .i64 (timesM c b)]) (by simp [results, Tryz.results58, go_sem, g5, g6]) rfl ?_
 refine ⟨rfl, ?_⟩
 rw [HK.out]
 exact ((HBD.out.below).setCell (p := ⟨k + 1 + 1, 0, none⟩) (by show k ≤ k + 1 + 1; omega) _).setCell (p := ⟨k + 1 + 1, 1, none⟩) (by show k ≤ k + 1 + 1; omega) _
theorem differenceM_any (a b c d : Int) (w : World) (ha : B18 a) (hb : B18 b) (hc : B18 c) (hd : B18 d) :
   Calls Tryz.prog 90 #[.agg #[.int .i64 a, .int .i64 b], .agg #[.int .i64 c, .int .i64 d]] w fun e W' => e = .returned (.agg #[.int .i64 (minusM (timesM a d) (timesM c b)), .int .i64 (timesM b d)]) ∧ Below w.heap.size w W' := by
 have q0 := fun W => still (mach_times a d W ha.lo ha.hi hd.lo hd.hi)
 have q1 := fun W => still (mach_times c b W hc.lo hc.hi hb.lo hb.hi)
 have q2 := fun W => still (mach_minusM (timesM a d) (timesM c b) W (timesM_ok a d) (timesM_ok c b))
 have q3 := fun W => still (mach_times b d W hb.lo hb.hi hd.lo hd.hi)
 have C := Lib.hid (And.intro q0 (And.intro q1 (And.intro q2 (And.intro q3 trivial))))
 clear q0 q1 q2 q3 ha hb hc hd
 go_enter Tryz.func90, Tryz.ntmps90
 go_wp2
 have hbx := boxes_new w (.int .i64 a) (.int .i64 b) (.int .i64 c) (.int .i64 d) (.int .i64 0) (.int .i64 0) 113
 generalize ((w.alloc (.cells #[.int .i64 a, .int .i64 b] 113)).alloc (.cells #[.int .i64 c, .int .i64 d] 113)).alloc (.cells #[.int .i64 0, .int .i64 0] 113) = W0 at *
 generalize hk : w.heap.size = k at *
 have HK := Lib.hid hk; clear hk
 have HBD := Lib.hid hbx.drew
 clear hbx
 obtain ⟨c1, c2, c3, c4, c5, c6, f5, f6, _, _⟩ := HBD.out
 have m1 := mth_times
 have m3 := mth_minus
 have en1 : ∀ args W, (callFunc 240 args).run Tryz.prog W = .ok (.enter 240 args) W := enters_of Tryz.func240 (by kernel_rfl) rfl
 have en3 : ∀ args W, (callFunc 236 args).run Tryz.prog W = .ok (.enter 236 args) W := enters_of Tryz.func236 (by kernel_rfl) rfl
 go_still_tail 20, (by kernel_rfl)
 still_call (C.out.1 _)
 repeat still_step
 still_call (C.out.2.1 _)
 repeat still_step
 still_call (C.out.2.2.1 _)
 repeat still_step
 still_call (C.out.2.2.2.1 _)
 repeat still_step
 refine wpStill_nil ?_
 change wpList _ _ _ _ _ W0.drew
 clear c1 c2 c3 c4
 generalize W0.drew = W2 at *
 obtain ⟨g5, g6⟩ := two_back c5 c6 (.int .i64 (minusM (timesM a d) (timesM c b))) (.int .i64 (timesM b d))
 go_wp2
 refine bodyPost_ret (v := .agg #[.int .i64 (minusM (timesM a d) (timesM c b)), .int .i64 (timesM b d)]) (by simp [results, Tryz.results90, go_sem, g5, g6]) rfl ?_
 refine ⟨rfl, ?_⟩
 rw [HK.out]
 exact ((HBD.out.below).setCell (p := ⟨k + 1 + 1, 0, none⟩) (by show k ≤ k + 1 + 1; omega) _).setCell (p := ⟨k + 1 + 1, 1, none⟩) (by show k ≤ k + 1 + 1; omega) _
end Go.Proofs.YtkjhaengllpaoaaGreatDoor
