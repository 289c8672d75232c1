/- The walks of quotients, roots and greatest common divisors of short texts, and of the law's own examples. -/
import Derived.Test.YtajonpcmgebbbaaDoorW16
namespace Go.Proofs.YtajonpcmgebbbaaDoor
open Go.RowKit

set_option maxHeartbeats 400000 in
theorem root_small (v : Value) (n : Nat) (w : World) (h : IsNat w v n) (hn : n < 1000000000000000000) :
    Calls Tryd.prog 49 #[v] w fun e W' => ∃ v', e = .returned v' ∧ IsNat W' v' (rootN n) ∧ Fresh w.heap.size v' ∧ Below w.heap.size w W' := by
  have c1 := natMachine_any v n w h hn
  have hr : rootN n ≤ n := by
    have := (rootN_is n).1
    by_cases h0 : rootN n = 0
    · omega
    · exact Nat.le_trans (Nat.le_mul_of_pos_left _ (by omega)) this
  have c2 := rootMachine_any n w hn
  have c3 := ofValue_any (rootN n) w (by omega)
  have hl : (dg n).length ≤ 2 := (dg_length_le n 2).2 (by rw [show B ^ 2 = 1000000000000000000 from rfl]; exact hn)
  obtain ⟨p, cap, rfl, _⟩ := id h
  have C := Lib.hid (And.intro c1 (And.intro c2 c3)); clear c1 c2 c3 hr h
  generalize (dg n).length = l at *
  generalize rootN n = r at *
  have hl' : (l : Int) ≤ 2 := by omega
  go_enter Tryd.func49, Tryd.ntmps49
  go_wp2_with fail
  refine C.out.1.mono ?_
  rintro e w' ⟨rfl, rfl⟩
  go_wp2_with fail
  refine C.out.2.1.mono ?_
  rintro e w' ⟨rfl, rfl⟩
  go_wp2_with fail
  refine C.out.2.2.mono ?_
  rintro e w' ⟨v, rfl, hh⟩
  have H := Lib.hid hh; clear hh C
  go_wp2
  go_ret
  exact ⟨v, rfl, H.out⟩

set_option maxHeartbeats 400000 in
theorem Root_small (a : ByteArray) (w : World) (hk : chk a.data.toList = 0) (hn : isNeg a.data.toList = false) (hs : a.size ≤ 18) (ht : Tab w) :
    Calls Tryd.prog 16 #[.string a] w fun e W' => e = .returned (.tuple #[.string (strB (rootN (natOf a.data.toList) : Nat)), .int .i64 0]) ∧ Below w.heap.size w W' := by
  have hd := chk_dig hk
  have hz : szL a.data.toList = a.data.toList := by unfold szL; rw [hn]; rfl
  rw [hz] at hd
  have hv := natOf_18 _ hd (by rw [size_len]; exact hs)
  have c0 := check_any a w (by unfold maxLen; omega)
  rw [hk] at c0
  have c1 := fun W => isNegative_any a W
  rw [hn] at c1
  have c2 := fun W => readNatural_any a W (by omega) hd
  have hr : rootN (natOf a.data.toList) ≤ natOf a.data.toList := by
    have := (rootN_is (natOf a.data.toList)).1
    by_cases h0 : rootN (natOf a.data.toList) = 0
    · omega
    · exact Nat.le_trans (Nat.le_mul_of_pos_left _ (by omega)) this
  have C := Lib.hid (And.intro c0 (And.intro c1 c2)); clear c0 c1 c2 hz hd hk hn
  have HT := Lib.hid ht; clear ht
  generalize natOf a.data.toList = n at *
  have e1 : resB (sgnZ false (rootN n)) = strB (rootN n : Nat) := by unfold sgnZ; exact resB_small (by simp; omega)
  have e2 : resE (sgnZ false (rootN n)) = 0 := by unfold sgnZ; exact resE_small (by simp; omega)
  have hdl : (dg (rootN n)).length ≤ 100000 := Nat.le_trans ((dg_length_le _ 2).2 (by rw [show B ^ 2 = 1000000000000000000 from rfl]; omega)) (by decide)
  have tx := fun v W (h : IsNat W v (rootN n)) (hb : Below w.heap.size w W) => text_any false v (rootN n) W h hdl (HT.out.next hb)
  rw [e1, e2] at tx
  have TX := Lib.hid tx; clear tx e1 e2 hdl hr
  go_enter Tryd.func16, Tryd.ntmps16
  go_wp2_with fail
  refine C.out.1.mono ?_
  rintro e w' ⟨rfl, rfl⟩
  go_wp2_with fail
  refine (C.out.2.1 _).mono ?_
  rintro e w' ⟨rfl, rfl⟩
  go_wp2_with fail
  refine (C.out.2.2 _).mono ?_
  rintro e w1 ⟨v1, rfl, h1, _, b1⟩
  have H1 := Lib.hid (And.intro h1 b1); clear h1 b1
  go_wp2_with fail
  refine (root_small _ _ _ H1.out.1 hv).mono ?_
  rintro e w2 ⟨v2, rfl, h2, _, b2⟩
  obtain ⟨p2, cap2, rfl⟩ := h2.shape
  have H2 := Lib.hid (And.intro h2 (H1.out.2.trans (b2.mono H1.out.2.size))); clear h2 b2 H1
  go_wp2_with fail
  refine (TX.out _ _ H2.out.1 H2.out.2).mono ?_
  rintro e w3 ⟨rfl, b3⟩
  have H3 := Lib.hid (H2.out.2.trans (b3.mono H2.out.2.size)); clear b3 H2 C TX
  go_wp2
  go_ret2
  exact ⟨rfl, H3.out⟩

theorem Below.drewN' {w : World} (n : Nat) : Below w.heap.size w (w.drewN n) := ⟨rfl, rfl, rfl, Nat.le_refl _, fun _ _ => rfl⟩
theorem fdiv_bd (a b : Int) (hb : b ≠ 0) (ha : -1000000000000000000 < a) (ha' : a < 1000000000000000000) : -1000000000000000001 < a.fdiv b ∧ a.fdiv b < 1000000000000000001 := by
  have h := tdiv_bd a b ha ha'
  by_cases h0 : a.tmod b = 0 ∨ ((a.tmod b < 0) ↔ (b < 0))
  · rw [(fdiv_same hb h0).1]; omega
  · rw [not_or] at h0; rw [(fdiv_other hb h0.1 h0.2).1]; omega
theorem fmod_bd (a b : Int) (hb : b ≠ 0) (h1 : -1000000000000000000 < b) (h2 : b < 1000000000000000000) : -1000000000000000000 < a.fmod b ∧ a.fmod b < 1000000000000000000 := by
  have h := tmod_lt a b hb
  by_cases h0 : a.tmod b = 0 ∨ ((a.tmod b < 0) ↔ (b < 0))
  · rw [(fdiv_same hb h0).2]; omega
  · rw [not_or] at h0; rw [(fdiv_other hb h0.1 h0.2).2]; omega

set_option maxHeartbeats 1000000 in
theorem Divide_small (a b : ByteArray) (w : World) (k1 : chk a.data.toList = 0) (k2 : chk b.data.toList = 0) (h0 : valOf b.data.toList ≠ 0) (s1 : a.size ≤ 18) (s2 : b.size ≤ 18) (ht : Tab w) :
    Calls Tryd.prog 12 #[.string a, .string b] w fun e W' => e = .returned (.tuple #[.string (strB ((valOf a.data.toList).fdiv (valOf b.data.toList))), .string (strB ((valOf a.data.toList).fmod (valOf b.data.toList))), .int .i64 0]) ∧ Below w.heap.size w W' := by
  have cb := checkBoth_any a b w (by unfold maxLen; omega) (by unfold maxLen; omega)
  have hc2 : chk2 a.data.toList b.data.toList = 0 := by unfold chk2; rw [if_pos k1]; exact k2
  rw [hc2] at cb
  have hb48 : (b.toList == [48]) = false := by
    rw [ByteArray.toList_eq, beq_eq_false_iff_ne]
    intro e; rw [e] at h0; exact h0 rfl
  have i1 := fun W => isShort_any a W (by unfold maxLen; omega)
  have i2 := fun W => isShort_any b W (by unfold maxLen; omega)
  have t1 : decide ((a.size : Int) ≤ 18) = true := by simp; omega
  have t2 : decide ((b.size : Int) ≤ 18) = true := by simp; omega
  rw [t1] at i1; rw [t2] at i2
  have m1 := fun W => machine_any a W s1 k1
  have m2 := fun W => machine_any b W s2 k2
  have v1 := valOf_short k1 (by rw [size_len]; exact s1)
  have v2 := valOf_short k2 (by rw [size_len]; exact s2)
  generalize valOf a.data.toList = x at *
  generalize valOf b.data.toList = y at *
  have dm := fun W => divideMachine_any x y W v1.1 v1.2 v2.1 v2.2 h0
  have q := fdiv_bd x y h0 v1.1 v1.2
  have r := fmod_bd x y h0 v2.1 v2.2
  generalize x.fdiv y = d at *
  generalize x.fmod y = m at *
  have o1 := fun W (h : Below w.heap.size w W) => ofMachine_any d W (by omega) (by omega) (ht.next h)
  have o2 := fun W (h : Below w.heap.size w W) => ofMachine_any m W (by omega) (by omega) (ht.next h)
  have C := Lib.hid (And.intro cb (And.intro i1 (And.intro i2 (And.intro m1 (And.intro m2 (And.intro dm (And.intro o1 o2)))))))
  clear cb i1 i2 m1 m2 dm o1 o2 v1 v2 q r t1 t2 hc2 h0 ht k1 k2
  go_enter Tryd.func12, Tryd.ntmps12
  go_wp2_with fail
  refine C.out.1.mono ?_
  rintro e w' ⟨rfl, rfl⟩
  go_wp2_with fail
  refine (C.out.2.1 _).mono ?_
  rintro e w' ⟨rfl, rfl⟩
  go_wp2_with fail
  refine (C.out.2.2.1 _).mono ?_
  rintro e w' ⟨rfl, rfl⟩
  go_wp2_with fail
  refine (C.out.2.2.2.1 _).mono ?_
  rintro e w' ⟨rfl, rfl⟩
  go_wp2_with fail
  refine (C.out.2.2.2.2.1 _).mono ?_
  rintro e w' ⟨rfl, rfl⟩
  go_wp2_with fail
  refine (C.out.2.2.2.2.2.1 _).mono ?_
  rintro e w' ⟨rfl, nn, rfl⟩
  go_wp2_with fail
  refine (C.out.2.2.2.2.2.2.1 _ (Below.drewN' nn)).mono ?_
  rintro e w1 ⟨rfl, b1⟩
  have H1 := Lib.hid ((Below.drewN' nn).trans (show Below w.heap.size (w.drewN nn) w1 from b1)); clear b1
  go_wp2_with fail
  refine (C.out.2.2.2.2.2.2.2 _ H1.out).mono ?_
  rintro e w2 ⟨rfl, b2⟩
  have H2 := Lib.hid (H1.out.trans (b2.mono H1.out.size)); clear b2 H1 C
  go_wp2
  go_ret3
  exact ⟨rfl, H2.out⟩

set_option maxHeartbeats 1000000 in
theorem Gcd_small (a b : ByteArray) (w : World) (k1 : chk a.data.toList = 0) (k2 : chk b.data.toList = 0) (s1 : a.size ≤ 18) (s2 : b.size ≤ 18) (ht : Tab w) :
    Calls Tryd.prog 14 #[.string a, .string b] w fun e W' => e = .returned (.tuple #[.string (strB (Nat.gcd (natOf (szL a.data.toList)) (natOf (szL b.data.toList)) : Nat)), .int .i64 0]) ∧ Below w.heap.size w W' := by
  have cb := checkBoth_any a b w (by unfold maxLen; omega) (by unfold maxLen; omega)
  have hc2 : chk2 a.data.toList b.data.toList = 0 := by unfold chk2; rw [if_pos k1]; exact k2
  rw [hc2] at cb
  have z1 := szB_size a
  have z2 := szB_size b
  have i1 := fun W => isShort_any (szB a) W (by unfold maxLen; omega)
  have i2 := fun W => isShort_any (szB b) W (by unfold maxLen; omega)
  have t1 : decide (((szB a).size : Int) ≤ 18) = true := by simp; omega
  have t2 : decide (((szB b).size : Int) ≤ 18) = true := by simp; omega
  rw [t1] at i1; rw [t2] at i2
  have m1 := fun W => value_any (szB a) W (by omega) (by rw [szB_data]; exact chk_dig k1)
  have m2 := fun W => value_any (szB b) W (by omega) (by rw [szB_data]; exact chk_dig k2)
  rw [szB_data] at m1 m2
  have v1 := natOf_18 _ (chk_dig k1) (Nat.le_trans (szL_length _) (by rw [size_len]; exact s1))
  have v2 := natOf_18 _ (chk_dig k2) (Nat.le_trans (szL_length _) (by rw [size_len]; exact s2))
  have y1 := fun W => sizeText_any a W (by unfold maxLen; omega)
  have y2 := fun W => sizeText_any b W (by unfold maxLen; omega)
  generalize natOf (szL a.data.toList) = x at *
  generalize natOf (szL b.data.toList) = y at *
  have dm := fun W => gcdMachine_any x y W (by omega) (by omega)
  have hg : Nat.gcd x y < 1000000000000000000 := by
    by_cases h0 : x = 0
    · subst h0; rw [Nat.gcd_zero_left]; exact v2
    · exact Nat.lt_of_le_of_lt (Nat.gcd_le_left _ (by omega)) v1
  generalize Nat.gcd x y = g at *
  have o1 := fun W (h : Below w.heap.size w W) => ofMachine_any (g : Nat) W (by omega) (by omega) (ht.next h)
  generalize szB a = sa at *
  generalize szB b = sb at *
  have C := Lib.hid (And.intro cb (And.intro y1 (And.intro y2 (And.intro i1 (And.intro i2 (And.intro m1 (And.intro m2 (And.intro dm o1))))))))
  clear cb i1 i2 m1 m2 dm o1 y1 y2 v1 v2 t1 t2 hc2 ht k1 k2 z1 z2
  go_enter Tryd.func14, Tryd.ntmps14
  go_wp2_with fail
  refine C.out.1.mono ?_
  rintro e w' ⟨rfl, rfl⟩
  go_wp2_with fail
  refine (C.out.2.1 _).mono ?_
  rintro e w' ⟨rfl, rfl⟩
  go_wp2_with fail
  refine (C.out.2.2.1 _).mono ?_
  rintro e w' ⟨rfl, rfl⟩
  go_wp2_with fail
  refine (C.out.2.2.2.1 _).mono ?_
  rintro e w' ⟨rfl, rfl⟩
  go_wp2_with fail
  refine (C.out.2.2.2.2.1 _).mono ?_
  rintro e w' ⟨rfl, rfl⟩
  go_wp2_with fail
  refine (C.out.2.2.2.2.2.1 _).mono ?_
  rintro e w' ⟨rfl, rfl⟩
  go_wp2_with fail
  refine (C.out.2.2.2.2.2.2.1 _).mono ?_
  rintro e w' ⟨rfl, rfl⟩
  go_wp2_with fail
  refine (C.out.2.2.2.2.2.2.2.1 _).mono ?_
  rintro e w' ⟨rfl, nn, rfl⟩
  go_wp2_with fail
  refine (C.out.2.2.2.2.2.2.2.2 _ (Below.drewN' nn)).mono ?_
  rintro e w1 ⟨rfl, b1⟩
  have H1 := Lib.hid ((Below.drewN' nn).trans (show Below w.heap.size (w.drewN nn) w1 from b1)); clear b1 C
  go_wp2
  go_ret2
  exact ⟨rfl, H1.out⟩

theorem max4 (W : World) : (Builtin.max_ #[24, 24, 24, 24] 24 #[.int .i64 0, .int .i64 0, .int .i64 0, .int .i64 0]).run Tryd.prog W = .ok (.int .i64 0) W := by kernel_rfl
theorem str_of (z : Int) (l : List UInt8) (h : Lib.itoa z = l) : strB z = ⟨l.toArray⟩ := by unfold strB; rw [h]
theorem chk_zero (z : Int) (l : List UInt8) (h : Lib.itoa z = l) (hz : z.natAbs < 1000000000000000000000000000000000000000) : chk l = 0 ∧ valOf l = z := by
  rw [← h, chk_itoa, valOf_itoa, if_pos (Nat.lt_of_lt_of_le hz lim_big)]; exact ⟨rfl, rfl⟩

set_option maxHeartbeats 1000000 in
theorem awake_any (w : World) (ht : Tab w) : Calls Tryd.prog 9 #[] w fun e W' => e = .returned (.bool true) ∧ Below w.heap.size w W' := by
  have n7 : Lib.itoa (-7) = [45, 55] := by decide +kernel
  have p2 : Lib.itoa 2 = [50] := by decide +kernel
  have p7 : Lib.itoa 7 = [55] := by decide +kernel
  have n2 : Lib.itoa (-2) = [45, 50] := by decide +kernel
  have p99 : Lib.itoa 99 = [57, 57] := by decide +kernel
  have p12 : Lib.itoa 12 = [49, 50] := by decide +kernel
  have n18 : Lib.itoa (-18) = [45, 49, 56] := by decide +kernel
  have r1 := str_of (-4) [45, 52] (by decide +kernel)
  have r2 := str_of 1 [49] (by decide +kernel)
  have r3 := str_of (-1) [45, 49] (by decide +kernel)
  have r4 := str_of 9 [57] (by decide +kernel)
  have r5 := str_of 6 [54] (by decide +kernel)
  obtain ⟨a1, a2⟩ := chk_zero _ _ n7 (by decide)
  obtain ⟨b1, b2⟩ := chk_zero _ _ p2 (by decide)
  obtain ⟨c1, c2⟩ := chk_zero _ _ p7 (by decide)
  obtain ⟨d1, d2⟩ := chk_zero _ _ n2 (by decide)
  obtain ⟨e1, e2⟩ := chk_zero _ _ p99 (by decide)
  obtain ⟨f1, f2⟩ := chk_zero _ _ p12 (by decide)
  obtain ⟨g1, g2⟩ := chk_zero _ _ n18 (by decide)
  have x1 := fun W (h : Below w.heap.size w W) => Divide_small ⟨#[45, 55]⟩ ⟨#[50]⟩ W a1 b1 (by rw [b2]; decide) (by decide) (by decide) (ht.next h)
  have x2 := fun W (h : Below w.heap.size w W) => Divide_small ⟨#[55]⟩ ⟨#[45, 50]⟩ W c1 d1 (by rw [d2]; decide) (by decide) (by decide) (ht.next h)
  have x3 := fun W (h : Below w.heap.size w W) => Root_small ⟨#[57, 57]⟩ W e1 (by decide) (by decide) (ht.next h)
  have x4 := fun W (h : Below w.heap.size w W) => Gcd_small ⟨#[49, 50]⟩ ⟨#[45, 49, 56]⟩ W f1 g1 (by decide) (by decide) (ht.next h)
  have x5 := fun W => check_any ⟨#[45, 48]⟩ W (by unfold maxLen; decide)
  have hx1 : ((valOf (ByteArray.mk #[45, 55]).data.toList).fdiv (valOf (ByteArray.mk #[50]).data.toList)) = -4 ∧ ((valOf (ByteArray.mk #[45, 55]).data.toList).fmod (valOf (ByteArray.mk #[50]).data.toList)) = 1 := by
    rw [show valOf (ByteArray.mk #[45, 55]).data.toList = -7 from a2, show valOf (ByteArray.mk #[50]).data.toList = 2 from b2]; decide
  have hx2 : ((valOf (ByteArray.mk #[55]).data.toList).fdiv (valOf (ByteArray.mk #[45, 50]).data.toList)) = -4 ∧ ((valOf (ByteArray.mk #[55]).data.toList).fmod (valOf (ByteArray.mk #[45, 50]).data.toList)) = -1 := by
    rw [show valOf (ByteArray.mk #[55]).data.toList = 7 from c2, show valOf (ByteArray.mk #[45, 50]).data.toList = -2 from d2]; decide
  have hx3 : (rootN (natOf (ByteArray.mk #[57, 57]).data.toList) : Int) = 9 := by
    rw [show natOf (ByteArray.mk #[57, 57]).data.toList = 99 by decide, rootN_eq (r := 9) (by unfold IsRoot; decide)]; rfl
  have hx4 : ((Nat.gcd (natOf (szL (ByteArray.mk #[49, 50]).data.toList)) (natOf (szL (ByteArray.mk #[45, 49, 56]).data.toList)) : Nat) : Int) = 6 := by decide
  have hx5 : chk (ByteArray.mk #[45, 48]).data.toList = 11 := by decide
  rw [hx1.1, hx1.2, r1, r2] at x1
  rw [hx2.1, hx2.2, r1, r3] at x2
  rw [hx3, r4] at x3
  rw [hx4, r5] at x4
  rw [hx5] at x5
  have C := Lib.hid (And.intro x1 (And.intro x2 (And.intro x3 (And.intro x4 x5))))
  clear x1 x2 x3 x4 x5 hx1 hx2 hx3 hx4 hx5 r1 r2 r3 r4 r5 a1 a2 b1 b2 c1 c2 d1 d2 e1 e2 f1 f2 g1 g2 n7 p2 p7 n2 p99 p12 n18 ht
  have hmax := max4
  go_enter Tryd.func9, Tryd.ntmps9
  go_wp2_with fail
  refine (C.out.1 _ (Below.refl _ _)).mono ?_
  rintro e w1 ⟨rfl, b1⟩
  have H1 := Lib.hid b1; clear b1
  go_wp2_with fail
  refine (C.out.2.1 _ H1.out).mono ?_
  rintro e w2 ⟨rfl, b2⟩
  have H2 := Lib.hid (H1.out.trans (b2.mono H1.out.size)); clear b2 H1
  go_wp2_with fail
  refine (C.out.2.2.1 _ H2.out).mono ?_
  rintro e w3 ⟨rfl, b3⟩
  have H3 := Lib.hid (H2.out.trans (b3.mono H2.out.size)); clear b3 H2
  go_wp2_with fail
  refine (C.out.2.2.2.1 _ H3.out).mono ?_
  rintro e w4 ⟨rfl, b4⟩
  have H4 := Lib.hid (H3.out.trans (b4.mono H3.out.size)); clear b4 H3
  go_wp2_with fail
  refine (C.out.2.2.2.2 _).mono ?_
  rintro e w5 ⟨rfl, rfl⟩
  clear C
  go_wp2
  go_ret
  exact ⟨rfl, H4.out⟩
end Go.Proofs.YtajonpcmgebbbaaDoor
