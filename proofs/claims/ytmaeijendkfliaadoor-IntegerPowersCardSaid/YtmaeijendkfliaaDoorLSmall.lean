/- The walk of the law IntegerSmall: integers of 32 bits behave as those of the machine. -/
import Derived.Test.YtmaeijendkfliaaDoorW17
namespace Go.Proofs.YtmaeijendkfliaaDoor
open Go.RowKit

theorem Itoa_any (z : Int) (w : World) (h0 : -9223372036854775808 ≤ z) (h1 : z ≤ 9223372036854775807) (ht : Tab w) :
    Calls Tryd.prog 28 #[.int .i64 z] w fun e w' => e = .returned (.string (strB z)) ∧ Below w.heap.size w w' :=
  (Tryd.strconv_Itoa z h0 h1 w ht).mono fun e w' ⟨he, k, os, hw⟩ => ⟨he, by rw [hw]; exact Lib.below_grow _ _ (Nat.le_refl _) _ _⟩

theorem strB_chk {z : Int} (h : z.natAbs < lim) : chk (strB z).data.toList = 0 := by rw [strB_data, chk_itoa, if_pos h]
theorem strB_val (z : Int) : valOf (strB z).data.toList = z := by rw [strB_data, valOf_itoa]
theorem strB_size {z : Int} (h : z.natAbs < lim) : (strB z).size ≤ 301 := chk_size (strB_chk h)
theorem strB_chk2 {x y : Int} (hx : x.natAbs < lim) (hy : y.natAbs < lim) : chk2 (strB x).data.toList (strB y).data.toList = 0 := by unfold chk2; rw [if_pos (strB_chk hx), strB_chk hy]
theorem small_lim {z : Int} (h : z.natAbs < 1000000000000000000000000000000000000000) : z.natAbs < lim := Nat.lt_of_lt_of_le h lim_big

theorem Add_str (x y : Int) (w : World) (hx : x.natAbs < lim) (hy : y.natAbs < lim) (hz : (x + y).natAbs < lim) (ht : Tab w) :
    Calls Tryd.prog 25 #[.string (strB x), .string (strB y)] w fun e W' => e = .returned (.tuple #[.string (strB (x + y)), .int .i64 0]) ∧ Below w.heap.size w W' := by
  have c := Add_any (strB x) (strB y) w (by have := strB_size hx; unfold maxLen; omega) (by have := strB_size hy; unfold maxLen; omega) ht
  rw [strB_chk2 hx hy, strB_val, strB_val, outB_ok, outE_ok] at c
  unfold resB resE at c
  rwa [if_pos hz, if_pos hz] at c
theorem Sub_str (x y : Int) (w : World) (hx : x.natAbs < lim) (hy : y.natAbs < lim) (hz : (x - y).natAbs < lim) (ht : Tab w) :
    Calls Tryd.prog 26 #[.string (strB x), .string (strB y)] w fun e W' => e = .returned (.tuple #[.string (strB (x - y)), .int .i64 0]) ∧ Below w.heap.size w W' := by
  have c := Sub_any (strB x) (strB y) w (by have := strB_size hx; unfold maxLen; omega) (by have := strB_size hy; unfold maxLen; omega) ht
  rw [strB_chk2 hx hy, strB_val, strB_val, outB_ok, outE_ok] at c
  unfold resB resE at c
  rwa [if_pos hz, if_pos hz] at c
theorem Mul_str (x y : Int) (w : World) (hx : x.natAbs < lim) (hy : y.natAbs < lim) (hz : (x * y).natAbs < lim) (ht : Tab w) :
    Calls Tryd.prog 14 #[.string (strB x), .string (strB y)] w fun e W' => e = .returned (.tuple #[.string (strB (x * y)), .int .i64 0]) ∧ Below w.heap.size w W' := by
  have c := Mul_any (strB x) (strB y) w (by have := strB_size hx; unfold maxLen; omega) (by have := strB_size hy; unfold maxLen; omega) ht
  rw [strB_chk2 hx hy, strB_val, strB_val, outB_ok, outE_ok] at c
  unfold resB resE at c
  rwa [if_pos hz, if_pos hz] at c
theorem Compare_str (x y : Int) (w : World) (hx : x.natAbs < lim) (hy : y.natAbs < lim) :
    Calls Tryd.prog 27 #[.string (strB x), .string (strB y)] w fun e W' => e = .returned (.tuple #[.int .i64 (cmpZ x y), .int .i64 0]) ∧ w = W' := by
  have c := Compare_any (strB x) (strB y) w (by have := strB_size hx; unfold maxLen; omega) (by have := strB_size hy; unfold maxLen; omega)
  rwa [strB_chk2 hx hy, strB_val, strB_val, if_pos rfl] at c
theorem strB_len (z : Int) : (strB z).size = (Lib.itoa z).length := by rw [← size_len, strB_data]
theorem strB_short {z : Int} (h : z.natAbs < 10000000000) : (strB z).size ≤ 18 := by
  rw [strB_len]
  have h1 : Lib.nDigits z.natAbs ≤ 10 := (nDigits_le_iff _ 10 (by decide)).2 h
  unfold Lib.itoa
  split
  · rw [List.length_cons, Lib.decDigits_length]; omega
  · rw [Lib.decDigits_length]
    have : z.toNat = z.natAbs := by omega
    rw [this]; omega
theorem Divide_str (x y : Int) (w : World) (hx : x.natAbs < 10000000000) (hy : y.natAbs < 10000000000) (h0 : y ≠ 0) (ht : Tab w) :
    Calls Tryd.prog 16 #[.string (strB x), .string (strB y)] w fun e W' => e = .returned (.tuple #[.string (strB (x.fdiv y)), .string (strB (x.fmod y)), .int .i64 0]) ∧ Below w.heap.size w W' := by
  have c := Divide_small (strB x) (strB y) w (strB_chk (small_lim (by omega))) (strB_chk (small_lim (by omega))) (by rw [strB_val]; exact h0) (strB_short hx) (strB_short hy) ht
  rwa [strB_val, strB_val] at c

set_option maxRecDepth 100000 in
set_option maxHeartbeats 4000000 in
theorem IntegerSmall_any (x y : Int) (w : World) (x0 : -2147483648 ≤ x) (x1 : x ≤ 2147483647) (y0 : -2147483648 ≤ y) (y1 : y ≤ 2147483647) (ht : Tab w) :
    Calls Tryd.prog 10 #[.int .i32 x, .int .i32 y] w fun e W' => e = .returned (.bool true) ∧ Below w.heap.size w W' := by
  have p0 : -4611686018427387904 ≤ x * y ∧ x * y ≤ 4611686018427387904 := by
    have h1 : (x * y).natAbs ≤ 2147483648 * 2147483648 := by
      rw [Int.natAbs_mul]; exact Nat.mul_le_mul (by omega) (by omega)
    omega
  have hmax := max4
  have i1 := fun z W (h : Below w.heap.size w W) (a : -9223372036854775808 ≤ z) (b : z ≤ 9223372036854775807) => Itoa_any z W a b (ht.next h)
  have o1 := fun W (h : Below w.heap.size w W) => Add_str x y W (small_lim (by omega)) (small_lim (by omega)) (small_lim (by omega)) (ht.next h)
  have o2 := fun W (h : Below w.heap.size w W) => Sub_str x y W (small_lim (by omega)) (small_lim (by omega)) (small_lim (by omega)) (ht.next h)
  have o3 := fun W (h : Below w.heap.size w W) => Mul_str x y W (small_lim (by omega)) (small_lim (by omega)) (small_lim (by omega)) (ht.next h)
  have o4 := fun W => Compare_str x y W (small_lim (by omega)) (small_lim (by omega))
  have o5 := fun (h0 : y ≠ 0) W (h : Below w.heap.size w W) => Divide_str x y W (by omega) (by omega) h0 (ht.next h)
  have o6 := fun W (h : Below w.heap.size w W) => awake_any W (ht.next h)
  have I := Lib.hid i1
  have O := Lib.hid (And.intro o1 (And.intro o2 (And.intro o3 (And.intro o4 (And.intro o5 o6)))))
  clear i1 o1 o2 o3 o4 o5 o6 ht
  obtain ⟨c, hc⟩ : ∃ c, cmpZ x y = c := ⟨_, rfl⟩
  rw [hc] at O
  have hc1 : c < 0 ↔ x < y := by
    rw [← hc]; unfold cmpZ
    by_cases h : x < y
    · rw [if_pos h]; exact ⟨fun _ => h, fun _ => by decide⟩
    · rw [if_neg h]; split <;> exact ⟨fun h' => absurd h' (by decide), fun h' => absurd h' h⟩
  have hc2 : (!(c == 0) == (x == y)) = false := by
    have h3 : (c == 0) = (x == y) := by
      rw [← hc]; unfold cmpZ
      rcases Int.lt_trichotomy x y with h | h | h
      · rw [if_pos h, show (x == y) = false by rw [beq_eq_false_iff_ne]; omega]; rfl
      · subst h; rw [if_neg (by omega), if_neg (by omega)]; simp
      · rw [if_neg (by omega), if_pos h, show (x == y) = false by rw [beq_eq_false_iff_ne]; omega]; rfl
    rw [h3]; simp
  clear hc
  obtain ⟨d, hd⟩ : ∃ d, x.fdiv y = d := ⟨_, rfl⟩
  obtain ⟨m, hm⟩ : ∃ m, x.fmod y = m := ⟨_, rfl⟩
  have hs := fun h0 h => fdiv_same (a := x) (b := y) h0 h
  have ho := fun h0 h h' => fdiv_other (a := x) (b := y) h0 h h'
  have hq := tdiv_bd x y (by omega) (by omega)
  have hr := tmod_bd x y (by omega) (by omega)
  rw [hd, hm] at O hs ho
  have HS := Lib.hid (And.intro hs ho)
  clear hs ho hd hm
  go_enter Tryd.func10, Tryd.ntmps10
  go_wp2_with fail
  refine (I.out x _ (Below.refl _ _) (by omega) (by omega)).mono ?_
  rintro e w1 ⟨rfl, b1⟩
  have B1 := Lib.hid b1; clear b1
  go_wp2_with fail
  refine (I.out y _ B1.out (by omega) (by omega)).mono ?_
  rintro e w2 ⟨rfl, b2⟩
  have B2 := Lib.hid (B1.out.trans (b2.mono B1.out.size)); clear b2 B1
  go_wp2_with fail
  refine (O.out.1 _ B2.out).mono ?_
  rintro e w3 ⟨rfl, b3⟩
  have B3 := Lib.hid (B2.out.trans (b3.mono B2.out.size)); clear b3 B2
  go_wp2_with fail
  refine (O.out.2.1 _ B3.out).mono ?_
  rintro e w4 ⟨rfl, b4⟩
  have B4 := Lib.hid (B3.out.trans (b4.mono B3.out.size)); clear b4 B3
  go_wp2_with fail
  refine (O.out.2.2.1 _ B4.out).mono ?_
  rintro e w5 ⟨rfl, b5⟩
  have B5 := Lib.hid (B4.out.trans (b5.mono B4.out.size)); clear b5 B4
  go_wp2_with fail
  refine (O.out.2.2.2.1 _).mono ?_
  rintro e w' ⟨rfl, rfl⟩
  go_wp2_with fail
  refine (I.out (x + y) _ B5.out (by omega) (by omega)).mono ?_
  rintro e w6 ⟨rfl, b6⟩
  have B6 := Lib.hid (B5.out.trans (b6.mono B5.out.size)); clear b6 B5
  go_wp2_with fail
  refine (I.out (x - y) _ B6.out (by omega) (by omega)).mono ?_
  rintro e w7 ⟨rfl, b7⟩
  have B7 := Lib.hid (B6.out.trans (b7.mono B6.out.size)); clear b7 B6
  go_wp2_with fail
  refine (I.out (x * y) _ B7.out (by omega) (by omega)).mono ?_
  rintro e w8 ⟨rfl, b8⟩
  have B8 := Lib.hid (B7.out.trans (b8.mono B7.out.size)); clear b8 B7
  by_cases hy : y = 0
  · have hy1 : (y == 0) = true := by simpa using hy
    clear hy HS
    go_wp2_with fail
    refine (O.out.2.2.2.2.2 _ B8.out).mono ?_
    rintro e w9 ⟨rfl, b9⟩
    have B9 := Lib.hid (B8.out.trans (b9.mono B8.out.size)); clear b9 B8
    go_wp2
    go_ret
    exact ⟨rfl, B9.out⟩
  · have hy1 : (y == 0) = false := by simpa using hy
    have HY := Lib.hid hy
    go_wp2_with fail
    refine (O.out.2.2.2.2.1 HY.out _ B8.out).mono ?_
    rintro e w9 ⟨rfl, b9⟩
    have B9 := Lib.hid (B8.out.trans (b9.mono B8.out.size)); clear b9 B8
    go_wp2
    go_quiet (fail)
    have B10 := Lib.hid (B9.out.trans (show Below w.heap.size w9 (w9.drewN nq) from ⟨rfl, rfl, rfl, Nat.le_refl _, fun _ _ => rfl⟩))
    clear B9
    generalize w9.drewN nq = w10 at *
    generalize x.tdiv y = q at *
    generalize x.tmod y = r at *
    go_wp2_with fail
    · have h0 : r = 0 := by assumption
      subst h0
      obtain ⟨e1, e2⟩ := HS.out.1 HY.out (.inl rfl)
      subst e1 e2
      refine (I.out _ _ B10.out (by omega) (by omega)).mono ?_
      rintro e w11 ⟨rfl, b11⟩
      have B11 := Lib.hid (B10.out.trans (b11.mono B10.out.size)); clear b11 B10
      go_wp2_with fail
      refine (I.out _ _ B11.out (by omega) (by omega)).mono ?_
      rintro e w12 ⟨rfl, b12⟩
      have B12 := Lib.hid (B11.out.trans (b12.mono B11.out.size)); clear b12 B11
      go_wp2_with fail
      refine (O.out.2.2.2.2.2 _ B12.out).mono ?_
      rintro e w13 ⟨rfl, b13⟩
      have B13 := Lib.hid (B12.out.trans (b13.mono B12.out.size)); clear b13 B12
      go_wp2
      go_ret
      exact ⟨rfl, B13.out⟩
    · have hb : (r != 0) = true ∧ (!decide (r < 0) == decide (y < 0)) = true := by assumption
      obtain ⟨e1, e2⟩ := HS.out.2 HY.out (by simpa using hb.1) (by have := hb.2; intro hiff; simp [hiff] at this)
      have HB := Lib.hid hb; clear hb
      subst e1 e2
      refine (I.out _ _ B10.out (by omega) (by omega)).mono ?_
      rintro e w11 ⟨rfl, b11⟩
      have B11 := Lib.hid (B10.out.trans (b11.mono B10.out.size)); clear b11 B10
      go_wp2_with fail
      refine (I.out _ _ B11.out (by omega) (by omega)).mono ?_
      rintro e w12 ⟨rfl, b12⟩
      have B12 := Lib.hid (B11.out.trans (b12.mono B11.out.size)); clear b12 B11
      go_wp2_with fail
      refine (O.out.2.2.2.2.2 _ B12.out).mono ?_
      rintro e w13 ⟨rfl, b13⟩
      have B13 := Lib.hid (B12.out.trans (b13.mono B12.out.size)); clear b13 B12
      go_wp2
      go_ret
      exact ⟨rfl, B13.out⟩
    · have hn : ¬ r = 0 := by assumption
      have hb : (r != 0) = false ∨ (!decide (r < 0) == decide (y < 0)) = false := by assumption
      obtain ⟨e1, e2⟩ := HS.out.1 HY.out (.inr (by
        rcases hb with hb | hb
        · exact absurd (by simpa using hb) hn
        · by_cases h1 : r < 0 <;> by_cases h2 : y < 0 <;> simp [h1, h2] at hb ⊢))
      subst e1 e2
      refine (I.out _ _ B10.out (by omega) (by omega)).mono ?_
      rintro e w11 ⟨rfl, b11⟩
      have B11 := Lib.hid (B10.out.trans (b11.mono B10.out.size)); clear b11 B10
      go_wp2_with fail
      refine (I.out _ _ B11.out (by omega) (by omega)).mono ?_
      rintro e w12 ⟨rfl, b12⟩
      have B12 := Lib.hid (B11.out.trans (b12.mono B11.out.size)); clear b12 B11
      go_wp2_with fail
      refine (O.out.2.2.2.2.2 _ B12.out).mono ?_
      rintro e w13 ⟨rfl, b13⟩
      have B13 := Lib.hid (B12.out.trans (b13.mono B12.out.size)); clear b13 B12
      go_wp2
      go_ret
      exact ⟨rfl, B13.out⟩
end Go.Proofs.YtmaeijendkfliaaDoor
