/- The walk of the law IntegerSquares: the square of the root is at most the integer, that of the next one is greater; the root of a square is its size. -/
-- needs kingpost/kingpostlaw01.IntegerSquares
import Derived.Test.YtajonpcmgebbbaaDoorLKit2
namespace Go.Proofs.YtajonpcmgebbbaaDoor
open Go.RowKit

theorem strB_size_pos (x : Int) : 0 < (strB x).size := by
  rw [strB_len]
  refine List.length_pos_iff.2 ?_
  unfold Lib.itoa
  split
  · simp
  · exact decDigits_ne _
theorem mul_self_nonneg (x : Int) : 0 ≤ x * x := by
  by_cases h : 0 ≤ x
  · exact Int.mul_nonneg h h
  · exact Int.mul_nonneg_of_nonpos_of_nonpos (by omega) (by omega)

set_option maxRecDepth 100000 in
set_option maxHeartbeats 1000000 in
theorem IntegerSquares_any (a : ByteArray) (w : World) (ha : a.size ≤ maxLen) (ht : Tab w) :
    Calls Tryd.prog 7 #[.string a] w fun e W' => e = .returned (.bool true) ∧ Below w.heap.size w W' := by
  have hfin := Lib.hid (fun B W => fine1s a B W ha)
  clear ha
  by_cases hf : (fineS a) = true
  · rw [hf] at hfin
    have fa : fineS a = true := hf
    obtain ⟨x, rfl, hx⟩ := fine_str fa
    clear hf fa
    by_cases h0 : x < 0
    · have hmax3 := max3s
      have hmax6 := max6s
      have hl : 0 < (strB x).size := strB_size_pos x
      have h45 : (((strB x)[0].toNat : Int) == 45) = decide (x < 0) := (isNeg_pos hl).trans (strB_neg x)
      have hxx := hx.mul hx
      have hroot : rootN (x * x).natAbs = x.natAbs := by
        rw [Int.natAbs_mul]
        exact rootN_eq ⟨Nat.le_refl _, Nat.mul_self_lt_mul_self (Nat.lt_succ_self _)⟩
      have hgc : Nat.gcd x.natAbs (0 : Int).natAbs = x.natAbs := Nat.gcd_zero_right _
      rw [decide_eq_true h0] at h45
      have o1 := fun W (h : Below w.heap.size w W) => Mul_str x x W (hx.lt (by decide)) (hx.lt (by decide)) (hxx.lt (by decide)) (ht.next h)
      have o2 := fun W (h : Below w.heap.size w W) => Root_str (x * x) W (mul_self_nonneg x) (hxx.lt (by decide)) (ht.next h)
      have o3 := fun W (h : Below w.heap.size w W) => Gcd_strs x 0 W (hx.lt (by decide)) (small_lim (by decide)) (gcd_empty _) (ht.next h)
      have o4 := fun W (h : Below w.heap.size w W) => Root_neg x W h0 (hx.lt (by decide))
      have oA := fun W (h : Below w.heap.size w W) => awake_any W (ht.next h)
      rw [hroot] at o2
      rw [hgc, str_zero] at o3
      clear hroot hgc
      generalize strB (x * x) = s1 at *
      generalize strB ((x.natAbs : Nat) : Int) = s2 at *
      generalize strB x = sx at *
      have O := Lib.hid (And.intro o1 (And.intro o2 (And.intro o3 (And.intro o4 oA))))
      clear o1 o2 o3 o4 oA ht hx hxx
      go_enter Tryd.func7, Tryd.ntmps7
      go_wp2_with fail
      refine (hfin.out _ _ (by go_cell)).mono ?_
      rintro e w' ⟨rfl, rfl⟩
      have B0 := Lib.hid ((Below.refl w.heap.size w).alloc (Nat.le_refl _) (.cells #[.string sx] 9))
      generalize w.alloc (.cells #[.string sx] 9) = v0 at *
      go_wp2_with fail
      refine (O.out.1 _ B0.out).mono ?_
      rintro e v1 ⟨rfl, b1⟩
      have B1 := Lib.hid (B0.out.trans (b1.mono B0.out.size)); clear b1 B0
      go_wp2_with fail
      refine (O.out.2.1 _ B1.out).mono ?_
      rintro e v2 ⟨rfl, b2⟩
      have B2 := Lib.hid (B1.out.trans (b2.mono B1.out.size)); clear b2 B1
      go_wp2_with fail
      refine (O.out.2.2.1 _ B2.out).mono ?_
      rintro e v3 ⟨rfl, b3⟩
      have B3 := Lib.hid (B2.out.trans (b3.mono B2.out.size)); clear b3 B2
      go_wp2_with fail
      refine (O.out.2.2.2.1 _ B3.out).mono ?_
      rintro e v4 ⟨rfl, b4⟩
      have B4 := Lib.hid (B3.out.trans (b4.mono B3.out.size)); clear b4 B3
      go_wp2_with fail
      refine (O.out.2.2.2.2 _ B4.out).mono ?_
      rintro e v5 ⟨rfl, b5⟩
      have B5 := Lib.hid (B4.out.trans (b5.mono B4.out.size)); clear b5 B4
      go_wp2
      go_ret
      exact ⟨rfl, B5.out⟩
    · have hmax3 := max3s
      have hmax6 := max6s
      have hl : 0 < (strB x).size := strB_size_pos x
      have h45 : (((strB x)[0].toNat : Int) == 45) = decide (x < 0) := (isNeg_pos hl).trans (strB_neg x)
      have hxx := hx.mul hx
      have hroot : rootN (x * x).natAbs = x.natAbs := by
        rw [Int.natAbs_mul]
        exact rootN_eq ⟨Nat.le_refl _, Nat.mul_self_lt_mul_self (Nat.lt_succ_self _)⟩
      have hgc : Nat.gcd x.natAbs (0 : Int).natAbs = x.natAbs := Nat.gcd_zero_right _
      rw [decide_eq_false (show ¬ x < 0 by omega)] at h45
      obtain ⟨r, hrx⟩ : ∃ r : Int, ((rootN x.natAbs : Nat) : Int) = r := ⟨_, rfl⟩
      have hq := rootN_is x.natAbs
      have hr : Bd 80 r := by rw [← hrx]; exact Nat.lt_of_le_of_lt (by simpa using rootN_pos_le) hx
      have hr1 : Bd 81 (r + 1) := hr.add (show Bd 80 1 from Nat.lt_of_lt_of_le (by decide) (tenTo_mono (show 1 ≤ 80 by decide)))
      have c1 : cmpZ (r * r) x = -1 ∨ cmpZ (r * r) x = 0 := by
        have h1 : r * r ≤ x := by
          rw [← hrx, ← Int.natCast_mul]
          have := hq.1
          omega
        rcases Int.lt_or_eq_of_le h1 with h | h
        · exact .inl (cmp_lt h)
        · rw [h]; exact .inr (cmp_eq x)
      have c2 : cmpZ ((r + 1) * (r + 1)) x = 1 := by
        refine cmp_gt ?_
        rw [← hrx, show ((rootN x.natAbs : Nat) : Int) + 1 = ((rootN x.natAbs + 1 : Nat) : Int) by omega, ← Int.natCast_mul]
        have := hq.2
        omega
      have HC := Lib.hid c1
      have o1 := fun W (h : Below w.heap.size w W) => Mul_str x x W (hx.lt (by decide)) (hx.lt (by decide)) (hxx.lt (by decide)) (ht.next h)
      have o2 := fun W (h : Below w.heap.size w W) => Root_str (x * x) W (mul_self_nonneg x) (hxx.lt (by decide)) (ht.next h)
      have o3 := fun W (h : Below w.heap.size w W) => Gcd_strs x 0 W (hx.lt (by decide)) (small_lim (by decide)) (gcd_empty _) (ht.next h)
      have o4 := fun W (h : Below w.heap.size w W) => Root_str x W (by omega) (hx.lt (by decide)) (ht.next h)
      have o5 := fun W (h : Below w.heap.size w W) => Add_str r 1 W (hr.lt (by decide)) (small_lim (by decide)) (hr1.lt (by decide)) (ht.next h)
      have o6 := fun W (h : Below w.heap.size w W) => Mul_str r r W (hr.lt (by decide)) (hr.lt (by decide)) ((hr.mul hr).lt (by decide)) (ht.next h)
      have o7 := fun W (h : Below w.heap.size w W) => Mul_str (r + 1) (r + 1) W (hr1.lt (by decide)) (hr1.lt (by decide)) ((hr1.mul hr1).lt (by decide)) (ht.next h)
      have o8 := fun W => Compare_str (r * r) x W ((hr.mul hr).lt (by decide)) (hx.lt (by decide))
      have o9 := fun W => Compare_str ((r + 1) * (r + 1)) x W ((hr1.mul hr1).lt (by decide)) (hx.lt (by decide))
      have oA := fun W (h : Below w.heap.size w W) => awake_any W (ht.next h)
      rw [hroot] at o2
      rw [hgc, str_zero] at o3
      clear hroot hgc
      rw [hrx] at o4
      rw [show strB 1 = ⟨#[49]⟩ from str_of 1 [49] (by decide +kernel)] at o5
      rw [c2] at o9
      clear c1 c2 hq hrx
      generalize cmpZ (r * r) x = m at *
      generalize strB (x * x) = s1 at *
      generalize strB ((x.natAbs : Nat) : Int) = s2 at *
      generalize strB (r * r) = s3 at *
      generalize strB ((r + 1) * (r + 1)) = s4 at *
      generalize strB (r + 1) = s5 at *
      generalize strB r = s6 at *
      generalize strB x = sx at *
      have O := Lib.hid (And.intro o1 (And.intro o2 (And.intro o3 (And.intro o4 (And.intro o5 (And.intro o6 (And.intro o7 (And.intro o8 (And.intro o9 oA)))))))))
      clear o1 o2 o3 o4 o5 o6 o7 o8 o9 oA ht hx hxx hr hr1
      go_enter Tryd.func7, Tryd.ntmps7
      go_wp2_with fail
      refine (hfin.out _ _ (by go_cell)).mono ?_
      rintro e w' ⟨rfl, rfl⟩
      have B0 := Lib.hid ((Below.refl w.heap.size w).alloc (Nat.le_refl _) (.cells #[.string sx] 9))
      generalize w.alloc (.cells #[.string sx] 9) = v0 at *
      go_wp2_with fail
      refine (O.out.1 _ B0.out).mono ?_
      rintro e v1 ⟨rfl, b1⟩
      have B1 := Lib.hid (B0.out.trans (b1.mono B0.out.size)); clear b1 B0
      go_wp2_with fail
      refine (O.out.2.1 _ B1.out).mono ?_
      rintro e v2 ⟨rfl, b2⟩
      have B2 := Lib.hid (B1.out.trans (b2.mono B1.out.size)); clear b2 B1
      go_wp2_with fail
      refine (O.out.2.2.1 _ B2.out).mono ?_
      rintro e v3 ⟨rfl, b3⟩
      have B3 := Lib.hid (B2.out.trans (b3.mono B2.out.size)); clear b3 B2
      go_wp2_with fail
      refine (O.out.2.2.2.1 _ B3.out).mono ?_
      rintro e v4 ⟨rfl, b4⟩
      have B4 := Lib.hid (B3.out.trans (b4.mono B3.out.size)); clear b4 B3
      go_wp2_with fail
      refine (O.out.2.2.2.2.1 _ B4.out).mono ?_
      rintro e v5 ⟨rfl, b5⟩
      have B5 := Lib.hid (B4.out.trans (b5.mono B4.out.size)); clear b5 B4
      go_wp2_with fail
      refine (O.out.2.2.2.2.2.1 _ B5.out).mono ?_
      rintro e v6 ⟨rfl, b6⟩
      have B6 := Lib.hid (B5.out.trans (b6.mono B5.out.size)); clear b6 B5
      go_wp2_with fail
      refine (O.out.2.2.2.2.2.2.1 _ B6.out).mono ?_
      rintro e v7 ⟨rfl, b7⟩
      have B7 := Lib.hid (B6.out.trans (b7.mono B6.out.size)); clear b7 B6
      go_wp2_with fail
      refine (O.out.2.2.2.2.2.2.2.1 _).mono ?_
      rintro e w' ⟨rfl, rfl⟩
      go_wp2_with fail
      refine (O.out.2.2.2.2.2.2.2.2.1 _).mono ?_
      rintro e w' ⟨rfl, rfl⟩
      rcases HC.out with rfl | rfl
      · go_wp2_with fail
        refine (O.out.2.2.2.2.2.2.2.2.2 _ B7.out).mono ?_
        rintro e v8 ⟨rfl, b8⟩
        have B8 := Lib.hid (B7.out.trans (b8.mono B7.out.size)); clear b8 B7
        go_wp2
        go_ret
        exact ⟨rfl, B8.out⟩
      · go_wp2_with fail
        refine (O.out.2.2.2.2.2.2.2.2.2 _ B7.out).mono ?_
        rintro e v8 ⟨rfl, b8⟩
        have B8 := Lib.hid (B7.out.trans (b8.mono B7.out.size)); clear b8 B7
        go_wp2
        go_ret
        exact ⟨rfl, B8.out⟩
  · have hf' : (fineS a) = false := by simpa using hf
    rw [hf'] at hfin
    clear hf hf'
    have o1 := fun W (h : Below w.heap.size w W) => awake_any W (ht.next h)
    have O := Lib.hid o1
    clear o1 ht
    go_enter Tryd.func7, Tryd.ntmps7
    go_wp2_with fail
    refine (hfin.out _ _ (by go_cell)).mono ?_
    rintro e w' ⟨rfl, rfl⟩
    have B0 := Lib.hid ((Below.refl w.heap.size w).alloc (Nat.le_refl _) (.cells #[.string a] 9))
    generalize w.alloc (.cells #[.string a] 9) = v0 at *
    go_wp2_with fail
    refine (O.out _ B0.out).mono ?_
    rintro e v1 ⟨rfl, b1⟩
    have B1 := Lib.hid (B0.out.trans (b1.mono B0.out.size)); clear b1 B0
    go_wp2
    go_ret
    exact ⟨rfl, B1.out⟩
end Go.Proofs.YtajonpcmgebbbaaDoor
