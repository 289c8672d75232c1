/- What the walks of the laws share. -/
import Derived.Test.YtajonpcmgebbbaaDoorLFin2
import Derived.Test.YtajonpcmgebbbaaDoorDivide
namespace Go.Proofs.YtajonpcmgebbbaaDoor
open Go.RowKit

theorem fine1s (a : ByteArray) (B : Nat) (W : World) (ha : a.size ≤ maxLen) (h0 : W.cell? ⟨B, 0, none⟩ = some (.string a)) :
    Calls Tryd.prog 20 #[.slice (some ⟨B, 0, none⟩) 1 1] W fun e w' => e = .returned (.bool (fineS a)) ∧ W = w' := by
  have h := fine_any [a] B W (by show 1 ≤ 100; decide) (by
    intro s hs
    simp only [List.mem_cons, List.not_mem_nil, or_false] at hs
    subst hs; exact ha) (by
    intro i hi
    match i, hi with
    | 0, _ => exact h0)
  have e : [a].all fineS = fineS a := by simp
  rwa [e] at h
theorem fine2s (a b : ByteArray) (B : Nat) (W : World) (ha : a.size ≤ maxLen) (hb : b.size ≤ maxLen) (h0 : W.cell? ⟨B, 0, none⟩ = some (.string a)) (h1 : W.cell? ⟨B, 1, none⟩ = some (.string b)) :
    Calls Tryd.prog 20 #[.slice (some ⟨B, 0, none⟩) 2 2] W fun e w' => e = .returned (.bool (fineS a && fineS b)) ∧ W = w' := by
  have h := fine_any [a, b] B W (by show 2 ≤ 100; decide) (by
    intro s hs
    simp only [List.mem_cons, List.not_mem_nil, or_false] at hs
    rcases hs with rfl | rfl <;> assumption) (by
    intro i hi
    match i, hi with
    | 0, _ => exact h0
    | 1, _ => exact h1)
  have e : [a, b].all fineS = (fineS a && fineS b) := by simp [List.all_cons]
  rwa [e] at h
theorem fine3s (a b c : ByteArray) (B : Nat) (W : World) (ha : a.size ≤ maxLen) (hb : b.size ≤ maxLen) (hc : c.size ≤ maxLen) (h0 : W.cell? ⟨B, 0, none⟩ = some (.string a)) (h1 : W.cell? ⟨B, 1, none⟩ = some (.string b)) (h2 : W.cell? ⟨B, 2, none⟩ = some (.string c)) :
    Calls Tryd.prog 20 #[.slice (some ⟨B, 0, none⟩) 3 3] W fun e w' => e = .returned (.bool (fineS a && fineS b && fineS c)) ∧ W = w' := by
  have h := fine_any [a, b, c] B W (by show 3 ≤ 100; decide) (by
    intro s hs
    simp only [List.mem_cons, List.not_mem_nil, or_false] at hs
    rcases hs with rfl | rfl | rfl <;> assumption) (by
    intro i hi
    match i, hi with
    | 0, _ => exact h0
    | 1, _ => exact h1
    | 2, _ => exact h2)
  have e : [a, b, c].all fineS = (fineS a && fineS b && fineS c) := by simp [List.all_cons, Bool.and_assoc]
  rwa [e] at h

theorem max3s (W : World) : (Builtin.max_ #[24, 24, 24] 24 #[.int .i64 0, .int .i64 0, .int .i64 0]).run Tryd.prog W = .ok (.int .i64 0) W := by kernel_rfl
theorem max5s (W : World) : (Builtin.max_ #[24, 24, 24, 24, 24] 24 #[.int .i64 0, .int .i64 0, .int .i64 0, .int .i64 0, .int .i64 0]).run Tryd.prog W = .ok (.int .i64 0) W := by kernel_rfl
theorem max6s (W : World) : (Builtin.max_ #[24, 24, 24, 24, 24, 24] 24 #[.int .i64 0, .int .i64 0, .int .i64 0, .int .i64 0, .int .i64 0, .int .i64 0]).run Tryd.prog W = .ok (.int .i64 0) W := by kernel_rfl

theorem str_zero : strB 0 = ⟨#[48]⟩ := str_of 0 [48] (by decide +kernel)
theorem strB_not48 {y : Int} (h : y ≠ 0) : ((strB y).toList == [48]) = false := by
  rw [ByteArray.toList_eq, strB_data, beq_eq_false_iff_ne]
  intro e
  exact h (itoa_inj (e.trans (show [48] = Lib.itoa 0 by decide +kernel)))
theorem cmp_lt {x y : Int} (h : x < y) : cmpZ x y = -1 := by unfold cmpZ; rw [if_pos h]
theorem cmp_gt {x y : Int} (h : y < x) : cmpZ x y = 1 := by unfold cmpZ; rw [if_neg (by omega), if_pos h]
theorem cmp_eq (x : Int) : cmpZ x x = 0 := by unfold cmpZ; rw [if_neg (by omega), if_neg (by omega)]

theorem Divide_strs (x y : Int) (w : World) (hx : x.natAbs < lim) (hy : y.natAbs < lim) (h0 : y ≠ 0) (ht : Tab w) :
    Calls Tryd.prog 12 #[.string (strB x), .string (strB y)] w fun e W' => e = .returned (.tuple #[.string (strB (x.fdiv y)), .string (strB (x.fmod y)), .int .i64 0]) ∧ Below w.heap.size w W' := by
  have c := Divide_ok (strB x) (strB y) w (strB_chk hx) (strB_chk hy) (by rw [strB_val]; exact h0) ht
  rwa [strB_val, strB_val] at c
theorem Divide_zero (x : Int) (w : World) (hx : x.natAbs < lim) (ht : Tab w) :
    Calls Tryd.prog 12 #[.string (strB x), .string (strB 0)] w fun e W' => e = .returned (.tuple #[.string ⟨#[]⟩, .string ⟨#[]⟩, .int .i64 12]) ∧ Below w.heap.size w W' := by
  have h0 : (0 : Int).natAbs < lim := small_lim (by decide)
  have c := Divide_any (strB x) (strB 0) w (by have := strB_size hx; unfold maxLen; omega) (by have := strB_size h0; unfold maxLen; omega) ht
  rw [strB_chk2 hx h0, strB_val, strB_val, (div_zero x).1, (div_zero x).2.1, (div_zero x).2.2] at c
  exact c
theorem fmod_sign {x y : Int} (h : y ≠ 0) : (0 < y ∧ 0 ≤ x.fmod y ∧ x.fmod y < y) ∨ (y < 0 ∧ y < x.fmod y ∧ x.fmod y ≤ 0) := by
  have h1 := tmod_lt x y h
  by_cases h0 : x.tmod y = 0 ∨ ((x.tmod y < 0) ↔ (y < 0))
  · rw [(fdiv_same h h0).2]; omega
  · rw [not_or] at h0; rw [(fdiv_other h h0.1 h0.2).2]; omega
theorem fdiv_abs {x y : Int} (h : y ≠ 0) : (x.fdiv y).natAbs ≤ x.natAbs ∧ (x.fmod y).natAbs ≤ y.natAbs := by
  constructor
  · have h1 : (x.tdiv y).natAbs ≤ x.natAbs := Int.natAbs_tdiv_le_natAbs x y
    by_cases h0 : x.tmod y = 0 ∨ ((x.tmod y < 0) ↔ (y < 0))
    · rw [(fdiv_same h h0).1]; exact h1
    · rw [not_or] at h0
      rw [(fdiv_other h h0.1 h0.2).1]
      have h2 : 2 ≤ y.natAbs := by
        rcases Nat.lt_or_ge y.natAbs 2 with h3 | h3
        · exfalso; have := tmod_lt x y h; apply h0.1; omega
        · exact h3
      have h3 : (x.tdiv y).natAbs = x.natAbs / y.natAbs := Int.natAbs_tdiv x y
      have hx : x.natAbs ≠ 0 := fun e => h0.1 (by have : x = 0 := by omega
                                                  rw [this]; exact Int.zero_tmod y)
      have h4 : x.natAbs / y.natAbs < x.natAbs := Nat.div_lt_self (by omega) h2
      omega
  · rcases fmod_sign (x := x) h with h1 | h1 <;> omega
theorem div_cmps {x y : Int} (h : y ≠ 0) : (cmpZ y 0 = 1 ∧ cmpZ (x.fmod y) y = -1 ∧ (cmpZ (x.fmod y) 0 = 0 ∨ cmpZ (x.fmod y) 0 = 1)) ∨ (cmpZ y 0 = -1 ∧ cmpZ (x.fmod y) y = 1 ∧ (cmpZ (x.fmod y) 0 = 0 ∨ cmpZ (x.fmod y) 0 = -1)) := by
  rcases fmod_sign (x := x) h with ⟨h1, h2, h3⟩ | ⟨h1, h2, h3⟩
  · refine .inl ⟨cmp_gt h1, cmp_lt h3, ?_⟩
    by_cases h4 : x.fmod y = 0
    · rw [h4]; exact .inl (cmp_eq 0)
    · exact .inr (cmp_gt (by omega))
  · refine .inr ⟨cmp_lt h1, cmp_gt h2, ?_⟩
    by_cases h4 : x.fmod y = 0
    · rw [h4]; exact .inl (cmp_eq 0)
    · exact .inr (cmp_lt (by omega))
end Go.Proofs.YtajonpcmgebbbaaDoor
