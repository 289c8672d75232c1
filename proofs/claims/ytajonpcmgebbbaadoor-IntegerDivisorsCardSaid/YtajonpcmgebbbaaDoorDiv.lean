/- Plain mathematics: quotients that are rounded down. -/
import Derived.Test.YtajonpcmgebbbaaDoorDec
namespace Go.Proofs.YtajonpcmgebbbaaDoor

theorem fdiv_unique {a b q r : Int} (h : b * q + r = a) (hb : b ≠ 0) (hp : 0 < b → 0 ≤ r ∧ r < b) (hn : b < 0 → b < r ∧ r ≤ 0) : a.fdiv b = q ∧ a.fmod b = r := by
  have h1 : r.fdiv b = 0 := by
    by_cases h0 : 0 < b
    · exact Int.fdiv_eq_zero_of_lt (hp h0).1 (hp h0).2
    · have h2 := hn (by omega)
      rw [← Int.neg_fdiv_neg]
      exact Int.fdiv_eq_zero_of_lt (by omega) (by omega)
  constructor
  · rw [← h, Int.mul_add_fdiv_left (H := hb), h1]; omega
  · rw [← h, Int.mul_add_fmod_self_left, Int.fmod_def, h1, Int.mul_zero]; omega

theorem tmod_lt (a b : Int) (hb : b ≠ 0) : (a.tmod b).natAbs < b.natAbs := by
  rw [Int.natAbs_tmod]; exact Nat.mod_lt _ (by omega)

theorem fdiv_same {a b : Int} (hb : b ≠ 0) (h : a.tmod b = 0 ∨ ((a.tmod b < 0) ↔ (b < 0))) : a.fdiv b = a.tdiv b ∧ a.fmod b = a.tmod b := by
  have h1 := tmod_lt a b hb
  refine fdiv_unique (Int.mul_tdiv_add_tmod a b) hb (fun h0 => ?_) (fun h0 => ?_) <;> omega
theorem fdiv_other {a b : Int} (hb : b ≠ 0) (h : a.tmod b ≠ 0) (h' : ¬ ((a.tmod b < 0) ↔ (b < 0))) : a.fdiv b = a.tdiv b - 1 ∧ a.fmod b = a.tmod b + b := by
  have h1 := tmod_lt a b hb
  refine fdiv_unique ?_ hb (fun h0 => ?_) (fun h0 => ?_)
  · have := Int.mul_tdiv_add_tmod a b
    rw [Int.mul_sub, Int.mul_one]; omega
  · omega
  · omega

/-! ### the root of a number of the machine, by Newton's steps -/

/-- what a root is -/
def IsRoot (n r : Nat) : Prop := r * r ≤ n ∧ n < (r + 1) * (r + 1)
theorem IsRoot.unique {n r s : Nat} (h : IsRoot n r) (h' : IsRoot n s) : r = s := by
  have h1 : r < s + 1 := by
    apply Decidable.byContradiction; intro hc
    have := Nat.mul_self_le_mul_self (show s + 1 ≤ r by omega)
    exact absurd (Nat.lt_of_le_of_lt h.1 h'.2) (by omega)
  have h2 : s < r + 1 := by
    apply Decidable.byContradiction; intro hc
    have := Nat.mul_self_le_mul_self (show r + 1 ≤ s by omega)
    exact absurd (Nat.lt_of_le_of_lt h'.1 h.2) (by omega)
  omega

/-- Newton's step from any positive guess arrives at the root or above it -/
theorem newton_ge (n g : Nat) (hg : 0 < g) (r : Nat) (hr : IsRoot n r) : r ≤ (g + n / g) / 2 := by
  -- 2 r ≤ g + n / g  as  r^2 ≤ n
  have h0 : r * r ≤ n := hr.1
  have h1 : 2 * r ≤ g + n / g := by
    by_cases hle : 2 * r ≤ g
    · exact Nat.le_trans hle (Nat.le_add_right _ _)
    · have h2 : 2 * r - g ≤ n / g := by
        rw [Nat.le_div_iff_mul_le hg]
        refine Nat.le_trans ?_ h0
        have h3 : ((2 * r - g : Nat) : Int) = 2 * (r : Int) - g := by omega
        have h4 : (((2 * r - g) * g : Nat) : Int) ≤ ((r * r : Nat) : Int) := by
          rw [Int.natCast_mul, Int.natCast_mul, h3]
          have h5 : 0 ≤ ((r : Int) - g) * ((r : Int) - g) := by
            by_cases hh : (0 : Int) ≤ (r : Int) - g
            · exact Int.mul_nonneg hh hh
            · exact Int.mul_nonneg_of_nonpos_of_nonpos (by omega) (by omega)
          have h6 : ((r : Int) - g) * ((r : Int) - g) = (r : Int) * r - (2 * (r : Int) - g) * g := by
            simp only [Int.sub_mul, Int.mul_sub, Int.mul_assoc]
            rw [Int.mul_comm (g : Int) (r : Int)]
            omega
          omega
        exact Int.ofNat_le.1 h4
      generalize n / g = e at *
      omega
  generalize n / g = e at *
  omega

/-- where a step does not descend, the guess is not above the root -/
theorem newton_stop (n g : Nat) (hg : 0 < g) (h : g ≤ (g + n / g) / 2) : g * g ≤ n := by
  have h1 : g ≤ n / g := by generalize n / g = e at *; omega
  exact (Nat.le_div_iff_mul_le hg).1 h1

theorem newton_done (n g r : Nat) (hg : 0 < g) (hr : IsRoot n r) (hge : r ≤ g) (h : g ≤ (g + n / g) / 2) : g = r := by
  have h1 := newton_stop n g hg h
  have h2 : g < r + 1 := by
    apply Decidable.byContradiction; intro hc
    have := Nat.mul_self_le_mul_self (show r + 1 ≤ g by omega)
    exact absurd (Nat.lt_of_lt_of_le hr.2 this) (by omega)
  omega

theorem exists_root (n : Nat) : ∃ r, IsRoot n r := by
  induction n with
  | zero => exact ⟨0, by simp [IsRoot]⟩
  | succ n ih =>
    obtain ⟨r, h1, h2⟩ := ih
    by_cases h : (r + 1) * (r + 1) ≤ n + 1
    · refine ⟨r + 1, h, ?_⟩
      have h3 : (r + 1 + 1) * (r + 1 + 1) = (r + 1) * (r + 1) + 2 * r + 3 := by
        simp only [Nat.add_mul, Nat.mul_add]; omega
      omega
    · exact ⟨r, by omega, by omega⟩
noncomputable def rootN (n : Nat) : Nat := Classical.choose (exists_root n)
theorem rootN_is (n : Nat) : IsRoot n (rootN n) := Classical.choose_spec (exists_root n)
theorem rootN_eq {n r : Nat} (h : IsRoot n r) : rootN n = r := (rootN_is n).unique h
theorem rootN_le (n k : Nat) (h : n < k * k) : rootN n < k := by
  apply Decidable.byContradiction; intro hc
  have := Nat.mul_self_le_mul_self (show k ≤ rootN n by omega)
  exact absurd (rootN_is n).1 (by omega)
end Go.Proofs.YtajonpcmgebbbaaDoor
