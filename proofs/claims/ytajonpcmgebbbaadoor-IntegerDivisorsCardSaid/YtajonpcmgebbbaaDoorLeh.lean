/- Plain mathematics: steps of Euclid's algorithm by the leading digits alone. -/
import Derived.Test.YtajonpcmgebbbaaDoorMul
namespace Go.Proofs.YtajonpcmgebbbaaDoor

theorem gcd_unimod {a b c d : Nat} {x1 y1 x2 y2 s : Int} (h1 : x1 * a + y1 * b = c) (h2 : x2 * a + y2 * b = d) (hs : s = 1 ∨ s = -1) (hd : x1 * y2 - x2 * y1 = s) : Nat.gcd c d = Nat.gcd a b := by
  refine Nat.dvd_antisymm (Nat.dvd_gcd ?_ ?_) (Nat.dvd_gcd ?_ ?_)
  · have hc : ((Nat.gcd c d : Nat) : Int) ∣ c := Int.natCast_dvd_natCast.2 (Nat.gcd_dvd_left c d)
    have hd' : ((Nat.gcd c d : Nat) : Int) ∣ d := Int.natCast_dvd_natCast.2 (Nat.gcd_dvd_right c d)
    have e : (a : Int) = s * (y2 * c - y1 * d) := by rcases hs with rfl | rfl <;> grind
    refine Int.natCast_dvd_natCast.1 ?_
    rw [e]
    exact Int.dvd_mul_of_dvd_right (Int.dvd_sub (Int.dvd_mul_of_dvd_right hc) (Int.dvd_mul_of_dvd_right hd'))
  · have hc : ((Nat.gcd c d : Nat) : Int) ∣ c := Int.natCast_dvd_natCast.2 (Nat.gcd_dvd_left c d)
    have hd' : ((Nat.gcd c d : Nat) : Int) ∣ d := Int.natCast_dvd_natCast.2 (Nat.gcd_dvd_right c d)
    have e : (b : Int) = s * (x1 * d - x2 * c) := by rcases hs with rfl | rfl <;> grind
    refine Int.natCast_dvd_natCast.1 ?_
    rw [e]
    exact Int.dvd_mul_of_dvd_right (Int.dvd_sub (Int.dvd_mul_of_dvd_right hd') (Int.dvd_mul_of_dvd_right hc))
  · refine Int.natCast_dvd_natCast.1 ?_
    rw [← h1]
    exact Int.dvd_add (Int.dvd_mul_of_dvd_right (Int.natCast_dvd_natCast.2 (Nat.gcd_dvd_left a b))) (Int.dvd_mul_of_dvd_right (Int.natCast_dvd_natCast.2 (Nat.gcd_dvd_right a b)))
  · refine Int.natCast_dvd_natCast.1 ?_
    rw [← h2]
    exact Int.dvd_add (Int.dvd_mul_of_dvd_right (Int.natCast_dvd_natCast.2 (Nat.gcd_dvd_left a b))) (Int.dvd_mul_of_dvd_right (Int.natCast_dvd_natCast.2 (Nat.gcd_dvd_right a b)))

/-- what the cofactors of some steps make of a and b -/
def Good (a b : Nat) (x1 y1 x2 y2 : Int) : Prop :=
  ∃ c d : Nat, x1 * a + y1 * b = c ∧ x2 * a + y2 * b = d ∧ d < c ∧ c < a ∧ Nat.gcd c d = Nat.gcd a b ∧
    ((0 ≤ x1 ∧ y1 ≤ 0 ∧ x2 ≤ 0 ∧ 0 ≤ y2) ∨ (x1 ≤ 0 ∧ 0 ≤ y1 ∧ 0 ≤ x2 ∧ y2 ≤ 0)) ∧
    x1.natAbs < 1000000000 ∧ y1.natAbs < 1000000000 ∧ x2.natAbs < 1000000000 ∧ y2.natAbs < 1000000000

theorem lehmer_fin {a b sc D P Q al bl p q x0 x1 y0 y1 : Nat} {s : Int} (ha : a * sc = P * D + al) (hb : b * sc = Q * D + bl) (hal : al < D) (hbl : bl < D)
    (hP : P = y1 * p + y0 * q) (hQ : Q = x1 * p + x0 * q) (hs : s = 1 ∨ s = -1) (hdet : (x0 : Int) * y1 - (x1 : Int) * y0 = s) (hq : y1 ≤ q) (hpq : q + (y0 + y1) ≤ p)
    (hx0 : x0 ≤ y0) (hx1 : x1 ≤ y1) (hy : y0 ≤ y1) (hy0 : 1 ≤ y0) (hP18 : P < 1000000000000000000) :
    Good a b (s * x0) (-s * y0) (-s * x1) (s * y1) := by
  have hD : 0 < D := by omega
  have hy9 : y1 < 1000000000 := by
    apply Decidable.byContradiction
    intro hc
    have h1 : y1 * y1 ≤ y1 * p := Nat.mul_le_mul_left _ (by omega)
    have h2 : 1000000000 * 1000000000 ≤ y1 * y1 := Nat.mul_le_mul (by omega) (by omega)
    omega
  -- the products, by their bounds
  have b1 : x0 * al ≤ y0 * al := Nat.mul_le_mul_right _ hx0
  have b2 : x1 * al ≤ y1 * al := Nat.mul_le_mul_right _ hx1
  have b3 : y0 * al + y0 ≤ y0 * D := by rw [← Nat.mul_succ]; exact Nat.mul_le_mul_left _ hal
  have b4 : y1 * al + y1 ≤ y1 * D := by rw [← Nat.mul_succ]; exact Nat.mul_le_mul_left _ hal
  have b5 : y0 * bl + y0 ≤ y0 * D := by rw [← Nat.mul_succ]; exact Nat.mul_le_mul_left _ hbl
  have b6 : y1 * bl + y1 ≤ y1 * D := by rw [← Nat.mul_succ]; exact Nat.mul_le_mul_left _ hbl
  have b7 : y1 * D ≤ q * D := Nat.mul_le_mul_right _ hq
  have b8 : q * D + (y0 * D + y1 * D) ≤ p * D := by rw [← Nat.add_mul, ← Nat.add_mul]; exact Nat.mul_le_mul_right _ hpq
  have b9 : (p + y0) * D ≤ P * D := by
    refine Nat.mul_le_mul_right _ ?_
    have h1 : 1 * p ≤ y1 * p := Nat.mul_le_mul_right _ (by omega)
    have h2 : y0 * 1 ≤ y0 * q := Nat.mul_le_mul_left _ (by omega)
    omega
  rw [Nat.add_mul] at b9
  have c1 : (s * x0 * a + -s * y0 * b) * sc = (p : Int) * D + s * (x0 * al - y0 * bl) := by
    have ha' : (a : Int) * sc = P * D + al := by exact_mod_cast ha
    have hb' : (b : Int) * sc = Q * D + bl := by exact_mod_cast hb
    have hP' : (P : Int) = y1 * p + y0 * q := by exact_mod_cast hP
    have hQ' : (Q : Int) = x1 * p + x0 * q := by exact_mod_cast hQ
    rcases hs with rfl | rfl <;> grind
  have c2 : (-s * x1 * a + s * y1 * b) * sc = (q : Int) * D + s * (y1 * bl - x1 * al) := by
    have ha' : (a : Int) * sc = P * D + al := by exact_mod_cast ha
    have hb' : (b : Int) * sc = Q * D + bl := by exact_mod_cast hb
    have hP' : (P : Int) = y1 * p + y0 * q := by exact_mod_cast hP
    have hQ' : (Q : Int) = x1 * p + x0 * q := by exact_mod_cast hQ
    rcases hs with rfl | rfl <;> grind
  have hsc : 0 < sc := by
    rcases Nat.eq_zero_or_pos sc with h | h
    · subst h; omega
    · exact h
  have ha' : (a : Int) * sc = P * D + al := by exact_mod_cast ha
  -- as integers
  have n1 : ((x0 * al : Nat) : Int) = (x0 : Int) * al := Int.natCast_mul _ _
  have n2 : ((y0 * bl : Nat) : Int) = (y0 : Int) * bl := Int.natCast_mul _ _
  have n3 : ((x1 * al : Nat) : Int) = (x1 : Int) * al := Int.natCast_mul _ _
  have n4 : ((y1 * bl : Nat) : Int) = (y1 : Int) * bl := Int.natCast_mul _ _
  have n5 : ((p * D : Nat) : Int) = (p : Int) * D := Int.natCast_mul _ _
  have n6 : ((q * D : Nat) : Int) = (q : Int) * D := Int.natCast_mul _ _
  have n7 : ((P * D : Nat) : Int) = (P : Int) * D := Int.natCast_mul _ _
  rw [← n5, ← n1, ← n2] at c1
  rw [← n6, ← n3, ← n4] at c2
  rw [← n7] at ha'
  have hsc' : (0 : Int) < sc := by omega
  generalize hA : s * x0 * a + -s * y0 * b = A at *
  generalize hB : -s * x1 * a + s * y1 * b = C at *
  have d1 : 0 ≤ C * sc := by rcases hs with rfl | rfl <;> omega
  have d2 : C * sc < A * sc := by rcases hs with rfl | rfl <;> omega
  have d3 : A * sc < a * sc := by rcases hs with rfl | rfl <;> omega
  have f1 : 0 ≤ C := Int.nonneg_of_mul_nonneg_left d1 hsc'
  have f2 : C < A := Int.lt_of_mul_lt_mul_right d2 (by omega)
  have f3 : A < a := Int.lt_of_mul_lt_mul_right d3 (by omega)
  obtain ⟨c, hc⟩ : ∃ c : Nat, A = c := ⟨A.toNat, by omega⟩
  obtain ⟨d, hd⟩ : ∃ d : Nat, C = d := ⟨C.toNat, by omega⟩
  subst hc
  subst hd
  refine ⟨c, d, hA, hB, by omega, by omega, gcd_unimod hA hB hs ?_, ?_, ?_, ?_, ?_, ?_⟩
  · rcases hs with rfl | rfl <;> grind
  · rcases hs with rfl | rfl
    · left; omega
    · right; omega
  · rcases hs with rfl | rfl <;> omega
  · rcases hs with rfl | rfl <;> omega
  · rcases hs with rfl | rfl <;> omega
  · rcases hs with rfl | rfl <;> omega

/-- a step of Euclid's algorithm on the leading digits -/
theorem lehmer_step {P Q p q x1 x2 y1 y2 : Nat} {s : Int} (hP : P = y2 * p + y1 * q) (hQ : Q = x2 * p + x1 * q) (hdet : (x1 : Int) * y2 - (x2 : Int) * y1 = -s) (_hq : 0 < q) :
    P = (y1 + p / q * y2) * q + y2 * (p % q) ∧ Q = (x1 + p / q * x2) * q + x2 * (p % q) ∧ (x2 : Int) * ((y1 + p / q * y2 : Nat) : Int) - ((x1 + p / q * x2 : Nat) : Int) * y2 = s := by
  have e := Nat.div_add_mod p q
  generalize p / q = t at *
  generalize p % q = r at *
  subst e
  refine ⟨?_, ?_, ?_⟩
  · rw [hP]; grind
  · rw [hQ]; grind
  · rw [Int.natCast_add, Int.natCast_add, Int.natCast_mul, Int.natCast_mul]; grind
end Go.Proofs.YtajonpcmgebbbaaDoor
