/- Decimal texts of integers: which strings name a number, which number, and the one text of a number. -/
import Derived.Lib.ItoaNum
import Derived.Lib.ItoaMem
namespace Go.Proofs.YtajonpcmgebbbaaDoor
open Go.Lib

theorem snoc_ind {α : Type} {P : List α → Prop} (h0 : P []) (hs : ∀ l a, P l → P (l ++ [a])) (l : List α) : P l := by
  rw [← List.reverse_reverse l]
  induction l.reverse with
  | nil => exact h0
  | cons a t ih => rw [List.reverse_cons]; exact hs _ _ ih

/-- the value of a list of decimal digits, the first one leading -/
def natOf (l : List UInt8) : Nat := l.foldl (fun n c => n * 10 + (c.toNat - 48)) 0
def isDig (c : UInt8) : Bool := 48 ≤ c && c ≤ 57
def isNeg (l : List UInt8) : Bool := l.head? == some 45
def szL (l : List UInt8) : List UInt8 := if isNeg l then l.tail else l
/-- the value of a text -/
def valOf (l : List UInt8) : Int := if isNeg l then -(natOf l.tail : Int) else (natOf l : Int)

/-- layer 1's Check, as the chapter says it -/
def chk (l : List UInt8) : Int :=
  if !(szL l).all isDig then 11
  else if (szL l) = [] ∨ ((szL l).head? = some 48 ∧ l ≠ [48]) then 11
  else if 300 < (szL l).length then 4 else 0

theorem natOf_nil : natOf [] = 0 := rfl
theorem natOf_snoc (l : List UInt8) (c : UInt8) : natOf (l ++ [c]) = natOf l * 10 + (c.toNat - 48) := by
  simp [natOf, List.foldl_append]
theorem natOf_append (l m : List UInt8) : natOf (l ++ m) = natOf l * 10 ^ m.length + natOf m := by
  induction m using snoc_ind with
  | h0 => simp [natOf]
  | hs m c ih =>
    rw [← List.append_assoc, natOf_snoc, ih, natOf_snoc, List.length_append, List.length_singleton, Nat.pow_succ]
    rw [Nat.add_mul, Nat.mul_assoc, Nat.add_assoc]

theorem isDig_iff (c : UInt8) : isDig c = true ↔ 48 ≤ c.toNat ∧ c.toNat ≤ 57 := by
  simp [isDig, UInt8.le_iff_toNat_le]

theorem natOf_lt (l : List UInt8) (h : ∀ c ∈ l, isDig c = true) : natOf l < 10 ^ l.length := by
  induction l using snoc_ind with
  | h0 => simp [natOf]
  | hs m c ih =>
    have h1 := ih (fun c hc => h c (by simp [hc]))
    have h2 := h c (by simp)
    have h3 : c.toNat ≤ 57 := by
      simp only [isDig, Bool.and_eq_true, decide_eq_true_eq, UInt8.le_iff_toNat_le] at h2
      exact h2.2
    rw [natOf_snoc, List.length_append, List.length_singleton, Nat.pow_succ]
    omega

theorem dig_ofNat (d : Nat) (h : d < 10) : isDig (UInt8.ofNat (48 + d)) = true := by
  simp only [isDig, Bool.and_eq_true, decide_eq_true_eq, UInt8.le_iff_toNat_le, UInt8.toNat_ofNat']
  have : (48 + d) % 2 ^ 8 = 48 + d := Nat.mod_eq_of_lt (by omega)
  rw [this]
  exact ⟨by simp, by simp; omega⟩

theorem toNat_ofNat (d : Nat) (h : d < 10) : (UInt8.ofNat (48 + d)).toNat = 48 + d := by
  rw [UInt8.toNat_ofNat']; exact Nat.mod_eq_of_lt (by omega)

theorem decDigits_dig (u : Nat) : ∀ c ∈ decDigits u, isDig c = true := by
  induction u using Nat.strongRecOn with
  | _ u ih =>
    intro c hc
    by_cases h : u < 10
    · rw [decDigits_one h] at hc
      rw [List.mem_singleton.1 hc]; exact dig_ofNat u h
    · rw [decDigits, dif_neg h] at hc
      rcases List.mem_append.1 hc with hc | hc
      · exact ih (u / 10) (by omega) c hc
      · rw [List.mem_singleton.1 hc]; exact dig_ofNat (u % 10) (by omega)

theorem natOf_dec (u : Nat) : natOf (decDigits u) = u := by
  induction u using Nat.strongRecOn with
  | _ u ih =>
    by_cases h : u < 10
    · rw [decDigits_one h]
      show 0 * 10 + ((UInt8.ofNat (48 + u)).toNat - 48) = u
      rw [toNat_ofNat u h]; omega
    · rw [decDigits, dif_neg h, natOf_snoc, ih (u / 10) (by omega), toNat_ofNat (u % 10) (by omega)]
      omega

theorem decDigits_ne (u : Nat) : decDigits u ≠ [] := by
  intro h; have := decDigits_length u; rw [h] at this; have := nDigits_pos u; simp at *; omega

theorem decDigits_head (u : Nat) (hu : 0 < u) : ∃ c, (decDigits u).head? = some c ∧ 49 ≤ c.toNat ∧ c.toNat ≤ 57 := by
  induction u using Nat.strongRecOn with
  | _ u ih =>
    by_cases h : u < 10
    · rw [decDigits_one h]
      exact ⟨_, rfl, by rw [toNat_ofNat u h]; omega, by rw [toNat_ofNat u h]; omega⟩
    · rw [decDigits, dif_neg h]
      obtain ⟨c, h1, h2, h3⟩ := ih (u / 10) (by omega) (by omega)
      exact ⟨c, by rw [List.head?_append, h1]; rfl, h2, h3⟩

/-- a text of digits without zeros in front is the numeral of its value -/
theorem dec_natOf (l : List UInt8) (hd : ∀ c ∈ l, isDig c = true) (h0 : l.head? ≠ some 48) (hne : l ≠ []) : decDigits (natOf l) = l ∧ 0 < natOf l := by
  induction l using snoc_ind with
  | h0 => exact absurd rfl hne
  | hs m c ih =>
    have h2 := hd c (by simp)
    have h3 : 48 ≤ c.toNat ∧ c.toNat ≤ 57 := by
      simp only [isDig, Bool.and_eq_true, decide_eq_true_eq, UInt8.le_iff_toNat_le] at h2
      exact h2
    rw [natOf_snoc]
    have hc : UInt8.ofNat (48 + (c.toNat - 48)) = c := by
      rw [show 48 + (c.toNat - 48) = c.toNat by omega]; exact UInt8.ofNat_toNat
    by_cases hm : m = []
    · subst hm
      have : c.toNat ≠ 48 := by
        intro e; apply h0; simp
        exact UInt8.toNat_inj.1 (by simpa using e)
      rw [natOf_nil]
      simp only [Nat.zero_mul, Nat.zero_add, List.nil_append]
      rw [decDigits_one (by omega), hc]
      exact ⟨rfl, by omega⟩
    · obtain ⟨i1, i2⟩ := ih (fun c hc => hd c (by simp [hc])) (by
        intro e; apply h0; rw [List.head?_append, e]; rfl) hm
      rw [decDigits, dif_neg (by omega)]
      rw [show (natOf m * 10 + (c.toNat - 48)) / 10 = natOf m by omega, show (natOf m * 10 + (c.toNat - 48)) % 10 = c.toNat - 48 by omega, i1, hc]
      exact ⟨rfl, by omega⟩

theorem isNeg_dec (u : Nat) : isNeg (decDigits u) = false := by
  have h := decDigits_dig u
  cases hl : decDigits u with
  | nil => rfl
  | cons c t =>
    have := h c (by rw [hl]; simp)
    simp only [isNeg, List.head?_cons]
    simp only [isDig, Bool.and_eq_true, decide_eq_true_eq, UInt8.le_iff_toNat_le] at this
    rw [beq_eq_false_iff_ne]
    intro e
    injection e with e
    subst e
    simp at this

theorem nDigits_le_of_lt (k : Nat) : ∀ u, u < 10 ^ (k + 1) → nDigits u ≤ k + 1 := by
  induction k with
  | zero => intro u h; rw [nDigits_small (by simpa using h)]; exact Nat.le_refl _
  | succ k ih =>
    intro u h
    by_cases hu : u < 10
    · rw [nDigits_small hu]; omega
    · rw [nDigits_big hu]
      have := ih (u / 10) (by rw [Nat.pow_succ] at h; omega)
      omega
theorem nDigits_le_iff (u k : Nat) (hk : 1 ≤ k) : nDigits u ≤ k ↔ u < 10 ^ k := by
  constructor
  · intro h
    exact Nat.lt_of_lt_of_le (lt_pow_nDigits u) (Nat.pow_le_pow_right (by decide) h)
  · intro h
    have := nDigits_le_of_lt (k - 1) u (by rw [Nat.sub_add_cancel hk]; exact h)
    omega

theorem itoa_zero : itoa 0 = [48] := by decide +kernel

/-- a text that Check lets by is the text of its value -/
theorem itoa_valOf (l : List UInt8) (h : chk l = 0) : itoa (valOf l) = l := by
  unfold chk at h
  by_cases h1 : (szL l).all isDig
  · simp only [h1, Bool.not_true, Bool.false_eq_true, if_false] at h
    by_cases h2 : (szL l) = [] ∨ ((szL l).head? = some 48 ∧ l ≠ [48])
    · rw [if_pos h2] at h; cases h
    · rw [not_or] at h2
      obtain ⟨h2, h3⟩ := h2
      rw [List.all_eq_true] at h1
      by_cases hz : l = [48]
      · subst hz; exact itoa_zero
      · have h0 : (szL l).head? ≠ some 48 := fun e => h3 ⟨e, hz⟩
        obtain ⟨d1, d2⟩ := dec_natOf (szL l) h1 h0 h2
        unfold valOf
        by_cases hn : isNeg l
        · rw [if_pos hn]
          simp only [szL, hn, if_true] at d1 d2
          rw [itoa_neg _ d2, d1]
          cases l with
          | nil => cases hn
          | cons c t =>
            simp only [isNeg, List.head?_cons, beq_iff_eq, Option.some.injEq] at hn
            subst hn; rfl
        · rw [if_neg hn]
          simp only [szL, hn, if_false, Bool.false_eq_true] at d1 d2
          rw [itoa_nonneg, d1]
  · simp only [h1] at h; cases h

/-- ten to the power of MaxDigits -/
def tenTo (k : Nat) : Nat := 10 ^ k
def lim : Nat := tenTo 300
theorem tenTo_mono {a b : Nat} (h : a ≤ b) : tenTo a ≤ tenTo b := Nat.pow_le_pow_right (by decide) h
theorem nDigits_tenTo (u k : Nat) (hk : 1 ≤ k) : nDigits u ≤ k ↔ u < tenTo k := nDigits_le_iff u k hk
theorem natOf_tenTo (l : List UInt8) (h : ∀ c ∈ l, isDig c = true) : natOf l < tenTo l.length := natOf_lt l h

/-- the value of a text that Check lets by is below 10^300 in size -/
theorem valOf_lt (l : List UInt8) (h : chk l = 0) : (valOf l).natAbs < lim := by
  unfold chk at h
  by_cases h1 : (szL l).all isDig
  · simp only [h1, Bool.not_true, Bool.false_eq_true, if_false] at h
    by_cases h2 : (szL l) = [] ∨ ((szL l).head? = some 48 ∧ l ≠ [48])
    · rw [if_pos h2] at h; cases h
    · rw [if_neg h2] at h
      by_cases h3 : 300 < (szL l).length
      · rw [if_pos h3] at h; cases h
      · rw [List.all_eq_true] at h1
        have h6 : (szL l).length ≤ 300 := by omega
        have h5 : natOf (szL l) < lim := Nat.lt_of_lt_of_le (natOf_tenTo (szL l) h1) (tenTo_mono h6)
        unfold valOf
        by_cases hn : isNeg l
        · rw [if_pos hn]; simp only [szL, hn, if_true] at h5; rw [Int.natAbs_neg]; exact h5
        · rw [if_neg hn]; simp only [szL, hn, if_false, Bool.false_eq_true] at h5; exact h5
  · simp only [h1] at h; cases h

theorem head_itoa_neg (z : Int) : isNeg (itoa z) = decide (z < 0) := by
  by_cases h : z < 0
  · unfold itoa; rw [if_pos h]; simp [isNeg, h]
  · unfold itoa; rw [if_neg h, isNeg_dec]; simp [h]

theorem valOf_itoa (z : Int) : valOf (itoa z) = z := by
  unfold valOf
  rw [head_itoa_neg]
  by_cases h : z < 0
  · simp only [h, decide_true, if_true]
    unfold itoa; rw [if_pos h]
    simp only [List.tail_cons]
    rw [natOf_dec]; omega
  · simp only [h, decide_false, Bool.false_eq_true, if_false]
    unfold itoa; rw [if_neg h, natOf_dec]; omega

theorem szL_itoa (z : Int) : szL (itoa z) = decDigits z.natAbs := by
  unfold szL
  rw [head_itoa_neg]
  by_cases h : z < 0
  · simp only [h, decide_true, if_true]
    unfold itoa; rw [if_pos h]; rfl
  · simp only [h, decide_false, Bool.false_eq_true, if_false]
    unfold itoa; rw [if_neg h]
    congr 1; omega

/-- the text of an integer of at most 300 digits is one that Check lets by; of a longer one it says ErrLimit -/
theorem chk_itoa (z : Int) : chk (itoa z) = if z.natAbs < lim then 0 else 4 := by
  unfold chk
  rw [szL_itoa]
  have h1 : (decDigits z.natAbs).all isDig = true := List.all_eq_true.2 (decDigits_dig _)
  have hne := decDigits_ne z.natAbs
  have h2 : ¬ (decDigits z.natAbs = [] ∨ ((decDigits z.natAbs).head? = some 48 ∧ itoa z ≠ [48])) := by
    rintro (h | ⟨h, h'⟩)
    · exact hne h
    · by_cases hz : z = 0
      · subst hz; exact h' itoa_zero
      · obtain ⟨c, h3, h4, _⟩ := decDigits_head z.natAbs (by omega)
        rw [h] at h3; injection h3 with h3; subst h3; simp at h4
  simp only [h1, Bool.not_true, Bool.false_eq_true, if_false]
  rw [if_neg h2, decDigits_length]
  by_cases h3 : z.natAbs < lim
  · rw [if_pos h3, if_neg]
    have h4 : nDigits z.natAbs ≤ 300 := (nDigits_tenTo z.natAbs 300 (by decide)).2 h3
    clear h3; omega
  · rw [if_neg h3, if_pos]
    have h4 : ¬ nDigits z.natAbs ≤ 300 := fun h => h3 ((nDigits_tenTo z.natAbs 300 (by decide)).1 h)
    clear h3; omega

theorem itoa_inj {x y : Int} (h : itoa x = itoa y) : x = y := by rw [← valOf_itoa x, ← valOf_itoa y, h]

end Go.Proofs.YtajonpcmgebbbaaDoor
