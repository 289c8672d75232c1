/- Plain mathematics: sums and differences, digit by digit. -/
import Derived.Test.YtajonpcmgebbbaaDoorMul
import Derived.Test.YtajonpcmgebbbaaDoorW6
namespace Go.Proofs.YtajonpcmgebbbaaDoor

def mkD (n : Nat) : Dg := ⟨n % 1000000000, Nat.mod_lt _ (by decide)⟩
theorem mkD_val {n : Nat} (h : n < 1000000000) : (mkD n).1 = n := Nat.mod_eq_of_lt h
/-- the pairs of digits of a and b, as they come -/
def prs (la lb : List Nat) (k : Nat) : List (Dg × Dg) := (List.range k).map fun i => (mkD (la.getD i 0), mkD (lb.getD i 0))
theorem prs_succ (la lb : List Nat) (k : Nat) : prs la lb (k + 1) = prs la lb k ++ [(mkD (la.getD k 0), mkD (lb.getD k 0))] := by
  unfold prs; rw [List.range_succ, List.map_append]; rfl
theorem prs_length (la lb : List Nat) (k : Nat) : (prs la lb k).length = k := by simp [prs]

/-- what is made of pairs of digits, and what is carried -/
def outOf (st : Nat → Nat → Nat → Nat × Nat) (pre : List (Dg × Dg)) : List Nat × Nat :=
  pre.foldl (fun oc p => (oc.1 ++ [(st p.1.1 p.2.1 oc.2).1], (st p.1.1 p.2.1 oc.2).2)) ([], 0)
theorem outOf_snoc (st : Nat → Nat → Nat → Nat × Nat) (pre : List (Dg × Dg)) (p : Dg × Dg) :
    outOf st (pre ++ [p]) = ((outOf st pre).1 ++ [(st p.1.1 p.2.1 (outOf st pre).2).1], (st p.1.1 p.2.1 (outOf st pre).2).2) := by
  unfold outOf; rw [List.foldl_append]; rfl
theorem outOf_length (st : Nat → Nat → Nat → Nat × Nat) (pre : List (Dg × Dg)) : (outOf st pre).1.length = pre.length := by
  induction pre using snoc_ind with
  | h0 => rfl
  | hs l p ih => rw [outOf_snoc, List.length_append, List.length_append, ih]; rfl
/-- a step keeps to digits and to a carry of at most 1 -/
def Steps1 (st : Nat → Nat → Nat → Nat × Nat) : Prop := ∀ x y c, x < 1000000000 → y < 1000000000 → c ≤ 1 → (st x y c).1 < 1000000000 ∧ (st x y c).2 ≤ 1
theorem outOf_ok {st : Nat → Nat → Nat → Nat × Nat} (h : Steps1 st) (pre : List (Dg × Dg)) : Dig (outOf st pre).1 ∧ (outOf st pre).2 ≤ 1 := by
  induction pre using snoc_ind with
  | h0 => exact ⟨Dig.nil, Nat.zero_le _⟩
  | hs l p ih =>
    rw [outOf_snoc]
    have := h p.1.1 p.2.1 (outOf st l).2 p.1.2 p.2.2 ih.2
    exact ⟨ih.1.append (Dig.one this.1), this.2⟩

def addS (x y c : Nat) : Nat × Nat := if 1000000000 ≤ x + y + c then (x + y + c - 1000000000, 1) else (x + y + c, 0)
def subS (x y c : Nat) : Nat × Nat := if x < y + c then (x + 1000000000 - y - c, 1) else (x - y - c, 0)
theorem addS_ok : Steps1 addS := fun x y c hx hy hc => by unfold addS; split <;> constructor <;> simp <;> omega
theorem subS_ok : Steps1 subS := fun x y c hx hy hc => by unfold subS; split <;> constructor <;> simp <;> omega
theorem addS_eq (x y c : Nat) : (addS x y c).1 + 1000000000 * (addS x y c).2 = x + y + c := by unfold addS; split <;> simp <;> omega
theorem subS_eq (x y c : Nat) (hy : y < 1000000000) (hc : c ≤ 1) : (subS x y c).1 + y + c = x + 1000000000 * (subS x y c).2 := by unfold subS; split <;> simp <;> omega

theorem toN_take_le (l : List Nat) (k : Nat) : toN (l.take (k + 1)) = toN (l.take k) + B ^ k * l.getD k 0 := by
  by_cases h : k < l.length
  · exact toN_take_succ l k h
  · rw [List.take_of_length_le (by omega), List.take_of_length_le (by omega), List.getD_eq_getElem?_getD, List.getElem?_eq_none (by omega)]; simp

theorem add_out {la lb : List Nat} (ha : Dig la) (hb : Dig lb) (k : Nat) :
    toN (outOf addS (prs la lb k)).1 + B ^ k * (outOf addS (prs la lb k)).2 = toN (la.take k) + toN (lb.take k) := by
  induction k with
  | zero => simp [prs, outOf, toN]
  | succ k ih =>
    rw [prs_succ, outOf_snoc, toN_snoc, outOf_length, prs_length, toN_take_le, toN_take_le]
    simp only [mkD_val (ha.getD k), mkD_val (hb.getD k)]
    generalize outOf addS (prs la lb k) = oc at *
    have h1 := addS_eq (la.getD k 0) (lb.getD k 0) oc.2
    generalize addS (la.getD k 0) (lb.getD k 0) oc.2 = r at *
    have h2 : B ^ k * r.1 + B ^ (k + 1) * r.2 = B ^ k * la.getD k 0 + B ^ k * lb.getD k 0 + B ^ k * oc.2 := by
      rw [Nat.pow_succ, Nat.mul_assoc, ← Nat.mul_add, ← Nat.mul_add, ← Nat.mul_add, B_eq, h1]
    omega
theorem sub_out {la lb : List Nat} (ha : Dig la) (hb : Dig lb) (k : Nat) :
    toN (outOf subS (prs la lb k)).1 + toN (lb.take k) = toN (la.take k) + B ^ k * (outOf subS (prs la lb k)).2 := by
  induction k with
  | zero => simp [prs, outOf, toN]
  | succ k ih =>
    have hc := (outOf_ok subS_ok (prs la lb k)).2
    rw [prs_succ, outOf_snoc, toN_snoc, outOf_length, prs_length, toN_take_le, toN_take_le]
    simp only [mkD_val (ha.getD k), mkD_val (hb.getD k)]
    generalize outOf subS (prs la lb k) = oc at *
    have h1 := subS_eq (la.getD k 0) (lb.getD k 0) oc.2 (hb.getD k) hc
    generalize subS (la.getD k 0) (lb.getD k 0) oc.2 = r at *
    have h2 : B ^ k * r.1 + B ^ k * lb.getD k 0 + B ^ k * oc.2 = B ^ k * la.getD k 0 + B ^ (k + 1) * r.2 := by
      rw [Nat.pow_succ, Nat.mul_assoc, ← Nat.mul_add, ← Nat.mul_add, ← Nat.mul_add, B_eq, h1]
    omega
theorem add_total {la lb : List Nat} (ha : Dig la) (hb : Dig lb) (hl : lb.length ≤ la.length) :
    toN ((outOf addS (prs la lb la.length)).1 ++ [(outOf addS (prs la lb la.length)).2]) = toN la + toN lb := by
  have h := add_out ha hb la.length
  rw [List.take_length, List.take_of_length_le hl] at h
  rw [toN_snoc, outOf_length, prs_length]; exact h
theorem sub_total {la lb : List Nat} (ha : Dig la) (hb : Dig lb) (hl : lb.length ≤ la.length) (hle : toN lb ≤ toN la) :
    toN ((outOf subS (prs la lb la.length)).1 ++ [(outOf subS (prs la lb la.length)).2]) = toN la - toN lb := by
  have h := sub_out ha hb la.length
  rw [List.take_length, List.take_of_length_le hl] at h
  have h1 := toN_lt (outOf_ok subS_ok (prs la lb la.length)).1
  rw [outOf_length, prs_length] at h1
  rw [toN_snoc, outOf_length, prs_length]
  have h2 := (outOf_ok subS_ok (prs la lb la.length)).2
  have h3 := toN_lt ha
  generalize (outOf subS (prs la lb la.length)).2 = c at *
  generalize toN (outOf subS (prs la lb la.length)).1 = o at *
  generalize B ^ la.length = P at *
  have hc : c = 0 ∨ c = 1 := by omega
  rcases hc with rfl | rfl <;> omega
end Go.Proofs.YtajonpcmgebbbaaDoor
