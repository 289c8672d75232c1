/- Plain mathematics: the text of a natural out of its digits of the base. -/
import Derived.Test.YtajonpcmgebbbaaDoorW10
namespace Go.Proofs.YtajonpcmgebbbaaDoor

theorem pad_snoc (k d : Nat) : pad (k + 1) d = pad k (d / 10) ++ [UInt8.ofNat (48 + d % 10)] := by
  unfold pad
  rw [List.range_succ, List.map_append, List.map_singleton]
  congr 1
  · refine List.map_congr_left fun i hi => ?_
    have hi := List.mem_range.1 hi
    rw [show k + 1 - 1 - i = (k - 1 - i) + 1 by omega, Nat.pow_succ, Nat.mul_comm, ← Nat.div_div_eq_div_mul]
  · rw [show k + 1 - 1 - k = 0 by omega]; simp
theorem dec_scaled (k : Nat) : ∀ (q d : Nat), 0 < q → d < 10 ^ k → Lib.decDigits (q * 10 ^ k + d) = Lib.decDigits q ++ pad k d := by
  induction k with
  | zero => intro q d _ hd; simp at hd; subst hd; simp [pad]
  | succ k ih =>
    intro q d hq hd
    have hp : 0 < 10 ^ k := Nat.pow_pos (by decide)
    have h1 : 10 ^ k ≤ q * 10 ^ k := Nat.le_mul_of_pos_left _ hq
    rw [Nat.pow_succ] at hd ⊢
    have h2 : (q * (10 ^ k * 10) + d) / 10 = q * 10 ^ k + d / 10 := by rw [← Nat.mul_assoc]; omega
    have h3 : (q * (10 ^ k * 10) + d) % 10 = d % 10 := by rw [← Nat.mul_assoc]; omega
    rw [Lib.decDigits, dif_neg (by rw [← Nat.mul_assoc]; omega), h2, h3, ih q (d / 10) hq (by omega), pad_snoc, List.append_assoc]

/-- the text of digits of the base, the last one first -/
def txt : List Nat → List UInt8
  | [] => []
  | d :: r => if r = [] then Lib.decDigits d else txt r ++ pad 9 d
theorem txt_one (d : Nat) : txt [d] = Lib.decDigits d := by simp [txt]
theorem txt_cons {d : Nat} {r : List Nat} (h : r ≠ []) : txt (d :: r) = txt r ++ pad 9 d := by simp [txt, h]
theorem txt_dec {l : List Nat} (h : Dig l) (hne : l ≠ []) (hl : l.getLast? ≠ some 0) : txt l = Lib.decDigits (toN l) := by
  induction l with
  | nil => exact absurd rfl hne
  | cons d r ih =>
    by_cases hr : r = []
    · subst hr; rw [txt_one]; simp [toN]
    · have hl' : r.getLast? ≠ some 0 := by rwa [List.getLast?_cons_of_ne_nil hr] at hl
      rw [txt_cons hr, ih h.tail hr hl', toN, ← dec_scaled 9 (toN r) d (toN_pos_of_last hr hl') h.head]
      congr 1
      rw [B_eq, Nat.mul_comm]; omega
theorem txt_dg {n : Nat} (h : n ≠ 0) : txt (dg n) = Lib.decDigits n := by
  rw [txt_dec (dg_Dig n) (fun e => h ((dg_nil_iff n).1 e)) (dg_last n), toN_dg]
theorem drop_getD {l : List Nat} {m : Nat} (h : m < l.length) : l.drop m = l.getD m 0 :: l.drop (m + 1) := by
  rw [List.drop_eq_getElem_cons h, List.getD_eq_getElem?_getD, List.getElem?_eq_getElem h]; rfl
theorem txt_step {l : List Nat} {m : Nat} (h : m + 1 < l.length) : txt (l.drop m) = txt (l.drop (m + 1)) ++ pad 9 (l.getD m 0) := by
  rw [drop_getD (by omega), txt_cons (by intro e; have := congrArg List.length e; rw [List.length_drop] at this; simp at this; omega)]
theorem txt_last {l : List Nat} {m : Nat} (h : m + 1 = l.length) : txt (l.drop m) = Lib.decDigits (l.getD m 0) := by
  rw [drop_getD (by omega), List.drop_of_length_le (by omega), txt_one]

/-- the integer of a sign and a size -/
def sgnZ (neg : Bool) (n : Nat) : Int := if neg then -(n : Int) else n
/-- the sign's text -/
def signT : Bool → List UInt8
  | true => [45]
  | false => []
theorem itoa_sgn (neg : Bool) {n : Nat} (h : n ≠ 0) : Lib.itoa (sgnZ neg n) = signT neg ++ Lib.decDigits n := by
  unfold sgnZ signT
  cases neg
  · simp [Lib.itoa_nonneg]
  · simp only [if_true]; rw [Lib.itoa_neg n (by omega)]; rfl
/-- the result of a call that returns an integer -/
def resB (z : Int) : ByteArray := if z.natAbs < lim then strB z else ByteArray.empty
def resE (z : Int) : Int := if z.natAbs < lim then 0 else 4
theorem tenTo_pos (k : Nat) : 0 < tenTo k := Nat.pow_pos (by decide)
theorem lim_pos : 0 < lim := tenTo_pos 300
theorem nlen_lim (neg : Bool) (n : Nat) : (300 < nlen n) ↔ ¬ (sgnZ neg n).natAbs < lim := by
  have h0 : (sgnZ neg n).natAbs = n := by unfold sgnZ; cases neg <;> simp
  rw [h0]
  unfold nlen
  by_cases h : n = 0
  · subst h
    rw [if_pos rfl]
    have := lim_pos
    constructor
    · intro h; omega
    · intro h; exact absurd this h
  · rw [if_neg h]
    have := nDigits_tenTo n 300 (by decide)
    rw [show lim = tenTo 300 from rfl, ← this]; omega
end Go.Proofs.YtajonpcmgebbbaaDoor
