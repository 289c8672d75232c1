/- Plain mathematics: long division by hand, digit by digit. -/
import Derived.Test.YtajonpcmgebbbaaDoorMul
import Derived.Test.YtajonpcmgebbbaaDoorW5
namespace Go.Proofs.YtajonpcmgebbbaaDoor

theorem toN_cons (d : Nat) (l : List Nat) : toN (d :: l) = d + B * toN l := rfl
theorem toN_top2 {l : List Nat} {k : Nat} (hd : Dig l) (h : l.length = k + 2) :
    ∃ low, low < B ^ k ∧ toN l = low + B ^ k * (l.getD (k + 1) 0 * B + l.getD k 0) := by
  have h1 := toN_take_succ l k (by omega)
  have h2 := toN_take_succ l (k + 1) (by omega)
  rw [List.take_of_length_le (by omega)] at h2
  have h3 := toN_lt (hd.take k)
  rw [List.length_take, Nat.min_eq_left (by omega)] at h3
  refine ⟨_, h3, ?_⟩
  rw [h2, h1, Nat.pow_succ, Nat.mul_assoc, Nat.add_assoc, ← Nat.mul_add, Nat.mul_comm B, Nat.add_comm (l.getD k 0)]
theorem toN_top3 {l : List Nat} {k : Nat} (hd : Dig l) (h : l.length = k + 3) :
    ∃ low, low < B ^ k ∧ toN l = low + B ^ k * ((l.getD (k + 2) 0 * B + l.getD (k + 1) 0) * B + l.getD k 0) := by
  have h1 := toN_take_succ l k (by omega)
  have h2 := toN_take_succ l (k + 1) (by omega)
  have h4 := toN_take_succ l (k + 2) (by omega)
  rw [List.take_of_length_le (by omega)] at h4
  have h3 := toN_lt (hd.take k)
  rw [List.length_take, Nat.min_eq_left (by omega)] at h3
  refine ⟨_, h3, ?_⟩
  rw [h4, h2, h1, show B ^ (k + 2) = B ^ k * B * B by rw [Nat.pow_succ, Nat.pow_succ], Nat.pow_succ]
  generalize B ^ k = P
  generalize toN (l.take k) = z
  generalize l.getD (k + 2) 0 = a
  generalize l.getD (k + 1) 0 = b
  generalize l.getD k 0 = c
  rw [Nat.mul_add P]
  have e1 : P * B * b = P * (b * B) := by rw [Nat.mul_assoc, Nat.mul_comm B b]
  have e2 : P * B * B * a = P * (a * B * B) := by rw [Nat.mul_assoc P, Nat.mul_assoc P, Nat.mul_comm (B * B) a, ← Nat.mul_assoc a]
  have e3 : P * ((a * B + b) * B) = P * (a * B * B) + P * (b * B) := by rw [Nat.add_mul, Nat.mul_add]
  omega

/-! the estimate of a digit: W is low + P * U, Y is low' + P * V, both lows below P -/
theorem est_up {W Y lw ly P U V t : Nat} (hw : W = lw + P * U) (hy : Y = ly + P * V) (hlw : lw < P) (h : U < t * V) : W < t * Y := by
  have h1 : P * (U + 1) ≤ P * (t * V) := Nat.mul_le_mul_left _ h
  have h2 : t * Y = t * ly + P * (t * V) := by rw [hy, Nat.mul_add, Nat.mul_left_comm]
  rw [Nat.mul_add, Nat.mul_one] at h1
  omega
theorem est_dn {W Y lw ly P U V t : Nat} (hw : W = lw + P * U) (hy : Y = ly + P * V) (hly : ly < P) (hb : t ≤ V) (h : t * V ≤ U) : t * Y ≤ W + Y := by
  cases t with
  | zero => omega
  | succ t =>
    have h1 : t * ly ≤ t * P := Nat.mul_le_mul_left _ (by omega)
    have h2 : P * ((t + 1) * V) ≤ P * U := Nat.mul_le_mul_left _ h
    have h3 : P * t ≤ P * V := Nat.mul_le_mul_left _ (by omega)
    have h4 : (t + 1) * Y = t * ly + P * (t * V) + Y := by rw [Nat.succ_mul]; conv => lhs; lhs; rw [hy, Nat.mul_add, Nat.mul_left_comm]
    have h5 : P * ((t + 1) * V) = P * (t * V) + P * V := by rw [Nat.succ_mul, Nat.mul_add]
    rw [Nat.mul_comm t P] at h1
    omega
theorem est_div {W Y lw ly P top d f s : Nat} (hw : W = lw + P * (top * B + d)) (hy : Y = ly + P * (f * B + s)) (hlw : lw < P) (hd : d < B) (hf : 0 < f) (hlt : W < B * Y) :
    W < (min (top / f) (B - 1) + 1) * Y := by
  have h1 : W < (top / f + 1) * Y := by
    have h2 : top < (top / f + 1) * f := by rw [Nat.mul_comm]; exact Nat.lt_mul_div_succ top hf
    have h3 : P * (B * (top + 1)) ≤ P * (B * ((top / f + 1) * f)) := Nat.mul_le_mul_left _ (Nat.mul_le_mul_left _ h2)
    have h4 : (top / f + 1) * Y = (top / f + 1) * ly + (top / f + 1) * (P * s) + P * (B * ((top / f + 1) * f)) := by
      generalize top / f + 1 = t
      rw [hy, Nat.mul_add P, Nat.mul_add, Nat.mul_add]
      have : t * (P * (f * B)) = P * (B * (t * f)) := by
        rw [Nat.mul_left_comm, Nat.mul_comm f B, Nat.mul_left_comm t B]
      omega
    have h5 : P * (top * B + d + 1) ≤ P * (B * (top + 1)) := Nat.mul_le_mul_left _ (by rw [Nat.mul_add, Nat.mul_one, Nat.mul_comm B top]; omega)
    rw [Nat.mul_add P _ 1, Nat.mul_one] at h5
    omega
  by_cases hm : top / f ≤ B - 1
  · rwa [Nat.min_eq_left hm]
  · rw [Nat.min_eq_right (by omega), Nat.sub_add_cancel B_pos]; exact hlt

theorem est_more {W Y lw ly P top d f s t : Nat} (hw : W = lw + P * (top * B + d)) (hy : Y = ly + P * (f * B + s)) (hlw : lw < P) (hf : t * f ≤ top) (h : (top - t * f) * B + d < t * s) : W < t * Y := by
  refine est_up hw hy hlw ?_
  rw [Nat.mul_add, ← Nat.mul_assoc]
  have : top * B = t * f * B + (top - t * f) * B := by rw [← Nat.add_mul]; congr 1; omega
  omega
theorem est_done {W Y lw ly P top d f s t : Nat} (hw : W = lw + P * (top * B + d)) (hy : Y = ly + P * (f * B + s)) (hly : ly < P) (hf : t * f ≤ top) (ht : t < B) (hs : s < B) (hf0 : 0 < f) (h : t * s ≤ (top - t * f) * B + d ∨ B ≤ top - t * f) : t * Y ≤ W + Y := by
  refine est_dn hw hy hly ?_ ?_
  · have : 1 * B ≤ f * B := Nat.mul_le_mul_right _ hf0
    omega
  · rw [Nat.mul_add, ← Nat.mul_assoc]
    have h1 : top * B = t * f * B + (top - t * f) * B := by rw [← Nat.add_mul]; congr 1; omega
    rcases h with h | h
    · omega
    · have h2 : B * B ≤ (top - t * f) * B := Nat.mul_le_mul_right _ h
      have h3 : t * s ≤ B * B := Nat.mul_le_mul (Nat.le_of_lt ht) (Nat.le_of_lt hs)
      omega

/-! the step of what takes out -/
theorem sub_step {p x y t c P Yp Xp : Nat} (hx : x < 1000000000) (hy : y < 1000000000) (ht : t < 1000000000) (hc : c < 1000000000) (h : p + t * Yp = Xp + P * c) :
    let u := t * y + c
    (x < u % 1000000000 → u / 1000000000 + 1 < 1000000000 ∧ x + 1000000000 - u % 1000000000 < 1000000000 ∧ p + P * (x + 1000000000 - u % 1000000000) + t * (Yp + P * y) = Xp + P * x + P * B * (u / 1000000000 + 1)) ∧
    (u % 1000000000 ≤ x → u / 1000000000 < 1000000000 ∧ x - u % 1000000000 < 1000000000 ∧ p + P * (x - u % 1000000000) + t * (Yp + P * y) = Xp + P * x + P * B * (u / 1000000000)) := by
  intro u
  have hu : u ≤ 999999998000000001 + 999999999 := by have := mul_bd ht hy; show t * y + c ≤ _; omega
  have e0 : t * (Yp + P * y) = t * Yp + P * (t * y) := by rw [Nat.mul_add, Nat.mul_left_comm]
  have e1 : P * u = P * (t * y) + P * c := Nat.mul_add _ _ _
  have e2 : P * u = P * B * (u / 1000000000) + P * (u % 1000000000) := by
    rw [Nat.mul_assoc, ← Nat.mul_add, B_eq]; congr 1; omega
  constructor
  · intro hlt
    refine ⟨by omega, by omega, ?_⟩
    have e3 : P * (x + 1000000000 - u % 1000000000) + P * (u % 1000000000) = P * x + P * B := by
      rw [← Nat.mul_add, B_eq, ← Nat.mul_add]; congr 1; omega
    rw [Nat.mul_add (P * B), Nat.mul_one]
    omega
  · intro hle
    refine ⟨by omega, by omega, ?_⟩
    have e3 : P * (x - u % 1000000000) + P * (u % 1000000000) = P * x := by rw [← Nat.mul_add]; congr 1; omega
    omega
theorem sub_carry {x' X Y t P c top : Nat} (h : x' + t * Y = X + P * c) (hx : x' < P) (hY : Y < P) (hb : t * Y ≤ X + P * top + Y) : c ≤ top + 1 := by
  apply Decidable.byContradiction
  intro hc
  have : P * (top + 2) ≤ P * c := Nat.mul_le_mul_left _ (by omega)
  rw [Nat.mul_add] at this
  omega
/-- nothing passed below 0: what is left is the remainder -/
theorem take_ok {x' X Y t P c top : Nat} (h : x' + t * Y = X + P * c) (hY : Y < P) (hup : X + P * top < (t + 1) * Y) (hc : c ≤ top) :
    c = top ∧ t = (X + P * top) / Y ∧ x' = (X + P * top) % Y := by
  have h1 : P * c ≤ P * top := Nat.mul_le_mul_left _ hc
  rw [Nat.succ_mul] at hup
  have hct : c = top := by
    apply Decidable.byContradiction
    intro hne
    have : P * (c + 1) ≤ P * top := Nat.mul_le_mul_left _ (by omega)
    rw [Nat.mul_add, Nat.mul_one] at this
    omega
  subst hct
  refine ⟨rfl, ?_⟩
  rw [← h]
  have hlt : x' < Y := by omega
  constructor
  · rw [Nat.add_mul_div_right _ _ (by omega), Nat.div_eq_of_lt hlt, Nat.zero_add]
  · rw [Nat.add_mul_mod_self_right, Nat.mod_eq_of_lt hlt]
/-- it passed below 0 by one divisor at most: a divisor is put back -/
theorem take_back {x' X Y t P top : Nat} (h : x' + t * Y = X + P * (top + 1)) (hx : x' < P) (hb : t * Y ≤ X + P * top + Y) (ht : 0 < t) :
    P ≤ x' + Y ∧ t - 1 = (X + P * top) / Y ∧ x' + Y - P = (X + P * top) % Y := by
  rw [Nat.mul_add, Nat.mul_one] at h
  have h1 : P ≤ x' + Y := by omega
  refine ⟨h1, ?_⟩
  obtain ⟨s, rfl⟩ : ∃ s, t = s + 1 := ⟨t - 1, by omega⟩
  rw [Nat.succ_mul] at h
  have h2 : X + P * top = (x' + Y - P) + s * Y := by omega
  have hlt : x' + Y - P < Y := by omega
  rw [h2, Nat.add_sub_cancel]
  constructor
  · rw [Nat.add_mul_div_right _ _ (by omega), Nat.div_eq_of_lt hlt, Nat.zero_add]
  · rw [Nat.add_mul_mod_self_right, Nat.mod_eq_of_lt hlt]

/-! the scale -/
theorem scale_pos {v : Nat} (hv : v < 1000000000) : 1 ≤ 1000000000 / (v + 1) := by
  rw [Nat.le_div_iff_mul_le (by omega)]; omega
theorem scale_lt {v : Nat} (h0 : 0 < v) : 1000000000 / (v + 1) < 1000000000 := Nat.div_lt_self (by decide) (by omega)
theorem scaled_len {b n : Nat} (hn : (dg b).length = n + 1) : (dg (b * (1000000000 / ((dg b).getD n 0 + 1)))).length = n + 1 := by
  have hb : b ≠ 0 := fun e => by rw [e, dg_zero] at hn; simp at hn
  obtain ⟨r, h1, h2, h3⟩ := dg_split b hb
  rw [hn, Nat.add_sub_cancel] at h1 h2 h3
  have hv := (dg_Dig b).getD n
  generalize (dg b).getD n 0 = v at *
  have hs := scale_pos hv
  have hm : (v + 1) * (1000000000 / (v + 1)) ≤ B := Nat.mul_div_le _ _
  generalize 1000000000 / (v + 1) = s at *
  have hup : b * s < B ^ (n + 1) := by
    have h4 : b < B ^ n * (v + 1) := by rw [Nat.mul_add, Nat.mul_one]; omega
    have h5 : b * s < B ^ n * (v + 1) * s := Nat.mul_lt_mul_of_pos_right h4 (by omega)
    rw [Nat.mul_assoc] at h5
    exact Nat.lt_of_lt_of_le h5 (by rw [Nat.pow_succ]; exact Nat.mul_le_mul_left _ hm)
  have hlo : B ^ n ≤ b * s := by
    have h4 : B ^ n * 1 ≤ B ^ n * v := Nat.mul_le_mul_left _ h2
    have h5 : b * 1 ≤ b * s := Nat.mul_le_mul_left _ hs
    omega
  have h6 := (dg_length_le (b * s) (n + 1)).2 hup
  have h7 : ¬ (dg (b * s)).length ≤ n := fun h => by have := (dg_length_le (b * s) n).1 h; omega
  omega
theorem top_pos {b n : Nat} (hn : (dg b).length = n + 1) : 0 < (dg b).getD n 0 := by
  have hb : b ≠ 0 := fun e => by rw [e, dg_zero] at hn; simp at hn
  obtain ⟨r, h1, h2, h3⟩ := dg_split b hb
  rwa [hn, Nat.add_sub_cancel] at h2

/-! the round of the division -/
theorem long_step {S x A X Y Q P : Nat} (h : S = A + P * x + P * B * (X + Y * Q)) :
    S = A + P * ((x + B * X) % Y + Y * ((x + B * X) / Y + B * Q)) := by
  have e := Nat.mod_add_div (x + B * X) Y
  rw [h, Nat.add_assoc]
  congr 1
  rw [Nat.mul_assoc, ← Nat.mul_add]
  congr 1
  rw [Nat.mul_add Y, ← Nat.add_assoc, e, Nat.mul_add B, Nat.add_assoc, Nat.mul_left_comm B Y Q]
theorem long_start {a b s m n la : Nat} {l : List Nat} (ha : a < B ^ la) (hn : B ^ n ≤ b) (hs : 0 < s) (hl : toN l = a * s) (hll : l.length = la + 1) (hm : la ≤ m + 1 + n) (hml : m ≤ la) :
    toN (l.drop (m + 1)) < b * s := by
  have h1 : toN l = toN (l.take (m + 1)) + B ^ (m + 1) * toN (l.drop (m + 1)) := by
    conv => lhs; rw [← List.take_append_drop (m + 1) l]
    rw [toN_append, List.length_take, Nat.min_eq_left (by omega)]
  apply Decidable.byContradiction
  intro hc
  have h2 : b * s ≤ toN (l.drop (m + 1)) := by omega
  have h3 : B ^ n * s ≤ toN (l.drop (m + 1)) := Nat.le_trans (Nat.mul_le_mul_right _ hn) h2
  have h4 : B ^ (m + 1) * (B ^ n * s) ≤ a * s := by
    rw [← hl, h1]; exact Nat.le_trans (Nat.mul_le_mul_left _ h3) (Nat.le_add_left _ _)
  rw [← Nat.mul_assoc, ← Nat.pow_add] at h4
  have h5 := Nat.le_of_mul_le_mul_right h4 hs
  have h6 : B ^ la ≤ B ^ (m + 1 + n) := Nat.pow_le_pow_right B_pos (by omega)
  omega
theorem toN_cancel_scale (a b s : Nat) (hs : 0 < s) : a * s / (b * s) = a / b ∧ a * s % (b * s) = a % b * s := by
  refine ⟨Nat.mul_div_mul_right a b hs, ?_⟩
  rw [Nat.mul_mod_mul_right]
end Go.Proofs.YtajonpcmgebbbaaDoor
