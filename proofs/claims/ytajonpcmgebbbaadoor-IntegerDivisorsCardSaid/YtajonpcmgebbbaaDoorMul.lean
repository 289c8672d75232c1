/- Plain mathematics: products by hand, digit by digit. -/
import Derived.Test.YtajonpcmgebbbaaDoorNat
namespace Go.Proofs.YtajonpcmgebbbaaDoor

theorem getD_lt {l : List Nat} {k : Nat} (h : k < l.length) : l.getD k 0 = l[k] := by
  rw [List.getD_eq_getElem?_getD, List.getElem?_eq_getElem h]; rfl
theorem toN_set (l : List Nat) (k d : Nat) (h : k < l.length) : toN (l.set k d) + B ^ k * l.getD k 0 = toN l + B ^ k * d := by
  induction l generalizing k with
  | nil => simp at h
  | cons a r ih =>
    cases k with
    | zero => simp [toN]; omega
    | succ k =>
      have h1 := ih k (by simpa using h)
      simp only [List.set_cons_succ, toN, List.getD_cons_succ, Nat.pow_succ]
      have h2 : B * toN (r.set k d) + B * (B ^ k * r.getD k 0) = B * toN r + B * (B ^ k * d) := by rw [← Nat.mul_add, ← Nat.mul_add, h1]
      rw [Nat.mul_comm (B ^ k) B, Nat.mul_assoc, Nat.mul_assoc]
      omega
theorem Dig.set {l : List Nat} (h : Dig l) (k : Nat) {d : Nat} (hd : d < 1000000000) : Dig (l.set k d) := fun x hx => by
  rcases List.mem_or_eq_of_mem_set hx with hx | rfl
  · exact h x hx
  · exact hd
theorem getD_set_ne (l : List Nat) (k m d : Nat) (h : k ≠ m) : (l.set k d).getD m 0 = l.getD m 0 := by
  rw [List.getD_eq_getElem?_getD, List.getD_eq_getElem?_getD, List.getElem?_set_ne h]

theorem mul_bd {x y : Nat} (hx : x < 1000000000) (hy : y < 1000000000) : x * y ≤ 999999998000000001 := by
  have := Nat.mul_le_mul (show x ≤ 999999999 by omega) (show y ≤ 999999999 by omega)
  omega

/-- a step of the inner loop -/
theorem mul_step {o : List Nat} {k x y c : Nat} (hk : k < o.length) (ho : Dig o) (hx : x < 1000000000) (hy : y < 1000000000) (hc : c < 1000000000) :
    let t := o.getD k 0 + x * y + c
    t / 1000000000 < 1000000000 ∧ t % 1000000000 < 1000000000 ∧ toN (o.set k (t % 1000000000)) + B ^ (k + 1) * (t / 1000000000) = toN o + B ^ k * (x * y + c) := by
  intro t
  have h1 := mul_bd hx hy
  have h2 := ho.getD k
  have h3 : t < 1000000000 * 1000000000 := by show o.getD k 0 + x * y + c < _; omega
  refine ⟨by omega, by omega, ?_⟩
  have h4 := toN_set o k (t % 1000000000) hk
  have h5 : B ^ k * t = B ^ k * (t % 1000000000) + B ^ (k + 1) * (t / 1000000000) := by
    rw [Nat.pow_succ, Nat.mul_assoc, ← Nat.mul_add, B_eq]
    congr 1
    omega
  have h6 : B ^ k * t = B ^ k * o.getD k 0 + B ^ k * (x * y + c) := by
    rw [← Nat.mul_add]; congr 1; show o.getD k 0 + x * y + c = _; omega
  omega

/-- the invariant of the inner loop, a step on -/
theorem mul_inner {o : List Nat} {i j x c S : Nat} {b : List Nat} (hk : i + j < o.length) (hj : j < b.length) (ho : Dig o) (hb : Dig b) (hx : x < 1000000000) (hc : c < 1000000000)
    (h : toN o + B ^ (i + j) * c = S + B ^ i * (x * toN (b.take j))) :
    let t := o.getD (i + j) 0 + x * b.getD j 0 + c
    toN (o.set (i + j) (t % 1000000000)) + B ^ (i + (j + 1)) * (t / 1000000000) = S + B ^ i * (x * toN (b.take (j + 1))) := by
  intro t
  obtain ⟨_, _, h3⟩ := mul_step hk ho hx (hb.getD j) hc
  rw [← Nat.add_assoc i j 1]
  refine h3.trans ?_
  rw [toN_take_succ b j hj, Nat.mul_add x, Nat.mul_add (B ^ i), Nat.mul_add (B ^ (i + j))]
  have h4 : B ^ i * (x * (B ^ j * b.getD j 0)) = B ^ (i + j) * (x * b.getD j 0) := by
    rw [Nat.pow_add, Nat.mul_assoc]; congr 1
    rw [← Nat.mul_assoc, ← Nat.mul_assoc, Nat.mul_comm x]
  omega
/-- the invariant of the outer loop, a step on -/
theorem mul_outer {o : List Nat} {i c : Nat} {a b : List Nat} (hi : i < a.length) (hk : i + b.length < o.length)
    (h : toN o + B ^ (i + b.length) * c = toN (a.take i) * toN b + B ^ i * (a.getD i 0 * toN (b.take b.length))) (hz : o.getD (i + b.length) 0 = 0) :
    toN (o.set (i + b.length) c) = toN (a.take (i + 1)) * toN b := by
  have h1 := toN_set o (i + b.length) c hk
  rw [hz, Nat.mul_zero, Nat.add_zero] at h1
  rw [List.take_length] at h
  rw [h1, h, toN_take_succ a i hi, Nat.add_mul, Nat.mul_assoc (B ^ i)]
end Go.Proofs.YtajonpcmgebbbaaDoor
