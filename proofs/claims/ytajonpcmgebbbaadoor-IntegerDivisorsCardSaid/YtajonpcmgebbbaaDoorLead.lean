/- The walks of leading and leadingSteps. -/
import Derived.Test.YtajonpcmgebbbaaDoorApp
namespace Go.Proofs.YtajonpcmgebbbaaDoor
open Go.RowKit

/-- the leading digits, as they are taken -/
theorem lead_math {n k sc : Nat} (hn : n < B ^ (k + 3)) (hsc : sc ∣ 1000000000) (h0 : 0 < sc) (ht : ((dg n).getD (k + 2) 0 + 1) * sc ≤ 1000000000) :
    let P := ((dg n).getD (k + 2) 0 * 1000000000 + (dg n).getD (k + 1) 0) * sc + (dg n).getD k 0 / (1000000000 / sc)
    P < 1000000000000000000 ∧ ((dg n).getD (k + 2) 0 * 1000000000 + (dg n).getD (k + 1) 0) * sc < 1000000000000000000 ∧ ∃ r, r < B ^ (k + 1) ∧ n * sc = P * B ^ (k + 1) + r := by
  have e2 : (dg n).getD (k + 2) 0 = n / B ^ k / B / B := by
    rw [dg_getD, Nat.pow_succ, Nat.pow_succ, Nat.mul_assoc, ← Nat.div_div_eq_div_mul, ← Nat.div_div_eq_div_mul]
    refine Nat.mod_eq_of_lt ?_
    rw [Nat.div_lt_iff_lt_mul B_pos, Nat.div_lt_iff_lt_mul B_pos, Nat.div_lt_iff_lt_mul (Nat.pow_pos B_pos)]
    have : B * B * B * B ^ k = B ^ (k + 3) := by rw [Nat.pow_succ, Nat.pow_succ, Nat.pow_succ]; grind
    omega
  have e1 : (dg n).getD (k + 1) 0 = n / B ^ k / B % B := by
    rw [dg_getD, Nat.pow_succ, ← Nat.div_div_eq_div_mul]
  have e0 : (dg n).getD k 0 = n / B ^ k % B := dg_getD n k
  intro P
  have h1 := (dg_Dig n).getD (k + 1)
  have h3 := (dg_Dig n).getD k
  have hm := Nat.mod_add_div n (B ^ k)
  have hlow := Nat.mod_lt n (show 0 < B ^ k from Nat.pow_pos B_pos)
  have hX := Nat.mod_add_div (n / B ^ k) B
  have hY := Nat.mod_add_div (n / B ^ k / B) B
  rw [← e0] at hX
  rw [← e1, ← e2] at hY
  obtain ⟨m, hm9⟩ := hsc
  have hmp : 0 < m := by
    rcases Nat.eq_zero_or_pos m with h | h
    · rw [h] at hm9; omega
    · exact h
  have hdiv : 1000000000 / sc = m := by rw [hm9]; exact Nat.mul_div_cancel_left m h0
  have hP : P = ((dg n).getD (k + 2) 0 * 1000000000 + (dg n).getD (k + 1) 0) * sc + (dg n).getD k 0 / m := by show _ + _ / (1000000000 / sc) = _; rw [hdiv]
  generalize P = P' at *
  generalize (dg n).getD (k + 2) 0 = d2 at *
  generalize (dg n).getD (k + 1) 0 = d1 at *
  generalize (dg n).getD k 0 = d0 at *
  generalize n % B ^ k = low at *
  generalize n / B ^ k / B = Y at *
  generalize n / B ^ k = X at *
  have hq := Nat.mod_add_div d0 m
  have hqm := Nat.mod_lt d0 hmp
  have hql : d0 / m < sc := by rw [Nat.div_lt_iff_lt_mul hmp, ← hm9]; exact h3
  generalize d0 / m = u at *
  generalize d0 % m = v at *
  have hb1 : (d2 * 1000000000 + d1 + 1) * sc ≤ (d2 + 1) * 1000000000 * sc := Nat.mul_le_mul_right _ (by omega)
  have hb2 : (d2 + 1) * sc * 1000000000 ≤ 1000000000 * 1000000000 := Nat.mul_le_mul_right _ ht
  have hb3 : (d2 + 1) * 1000000000 * sc = (d2 + 1) * sc * 1000000000 := by grind
  have hb4 : (d2 * 1000000000 + d1 + 1) * sc = (d2 * 1000000000 + d1) * sc + sc := Nat.succ_mul _ _
  refine ⟨by omega, by omega, low * sc + B ^ k * (v * sc), ?_, ?_⟩
  · have g1 : low * sc < B ^ k * sc := Nat.mul_lt_mul_of_pos_right hlow h0
    have g2 : (v + 1) * sc ≤ m * sc := Nat.mul_le_mul_right _ hqm
    have g3 : B ^ k * ((v + 1) * sc) ≤ B ^ k * (m * sc) := Nat.mul_le_mul_left _ g2
    have g4 : m * sc = B := by rw [Nat.mul_comm, ← hm9]; rfl
    rw [g4, Nat.add_mul, Nat.one_mul, Nat.mul_add] at g3
    rw [Nat.pow_succ]
    omega
  · have hB : (B : Nat) = sc * m := by rw [← hm9]; rfl
    have hB2 : (1000000000 : Nat) = B := rfl
    rw [Nat.pow_succ]
    rw [hP, hB2, ← hm, ← hX, ← hY, ← hq]
    generalize B ^ k = Z at *
    clear hb1 hb2 hb3 hb4 hm hX hY hq hP ht hm9 hdiv e0 e1 e2 hn
    grind

set_option maxRecDepth 100000 in
set_option maxHeartbeats 400000 in
theorem leading_any (v : Value) (n k sc : Nat) (w : World) (h : IsNat w v n) (hn : n < B ^ (k + 3)) (hk : k ≤ 1000) (hsc : sc ∣ 1000000000) (h0 : 0 < sc) (ht : ((dg n).getD (k + 2) 0 + 1) * sc ≤ 1000000000) :
    Calls Tryd.prog 93 #[v, .int .i64 ((k + 3 : Nat) : Int), .int .u64 sc] w fun e w' => ∃ P : Nat, e = .returned (.int .u64 P) ∧ P < 1000000000000000000 ∧ (∃ r, r < B ^ (k + 1) ∧ n * sc = P * B ^ (k + 1) + r) ∧ Below w.heap.size w w' := by
  have cc : ∀ (i : Nat) (q x : Nat), (dg n).getD i 0 = x → i ≤ 1003 → Calls Tryd.prog 95 #[v, .int .i64 (i : Nat)] (w.drewN q) fun e w' => e = .returned (.int .u64 (x : Nat)) ∧ w' = w.drewN q := fun i q x hx hi => by
    have c := at_any v (dg n) (i : Int) (w.drewN q) (Nats.next h (Below.drewK _ _ q)) (by omega) (by omega)
    rw [Int.toNat_natCast, hx] at c
    exact c.mono (fun e w' (hh : _ ∧ _) => And.intro hh.1 hh.2.symm)
  obtain ⟨hP, hPm, hr⟩ := lead_math hn hsc h0 ht
  have d2 := (dg_Dig n).getD (k + 2)
  have d1 := (dg_Dig n).getD (k + 1)
  have d0 := (dg_Dig n).getD k
  obtain ⟨P, hPe⟩ : ∃ P, ((dg n).getD (k + 2) 0 * 1000000000 + (dg n).getD (k + 1) 0) * sc + (dg n).getD k 0 / (1000000000 / sc) = P := ⟨_, rfl⟩
  rw [hPe] at hP hr
  have HR := Lib.hid (And.intro hP hr)
  have C := Lib.hid cc
  have hsl : sc ≤ 1000000000 := Nat.le_of_dvd (by decide) hsc
  have hm1 : 1 ≤ 1000000000 / sc := by rw [Nat.le_div_iff_mul_le h0]; omega
  have hm2 := Nat.div_le_self 1000000000 sc
  clear cc hr hn ht hsc h hP
  generalize g2 : (dg n).getD (k + 2) 0 = x2 at *
  generalize g1 : (dg n).getD (k + 1) 0 = x1 at *
  generalize g0 : (dg n).getD k 0 = x0 at *
  obtain ⟨m, hm⟩ : ∃ m, 1000000000 / sc = m := ⟨_, rfl⟩
  rw [hm] at hm1 hm2 hPe
  have em : (1000000000 : Int) / (sc : Int) = (m : Int) := by rw [← hm]; exact (Int.natCast_ediv _ _).symm
  have hs0 : ¬ (sc : Int) = 0 := by omega
  have hs1 : ((sc : Int) == 0) = false := by rw [beq_eq_false_iff_ne]; omega
  have hm0 : ¬ (m : Int) = 0 := by omega
  have hmb : ((m : Int) == 0) = false := by rw [beq_eq_false_iff_ne]; omega
  obtain ⟨u, hu⟩ : ∃ u, x0 / m = u := ⟨_, rfl⟩
  have eu : (x0 : Int) / (m : Int) = (u : Int) := by rw [← hu]; exact (Int.natCast_ediv _ _).symm
  have hub : u ≤ 999999999 := by have := Nat.div_le_self x0 m; omega
  rw [hu] at hPe
  obtain ⟨M, hM⟩ : ∃ M, (x2 * 1000000000 + x1) * sc = M := ⟨_, rfl⟩
  have eM : ((x2 : Int) * 1000000000 + (x1 : Int)) * (sc : Int) = (M : Int) := by
    rw [← hM, Int.natCast_mul, Int.natCast_add, Int.natCast_mul]; rfl
  rw [hM] at hPe hPm
  have k2 : ((k + 3 : Nat) : Int) - 1 = ((k + 2 : Nat) : Int) := by omega
  have k1 : ((k + 3 : Nat) : Int) - 2 = ((k + 1 : Nat) : Int) := by omega
  have k0 : ((k + 3 : Nat) : Int) - 3 = (k : Int) := by omega
  have HP := Lib.hid hPe
  clear hu hM hm hPe
  obtain ⟨K3, hK3⟩ : ∃ i, k + 3 = i := ⟨_, rfl⟩
  obtain ⟨K2, hK2⟩ : ∃ i, k + 2 = i := ⟨_, rfl⟩
  obtain ⟨K1, hK1⟩ : ∃ i, k + 1 = i := ⟨_, rfl⟩
  rw [hK3] at k2 k1 k0 ⊢
  rw [hK2] at k2 g2
  rw [hK1] at k1 g1
  have HKK := Lib.hid (And.intro hK3 (And.intro hK2 hK1))
  have hK3b : K3 ≤ 1003 := by omega
  rw [hK1] at HR
  have b2 : K2 ≤ 1003 := by omega
  have b1 : K1 ≤ 1003 := by omega
  have b0 : k ≤ 1003 := by omega
  clear hK3 hK2 hK1
  go_enter Tryd.func93, Tryd.ntmps93
  go_wp2
  go_quiet ((go_at_call 95; exact Calls.quiet_of_same (C.out _ _ _ (by assumption) (by assumption))))
  have eP : (M : Int) + (u : Int) = ((P : Nat) : Int) := by have := HP.out; omega
  rw [eP]
  go_wp2
  go_ret
  obtain ⟨hP, hr⟩ := HR.out
  exact ⟨P, rfl, hP, by rw [HKK.out.2.2]; exact hr, Below.drewK _ _ _⟩
end Go.Proofs.YtajonpcmgebbbaaDoor
