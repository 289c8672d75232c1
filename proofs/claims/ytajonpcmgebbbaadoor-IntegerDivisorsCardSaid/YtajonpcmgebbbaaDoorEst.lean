/- The walk of estimate: how often the divisor goes into the window, or once more. -/
import Derived.Test.YtajonpcmgebbbaaDoorLong
namespace Go.Proofs.YtajonpcmgebbbaaDoor
open Go.RowKit

set_option maxRecDepth 100000 in
set_option maxHeartbeats 2000000 in
theorem estimate_any (vr vb : Value) (lr lb : List Nat) (n : Nat) (w : World) (hr : Nats w vr lr) (hb : Nats w vb lb) (dr : Dig lr) (db : Dig lb) (hlr : lr.length = n + 3) (hlb : lb.length = n + 2) (hn : n ≤ 1000000)
    (h0 : 0 < lb.getD (n + 1) 0) (hlt : toN lr < B * toN lb) :
    Calls Tryd.prog 112 #[vr, vb] w fun e w' => ∃ t : Nat, e = .returned (.int .u64 t) ∧ t < 1000000000 ∧ toN lr < (t + 1) * toN lb ∧ t * toN lb ≤ toN lr + toN lb ∧ ∃ k, w' = w.drewN k := by
  obtain ⟨pr, cr, rfl, hr1, hr2, hr3⟩ := hr
  obtain ⟨pb, cb, rfl, hb1, hb2, hb3⟩ := hb
  obtain ⟨rb, roff, rfl, hcr⟩ := hr3 (by intro e; subst e; simp at hlr)
  obtain ⟨bb, boff, rfl, hcb⟩ := hb3 (by intro e; subst e; simp at hlb)
  clear hr3 hb3
  obtain ⟨lw, hlw, ew⟩ := toN_top3 dr hlr
  obtain ⟨ly, hly, ey⟩ := toN_top2 db hlb
  have c0 := hcr (n + 2) (by omega)
  have c1 := hcr (n + 1) (by omega)
  have c2 := hcr n (by omega)
  have b0 := hcb (n + 1) (by omega)
  have b1 := hcb n (by omega)
  have g0 := dr.getD (n + 2)
  have g1 := dr.getD (n + 1)
  have g2 := dr.getD n
  have g3 := db.getD (n + 1)
  have g4 := db.getD n
  obtain ⟨i1, hi1⟩ : ∃ i, i = n + 1 := ⟨_, rfl⟩
  obtain ⟨i2, hi2⟩ : ∃ i, i = n + 2 := ⟨_, rfl⟩
  have hj1 : (i2 : Int) - 1 = i1 := by omega
  have hj2 : (i2 : Int) - 2 = n := by omega
  have hlr' : lr.length = i2 + 1 := by omega
  have hlb' : lb.length = i2 := by omega
  rw [hlr', hlb']
  rw [hlr'] at hr1
  rw [hlb'] at hb1
  clear hlr' hlb'
  clear hcr hcb dr db
  generalize lr.getD (n + 2) 0 = w0 at *
  generalize lr.getD (n + 1) 0 = w1 at *
  generalize lr.getD n 0 = w2 at *
  generalize lb.getD (n + 1) 0 = f at *
  generalize lb.getD n 0 = s at *
  have HV := Lib.hid (est_div ew ey hlw g2 h0 hlt)
  have HU := Lib.hid (fun t => est_more (t := t) ew ey hlw)
  have HW := Lib.hid (fun t => est_done (t := t) ew ey hly)
  clear ew ey hlw hly hlt hlr hlb
  rw [← hi1] at c1 b0
  rw [← hi2] at c0
  clear hi1 hi2
  go_enter Tryd.func112, Tryd.ntmps112
  go_wp2
  have x1 : (i1 : Int) < (i2 : Int) := by omega
  have x2 : (n : Int) < (i2 : Int) := by omega
  have x3 : (i2 : Int) < (i2 : Int) + 1 := by omega
  have x4 : (i1 : Int) < (i2 : Int) + 1 := by omega
  have x5 : (n : Int) < (i2 : Int) + 1 := by omega
  go_quiet (fail)
  have c0' : (w.drewN nq).cell? ⟨rb, roff + i2, none⟩ = some (.int .u64 (w0 : Nat)) := c0
  have c1' : (w.drewN nq).cell? ⟨rb, roff + i1, none⟩ = some (.int .u64 (w1 : Nat)) := c1
  have c2' : (w.drewN nq).cell? ⟨rb, roff + n, none⟩ = some (.int .u64 (w2 : Nat)) := c2
  clear c0 c1 c2 b0 b1
  have HK : Hid (∃ n, w.drewN nq = w.drewN n) := ⟨_, rfl⟩
  generalize w.drewN nq = W1 at *
  go_wp2
  go_quiet (fail)
  have d2 : (W1.drewN nq).cell? ⟨rb, roff + n, none⟩ = some (.int .u64 (w2 : Nat)) := c2'
  clear c0' c1' c2'
  have HK2 : Hid (∃ n, W1.drewN nq = w.drewN n) := by obtain ⟨kk, e⟩ := HK.out; exact ⟨_, by rw [e, World.drewN_drewN]⟩
  clear HK
  generalize W1.drewN nq = W2 at *
  obtain ⟨T, hT⟩ : ∃ T, w0 * 1000000000 + w1 = T := ⟨_, rfl⟩
  have eT : (w0 : Int) * 1000000000 + w1 = (T : Int) := by omega
  have hTb : (T : Int) ≤ 999999999999999999 := by omega
  rw [eT]
  have HV1 : Hid (toN lr < (min (T / f) 999999999 + 1) * toN lb) := by have := HV.out; rw [B_eq, hT] at this; exact this
  have HU1 : Hid (∀ t, t * f ≤ T → (T - t * f) * 1000000000 + w2 < t * s → toN lr < t * toN lb) := by have := HU.out; rw [B_eq, hT] at this; exact this
  have HW1 : Hid (∀ t, t * f ≤ T → t < 1000000000 → s < 1000000000 → 0 < f → t * s ≤ (T - t * f) * 1000000000 + w2 ∨ 1000000000 ≤ T - t * f → t * toN lb ≤ toN lr + toN lb) := by have := HW.out; rw [B_eq, hT] at this; exact this
  clear HV HU HW eT hT g0 g1
  obtain ⟨D, hD⟩ : ∃ D, T / f = D := ⟨_, rfl⟩
  have eD : (T : Int) / (f : Int) = (D : Int) := by rw [← hD]; exact (Int.natCast_ediv _ _).symm
  have hDf : Hid (∀ t, t ≤ D → t * f ≤ T) := by
    intro t ht; rw [← hD] at ht; exact (Nat.le_div_iff_mul_le h0).1 ht
  have hDb : (D : Int) ≤ 999999999999999999 := by
    have := Nat.div_le_self T f; omega
  rw [hD] at HV1
  clear hD
  have hf0 : ¬ (f : Int) = 0 := by omega
  have hf1 : ((f : Int) == 0) = false := by rw [beq_eq_false_iff_ne]; omega
  go_wp2
  have HB := Lib.hid (And.intro g2 (And.intro g4 h0))
  clear eD hDb
  go_loopw [9] (fun x wr => ∃ t : Nat, x = .int .u64 t ∧ t ≤ 999999999 ∧ t ≤ D ∧ Hid (toN lr < (t + 1) * toN lb) ∧ ∃ k, wr = W2.drewN k) (fun x _ => (intOf x).toNat)
  case atStart => exact ⟨min D 999999999, by go_num, Nat.min_le_right _ _, Nat.min_le_left _ _, HV1.out, 0, rfl⟩
  case round =>
    obtain ⟨t, rfl, ht, htD, hlo, k, hk⟩ := hrel
    have HK3 := Lib.hid hk
    have e2 : wr.cell? ⟨rb, roff + n, none⟩ = some (.int .u64 (w2 : Nat)) := by rw [hk]; exact d2
    clear hk
    have hF := hDf.out t htD
    have hS := mul_bd (show t < 1000000000 by omega) g4
    have HU2 := Lib.hid (HU1.out t hF)
    have HW2 := Lib.hid (HW1.out t hF (by omega) g4 h0)
    have hts : t = 0 → t * s = 0 := by rintro rfl; exact Nat.zero_mul _
    obtain ⟨F, eF⟩ : ∃ F, t * f = F := ⟨_, rfl⟩
    obtain ⟨S, eS⟩ : ∃ S, t * s = S := ⟨_, rfl⟩
    have eF1 : (t : Int) * (f : Int) = (F : Int) := by rw [← eF]; exact (Int.natCast_mul _ _).symm
    have eS1 : (t : Int) * (s : Int) = (S : Int) := by rw [← eS]; exact (Int.natCast_mul _ _).symm
    rw [eF] at hF HU2 HW2
    rw [eS] at hS HU2 HW2 hts
    clear eF eS
    obtain ⟨L, hL⟩ : ∃ L, L = T - F := ⟨_, rfl⟩
    have eL : (T : Int) - (F : Int) = (L : Int) := by omega
    rw [← hL] at HU2 HW2
    have hLT : L ≤ T := by omega
    have HTS := Lib.hid hts
    clear hL hts
    have hF2 : (F : Int) ≤ 999999999999999999 := by omega
    have hL2 : (L : Int) ≤ 999999999999999999 := by omega
    have hS2 : (S : Int) ≤ 999999998000000001 := by omega
    by_cases hc : 1000000000 ≤ L
    · have hg : decide (1000000000 ≤ (L : Int)) = true := decide_eq_true (by omega)
      have hg2 : (1000000000 : Int) ≤ (L : Int) := by omega
      clear HU2 hF
      go_wp2
      go_ret
      exact ⟨t, rfl, by omega, hlo.out, HW2.out (.inr hc), by obtain ⟨k1, q1⟩ := HK2.out; rw [HK3.out, q1]; exact ⟨_, World.drewN_drewN _ _ _⟩⟩
    · have hg : decide (1000000000 ≤ (L : Int)) = false := decide_eq_false (by omega)
      have hg2 : ¬ (1000000000 : Int) ≤ (L : Int) := by omega
      clear hF
      by_cases hs : S ≤ L * 1000000000 + w2
      · have hs2 : (S : Int) ≤ (L : Int) * 1000000000 + (w2 : Int) := by omega
        go_wp2
        go_ret
        exact ⟨t, rfl, by omega, hlo.out, HW2.out (.inl hs), by obtain ⟨k1, q1⟩ := HK2.out; rw [HK3.out, q1]; exact ⟨_, World.drewN_drewN _ _ _⟩⟩
      · have hs2 : ¬ (S : Int) ≤ (L : Int) * 1000000000 + (w2 : Int) := by omega
        have ht0 : t ≠ 0 := fun e => by have := HTS.out e; omega
        obtain ⟨t', et'⟩ : ∃ t', t = t' + 1 := ⟨t - 1, by omega⟩
        have hm : Hid (toN lr < (t' + 1) * toN lb) := by rw [← et']; exact HU2.out (by omega)
        have et1 : (t : Int) - 1 = (t' : Int) := by omega
        have ht1 : t' ≤ 999999998 := by omega
        have ht2 : t' ≤ D := by omega
        have HE := Lib.hid et'
        clear et'
        clear HU2 HW2 hs
        go_wp2
        go_roundw
        case rel => exact ⟨t', by go_num, by omega, ht2, hm, k, HK3.out⟩
        case measure => have := HE.out; simp [intOf]; omega
end Go.Proofs.YtajonpcmgebbbaaDoor
