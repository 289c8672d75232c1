/- The walk of divide. -/
import Derived.Test.YtajonpcmgebbbaaDoorDivL
import Derived.Test.YtajonpcmgebbbaaDoorW13
namespace Go.Proofs.YtajonpcmgebbbaaDoor
open Go.RowKit

theorem Below.drewK (B : Nat) (w : World) (k : Nat) : Below B w (w.drewN k) := ⟨rfl, rfl, rfl, Nat.le_refl _, fun _ _ => rfl⟩
theorem dg_len_le {a b : Nat} (h : a ≤ b) : (dg a).length ≤ (dg b).length := by
  rw [dg_length_le]
  exact Nat.lt_of_le_of_lt h ((dg_length_le b _).1 (Nat.le_refl _))
theorem dg_len_pos {b : Nat} (h : b ≠ 0) : 0 < (dg b).length := List.length_pos_iff.2 (fun e => h ((dg_nil_iff b).1 e))
theorem dg_single {b : Nat} (h : (dg b).length = 1) : dg b = [b] ∧ b < 1000000000 := by
  have h1 := (dg_length_le b 1).1 (Nat.le_of_eq h)
  rw [Nat.pow_one] at h1
  exact ⟨dg_one (fun e => by rw [e, dg_zero] at h; simp at h) h1, h1⟩

set_option maxRecDepth 100000 in
set_option maxHeartbeats 2000000 in
theorem divide_any (va vb : Value) (a b : Nat) (w : World) (ha : IsNat w va a) (hb : IsNat w vb b) (h0 : b ≠ 0) (hla : (dg a).length ≤ 900000) :
    Calls Tryd.prog 65 #[va, vb] w fun e W' => ∃ q r, e = .returned (.tuple #[q, r]) ∧ IsNat W' q (a / b) ∧ IsNat W' r (a % b) ∧ Fresh w.heap.size q ∧ (Fresh w.heap.size r ∨ (a < b ∧ r = va)) ∧ Below w.heap.size w W' := by
  have cc := compare_any va vb a b w ha hb
  by_cases hlt : a < b
  · have hq : a / b = 0 := Nat.div_eq_of_lt hlt
    have hr : a % b = a := Nat.mod_eq_of_lt hlt
    rw [hq, hr]
    rw [cmpN_lt hlt] at cc
    have CC := Lib.hid cc
    have HA := Lib.hid (And.intro ha hlt)
    obtain ⟨pa, ca, rfl⟩ := ha.shape
    clear cc hq hr ha hlt hb hla h0
    generalize (dg a).length = la at *
    go_enter Tryd.func65, Tryd.ntmps65
    go_wp2_with fail
    refine CC.out.mono ?_
    rintro e w' ⟨rfl, k, rfl⟩
    clear CC
    go_wp2
    go_ret2
    exact ⟨_, _, rfl, isNat_zero _, HA.out.1.next (Below.drewK _ _ _), Fresh.nil _, .inr ⟨HA.out.2, rfl⟩, Below.drewK _ _ _⟩
  · have hcmp : ¬ cmpN a b < 0 := by
      unfold cmpN; rw [if_neg hlt]; split <;> omega
    obtain ⟨c, hc⟩ : ∃ c, cmpN a b = c := ⟨_, rfl⟩
    rw [hc] at cc hcmp
    have CC := Lib.hid cc
    by_cases hl : (dg b).length = 1
    · obtain ⟨e1, hb9⟩ := dg_single hl
      have hcell : ∃ bb off cap, vb = .slice (some ⟨bb, off, none⟩) 1 cap ∧ 1 ≤ cap ∧ w.cell? ⟨bb, off, none⟩ = some (.int .u64 (b : Nat)) := by
        obtain ⟨p, cap, rfl, h1, h2, h3⟩ := hb
        obtain ⟨bb, off, rfl, hcell⟩ := h3 (by rw [e1]; simp)
        refine ⟨bb, off, cap, by rw [hl], by omega, ?_⟩
        have := hcell 0 (by omega)
        rwa [e1] at this
      obtain ⟨bb, off, cap, rfl, hcap, hcell⟩ := hcell
      have cd := fun k => divideShort_any va (dg a) b (w.drewN k) (Nats.next ha (Below.drewK _ _ k)) (dg_Dig a) (by omega) (by omega) hb9
      rw [toN_dg] at cd
      have hm : a % b < 1000000000 := Nat.lt_trans (Nat.mod_lt _ (by omega)) hb9
      have CD := Lib.hid cd
      have CV := Lib.hid (fun W => ofValue_any (a % b) W (by omega))
      obtain ⟨pa, ca, rfl⟩ := ha.shape
      clear cc cd ha hb hc e1 hl hlt hla
      generalize (dg a).length = la at *
      go_enter Tryd.func65, Tryd.ntmps65
      go_wp2_with fail
      refine CC.out.mono ?_
      rintro e w' ⟨rfl, k, rfl⟩
      clear CC
      have hcell' : (w.drewN k).cell? ⟨bb, off, none⟩ = some (.int .u64 (b : Nat)) := hcell
      go_wp2_with fail
      refine (CD.out k).mono ?_
      rintro e w1 ⟨q, rfl, hq, hqf, hqb⟩
      obtain ⟨pq, cq, rfl⟩ := hq.shape
      have hB : Below w.heap.size w w1 := (Below.drewK _ w k).trans hqb
      have HQ := Lib.hid (And.intro hq (And.intro hqf hB))
      clear hq hqf hqb CD hcell hcell' hB
      generalize (dg (a / b)).length = lq at *
      go_wp2_with fail
      refine (CV.out _).mono ?_
      rintro e w2 ⟨r, rfl, hr, hrf, hrb⟩
      obtain ⟨pr, cr, rfl⟩ := hr.shape
      have HR := Lib.hid (And.intro hr (And.intro hrf hrb))
      clear hr hrf hrb CV
      generalize (dg (a % b)).length = lr at *
      go_wp2
      go_ret2
      obtain ⟨q1, q2, q3⟩ := HQ.out
      obtain ⟨r1, r2, r3⟩ := HR.out
      exact ⟨_, _, rfl, q1.next r3, r1, q2, .inl (r2.mono q3.size), q3.trans (r3.mono q3.size)⟩
    · have hp := dg_len_pos h0
      have hle := dg_len_le (Nat.le_of_not_lt hlt)
      obtain ⟨n, hn⟩ : ∃ n, (dg b).length = n + 2 := ⟨(dg b).length - 2, by omega⟩
      obtain ⟨m, hm⟩ : ∃ m, (dg a).length = m + (n + 2) := ⟨(dg a).length - (n + 2), by omega⟩
      have cd := fun k => divideLong_any va vb a b n m (w.drewN k) (ha.next (Below.drewK _ _ k)) (hb.next (Below.drewK _ _ k)) hm hn (by omega)
      have CD := Lib.hid cd
      obtain ⟨pa, ca, rfl⟩ := ha.shape
      obtain ⟨pb, cb, rfl⟩ := hb.shape
      have hne : (((dg b).length : Int) == 1) = false := by rw [beq_eq_false_iff_ne]; omega
      clear cc cd ha hb hc hlt hp hle hm hn hla
      generalize (dg a).length = la at *
      generalize (dg b).length = lb at *
      go_enter Tryd.func65, Tryd.ntmps65
      go_wp2_with fail
      refine CC.out.mono ?_
      rintro e w' ⟨rfl, k, rfl⟩
      clear CC
      go_wp2_with fail
      refine (CD.out k).mono ?_
      rintro e w1 ⟨q, r, rfl, hq, hr, hqf, hrf, hqb⟩
      obtain ⟨pq, cq, rfl⟩ := hq.shape
      obtain ⟨pr, cr, rfl⟩ := hr.shape
      have HQ := Lib.hid (And.intro hq (And.intro hr (And.intro hqf (And.intro hrf ((Below.drewK _ w k).trans hqb)))))
      clear hq hr hqf hrf hqb CD
      generalize (dg (a / b)).length = lq at *
      generalize (dg (a % b)).length = lr at *
      go_wp2
      go_ret2
      obtain ⟨q1, q2, q3, q4, q5⟩ := HQ.out
      exact ⟨_, _, rfl, q1, q2, q3, .inl q4, q5⟩
end Go.Proofs.YtajonpcmgebbbaaDoor
