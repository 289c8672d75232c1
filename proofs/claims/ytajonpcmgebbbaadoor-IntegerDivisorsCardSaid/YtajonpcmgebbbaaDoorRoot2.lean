/- The walk of root, by induction on the number of digits. -/
import Derived.Test.YtajonpcmgebbbaaDoorRoot
namespace Go.Proofs.YtajonpcmgebbbaaDoor
open Go.RowKit

theorem rootN_pos_le {a : Nat} : rootN a ≤ a := by
  have := (rootN_is a).1
  by_cases h0 : rootN a = 0
  · omega
  · exact Nat.le_trans (Nat.le_mul_of_pos_left _ (by omega)) this
theorem dg_succ_len (n : Nat) : (dg (n + 1)).length ≤ (dg n).length + 1 := by
  rw [dg_length_le]
  have h := (dg_length_le n _).1 (Nat.le_refl _)
  rw [Nat.pow_succ]
  have : B ^ (dg n).length * 2 ≤ B ^ (dg n).length * B := Nat.mul_le_mul_left _ (by decide)
  omega
theorem dg_mulpow_len (n p : Nat) : (dg (n * B ^ p)).length ≤ (dg n).length + p := by
  rw [dg_length_le, Nat.pow_add]
  exact Nat.mul_lt_mul_of_pos_right ((dg_length_le n _).1 (Nat.le_refl _)) (Nat.pow_pos B_pos)
theorem isNat_one (w : World) : IsNat (w.alloc (.cells #[.int .u64 1] 67)) (.slice (some ⟨w.heap.size, 0, none⟩) 1 1) 1 := by
  show Nats _ _ (dg 1)
  rw [show dg 1 = [1] by decide +kernel]
  exact Nats.of_cells (l := [1]) (Nat.le_refl _) (by decide) (fun i hi => by
    match i, hi with
    | 0, _ => go_cell)

set_option maxRecDepth 100000 in
set_option maxHeartbeats 2000000 in
theorem root_any (L : Nat) : ∀ (va : Value) (a : Nat) (w : World), IsNat w va a → (dg a).length ≤ L → L ≤ 1000 →
    Calls Tryd.prog 49 #[va] w fun e W' => ∃ v, e = .returned v ∧ IsNat W' v (rootN a) ∧ Fresh w.heap.size v ∧ Below w.heap.size w W' := by
  induction L using Nat.strongRecOn with
  | _ L ih =>
  intro va a w ha hl hL
  by_cases h2 : (dg a).length ≤ 2
  · exact root_small va a w ha (by have := (dg_length_le a 2).1 h2; rwa [show B ^ 2 = 1000000000000000000 from rfl] at this)
  · obtain ⟨n, hn⟩ : ∃ n, (dg a).length = n := ⟨_, rfl⟩
    obtain ⟨P, hP⟩ : ∃ P, (n + 1) / 4 = P := ⟨_, rfl⟩
    have hP1 : 1 ≤ P := by omega
    have hP2 : 2 * P < n := by omega
    have hsh : ∃ b off ca, va = .slice (some ⟨b, off, none⟩) n ca ∧ n ≤ ca := by
      obtain ⟨p, cap, rfl, h1, h2, h3⟩ := ha
      obtain ⟨b, off, rfl, _⟩ := h3 (by intro e; rw [e] at hn; simp at hn; omega)
      exact ⟨b, off, cap, by rw [hn], by omega⟩
    obtain ⟨b, off, ca, rfl, hca⟩ := hsh
    have ha' : Nats w (.slice (some ⟨b, off, none⟩) (dg a).length ca) (dg a) := by rw [hn]; exact ha
    have hsub := ha'.drop (k := 2 * P) (by omega)
    rw [dg_drop, hn] at hsub
    have hlen : (dg (a / B ^ (2 * P))).length = n - 2 * P := by rw [← dg_drop, List.length_drop, hn]
    have cr := ih (n - 2 * P) (by omega) _ (a / B ^ (2 * P)) w hsub (Nat.le_of_eq hlen) (by omega)
    obtain ⟨r, hr⟩ : ∃ r, rootN (a / B ^ (2 * P)) = r := ⟨_, rfl⟩
    have hrl : (dg r).length ≤ 1000 := by
      have h1 := dg_len_le (show r ≤ a / B ^ (2 * P) by rw [← hr]; exact rootN_pos_le)
      omega
    have hst : rootN a ≤ (r + 1) * B ^ P := root_start (by rw [← hr]; exact rootN_is _)
    rw [hr] at cr
    have cs := fun v W (h : IsNat W v r) => sum_any v (.slice (some ⟨W.heap.size, 0, none⟩) 1 1) r 1 (W.alloc (.cells #[.int .u64 1] 67)) (h.next ((Below.refl _ W).alloc (Nat.le_refl _) _)) (isNat_one W) (by omega) (by rw [show dg 1 = [1] by decide +kernel]; decide)
    have ch := fun v W (h : IsNat W v (r + 1)) => shifted_any v (r + 1) P W h (by omega) (by have := dg_succ_len r; omega) (by omega)
    have CR := Lib.hid (And.intro cr (And.intro cs ch))
    have HA := Lib.hid (And.intro ha (And.intro hst hrl))
    have eP : ((n : Int) + 1) / 4 = (P : Int) := by omega
    have hn2 : ¬ (n : Int) ≤ 2 := by omega
    have hPn : (2 : Int) * (P : Int) ≤ (n : Int) := by omega
    have HN := Lib.hid (And.intro hn (And.intro hl hL))
    have hnL : n ≤ 1000 := by omega
    clear cr cs ch ih hsub ha' hlen hr hst hrl h2 hn hl hL ha hP
    go_enter Tryd.func49, Tryd.ntmps49
    go_wp2_with fail
    refine CR.out.1.mono ?_
    rintro e w1 ⟨v1, rfl, hv1, _, hb1⟩
    obtain ⟨p1, c1, rfl⟩ := hv1.shape
    have H1 := Lib.hid (And.intro hv1 hb1)
    have CS := Lib.hid (CR.out.2.1 _ w1 hv1)
    clear hv1 hb1
    go_wp2_with fail
    refine CS.out.mono ?_
    rintro e w2 ⟨v2, rfl, hv2, _, hb2⟩
    obtain ⟨p2, c2, rfl⟩ := hv2.shape
    have hB2 : Below w.heap.size w w2 := H1.out.2.trans ((((Below.refl _ w1).alloc (Nat.le_refl _) _).trans (hb2.mono (by simp))).mono H1.out.2.size)
    have CH := Lib.hid (CR.out.2.2 _ w2 hv2)
    have H2 := Lib.hid hB2
    clear hv2 hb2 hB2 CS H1 CR
    go_wp2_with fail
    refine CH.out.mono ?_
    rintro e w3 ⟨v3, rfl, hv3, hf3, hb3⟩
    have H3 := Lib.hid (And.intro hv3 (And.intro (hf3.mono H2.out.size) (H2.out.trans (hb3.mono H2.out.size))))
    clear hv3 hf3 hb3 H2 CH
    go_wp2
    go_loopw [4] (fun x wr => ∃ (g : Nat), Hid (IsNat wr x g) ∧ Hid (rootN a ≤ g ∧ 0 < g ∧ (dg g).length ≤ 400000 ∧ Fresh w.heap.size x) ∧ Hid (Below w.heap.size w wr))
      (fun x wr => natVal wr x)
    case atStart =>
      refine ⟨(r + 1) * B ^ P, H3.out.1, ⟨HA.out.2.1, Nat.mul_pos (Nat.succ_pos r) (Nat.pow_pos B_pos), ?_, H3.out.2.1⟩, H3.out.2.2⟩
      have h1 := dg_mulpow_len (r + 1) P
      have h2 := dg_succ_len r
      have h3 := HA.out.2.2
      omega
    case round =>
      clear H3
      obtain ⟨g, hg, hgb, hbel⟩ := hrel
      have ha3 := HA.out.1.next hbel.out
      have hal : (dg a).length ≤ 900000 := by rw [HN.out.1]; omega
      have cd := divide_any _ _ a g wr ha3 hg.out (by have := hgb.out.2.1; omega) hal
      have hql : (dg (a / g)).length ≤ 1000 := by
        have := dg_len_le (Nat.div_le_self a g)
        rw [HN.out.1] at this; omega
      have CD := Lib.hid cd
      have HQ := Lib.hid hql
      clear cd ha3 hal hql
      go_wp2_with fail
      refine CD.out.mono ?_
      rintro e w4 ⟨q, q0, rfl, hq, _, _, _, hb4⟩
      obtain ⟨pq, cq, rfl⟩ := hq.shape
      have H4 := Lib.hid (And.intro hq (And.intro (hg.out.next hb4) (hbel.out.trans (hb4.mono hbel.out.size))))
      have CS := Lib.hid (sum_any _ _ g (a / g) w4 (hg.out.next hb4) hq (by have := hgb.out.2.2.1; omega) (by have := HQ.out; omega))
      clear hq hb4 CD
      go_wp2_with fail
      refine CS.out.mono ?_
      rintro e w5 ⟨s, rfl, hs, _, hb5⟩
      obtain ⟨ps, cs, rfl⟩ := hs.shape
      have hsl : (dg (g + a / g)).length ≤ 1000000 := by
        have h1 := hgb.out.2.2.1
        have h2 := HQ.out
        rw [dg_length_le] at h1 h2 ⊢
        obtain ⟨k1, e1⟩ : ∃ k, k = 1000 := ⟨_, rfl⟩
        obtain ⟨k2, e2⟩ : ∃ k, k = 400000 := ⟨_, rfl⟩
        obtain ⟨k3, e3⟩ : ∃ k, k = 1000000 := ⟨_, rfl⟩
        rw [← e1] at h2
        rw [← e2] at h1
        rw [← e3]
        have h3 : B ^ k1 ≤ B ^ k2 := Nat.pow_le_pow_right B_pos (by omega)
        have h4 : B ^ k2 * B ≤ B ^ k3 := by rw [← Nat.pow_succ]; exact Nat.pow_le_pow_right B_pos (by omega)
        have h5 : B ^ k2 * 2 ≤ B ^ k2 * B := Nat.mul_le_mul_left _ (by decide)
        clear e1 e2 e3
        generalize B ^ k1 = X at *
        generalize B ^ k2 = Y at *
        generalize B ^ k3 = Z at *
        omega
      have ch := divideShort_any _ (dg (g + a / g)) 2 w5 hs (dg_Dig _) hsl (by decide) (by decide)
      rw [toN_dg] at ch
      have CH := Lib.hid ch
      have H5 := Lib.hid (And.intro (H4.out.2.1.next hb5) (H4.out.2.2.trans (hb5.mono H4.out.2.2.size)))
      clear hs hb5 CS ch H4 hsl
      go_wp2_with fail
      refine CH.out.mono ?_
      rintro e w6 ⟨x, rfl, hx, hxf, hb6⟩
      obtain ⟨px, cx, rfl⟩ := hx.shape
      have H6 := Lib.hid (And.intro hx (And.intro (H5.out.1.next hb6) (And.intro (hxf.mono H5.out.2.size) (H5.out.2.trans (hb6.mono H5.out.2.size)))))
      have CC := Lib.hid (compare_any _ _ _ _ w6 hx (H5.out.1.next hb6))
      clear hx hxf hb6 CH H5
      go_wp2_with fail
      refine CC.out.mono ?_
      rintro e w7 ⟨rfl, k, rfl⟩
      have HGB := Lib.hid (newton_ge a g hgb.out.2.1 (rootN a) (rootN_is a))
      clear CC
      by_cases hc : (g + a / g) / 2 < g
      · rw [cmpN_lt hc]
        have HC := Lib.hid hc
        clear hc
        go_wp2
        go_roundw
        case rel =>
          refine ⟨(g + a / g) / 2, H6.out.1.next (Below.drewK _ _ _), ⟨HGB.out, ?_, ?_, H6.out.2.2.1⟩, H6.out.2.2.2.trans (Below.drewK _ _ _)⟩
          · have h1 := HGB.out
            have h2 : 0 < rootN a := by
              rcases Nat.eq_zero_or_pos (rootN a) with h | h
              · exfalso
                have h3 := (rootN_is a).2
                rw [h] at h3
                have h4 : a = 0 := by omega
                have h5 := HN.out.1
                rw [h4, dg_zero] at h5
                simp at h5
                omega
              · exact h
            omega
          · have := dg_len_le (Nat.le_of_lt HC.out)
            have := hgb.out.2.2.1
            omega
        case measure =>
          have e1 := natVal_eq (H6.out.1.next (Below.drewK w6.heap.size w6 k))
          have e2 := natVal_eq hg.out
          show natVal _ (Value.slice px _ cx) < natVal wr _
          rw [e1]
          refine Nat.lt_of_lt_of_eq HC.out e2.symm
      · have hge : ¬ cmpN ((g + a / g) / 2) g < 0 := by
          unfold cmpN; rw [if_neg hc]; split <;> omega
        have he : g = rootN a := newton_done a g (rootN a) hgb.out.2.1 (rootN_is a) hgb.out.1 (by omega)
        generalize cmpN ((g + a / g) / 2) g = c at *
        have HE := Lib.hid he
        clear he hc
        go_wp2
        go_ret
        exact ⟨_, rfl, by rw [← HE.out]; exact H6.out.2.1.next (Below.drewK _ _ _), hgb.out.2.2.2, H6.out.2.2.2.trans (Below.drewK _ _ _)⟩
end Go.Proofs.YtajonpcmgebbbaaDoor
