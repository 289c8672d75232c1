/- Parts of the proof of the text YtajonpcmgebbbaaGreatDoorSums17. -/
import Derived.Test.YtajonpcmgebbbaaGreatDoorSums15
/- The walk of the reference's add. -/
namespace Go.Proofs.YtajonpcmgebbbaaGreatDoor.R
open Go.RowKit

set_option maxHeartbeats 4000000 in
theorem add_any (na nb : Bool) (va vb : Value) (a b : Nat) (w : World) (ha : IsNat w va a) (hb : IsNat w vb b) (hla : (dg a).length ≤ 100000) (hlb : (dg b).length ≤ 100000) :
    Calls Tryz.prog 29 #[.agg #[.bool na, va], .agg #[.bool nb, vb]] w fun e W' => ∃ neg n v, e = .returned (.agg #[.bool neg, v]) ∧ IsNat W' v n ∧ (sgnZ neg n = sgnZ na a + sgnZ nb b ∧ n ≤ a + b) ∧ Fresh w.heap.size v ∧ Below w.heap.size w W' := by
  obtain ⟨pa, ca, rfl⟩ := ha.shape
  obtain ⟨pb, cb, rfl⟩ := hb.shape
  by_cases hs : na = nb
  · have cp : ∀ W, Below w.heap.size w W → Calls Tryz.prog 53 #[.slice pa (dg a).length ca, .slice pb (dg b).length cb] W fun e W' => ∃ v, e = .returned v ∧ IsNat W' v (a + b) ∧ Fresh W.heap.size v ∧ Below W.heap.size W W' := fun W hW => by
      have := plus_any _ _ (dg a) (dg b) W (Nats.next ha hW) (Nats.next hb hW) (dg_Dig a) (dg_Dig b) (by omega) (by omega)
      rwa [toN_dg, toN_dg] at this
    have CP := Lib.hid cp; clear cp ha hb hla hlb
    have HZ : Hid (sgnZ na (a + b) = sgnZ na a + sgnZ nb b ∧ a + b ≤ a + b) := ⟨by rw [← hs]; exact sgn_add_same na a b, Nat.le_refl _⟩
    have hq : (na == nb) = true := by simpa using hs
    clear hs
    generalize (dg a).length = la at *
    generalize (dg b).length = lb at *
    go_enter Tryz.func29, Tryz.ntmps29
    go_wp2
    have hbx := boxes_new w (.bool na) (.slice pa la ca) (.bool nb) (.slice pb lb cb) (.bool false) (.slice none 0 0) 53
    generalize ((w.alloc (.cells #[.bool na, .slice pa la ca] 53)).alloc (.cells #[.bool nb, .slice pb lb cb] 53)).alloc (.cells #[.bool false, .slice none 0 0] 53) = W0 at *
    generalize hk : w.heap.size = k at *
    have HK := Lib.hid hk; clear hk
    have HBD := Lib.hid hbx.drew
    clear hbx
    obtain ⟨c1, c2, c3, c4, _, _, _, _, _, _⟩ := HBD.out
    go_region_held3 (fun w' => w'.cell? ⟨k, 0, none⟩ = some (.bool na) ∧ w'.cell? ⟨k, 1, none⟩ = some (.slice pa la ca) ∧ w'.cell? ⟨k + 1, 0, none⟩ = some (.bool nb) ∧ w'.cell? ⟨k + 1, 1, none⟩ = some (.slice pb lb cb)) (first | (go_keep; done) | ((try dsimp only); refine ⟨?_, ?_, ?_, ?_⟩ <;> (first | (exact far2 (by omega) (by assumption)) | (go_keep; done))))
      (first | (go_at_call 53; refine (CP.out _ HBD.out.below).mono ?_; rintro e w1 ⟨v, rfl, hv, hf, hb1⟩; obtain ⟨p, cap, rfl⟩ := hv.shape; have HB1 := Lib.hid (HBD.out.next hb1); have HV := Lib.hid (And.intro hv (And.intro hf hb1)); clear hv hf hb1; obtain ⟨e1, e2, e3, e4, e5, e6, e7, e8, _, _⟩ := HB1.out))
    obtain ⟨g5, g6⟩ := two_back e5 e6 (.bool na) (.slice p (dg (a + b)).length cap)
    go_wp2
    refine bodyPost_ret (v := .agg #[.bool na, .slice p (dg (a + b)).length cap]) (by simp [results, Tryz.results29, go_sem, g5, g6]) rfl ?_
    obtain ⟨hv, hf, hb1⟩ := HV.out
    have hf' : Fresh (k + 3) (.slice p (dg (a + b)).length cap) := hf.mono HBD.out.size
    refine ⟨_, _, _, rfl, (hv.setCell hf' (by show k + 1 + 1 < k + 3; omega) _).setCell hf' (by show k + 1 + 1 < k + 3; omega) _, HZ.out, hf'.mono (by rw [HK.out]; omega), ?_⟩
    rw [HK.out]
    exact ((HB1.out.below).setCell (p := ⟨k + 1 + 1, 0, none⟩) (by show k ≤ k + 1 + 1; omega) _).setCell (p := ⟨k + 1 + 1, 1, none⟩) (by show k ≤ k + 1 + 1; omega) _
  · have hq : (na == nb) = false := by simpa using hs
    have hbx := boxes_new w (.bool na) (.slice pa (dg a).length ca) (.bool nb) (.slice pb (dg b).length cb) (.bool false) (.slice none 0 0) 53
    have hfz := fz_new w (.bool na) (.slice pa (dg a).length ca) (.bool nb) (.slice pb (dg b).length cb) (.bool false) (.slice none 0 0) 53
    have cc := size_any (.slice pa (dg a).length ca) (.slice pb (dg b).length cb) a b _ (ha.next hbx.below) (hb.next hbx.below)
    have CC := Lib.hid cc; clear cc
    by_cases hle : b ≤ a
    · have hcmp : 0 ≤ cmpN a b := by
        rcases Nat.lt_or_eq_of_le hle with h | h
        · rw [cmpN_gt h]; decide
        · rw [cmpN_eq h.symm]; decide
      have cp : ∀ W, Below w.heap.size w W → Calls Tryz.prog 55 #[.slice pa (dg a).length ca, .slice pb (dg b).length cb] W fun e W' => ∃ v, e = .returned v ∧ IsNat W' v (a - b) ∧ Fresh W.heap.size v ∧ Below W.heap.size W W' := fun W hW => by
        have := minus_any _ _ (dg a) (dg b) W (Nats.next ha hW) (Nats.next hb hW) (dg_Dig a) (dg_Dig b) (by omega) (dg_len_le hle) (by rw [toN_dg, toN_dg]; exact hle)
        rw [toN_dg, toN_dg] at this
        exact this.mono fun e W' ⟨g, cap, he, hn, hg, hB⟩ => ⟨_, he, hn, fun k hk => by cases hk; exact hg, hB⟩
      have CP := Lib.hid cp; clear cp ha hb hla hlb
      have HZ : Hid (sgnZ na (a - b) = sgnZ na a + sgnZ nb b ∧ a - b ≤ a + b) := ⟨sgn_sub na nb hs a b hle, by omega⟩
      have HBX := Lib.hid (And.intro hbx hfz)
      clear hs hle hbx hfz
      generalize (dg a).length = la at *
      generalize (dg b).length = lb at *
      generalize cmpN a b = cm at *
      have hcm2 : ¬ cm < 0 := by omega
      go_enter Tryz.func29, Tryz.ntmps29
      go_wp2_with fail
      refine CC.out.mono ?_
      rintro e w' ⟨rfl, nn, rfl⟩
      clear CC
      have hbx2 := HBX.out.1.drewN nn
      clear HBX
      generalize (((w.alloc (.cells #[.bool na, .slice pa la ca] 53)).alloc (.cells #[.bool nb, .slice pb lb cb] 53)).alloc (.cells #[.bool false, .slice none 0 0] 53)).drewN nn = W0 at *
      generalize hk : w.heap.size = k at *
      have HK := Lib.hid hk; clear hk
      have HBX := Lib.hid hbx2
      obtain ⟨b1, b2, b3, b4, _, _, _, _, _, _⟩ := hbx2
      go_wp2
      clear b1 b2 b3 b4
      have HBD := Lib.hid HBX.out.drew
      have HBA := Lib.hid (HBX.out.next ((Below.refl _ W0).alloc (Nat.le_refl _) (.cells #[.bool false, .slice none 0 0] 53))).drew
      obtain ⟨c1, c2, c3, c4, _, _, _, _, _, _⟩ := HBX.out
      have hs0 : k + 3 ≤ W0.heap.size := HBX.out.size
      go_region_held3 (fun w' => w'.cell? ⟨k, 0, none⟩ = some (.bool na) ∧ w'.cell? ⟨k, 1, none⟩ = some (.slice pa la ca) ∧ w'.cell? ⟨k + 1, 0, none⟩ = some (.bool nb) ∧ w'.cell? ⟨k + 1, 1, none⟩ = some (.slice pb lb cb))
        (first | (go_keep; done) | (exact ⟨alloc_drew_cell c1, alloc_drew_cell c2, alloc_drew_cell c3, alloc_drew_cell c4⟩) | (exact ⟨alloc_cell e1, alloc_cell e2, alloc_cell e3, alloc_cell e4⟩) | (exact ⟨alloc_drew_cell e1, alloc_drew_cell e2, alloc_drew_cell e3, alloc_drew_cell e4⟩) | (refine ⟨?_, ?_, ?_, ?_⟩ <;> (first | (exact far2 (by omega) (by assumption)) | (exact far2 (by omega) (alloc_cell (by assumption))) | (exact far2 (by omega) (alloc_drew_cell (by assumption))))))
        (first
          | (go_at_call 55; with_reducible refine (CP.out _ HBA.out.below).mono ?_; rintro e w1 ⟨v, rfl, hv, hf, hb1⟩; obtain ⟨p, cap, rfl⟩ := hv.shape; have HB1 := Lib.hid (HBA.out.next hb1); have z0 : w1.cell? ⟨W0.heap.size, 0, none⟩ = some (.bool false) := (hb1.cell (p := ⟨W0.heap.size, 0, none⟩) (by simp)).trans (by go_cell); have z1 : w1.cell? ⟨W0.heap.size, 1, none⟩ = some (.slice none 0 0) := (hb1.cell (p := ⟨W0.heap.size, 1, none⟩) (by simp)).trans (by go_cell); have y0 : w1.frozen? ⟨W0.heap.size, 0, none⟩ = false := (hb1.frozen (p := ⟨W0.heap.size, 0, none⟩) (by simp)).trans (by simp [go_sem]); have y1 : w1.frozen? ⟨W0.heap.size, 1, none⟩ = false := (hb1.frozen (p := ⟨W0.heap.size, 1, none⟩) (by simp)).trans (by simp [go_sem]); have HV := Lib.hid (And.intro hv (And.intro hf hb1)); clear hv hf hb1; obtain ⟨e1, e2, e3, e4, e5, e6, e7, e8, hsz, _⟩ := HB1.out)
          | (go_at_call 55; with_reducible refine (CP.out _ HBD.out.below).mono ?_; rintro e w1 ⟨v, rfl, hv, hf, hb1⟩; obtain ⟨p, cap, rfl⟩ := hv.shape; have HB1 := Lib.hid (HBD.out.next hb1); have HV := Lib.hid (And.intro hv (And.intro hf hb1)); clear hv hf hb1; obtain ⟨e1, e2, e3, e4, e5, e6, e7, e8, hsz, _⟩ := HB1.out))
      · have HOB := Lib.hid (OB.alloc (ng := na) (T := 53) HB1.out HV.out.1 (HV.out.2.1.mono hs0))
        clear e1 e2 e3 e4 e5 e6 e7 e8 hsz HB1 HV c1 c2 c3 c4 HBX HBD HBA hs0 CP
        rename_i hHeld
        clear hHeld
        generalize w1.alloc (.cells #[.bool na, .slice p (dg (a - b)).length cap] 53) = W2 at *
        generalize w1.heap.size = o at *
        obtain ⟨p0, p1, g0, ⟨u0, r0⟩, ⟨u1, r1⟩, f0, f1, ho, hnat, hfr, hbel⟩ := HOB.out
        have hok : k + 1 + 1 ≠ o := by omega
        have HX := Lib.hid (And.intro hnat (And.intro hfr (And.intro hbel ho)))
        clear hnat hfr hbel HOB
        by_cases hz : a - b = 0
        · have hl : (dg (a - b)).length = 0 := by rw [hz, dg_zero]; rfl
          rw [hl] at p1 HX ⊢
          have HZ2 := Lib.hid hz
          have q0 : (W2.setCell ⟨o, 0, none⟩ (.bool false)).cell? ⟨o, 0, none⟩ = some (.bool false) := World.cell?_setCell_same' _ _ _ (by rw [p0]; rfl)
          have q1 : (W2.setCell ⟨o, 0, none⟩ (.bool false)).cell? ⟨o, 1, none⟩ = some (.slice p 0 cap) := by go_cell
          have s0 : (W2.setCell ⟨o, 0, none⟩ (.bool false)).cell? ⟨k + 1 + 1, 0, none⟩ = some u0 := (World.cell?_of_block (Below.heap_setCell _ _ _ _ (by show k + 1 + 1 ≠ o; exact hok))).trans r0
          have s1 : (W2.setCell ⟨o, 0, none⟩ (.bool false)).cell? ⟨k + 1 + 1, 1, none⟩ = some u1 := (World.cell?_of_block (Below.heap_setCell _ _ _ _ (by show k + 1 + 1 ≠ o; exact hok))).trans r1
          have f2 : (W2.setCell ⟨o, 0, none⟩ (.bool false)).frozen? ⟨k + 1 + 1, 0, none⟩ = false := by rw [frozen_set]; exact f0
          have f3 : (W2.setCell ⟨o, 0, none⟩ (.bool false)).frozen? ⟨k + 1 + 1, 1, none⟩ = false := by rw [frozen_set]; exact f1
          obtain ⟨b0, b1⟩ := two_back s0 s1 (.bool false) (.slice p 0 cap)
          clear hz hl r0 r1
          go_wp2
          refine bodyPost_ret (v := .agg #[.bool false, .slice p 0 cap]) (by simp [results, Tryz.results29, go_sem, b0, b1]) rfl ?_
          obtain ⟨hn, hf, hb, hoo⟩ := HX.out
          rw [HZ2.out] at hn
          refine ⟨false, 0, _, rfl, hn.any0, ?_, hf.mono (by rw [HK.out]; omega), ?_⟩
          · have h1 := HZ.out
            rw [HZ2.out, sgn_zero] at h1
            exact ⟨by rw [sgn_zero]; exact h1.1, by omega⟩
          · rw [HK.out]
            exact ((hb.setCell (p := ⟨o, 0, none⟩) (by show k ≤ o; omega) _).setCell (p := ⟨k + 1 + 1, 0, none⟩) (by show k ≤ k + 1 + 1; omega) _).setCell (p := ⟨k + 1 + 1, 1, none⟩) (by show k ≤ k + 1 + 1; omega) _
        · have hl : (((dg (a - b)).length : Int) == 0) = false := by rw [beq_eq_false_iff_ne]; have := dg_len_pos hz; omega
          obtain ⟨b0, b1⟩ := two_back r0 r1 (.bool na) (.slice p (dg (a - b)).length cap)
          clear hz
          go_wp2
          refine bodyPost_ret (v := .agg #[.bool na, .slice p (dg (a - b)).length cap]) (by simp [results, Tryz.results29, go_sem, b0, b1]) rfl ?_
          obtain ⟨hn, hf, hb, hoo⟩ := HX.out
          refine ⟨_, _, _, rfl, (hn.setCell hf (by show k + 1 + 1 < k + 3; omega) _).setCell hf (by show k + 1 + 1 < k + 3; omega) _, HZ.out, hf.mono (by rw [HK.out]; omega), ?_⟩
          rw [HK.out]
          exact (hb.setCell (p := ⟨k + 1 + 1, 0, none⟩) (by show k ≤ k + 1 + 1; omega) _).setCell (p := ⟨k + 1 + 1, 1, none⟩) (by show k ≤ k + 1 + 1; omega) _
      · have HOB := Lib.hid (OB.set (ng := na) HB1.out z0 z1 y0 hs0 HV.out.1 (HV.out.2.1.mono (by simp)))
        clear e1 e2 e3 e4 e5 e6 e7 e8 hsz HB1 HV c1 c2 c3 c4 HBX HBD HBA CP z0 z1 y0 y1
        rename_i hHeld
        clear hHeld
        generalize hsz0 : W0.heap.size = o at *
        generalize (w1.setCell ⟨o, 0, none⟩ (.bool na)).setCell ⟨o, 1, none⟩ (.slice p (dg (a - b)).length cap) = W2 at *
        obtain ⟨p0, p1, g0, ⟨u0, r0⟩, ⟨u1, r1⟩, f0, f1, ho, hnat, hfr, hbel⟩ := HOB.out
        have hok : k + 1 + 1 ≠ o := by omega
        have HX := Lib.hid (And.intro hnat (And.intro hfr (And.intro hbel ho)))
        clear hnat hfr hbel HOB
        by_cases hz : a - b = 0
        · have hl : (dg (a - b)).length = 0 := by rw [hz, dg_zero]; rfl
          rw [hl] at p1 HX ⊢
          have HZ2 := Lib.hid hz
          have q0 : (W2.setCell ⟨o, 0, none⟩ (.bool false)).cell? ⟨o, 0, none⟩ = some (.bool false) := World.cell?_setCell_same' _ _ _ (by rw [p0]; rfl)
          have q1 : (W2.setCell ⟨o, 0, none⟩ (.bool false)).cell? ⟨o, 1, none⟩ = some (.slice p 0 cap) := by go_cell
          have s0 : (W2.setCell ⟨o, 0, none⟩ (.bool false)).cell? ⟨k + 1 + 1, 0, none⟩ = some u0 := (World.cell?_of_block (Below.heap_setCell _ _ _ _ (by show k + 1 + 1 ≠ o; exact hok))).trans r0
          have s1 : (W2.setCell ⟨o, 0, none⟩ (.bool false)).cell? ⟨k + 1 + 1, 1, none⟩ = some u1 := (World.cell?_of_block (Below.heap_setCell _ _ _ _ (by show k + 1 + 1 ≠ o; exact hok))).trans r1
          have f2 : (W2.setCell ⟨o, 0, none⟩ (.bool false)).frozen? ⟨k + 1 + 1, 0, none⟩ = false := by rw [frozen_set]; exact f0
          have f3 : (W2.setCell ⟨o, 0, none⟩ (.bool false)).frozen? ⟨k + 1 + 1, 1, none⟩ = false := by rw [frozen_set]; exact f1
          obtain ⟨b0, b1⟩ := two_back s0 s1 (.bool false) (.slice p 0 cap)
          clear hz hl r0 r1
          go_wp2
          refine bodyPost_ret (v := .agg #[.bool false, .slice p 0 cap]) (by simp [results, Tryz.results29, go_sem, b0, b1]) rfl ?_
          obtain ⟨hn, hf, hb, hoo⟩ := HX.out
          rw [HZ2.out] at hn
          refine ⟨false, 0, _, rfl, hn.any0, ?_, hf.mono (by rw [HK.out]; omega), ?_⟩
          · have h1 := HZ.out
            rw [HZ2.out, sgn_zero] at h1
            exact ⟨by rw [sgn_zero]; exact h1.1, by omega⟩
          · rw [HK.out]
            exact ((hb.setCell (p := ⟨o, 0, none⟩) (by show k ≤ o; omega) _).setCell (p := ⟨k + 1 + 1, 0, none⟩) (by show k ≤ k + 1 + 1; omega) _).setCell (p := ⟨k + 1 + 1, 1, none⟩) (by show k ≤ k + 1 + 1; omega) _
        · have hl : (((dg (a - b)).length : Int) == 0) = false := by rw [beq_eq_false_iff_ne]; have := dg_len_pos hz; omega
          obtain ⟨b0, b1⟩ := two_back r0 r1 (.bool na) (.slice p (dg (a - b)).length cap)
          clear hz
          go_wp2
          refine bodyPost_ret (v := .agg #[.bool na, .slice p (dg (a - b)).length cap]) (by simp [results, Tryz.results29, go_sem, b0, b1]) rfl ?_
          obtain ⟨hn, hf, hb, hoo⟩ := HX.out
          refine ⟨_, _, _, rfl, (hn.setCell hf (by show k + 1 + 1 < k + 3; omega) _).setCell hf (by show k + 1 + 1 < k + 3; omega) _, HZ.out, hf.mono (by rw [HK.out]; omega), ?_⟩
          rw [HK.out]
          exact (hb.setCell (p := ⟨k + 1 + 1, 0, none⟩) (by show k ≤ k + 1 + 1; omega) _).setCell (p := ⟨k + 1 + 1, 1, none⟩) (by show k ≤ k + 1 + 1; omega) _
    · have hcmp : cmpN a b < 0 := by rw [cmpN_lt (by omega)]; decide
      have cp : ∀ W, Below w.heap.size w W → Calls Tryz.prog 55 #[.slice pb (dg b).length cb, .slice pa (dg a).length ca] W fun e W' => ∃ v, e = .returned v ∧ IsNat W' v (b - a) ∧ Fresh W.heap.size v ∧ Below W.heap.size W W' := fun W hW => by
        have := minus_any _ _ (dg b) (dg a) W (Nats.next hb hW) (Nats.next ha hW) (dg_Dig b) (dg_Dig a) (by omega) (dg_len_le (by omega)) (by rw [toN_dg, toN_dg]; omega)
        rw [toN_dg, toN_dg] at this
        exact this.mono fun e W' ⟨g, cap, he, hn, hg, hB⟩ => ⟨_, he, hn, fun k hk => by cases hk; exact hg, hB⟩
      have CP := Lib.hid cp; clear cp ha hb hla hlb
      have HZ : Hid (sgnZ nb (b - a) = sgnZ na a + sgnZ nb b ∧ b - a ≤ a + b) := ⟨by rw [sgn_sub nb na (fun h => hs h.symm) b a (by omega), Int.add_comm], by omega⟩
      have HBX := Lib.hid (And.intro hbx hfz)
      clear hs hle hbx hfz
      generalize (dg a).length = la at *
      generalize (dg b).length = lb at *
      generalize cmpN a b = cm at *
      go_enter Tryz.func29, Tryz.ntmps29
      go_wp2_with fail
      refine CC.out.mono ?_
      rintro e w' ⟨rfl, nn, rfl⟩
      clear CC
      have hbx2 := HBX.out.1.drewN nn
      have hfz2 := HBX.out.2.drewN nn
      clear HBX
      generalize (((w.alloc (.cells #[.bool na, .slice pa la ca] 53)).alloc (.cells #[.bool nb, .slice pb lb cb] 53)).alloc (.cells #[.bool false, .slice none 0 0] 53)).drewN nn = W00 at *
      generalize hk : w.heap.size = k at *
      have HK := Lib.hid hk; clear hk
      have HBX0 := Lib.hid hbx2
      obtain ⟨b1, b2, b3, b4, _, _, _, _, _, _⟩ := hbx2
      obtain ⟨f1, f2, f3, f4⟩ := hfz2
      go_wp2
      have hsw := boxes_swap HBX0.out
      clear b1 b2 b3 b4 HBX0 f1 f2 f3 f4
      generalize (((W00.setCell ⟨k, 0, none⟩ (.bool nb)).setCell ⟨k, 1, none⟩ (.slice pb lb cb)).setCell ⟨k + 1, 0, none⟩ (.bool na)).setCell ⟨k + 1, 1, none⟩ (.slice pa la ca) = W0 at *
      have HBX := Lib.hid hsw
      clear hsw
      have HBD := Lib.hid HBX.out.drew
      have HBA := Lib.hid (HBX.out.next ((Below.refl _ W0).alloc (Nat.le_refl _) (.cells #[.bool false, .slice none 0 0] 53))).drew
      obtain ⟨c1, c2, c3, c4, _, _, _, _, _, _⟩ := HBX.out
      have hs0 : k + 3 ≤ W0.heap.size := HBX.out.size
      go_region_held3 (fun w' => w'.cell? ⟨k, 0, none⟩ = some (.bool nb) ∧ w'.cell? ⟨k, 1, none⟩ = some (.slice pb lb cb) ∧ w'.cell? ⟨k + 1, 0, none⟩ = some (.bool na) ∧ w'.cell? ⟨k + 1, 1, none⟩ = some (.slice pa la ca))
        (first | (go_keep; done) | (exact ⟨alloc_drew_cell c1, alloc_drew_cell c2, alloc_drew_cell c3, alloc_drew_cell c4⟩) | (exact ⟨alloc_cell e1, alloc_cell e2, alloc_cell e3, alloc_cell e4⟩) | (exact ⟨alloc_drew_cell e1, alloc_drew_cell e2, alloc_drew_cell e3, alloc_drew_cell e4⟩) | (refine ⟨?_, ?_, ?_, ?_⟩ <;> (first | (exact far2 (by omega) (by assumption)) | (exact far2 (by omega) (alloc_cell (by assumption))) | (exact far2 (by omega) (alloc_drew_cell (by assumption))))))
        (first
          | (go_at_call 55; with_reducible refine (CP.out _ HBA.out.below).mono ?_; rintro e w1 ⟨v, rfl, hv, hf, hb1⟩; obtain ⟨p, cap, rfl⟩ := hv.shape; have HB1 := Lib.hid (HBA.out.next hb1); have z0 : w1.cell? ⟨W0.heap.size, 0, none⟩ = some (.bool false) := (hb1.cell (p := ⟨W0.heap.size, 0, none⟩) (by simp)).trans (by go_cell); have z1 : w1.cell? ⟨W0.heap.size, 1, none⟩ = some (.slice none 0 0) := (hb1.cell (p := ⟨W0.heap.size, 1, none⟩) (by simp)).trans (by go_cell); have y0 : w1.frozen? ⟨W0.heap.size, 0, none⟩ = false := (hb1.frozen (p := ⟨W0.heap.size, 0, none⟩) (by simp)).trans (by simp [go_sem]); have y1 : w1.frozen? ⟨W0.heap.size, 1, none⟩ = false := (hb1.frozen (p := ⟨W0.heap.size, 1, none⟩) (by simp)).trans (by simp [go_sem]); have HV := Lib.hid (And.intro hv (And.intro hf hb1)); clear hv hf hb1; obtain ⟨e1, e2, e3, e4, e5, e6, e7, e8, hsz, _⟩ := HB1.out)
          | (go_at_call 55; with_reducible refine (CP.out _ HBD.out.below).mono ?_; rintro e w1 ⟨v, rfl, hv, hf, hb1⟩; obtain ⟨p, cap, rfl⟩ := hv.shape; have HB1 := Lib.hid (HBD.out.next hb1); have HV := Lib.hid (And.intro hv (And.intro hf hb1)); clear hv hf hb1; obtain ⟨e1, e2, e3, e4, e5, e6, e7, e8, hsz, _⟩ := HB1.out))
      · have HOB := Lib.hid (OB.alloc (ng := nb) (T := 53) HB1.out HV.out.1 (HV.out.2.1.mono hs0))
        clear e1 e2 e3 e4 e5 e6 e7 e8 hsz HB1 HV c1 c2 c3 c4 HBX HBD HBA hs0 CP
        rename_i hHeld
        clear hHeld
        generalize w1.alloc (.cells #[.bool nb, .slice p (dg (b - a)).length cap] 53) = W2 at *
        generalize w1.heap.size = o at *
        obtain ⟨p0, p1, g0, ⟨u0, r0⟩, ⟨u1, r1⟩, f0, f1, ho, hnat, hfr, hbel⟩ := HOB.out
        have hok : k + 1 + 1 ≠ o := by omega
        have HX := Lib.hid (And.intro hnat (And.intro hfr (And.intro hbel ho)))
        clear hnat hfr hbel HOB
        by_cases hz : b - a = 0
        · have hl : (dg (b - a)).length = 0 := by rw [hz, dg_zero]; rfl
          rw [hl] at p1 HX ⊢
          have HZ2 := Lib.hid hz
          have q0 : (W2.setCell ⟨o, 0, none⟩ (.bool false)).cell? ⟨o, 0, none⟩ = some (.bool false) := World.cell?_setCell_same' _ _ _ (by rw [p0]; rfl)
          have q1 : (W2.setCell ⟨o, 0, none⟩ (.bool false)).cell? ⟨o, 1, none⟩ = some (.slice p 0 cap) := by go_cell
          have s0 : (W2.setCell ⟨o, 0, none⟩ (.bool false)).cell? ⟨k + 1 + 1, 0, none⟩ = some u0 := (World.cell?_of_block (Below.heap_setCell _ _ _ _ (by show k + 1 + 1 ≠ o; exact hok))).trans r0
          have s1 : (W2.setCell ⟨o, 0, none⟩ (.bool false)).cell? ⟨k + 1 + 1, 1, none⟩ = some u1 := (World.cell?_of_block (Below.heap_setCell _ _ _ _ (by show k + 1 + 1 ≠ o; exact hok))).trans r1
          have f2 : (W2.setCell ⟨o, 0, none⟩ (.bool false)).frozen? ⟨k + 1 + 1, 0, none⟩ = false := by rw [frozen_set]; exact f0
          have f3 : (W2.setCell ⟨o, 0, none⟩ (.bool false)).frozen? ⟨k + 1 + 1, 1, none⟩ = false := by rw [frozen_set]; exact f1
          obtain ⟨b0, b1⟩ := two_back s0 s1 (.bool false) (.slice p 0 cap)
          clear hz hl r0 r1
          go_wp2
          refine bodyPost_ret (v := .agg #[.bool false, .slice p 0 cap]) (by simp [results, Tryz.results29, go_sem, b0, b1]) rfl ?_
          obtain ⟨hn, hf, hb, hoo⟩ := HX.out
          rw [HZ2.out] at hn
          refine ⟨false, 0, _, rfl, hn.any0, ?_, hf.mono (by rw [HK.out]; omega), ?_⟩
          · have h1 := HZ.out
            rw [HZ2.out, sgn_zero] at h1
            exact ⟨by rw [sgn_zero]; exact h1.1, by omega⟩
          · rw [HK.out]
            exact ((hb.setCell (p := ⟨o, 0, none⟩) (by show k ≤ o; omega) _).setCell (p := ⟨k + 1 + 1, 0, none⟩) (by show k ≤ k + 1 + 1; omega) _).setCell (p := ⟨k + 1 + 1, 1, none⟩) (by show k ≤ k + 1 + 1; omega) _
        · have hl : (((dg (b - a)).length : Int) == 0) = false := by rw [beq_eq_false_iff_ne]; have := dg_len_pos hz; omega
          obtain ⟨b0, b1⟩ := two_back r0 r1 (.bool nb) (.slice p (dg (b - a)).length cap)
          clear hz
          go_wp2
          refine bodyPost_ret (v := .agg #[.bool nb, .slice p (dg (b - a)).length cap]) (by simp [results, Tryz.results29, go_sem, b0, b1]) rfl ?_
          obtain ⟨hn, hf, hb, hoo⟩ := HX.out
          refine ⟨_, _, _, rfl, (hn.setCell hf (by show k + 1 + 1 < k + 3; omega) _).setCell hf (by show k + 1 + 1 < k + 3; omega) _, HZ.out, hf.mono (by rw [HK.out]; omega), ?_⟩
          rw [HK.out]
          exact (hb.setCell (p := ⟨k + 1 + 1, 0, none⟩) (by show k ≤ k + 1 + 1; omega) _).setCell (p := ⟨k + 1 + 1, 1, none⟩) (by show k ≤ k + 1 + 1; omega) _
      · have HOB := Lib.hid (OB.set (ng := nb) HB1.out z0 z1 y0 hs0 HV.out.1 (HV.out.2.1.mono (by simp)))
        clear e1 e2 e3 e4 e5 e6 e7 e8 hsz HB1 HV c1 c2 c3 c4 HBX HBD HBA CP z0 z1 y0 y1
        rename_i hHeld
        clear hHeld
        generalize hsz0 : W0.heap.size = o at *
        generalize (w1.setCell ⟨o, 0, none⟩ (.bool nb)).setCell ⟨o, 1, none⟩ (.slice p (dg (b - a)).length cap) = W2 at *
        obtain ⟨p0, p1, g0, ⟨u0, r0⟩, ⟨u1, r1⟩, f0, f1, ho, hnat, hfr, hbel⟩ := HOB.out
        have hok : k + 1 + 1 ≠ o := by omega
        have HX := Lib.hid (And.intro hnat (And.intro hfr (And.intro hbel ho)))
        clear hnat hfr hbel HOB
        by_cases hz : b - a = 0
        · have hl : (dg (b - a)).length = 0 := by rw [hz, dg_zero]; rfl
          rw [hl] at p1 HX ⊢
          have HZ2 := Lib.hid hz
          have q0 : (W2.setCell ⟨o, 0, none⟩ (.bool false)).cell? ⟨o, 0, none⟩ = some (.bool false) := World.cell?_setCell_same' _ _ _ (by rw [p0]; rfl)
          have q1 : (W2.setCell ⟨o, 0, none⟩ (.bool false)).cell? ⟨o, 1, none⟩ = some (.slice p 0 cap) := by go_cell
          have s0 : (W2.setCell ⟨o, 0, none⟩ (.bool false)).cell? ⟨k + 1 + 1, 0, none⟩ = some u0 := (World.cell?_of_block (Below.heap_setCell _ _ _ _ (by show k + 1 + 1 ≠ o; exact hok))).trans r0
          have s1 : (W2.setCell ⟨o, 0, none⟩ (.bool false)).cell? ⟨k + 1 + 1, 1, none⟩ = some u1 := (World.cell?_of_block (Below.heap_setCell _ _ _ _ (by show k + 1 + 1 ≠ o; exact hok))).trans r1
          have f2 : (W2.setCell ⟨o, 0, none⟩ (.bool false)).frozen? ⟨k + 1 + 1, 0, none⟩ = false := by rw [frozen_set]; exact f0
          have f3 : (W2.setCell ⟨o, 0, none⟩ (.bool false)).frozen? ⟨k + 1 + 1, 1, none⟩ = false := by rw [frozen_set]; exact f1
          obtain ⟨b0, b1⟩ := two_back s0 s1 (.bool false) (.slice p 0 cap)
          clear hz hl r0 r1
          go_wp2
          refine bodyPost_ret (v := .agg #[.bool false, .slice p 0 cap]) (by simp [results, Tryz.results29, go_sem, b0, b1]) rfl ?_
          obtain ⟨hn, hf, hb, hoo⟩ := HX.out
          rw [HZ2.out] at hn
          refine ⟨false, 0, _, rfl, hn.any0, ?_, hf.mono (by rw [HK.out]; omega), ?_⟩
          · have h1 := HZ.out
            rw [HZ2.out, sgn_zero] at h1
            exact ⟨by rw [sgn_zero]; exact h1.1, by omega⟩
          · rw [HK.out]
            exact ((hb.setCell (p := ⟨o, 0, none⟩) (by show k ≤ o; omega) _).setCell (p := ⟨k + 1 + 1, 0, none⟩) (by show k ≤ k + 1 + 1; omega) _).setCell (p := ⟨k + 1 + 1, 1, none⟩) (by show k ≤ k + 1 + 1; omega) _
        · have hl : (((dg (b - a)).length : Int) == 0) = false := by rw [beq_eq_false_iff_ne]; have := dg_len_pos hz; omega
          obtain ⟨b0, b1⟩ := two_back r0 r1 (.bool nb) (.slice p (dg (b - a)).length cap)
          clear hz
          go_wp2
          refine bodyPost_ret (v := .agg #[.bool nb, .slice p (dg (b - a)).length cap]) (by simp [results, Tryz.results29, go_sem, b0, b1]) rfl ?_
          obtain ⟨hn, hf, hb, hoo⟩ := HX.out
          refine ⟨_, _, _, rfl, (hn.setCell hf (by show k + 1 + 1 < k + 3; omega) _).setCell hf (by show k + 1 + 1 < k + 3; omega) _, HZ.out, hf.mono (by rw [HK.out]; omega), ?_⟩
          rw [HK.out]
          exact (hb.setCell (p := ⟨k + 1 + 1, 0, none⟩) (by show k ≤ k + 1 + 1; omega) _).setCell (p := ⟨k + 1 + 1, 1, none⟩) (by show k ≤ k + 1 + 1; omega) _
end Go.Proofs.YtajonpcmgebbbaaGreatDoor.R

/- The walk of the reference's Mul. -/
namespace Go.Proofs.YtajonpcmgebbbaaGreatDoor.R
open Go.RowKit

theorem val_agg (l : List UInt8) : valOf l = sgnZ (isNeg l) (natOf (szL l)) := (val_sgn l).symm

theorem valOf_17 {l : List UInt8} (h : chk l = 0) (hl : l.length ≤ 17) : -100000000000000000 < valOf l ∧ valOf l < 100000000000000000 := by
  have h1 := natOf_take_17 (szL l) (chk_dig h) (szL l).length (Nat.le_trans (szL_length l) hl)
  rw [List.take_length] at h1
  rw [valOf_szL]; split <;> omega
theorem natOf_pow {l : List UInt8} (h : chk l = 0) : (valOf l).natAbs < 10 ^ l.length := by
  rw [szL_valAbs]
  exact Nat.lt_of_lt_of_le (natOf_lt _ (chk_dig h)) (Nat.pow_le_pow_right (by decide) (szL_length l))
theorem mul_18 {a b : List UInt8} (ha : chk a = 0) (hb : chk b = 0) (h : a.length + b.length ≤ 18) : -1000000000000000000 < valOf a * valOf b ∧ valOf a * valOf b < 1000000000000000000 := by
  have h1 := natOf_pow ha
  have h2 := natOf_pow hb
  have h3 : (valOf a).natAbs * (valOf b).natAbs ≤ 10 ^ a.length * 10 ^ b.length := Nat.mul_le_mul (Nat.le_of_lt h1) (Nat.le_of_lt h2)
  have h4 : (valOf a).natAbs * (valOf b).natAbs < 10 ^ a.length * 10 ^ b.length := by
    rcases Nat.eq_zero_or_pos (valOf a).natAbs with h | h
    · rw [h, Nat.zero_mul]; exact Nat.mul_pos (Nat.pow_pos (by decide)) (Nat.pow_pos (by decide))
    · exact Nat.lt_of_lt_of_le (Nat.mul_lt_mul_of_pos_left h2 h) (Nat.mul_le_mul_right _ (Nat.le_of_lt h1))
  rw [← Nat.pow_add, ← Int.natAbs_mul] at h4
  have h5 : 10 ^ (a.length + b.length) ≤ 10 ^ 18 := Nat.pow_le_pow_right (by decide) h
  have h6 : (10 : Nat) ^ 18 = 1000000000000000000 := by decide
  omega
theorem res_small {z : Int} (h0 : -1000000000000000000 < z) (h1 : z < 1000000000000000000) : resB z = strB z ∧ resE z = 0 := by
  have h : z.natAbs < lim := small_lim (by omega)
  exact ⟨if_pos h, if_pos h⟩
theorem out_bad {e : Int} (h : e ≠ 0) (z : Int) : outB e z = ⟨#[]⟩ ∧ outE e z = e := ⟨if_neg h, if_neg h⟩
theorem out_ok (z : Int) : outB 0 z = resB z ∧ outE 0 z = resE z := ⟨if_pos rfl, if_pos rfl⟩

end Go.Proofs.YtajonpcmgebbbaaGreatDoor.R

/- The walk of the reference's Divide. -/
namespace Go.Proofs.YtajonpcmgebbbaaGreatDoor.R
open Go.RowKit

end Go.Proofs.YtajonpcmgebbbaaGreatDoor.R

/- The walk of the reference's Divide, where its arguments are long. -/
namespace Go.Proofs.YtajonpcmgebbbaaGreatDoor.R
open Go.RowKit

theorem IsNat.len0 {w : World} {v : Value} {n : Nat} (_h : IsNat w v n) : ((dg n).length = 0 ↔ n = 0) := by
  rw [List.length_eq_zero_iff, dg_nil_iff]
/-- the quotient and the remainder as the reference makes them -/
theorem ref_floor (na nb : Bool) (x y : Nat) (h0 : y ≠ 0) :
    ((na = nb ∨ x % y = 0) → sgnZ ((na != nb) && decide (0 < x / y)) (x / y) = (sgnZ na x).fdiv (sgnZ nb y) ∧ sgnZ (na && decide (0 < x % y)) (x % y) = (sgnZ na x).fmod (sgnZ nb y)) ∧
    ((na ≠ nb ∧ x % y ≠ 0) → sgnZ (true && decide (0 < x / y)) (x / y) + sgnZ true 1 = (sgnZ na x).fdiv (sgnZ nb y) ∧ sgnZ (na && true) (x % y) + sgnZ nb y = (sgnZ na x).fmod (sgnZ nb y)) := by
  obtain ⟨h1, h2⟩ := floor_sgn na nb x y h0
  have hm := Nat.mod_lt x (show 0 < y by omega)
  have key : ∀ (s : Bool) (n : Nat), sgnZ (s && decide (0 < n)) n = sgnZ s n := fun s n => by
    rcases Nat.eq_zero_or_pos n with h | h
    · subst h; rw [sgn_zero, sgn_zero]
    · rw [decide_eq_true h, Bool.and_true]
  constructor
  · intro h
    obtain ⟨e1, e2⟩ := h1 h
    rw [key, key, e1, e2]
    refine ⟨rfl, ?_⟩
    rcases h with rfl | h
    · rfl
    · rw [h, sgn_zero, sgn_zero]
  · intro h
    obtain ⟨e1, e2⟩ := h2 h
    rw [key, Bool.and_true, e1, e2]
    have hb : (na != nb) = true := by simpa using h.1
    rw [hb]
    generalize x / y = q at *
    generalize x % y = r at *
    cases na <;> cases nb <;> simp [sgnZ] at h ⊢ <;> omega

/-- a box of two cells -/
structure C2 (W : World) (o : Nat) (u v : Value) : Prop where
  c0 : W.cell? ⟨o, 0, none⟩ = some u
  c1 : W.cell? ⟨o, 1, none⟩ = some v
  f0 : W.frozen? ⟨o, 0, none⟩ = false
  f1 : W.frozen? ⟨o, 1, none⟩ = false
  lt : o < W.heap.size
theorem C2.next {W W' : World} {o : Nat} {u v : Value} (h : C2 W o u v) (hb : Below W.heap.size W W') : C2 W' o u v :=
  ⟨(hb.cell (p := ⟨o, 0, none⟩) h.lt).trans h.c0, (hb.cell (p := ⟨o, 1, none⟩) h.lt).trans h.c1, (hb.frozen (p := ⟨o, 0, none⟩) h.lt).trans h.f0, (hb.frozen (p := ⟨o, 1, none⟩) h.lt).trans h.f1, Nat.lt_of_lt_of_le h.lt hb.size⟩
theorem C2.new (W : World) (u v : Value) (t : TypeId) : C2 (W.alloc (.cells #[u, v] t)) W.heap.size u v := ⟨by go_cell, by go_cell, by simp [go_sem], by simp [go_sem], by simp⟩
theorem C2.old {W : World} {o : Nat} {u v : Value} (h : C2 W o u v) (ob : Obj) : C2 (W.alloc ob) o u v := h.next ((Below.refl _ _).alloc (Nat.le_refl _) _)
theorem C2.other {W : World} {o k : Nat} {u v : Value} (h : C2 W o u v) (hk : o ≠ k) (x y : Value) : C2 ((W.setCell ⟨k, 0, none⟩ x).setCell ⟨k, 1, none⟩ y) o u v :=
  ⟨far2 hk.symm h.c0, far2 hk.symm h.c1, by rw [frozen_set, frozen_set]; exact h.f0, by rw [frozen_set, frozen_set]; exact h.f1, by have := h.lt; simpa [World.setCell] using this⟩
theorem C2.put {W : World} {o : Nat} {u v : Value} (h : C2 W o u v) (x y : Value) : C2 ((W.setCell ⟨o, 0, none⟩ x).setCell ⟨o, 1, none⟩ y) o x y := by
  obtain ⟨b0, b1⟩ := two_back h.c0 h.c1 x y
  exact ⟨by go_cell, b1, by rw [frozen_set, frozen_set]; exact h.f0, by rw [frozen_set, frozen_set]; exact h.f1, by have := h.lt; simpa [World.setCell] using this⟩
theorem one_isnat (w : World) : IsNat (w.alloc (.cells #[.int .i64 1] 3)) (.slice (some ⟨w.heap.size, 0, none⟩) 1 1) 1 := by
  show Nats _ _ (dg 1)
  rw [dg_one (by decide) (by decide)]
  exact one_nats w 1
theorem add_len (q : Nat) : (dg (q + 1)).length ≤ (dg q).length + 1 := by
  have h1 := (dg_length_le q _).1 (Nat.le_refl _)
  refine (dg_length_le _ _).2 ?_
  rw [Nat.pow_succ, B_eq]
  rw [B_eq] at h1
  omega
theorem add_len2 (a b : Nat) : (dg (a + b)).length ≤ (dg a).length + (dg b).length + 1 := by
  have h1 := (dg_length_le a _).1 (Nat.le_refl _)
  have h2 := (dg_length_le b _).1 (Nat.le_refl _)
  refine (dg_length_le _ _).2 ?_
  have e1 : B ^ (dg a).length ≤ B ^ ((dg a).length + (dg b).length) := Nat.pow_le_pow_right B_pos (by omega)
  have e2 : B ^ (dg b).length ≤ B ^ ((dg a).length + (dg b).length) := Nat.pow_le_pow_right B_pos (by omega)
  rw [Nat.pow_succ, B_eq]
  rw [B_eq] at h1 h2 e1 e2
  omega
theorem Below.put2 {B : Nat} {a w : World} {o : Nat} (h : Below B a w) (ho : B ≤ o) (x y : Value) : Below B a ((w.setCell ⟨o, 0, none⟩ x).setCell ⟨o, 1, none⟩ y) :=
  (h.setCell (p := ⟨o, 0, none⟩) ho _).setCell (p := ⟨o, 1, none⟩) ho _

end Go.Proofs.YtajonpcmgebbbaaGreatDoor.R

