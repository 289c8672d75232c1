/- The walks of signed integers: sums, opposites. Written by wip/mkplus.py. -/
import Derived.Test.YtajonpcmgebbbaaDoorW13
import Derived.Deep.RegionHeld3
namespace Go.Proofs.YtajonpcmgebbbaaDoor
open Go.RowKit

/-- the first two boxes may be written -/
structure Fz (k : Nat) (W : World) : Prop where
  f1 : W.frozen? ⟨k, 0, none⟩ = false
  f2 : W.frozen? ⟨k, 1, none⟩ = false
  f3 : W.frozen? ⟨k + 1, 0, none⟩ = false
  f4 : W.frozen? ⟨k + 1, 1, none⟩ = false
theorem fz_new (w : World) (x0 x1 y0 y1 z0 z1 : Value) (t : TypeId) : Fz w.heap.size (((w.alloc (.cells #[x0, x1] t)).alloc (.cells #[y0, y1] t)).alloc (.cells #[z0, z1] t)) :=
  ⟨by simp [go_sem], by simp [go_sem], by simp [go_sem], by simp [go_sem]⟩
theorem Fz.drewN {k : Nat} {W : World} (h : Fz k W) (n : Nat) : Fz k (W.drewN n) := ⟨h.f1, h.f2, h.f3, h.f4⟩
theorem Boxes.drewN {w : World} {k : Nat} {x0 x1 y0 y1 z0 z1 : Value} {W : World} (h : Boxes w k x0 x1 y0 y1 z0 z1 W) (n : Nat) : Boxes w k x0 x1 y0 y1 z0 z1 (W.drewN n) :=
  h.next ⟨rfl, rfl, rfl, Nat.le_refl _, fun _ _ => rfl⟩

theorem sgn_add_same (neg : Bool) (a b : Nat) : sgnZ neg (a + b) = sgnZ neg a + sgnZ neg b := by unfold sgnZ; cases neg <;> simp <;> omega
theorem sgn_sub (na nb : Bool) (h : na ≠ nb) (a b : Nat) (hle : b ≤ a) : sgnZ na (a - b) = sgnZ na a + sgnZ nb b := by
  unfold sgnZ; cases na <;> cases nb <;> simp at h ⊢ <;> omega

/-- two boxes exchanged -/
theorem swap_cells {W : World} {k : Nat} {x0 x1 y0 y1 : Value} (c1 : W.cell? ⟨k, 0, none⟩ = some x0) (c2 : W.cell? ⟨k, 1, none⟩ = some x1) (c3 : W.cell? ⟨k + 1, 0, none⟩ = some y0) (c4 : W.cell? ⟨k + 1, 1, none⟩ = some y1) (X0 X1 Y0 Y1 : Value) :
    let W' := (((W.setCell ⟨k, 0, none⟩ X0).setCell ⟨k, 1, none⟩ X1).setCell ⟨k + 1, 0, none⟩ Y0).setCell ⟨k + 1, 1, none⟩ Y1
    W'.cell? ⟨k, 0, none⟩ = some X0 ∧ W'.cell? ⟨k, 1, none⟩ = some X1 ∧ W'.cell? ⟨k + 1, 0, none⟩ = some Y0 ∧ W'.cell? ⟨k + 1, 1, none⟩ = some Y1 := by
  intro W'
  have hk : ∀ (w : World) (o o' : Nat) (u : Value), (w.setCell ⟨k + 1, o, none⟩ u).cell? ⟨k, o', none⟩ = w.cell? ⟨k, o', none⟩ := fun w o o' u => World.cell?_of_block (Below.heap_setCell _ _ _ _ (by show k ≠ k + 1; omega))
  have hk' : ∀ (w : World) (o o' : Nat) (u : Value), (w.setCell ⟨k, o, none⟩ u).cell? ⟨k + 1, o', none⟩ = w.cell? ⟨k + 1, o', none⟩ := fun w o o' u => World.cell?_of_block (Below.heap_setCell _ _ _ _ (by show k + 1 ≠ k; omega))
  have a0 := (two_back c1 c2 X0 X1).1
  have a1 := (two_back c1 c2 X0 X1).2
  have a0' : ((W.setCell ⟨k, 0, none⟩ X0).setCell ⟨k, 1, none⟩ X1).cell? ⟨k, 0, none⟩ = some X0 := by go_cell
  have b3 : ((W.setCell ⟨k, 0, none⟩ X0).setCell ⟨k, 1, none⟩ X1).cell? ⟨k + 1, 0, none⟩ = some y0 := by rw [hk', hk']; exact c3
  have b4 : ((W.setCell ⟨k, 0, none⟩ X0).setCell ⟨k, 1, none⟩ X1).cell? ⟨k + 1, 1, none⟩ = some y1 := by rw [hk', hk']; exact c4
  refine ⟨?_, ?_, ?_, ?_⟩
  · show ((((W.setCell ⟨k, 0, none⟩ X0).setCell ⟨k, 1, none⟩ X1).setCell ⟨k + 1, 0, none⟩ Y0).setCell ⟨k + 1, 1, none⟩ Y1).cell? ⟨k, 0, none⟩ = _
    rw [hk, hk]; exact a0'
  · show ((((W.setCell ⟨k, 0, none⟩ X0).setCell ⟨k, 1, none⟩ X1).setCell ⟨k + 1, 0, none⟩ Y0).setCell ⟨k + 1, 1, none⟩ Y1).cell? ⟨k, 1, none⟩ = _
    rw [hk, hk]; exact a1
  · show ((((W.setCell ⟨k, 0, none⟩ X0).setCell ⟨k, 1, none⟩ X1).setCell ⟨k + 1, 0, none⟩ Y0).setCell ⟨k + 1, 1, none⟩ Y1).cell? ⟨k + 1, 0, none⟩ = _
    have := (two_back b3 b4 Y0 Y1).1
    go_cell
  · exact (two_back b3 b4 Y0 Y1).2
theorem boxes_swap {w : World} {k : Nat} {x0 x1 y0 y1 z0 z1 : Value} {W : World} (h : Boxes w k x0 x1 y0 y1 z0 z1 W) :
    Boxes w k y0 y1 x0 x1 z0 z1 ((((W.setCell ⟨k, 0, none⟩ y0).setCell ⟨k, 1, none⟩ y1).setCell ⟨k + 1, 0, none⟩ x0).setCell ⟨k + 1, 1, none⟩ x1) := by
  obtain ⟨d1, d2, d3, d4⟩ := swap_cells h.c1 h.c2 h.c3 h.c4 y0 y1 x0 x1
  have hb : ∀ j, k + 1 < j → ((((W.setCell ⟨k, 0, none⟩ y0).setCell ⟨k, 1, none⟩ y1).setCell ⟨k + 1, 0, none⟩ x0).setCell ⟨k + 1, 1, none⟩ x1).heap[j]? = W.heap[j]? := fun j hj => by
    rw [Below.heap_setCell _ _ _ _ (by show j ≠ k + 1; omega), Below.heap_setCell _ _ _ _ (by show j ≠ k + 1; omega), Below.heap_setCell _ _ _ _ (by show j ≠ k; omega), Below.heap_setCell _ _ _ _ (by show j ≠ k; omega)]
  refine ⟨d1, d2, d3, d4, (World.cell?_of_block (hb _ (by show k + 1 < k + 1 + 1; omega))).trans h.c5, (World.cell?_of_block (hb _ (by show k + 1 < k + 1 + 1; omega))).trans h.c6,
    (World.frozen?_of_block (hb _ (by show k + 1 < k + 1 + 1; omega))).trans h.f5, (World.frozen?_of_block (hb _ (by show k + 1 < k + 1 + 1; omega))).trans h.f6, by have := h.size; simp [World.setCell]; exact this, ?_⟩
  exact (((h.below.setCell (p := ⟨k, 0, none⟩) (Nat.le_refl _) _).setCell (p := ⟨k, 1, none⟩) (Nat.le_refl _) _).setCell (p := ⟨k + 1, 0, none⟩) (by show k ≤ k + 1; omega) _).setCell (p := ⟨k + 1, 1, none⟩) (by show k ≤ k + 1; omega) _

set_option maxHeartbeats 2000000 in
theorem plus_any (na nb : Bool) (va vb : Value) (a b : Nat) (w : World) (ha : IsNat w va a) (hb : IsNat w vb b) (hla : (dg a).length ≤ 1000000) (hlb : (dg b).length ≤ 1000000) :
    Calls Tryd.prog 56 #[.agg #[.bool na, va], .agg #[.bool nb, vb]] w fun e W' => ∃ neg n v, e = .returned (.agg #[.bool neg, v]) ∧ IsNat W' v n ∧ (sgnZ neg n = sgnZ na a + sgnZ nb b ∧ n ≤ a + b) ∧ Fresh w.heap.size v ∧ Below w.heap.size w W' := by
  obtain ⟨pa, ca, rfl⟩ := ha.shape
  obtain ⟨pb, cb, rfl⟩ := hb.shape
  have HAB := Lib.hid (And.intro ha hb)
  have hw : (((w.alloc (.cells #[.bool na, .slice pa (dg a).length ca] 46)).alloc (.cells #[.bool nb, .slice pb (dg b).length cb] 46)).alloc (.cells #[.bool false, .slice none 0 0] 46)).heap.size = w.heap.size + 3 := by simp
  by_cases hs : na = nb
  · have cp : ∀ W, Below w.heap.size w W → Calls Tryd.prog 66 #[.slice pa (dg a).length ca, .slice pb (dg b).length cb] W fun e W' => ∃ v, e = .returned v ∧ IsNat W' v (a + b) ∧ Fresh W.heap.size v ∧ Below W.heap.size W W' :=
      fun W hW => sum_any _ _ a b W (ha.next hW) (hb.next hW) hla hlb
    have CP := Lib.hid cp; clear cp ha hb hla hlb hw
    have HZ : Hid (sgnZ na (a + b) = sgnZ na a + sgnZ nb b ∧ a + b ≤ a + b) := ⟨by rw [← hs]; exact sgn_add_same na a b, Nat.le_refl _⟩
    have hq : (na == nb) = true := by simpa using hs
    clear hs
    generalize (dg a).length = la at *
    generalize (dg b).length = lb at *
    go_enter Tryd.func56, Tryd.ntmps56
    go_wp2
    have hbx := boxes_new w (.bool na) (.slice pa la ca) (.bool nb) (.slice pb lb cb) (.bool false) (.slice none 0 0) 46
    generalize ((w.alloc (.cells #[.bool na, .slice pa la ca] 46)).alloc (.cells #[.bool nb, .slice pb lb cb] 46)).alloc (.cells #[.bool false, .slice none 0 0] 46) = W0 at *
    generalize hk : w.heap.size = k at *
    have HK := Lib.hid hk; clear hk
    have HBD := Lib.hid hbx.drew
    clear hbx
    obtain ⟨c1, c2, c3, c4, _, _, _, _, _, _⟩ := HBD.out
    go_region_held3 (fun w' => w'.cell? ⟨k, 0, none⟩ = some (.bool na) ∧ w'.cell? ⟨k, 1, none⟩ = some (.slice pa la ca) ∧ w'.cell? ⟨k + 1, 0, none⟩ = some (.bool nb) ∧ w'.cell? ⟨k + 1, 1, none⟩ = some (.slice pb lb cb)) (first | (go_keep; done) | ((try dsimp only); refine ⟨?_, ?_, ?_, ?_⟩ <;> (first | (exact far2 (by omega) (by assumption)) | (go_keep; done))))
      (first | (go_at_call 66; refine (CP.out _ HBD.out.below).mono ?_; rintro e w1 ⟨v, rfl, hv, hf, hb1⟩; obtain ⟨p, cap, rfl⟩ := hv.shape; have HB1 := Lib.hid (HBD.out.next hb1); have HV := Lib.hid (And.intro hv (And.intro hf hb1)); clear hv hf hb1; obtain ⟨e1, e2, e3, e4, e5, e6, e7, e8, _, _⟩ := HB1.out))
    obtain ⟨g5, g6⟩ := two_back e5 e6 (.bool na) (.slice p (dg (a + b)).length cap)
    go_wp2
    refine bodyPost_ret (v := .agg #[.bool na, .slice p (dg (a + b)).length cap]) (by simp [results, Tryd.results56, go_sem, g5, g6]) rfl ?_
    obtain ⟨hv, hf, hb1⟩ := HV.out
    have hf' : Fresh (k + 3) (.slice p (dg (a + b)).length cap) := hf.mono HBD.out.size
    refine ⟨_, _, _, rfl, (hv.setCell hf' (by show k + 1 + 1 < k + 3; omega) _).setCell hf' (by show k + 1 + 1 < k + 3; omega) _, HZ.out, hf'.mono (by rw [HK.out]; omega), ?_⟩
    rw [HK.out]
    exact ((HB1.out.below).setCell (p := ⟨k + 1 + 1, 0, none⟩) (by show k ≤ k + 1 + 1; omega) _).setCell (p := ⟨k + 1 + 1, 1, none⟩) (by show k ≤ k + 1 + 1; omega) _
  · have hq : (na == nb) = false := by simpa using hs
    have hbx := boxes_new w (.bool na) (.slice pa (dg a).length ca) (.bool nb) (.slice pb (dg b).length cb) (.bool false) (.slice none 0 0) 46
    have hfz := fz_new w (.bool na) (.slice pa (dg a).length ca) (.bool nb) (.slice pb (dg b).length cb) (.bool false) (.slice none 0 0) 46
    have cc := compare_any (.slice pa (dg a).length ca) (.slice pb (dg b).length cb) a b _ (ha.next hbx.below) (hb.next hbx.below)
    have CC := Lib.hid cc; clear cc
    by_cases hle : b ≤ a
    · have hcmp : 0 ≤ cmpN a b := by
        rcases Nat.lt_or_eq_of_le hle with h | h
        · rw [cmpN_gt h]; decide
        · rw [cmpN_eq h.symm]; decide
      have cp : ∀ W, Below w.heap.size w W → Calls Tryd.prog 67 #[.slice pa (dg a).length ca, .slice pb (dg b).length cb] W fun e W' => ∃ v, e = .returned v ∧ IsNat W' v (a - b) ∧ Fresh W.heap.size v ∧ Below W.heap.size W W' :=
        fun W hW => difference_any _ _ a b W (ha.next hW) (hb.next hW) hla hle
      have CP := Lib.hid cp; clear cp ha hb hla hlb hw
      have HZ : Hid (sgnZ na (a - b) = sgnZ na a + sgnZ nb b ∧ a - b ≤ a + b) := ⟨sgn_sub na nb hs a b hle, by omega⟩
      have HBX := Lib.hid (And.intro hbx hfz)
      clear hs hle hbx hfz
      generalize (dg a).length = la at *
      generalize (dg b).length = lb at *
      generalize cmpN a b = cm at *
      go_enter Tryd.func56, Tryd.ntmps56
      go_wp2_with fail
      refine CC.out.mono ?_
      rintro e w' ⟨rfl, nn, rfl⟩
      clear CC
      have hbx2 := HBX.out.1.drewN nn
      clear HBX
      generalize (((w.alloc (.cells #[.bool na, .slice pa la ca] 46)).alloc (.cells #[.bool nb, .slice pb lb cb] 46)).alloc (.cells #[.bool false, .slice none 0 0] 46)).drewN nn = W0 at *
      generalize hk : w.heap.size = k at *
      have HK := Lib.hid hk; clear hk
      have HBX := Lib.hid hbx2
      obtain ⟨b1, b2, b3, b4, _, _, _, _, _, _⟩ := hbx2
      go_wp2
      have HBD := Lib.hid HBX.out.drew
      clear b1 b2 b3 b4 HBX
      obtain ⟨c1, c2, c3, c4, _, _, _, _, _, _⟩ := HBD.out
      go_region_held3 (fun w' => w'.cell? ⟨k, 0, none⟩ = some (.bool na) ∧ w'.cell? ⟨k, 1, none⟩ = some (.slice pa la ca) ∧ w'.cell? ⟨k + 1, 0, none⟩ = some (.bool nb) ∧ w'.cell? ⟨k + 1, 1, none⟩ = some (.slice pb lb cb)) (first | (go_keep; done) | ((try dsimp only); refine ⟨?_, ?_, ?_, ?_⟩ <;> (first | (exact far2 (by omega) (by assumption)) | (go_keep; done))))
        (first | (go_at_call 67; refine (CP.out _ HBD.out.below).mono ?_; rintro e w1 ⟨v, rfl, hv, hf, hb1⟩; obtain ⟨p, cap, rfl⟩ := hv.shape; have HB1 := Lib.hid (HBD.out.next hb1); have HV := Lib.hid (And.intro hv (And.intro hf hb1)); clear hv hf hb1; obtain ⟨e1, e2, e3, e4, e5, e6, e7, e8, _, _⟩ := HB1.out))
      obtain ⟨g5, g6⟩ := two_back e5 e6 (.bool na) (.slice p (dg (a - b)).length cap)
      go_wp2
      refine bodyPost_ret (v := .agg #[.bool na, .slice p (dg (a - b)).length cap]) (by simp [results, Tryd.results56, go_sem, g5, g6]) rfl ?_
      obtain ⟨hv, hf, hb1⟩ := HV.out
      have hf' : Fresh (k + 3) (.slice p (dg (a - b)).length cap) := hf.mono HBD.out.size
      refine ⟨_, _, _, rfl, (hv.setCell hf' (by show k + 1 + 1 < k + 3; omega) _).setCell hf' (by show k + 1 + 1 < k + 3; omega) _, HZ.out, hf'.mono (by rw [HK.out]; omega), ?_⟩
      rw [HK.out]
      exact ((HB1.out.below).setCell (p := ⟨k + 1 + 1, 0, none⟩) (by show k ≤ k + 1 + 1; omega) _).setCell (p := ⟨k + 1 + 1, 1, none⟩) (by show k ≤ k + 1 + 1; omega) _
    · have hcmp : cmpN a b < 0 := by rw [cmpN_lt (by omega)]; decide
      have cp : ∀ W, Below w.heap.size w W → Calls Tryd.prog 67 #[.slice pb (dg b).length cb, .slice pa (dg a).length ca] W fun e W' => ∃ v, e = .returned v ∧ IsNat W' v (b - a) ∧ Fresh W.heap.size v ∧ Below W.heap.size W W' :=
        fun W hW => difference_any _ _ b a W (hb.next hW) (ha.next hW) hlb (by omega)
      have CP := Lib.hid cp; clear cp ha hb hla hlb hw
      have HZ : Hid (sgnZ nb (b - a) = sgnZ na a + sgnZ nb b ∧ b - a ≤ a + b) := ⟨by rw [sgn_sub nb na (fun h => hs h.symm) b a (by omega), Int.add_comm], by omega⟩
      have HBX := Lib.hid (And.intro hbx hfz)
      clear hs hle hbx hfz
      generalize (dg a).length = la at *
      generalize (dg b).length = lb at *
      generalize cmpN a b = cm at *
      go_enter Tryd.func56, Tryd.ntmps56
      go_wp2_with fail
      refine CC.out.mono ?_
      rintro e w' ⟨rfl, nn, rfl⟩
      clear CC
      have hbx2 := HBX.out.1.drewN nn
      have hfz2 := HBX.out.2.drewN nn
      clear HBX
      generalize (((w.alloc (.cells #[.bool na, .slice pa la ca] 46)).alloc (.cells #[.bool nb, .slice pb lb cb] 46)).alloc (.cells #[.bool false, .slice none 0 0] 46)).drewN nn = W0 at *
      generalize hk : w.heap.size = k at *
      have HK := Lib.hid hk; clear hk
      have HBX := Lib.hid hbx2
      obtain ⟨b1, b2, b3, b4, _, _, _, _, _, _⟩ := hbx2
      obtain ⟨f1, f2, f3, f4⟩ := hfz2
      go_wp2
      have hsw := boxes_swap HBX.out
      clear b1 b2 b3 b4 HBX f1 f2 f3 f4
      generalize (((W0.setCell ⟨k, 0, none⟩ (.bool nb)).setCell ⟨k, 1, none⟩ (.slice pb lb cb)).setCell ⟨k + 1, 0, none⟩ (.bool na)).setCell ⟨k + 1, 1, none⟩ (.slice pa la ca) = W1 at *
      have HBD := Lib.hid hsw.drew
      clear hsw
      obtain ⟨c1, c2, c3, c4, _, _, _, _, _, _⟩ := HBD.out
      go_region_held3 (fun w' => w'.cell? ⟨k, 0, none⟩ = some (.bool nb) ∧ w'.cell? ⟨k, 1, none⟩ = some (.slice pb lb cb) ∧ w'.cell? ⟨k + 1, 0, none⟩ = some (.bool na) ∧ w'.cell? ⟨k + 1, 1, none⟩ = some (.slice pa la ca)) (first | (go_keep; done) | ((try dsimp only); refine ⟨?_, ?_, ?_, ?_⟩ <;> (first | (exact far2 (by omega) (by assumption)) | (go_keep; done))))
        (first | (go_at_call 67; refine (CP.out _ HBD.out.below).mono ?_; rintro e w1 ⟨v, rfl, hv, hf, hb1⟩; obtain ⟨p, cap, rfl⟩ := hv.shape; have HB1 := Lib.hid (HBD.out.next hb1); have HV := Lib.hid (And.intro hv (And.intro hf hb1)); clear hv hf hb1; obtain ⟨e1, e2, e3, e4, e5, e6, e7, e8, _, _⟩ := HB1.out))
      obtain ⟨g5, g6⟩ := two_back e5 e6 (.bool nb) (.slice p (dg (b - a)).length cap)
      go_wp2
      refine bodyPost_ret (v := .agg #[.bool nb, .slice p (dg (b - a)).length cap]) (by simp [results, Tryd.results56, go_sem, g5, g6]) rfl ?_
      obtain ⟨hv, hf, hb1⟩ := HV.out
      have hf' : Fresh (k + 3) (.slice p (dg (b - a)).length cap) := hf.mono HBD.out.size
      refine ⟨_, _, _, rfl, (hv.setCell hf' (by show k + 1 + 1 < k + 3; omega) _).setCell hf' (by show k + 1 + 1 < k + 3; omega) _, HZ.out, hf'.mono (by rw [HK.out]; omega), ?_⟩
      rw [HK.out]
      exact ((HB1.out.below).setCell (p := ⟨k + 1 + 1, 0, none⟩) (by show k ≤ k + 1 + 1; omega) _).setCell (p := ⟨k + 1 + 1, 1, none⟩) (by show k ≤ k + 1 + 1; omega) _
end Go.Proofs.YtajonpcmgebbbaaDoor
