/- The walks of signed integers: products, opposites. -/
import Derived.Test.YtajonpcmgebbbaaDoorW8
import Derived.Deep.RegionHeld3
namespace Go.Proofs.YtajonpcmgebbbaaDoor
open Go.RowKit

theorem IsNat.shape {w : World} {v : Value} {n : Nat} (h : IsNat w v n) : ∃ p cap, v = .slice p (dg n).length cap := by
  obtain ⟨p, cap, e, _⟩ := h; exact ⟨p, cap, e⟩

/-- a signed integer, as it is handed from call to call -/
def sgn (neg : Bool) (v : Value) : Value := .agg #[.bool neg, v]

theorem far2 {w : World} {k j o : Nat} {x y v : Value} (hne : j ≠ k) (h : w.cell? ⟨k, o, none⟩ = some v) : ((w.setCell ⟨j, 0, none⟩ x).setCell ⟨j, 1, none⟩ y).cell? ⟨k, o, none⟩ = some v :=
  (World.cell?_of_block (Below.heap_setCell _ _ _ _ (by show k ≠ j; omega))).trans ((World.cell?_of_block (Below.heap_setCell _ _ _ _ (by show k ≠ j; omega))).trans h)

/-- what three boxes of two cells hold -/
structure Boxes (w : World) (k : Nat) (x0 x1 y0 y1 z0 z1 : Value) (W : World) : Prop where
  c1 : W.cell? ⟨k, 0, none⟩ = some x0
  c2 : W.cell? ⟨k, 1, none⟩ = some x1
  c3 : W.cell? ⟨k + 1, 0, none⟩ = some y0
  c4 : W.cell? ⟨k + 1, 1, none⟩ = some y1
  c5 : W.cell? ⟨k + 1 + 1, 0, none⟩ = some z0
  c6 : W.cell? ⟨k + 1 + 1, 1, none⟩ = some z1
  f5 : W.frozen? ⟨k + 1 + 1, 0, none⟩ = false
  f6 : W.frozen? ⟨k + 1 + 1, 1, none⟩ = false
  size : k + 3 ≤ W.heap.size
  below : Below k w W
theorem boxes_new (w : World) (x0 x1 y0 y1 z0 z1 : Value) (t : TypeId) :
    Boxes w w.heap.size x0 x1 y0 y1 z0 z1 (((w.alloc (.cells #[x0, x1] t)).alloc (.cells #[y0, y1] t)).alloc (.cells #[z0, z1] t)) :=
  ⟨by go_cell, by go_cell, by go_cell, by go_cell, by go_cell, by go_cell, by simp [go_sem], by simp [go_sem], by simp,
    (((Below.refl _ w).alloc (Nat.le_refl _) _).alloc (by simp) _).alloc (by simp; omega) _⟩
theorem Boxes.next {w : World} {k : Nat} {x0 x1 y0 y1 z0 z1 : Value} {W W' : World} (h : Boxes w k x0 x1 y0 y1 z0 z1 W) (hb : Below W.heap.size W W') : Boxes w k x0 x1 y0 y1 z0 z1 W' :=
  have hs := h.size
  ⟨(hb.cell (p := ⟨k, 0, none⟩) (by show k < _; omega)).trans h.c1, (hb.cell (p := ⟨k, 1, none⟩) (by show k < _; omega)).trans h.c2,
   (hb.cell (p := ⟨k + 1, 0, none⟩) (by show k + 1 < _; omega)).trans h.c3, (hb.cell (p := ⟨k + 1, 1, none⟩) (by show k + 1 < _; omega)).trans h.c4,
   (hb.cell (p := ⟨k + 1 + 1, 0, none⟩) (by show k + 1 + 1 < _; omega)).trans h.c5, (hb.cell (p := ⟨k + 1 + 1, 1, none⟩) (by show k + 1 + 1 < _; omega)).trans h.c6,
   (hb.frozen (p := ⟨k + 1 + 1, 0, none⟩) (by show k + 1 + 1 < _; omega)).trans h.f5, (hb.frozen (p := ⟨k + 1 + 1, 1, none⟩) (by show k + 1 + 1 < _; omega)).trans h.f6,
   Nat.le_trans h.size hb.size, h.below.trans (hb.mono (by omega))⟩
theorem Boxes.drew {w : World} {k : Nat} {x0 x1 y0 y1 z0 z1 : Value} {W : World} (h : Boxes w k x0 x1 y0 y1 z0 z1 W) : Boxes w k x0 x1 y0 y1 z0 z1 W.drew := h.next (Below.refl _ _).drew

set_option maxHeartbeats 2000000 in
theorem times_any (na nb : Bool) (va vb : Value) (a b : Nat) (w : World) (ha : IsNat w va a) (hb : IsNat w vb b) (hla : (dg a).length ≤ 1000000) (hlb : (dg b).length ≤ 1000000) :
    Calls Tryd.prog 29 #[.agg #[.bool na, va], .agg #[.bool nb, vb]] w fun e W' => ∃ v, e = .returned (.agg #[.bool (na != nb), v]) ∧ IsNat W' v (a * b) ∧ Fresh w.heap.size v ∧ Below w.heap.size w W' := by
  have cp : ∀ W, Below w.heap.size w W → Calls Tryd.prog 59 #[va, vb] W fun e W' => ∃ v, e = .returned v ∧ IsNat W' v (a * b) ∧ Fresh W.heap.size v ∧ Below W.heap.size W W' := fun W hW => by
    have := product_any va vb (dg a) (dg b) W (Nats.next ha hW) (Nats.next hb hW) (dg_Dig a) (dg_Dig b) hla hlb
    rwa [toN_dg, toN_dg] at this
  obtain ⟨pa, ca, rfl⟩ := ha.shape
  obtain ⟨pb, cb, rfl⟩ := hb.shape
  have CP := Lib.hid cp; clear cp ha hb hla hlb
  generalize (dg a).length = la at *
  generalize (dg b).length = lb at *
  go_enter Tryd.func29, Tryd.ntmps29
  go_wp2
  have hbx := boxes_new w (.bool na) (.slice pa la ca) (.bool nb) (.slice pb lb cb) (.bool false) (.slice none 0 0) 46
  generalize ((w.alloc (.cells #[.bool na, .slice pa la ca] 46)).alloc (.cells #[.bool nb, .slice pb lb cb] 46)).alloc (.cells #[.bool false, .slice none 0 0] 46) = W0 at *
  generalize hk : w.heap.size = k at *
  have HK := Lib.hid hk; clear hk
  have HBD := Lib.hid hbx.drew
  clear hbx
  obtain ⟨c1, c2, c3, c4, _, _, _, _, _, _⟩ := HBD.out
  go_region_held3 (fun w' => w'.cell? ⟨k, 0, none⟩ = some (.bool na) ∧ w'.cell? ⟨k, 1, none⟩ = some (.slice pa la ca) ∧ w'.cell? ⟨k + 1, 0, none⟩ = some (.bool nb) ∧ w'.cell? ⟨k + 1, 1, none⟩ = some (.slice pb lb cb)) (first | (go_keep; done) | ((try dsimp only); refine ⟨?_, ?_, ?_, ?_⟩ <;> (first | (exact far2 (by omega) (by assumption)) | (go_keep; done))))
    (first | (go_at_call 59; refine (CP.out _ HBD.out.below).mono ?_; rintro e w1 ⟨v, rfl, hv, hf, hb1⟩; obtain ⟨p, cap, rfl⟩ := hv.shape; have HB1 := Lib.hid (HBD.out.next hb1); have HV := Lib.hid (And.intro hv (And.intro hf hb1)); clear hv hf hb1; obtain ⟨e1, e2, e3, e4, e5, e6, e7, e8, _, _⟩ := HB1.out))
  obtain ⟨g5, g6⟩ := two_back e5 e6 (.bool (!(na == nb))) (.slice p (dg (a * b)).length cap)
  go_wp2
  refine bodyPost_ret (v := .agg #[.bool (!(na == nb)), .slice p (dg (a * b)).length cap]) (by simp [results, Tryd.results29, go_sem, g5, g6]) rfl ?_
  obtain ⟨hv, hf, hb1⟩ := HV.out
  have hf' : Fresh (k + 3) (.slice p (dg (a * b)).length cap) := hf.mono HBD.out.size
  refine ⟨_, by rw [show (na != nb) = !(na == nb) from rfl], (hv.setCell hf' (by show k + 1 + 1 < k + 3; omega) _).setCell hf' (by show k + 1 + 1 < k + 3; omega) _, hf'.mono (by rw [HK.out]; omega), ?_⟩
  rw [HK.out]
  exact ((HB1.out.below).setCell (p := ⟨k + 1 + 1, 0, none⟩) (by show k ≤ k + 1 + 1; omega) _).setCell (p := ⟨k + 1 + 1, 1, none⟩) (by show k ≤ k + 1 + 1; omega) _
end Go.Proofs.YtajonpcmgebbbaaDoor
