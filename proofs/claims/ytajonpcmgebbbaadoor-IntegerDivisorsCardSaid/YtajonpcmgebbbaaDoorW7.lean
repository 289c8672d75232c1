/- The walks of signed integers: reading a text, products. -/
import Derived.Test.YtajonpcmgebbbaaDoorW6
namespace Go.Proofs.YtajonpcmgebbbaaDoor
open Go.RowKit

theorem szB_len (s : ByteArray) (hs : s.size ≤ 1000000) : (szB s).size ≤ 1000000 := Nat.le_trans (szB_size s) hs

theorem Nats.setCell {w : World} {v : Value} {l : List Nat} {base : Nat} (h : Nats w v l) (hf : Fresh base v) {a : Addr} (ha : a.block < base) (u : Value) : Nats (w.setCell a u) v l := by
  obtain ⟨p, cap, rfl, h1, h2, h3⟩ := h
  refine ⟨p, cap, rfl, h1, h2, fun hne => ?_⟩
  obtain ⟨b, off, e, hc⟩ := h3 hne
  refine ⟨b, off, e, fun i hi => ?_⟩
  have hb : base ≤ b := hf b (by rw [e]; rfl)
  exact (World.cell?_of_block (Below.heap_setCell _ _ _ _ (by show b ≠ a.block; omega))).trans (hc i hi)
theorem IsNat.setCell {w : World} {v : Value} {n base : Nat} (h : IsNat w v n) (hf : Fresh base v) {a : Addr} (ha : a.block < base) (u : Value) : IsNat (w.setCell a u) v n := Nats.setCell h hf ha u

theorem two_back {w : World} {b : Nat} {x0 x1 : Value} (c0 : w.cell? ⟨b, 0, none⟩ = some x0) (c1 : w.cell? ⟨b, 1, none⟩ = some x1) (X Y : Value) :
    (w.setCell ⟨b, 0, none⟩ X).cell? ⟨b, 0, none⟩ = some X ∧ ((w.setCell ⟨b, 0, none⟩ X).setCell ⟨b, 1, none⟩ Y).cell? ⟨b, 1, none⟩ = some Y := by
  have h0 : (w.setCell ⟨b, 0, none⟩ X).cell? ⟨b, 0, none⟩ = some X := World.cell?_setCell_same' _ _ _ (by rw [c0]; rfl)
  refine ⟨h0, World.cell?_setCell_same' _ _ _ ?_⟩
  have : (w.setCell ⟨b, 0, none⟩ X).cell? ⟨b, 1, none⟩ = some x1 := by go_cell
  rw [this]; rfl

set_option maxHeartbeats 400000 in
theorem read_any (s : ByteArray) (w : World) (hs : s.size ≤ 1000000) (hc : chk s.data.toList = 0) :
    Calls Tryd.prog 28 #[.string s] w fun e W' => ∃ v, e = .returned (.agg #[.bool (isNeg s.data.toList), v]) ∧ IsNat W' v (natOf (szL s.data.toList)) ∧ Fresh w.heap.size v ∧ Below w.heap.size w W' := by
  have hd := chk_dig hc
  clear hc
  have c := fun w => readNatural_any (szB s) w (szB_len s hs) (by rw [szB_data]; exact hd)
  rw [szB_data] at c
  have C := Lib.hid c; clear c hd
  generalize natOf (szL s.data.toList) = n at *
  have k0 := cell_two_new w (.bool false) (.slice none 0 0) 46
  go_enter Tryd.func28, Tryd.ntmps28
  go_wp2_with fail
  refine (isNegative_any s _).mono ?_
  rintro e w' ⟨rfl, rfl⟩
  go_wp2_with fail
  refine (sizeText_any s _ (by unfold maxLen; omega)).mono ?_
  rintro e w' ⟨rfl, rfl⟩
  go_wp2_with fail
  refine (C.out _).mono ?_
  rintro e w1 ⟨v, rfl, hv, hf, hb⟩
  clear C
  obtain ⟨p, cap, hv1, _⟩ := id hv
  subst hv1
  have c0 : w1.cell? ⟨w.heap.size, 0, none⟩ = some (.bool false) := (hb.cell (p := ⟨w.heap.size, 0, none⟩) (by simp)).trans (by go_cell)
  have c1 : w1.cell? ⟨w.heap.size, 1, none⟩ = some (.slice none 0 0) := (hb.cell (p := ⟨w.heap.size, 1, none⟩) (by simp)).trans (by go_cell)
  have f0 : w1.frozen? ⟨w.heap.size, 0, none⟩ = false := (hb.frozen (p := ⟨w.heap.size, 0, none⟩) (by simp)).trans (by simp [go_sem])
  have f1 : w1.frozen? ⟨w.heap.size, 1, none⟩ = false := (hb.frozen (p := ⟨w.heap.size, 1, none⟩) (by simp)).trans (by simp [go_sem])
  have HV := Lib.hid (And.intro hv (And.intro hf hb)); clear hv hf hb
  clear k0
  have hback := two_back c0 c1 (.bool (isNeg s.data.toList)) (.slice p (dg n).length cap)
  obtain ⟨b0, b1⟩ := hback
  go_wp2
  refine bodyPost_ret (v := .agg #[.bool (isNeg s.data.toList), .slice p (dg n).length cap]) (by simp [results, Tryd.results28, go_sem, b0, b1]) rfl ?_
  refine ⟨_, rfl, ?_⟩
  obtain ⟨hv, hf, hb⟩ := HV.out
  have hf' : Fresh (w.heap.size + 1) (.slice p (dg n).length cap) := hf.mono (by simp)
  refine ⟨(hv.setCell hf' (Nat.lt_succ_self _) _).setCell hf' (Nat.lt_succ_self _) _, hf'.mono (by omega), ?_⟩
  exact ((((Below.refl _ w).alloc (Nat.le_refl _) _).trans (hb.mono (by simp))).setCell (p := ⟨w.heap.size, 0, none⟩) (Nat.le_refl _) _).setCell (p := ⟨w.heap.size, 1, none⟩) (Nat.le_refl _) _
end Go.Proofs.YtajonpcmgebbbaaDoor
