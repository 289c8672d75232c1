/- Parts of the proof of the text YtmafghdgmdbpnaaGreatDoorQY30. -/
import Derived.Test.YtmafghdgmdbpnaaGreatDoorQY1
import Derived.Test.YtmafghdgmdbpnaaGreatDoorQY20
set_option linter.all false
set_option maxRecDepth 100000
set_option maxHeartbeats 8000000
namespace Go.Proofs.YtmafghdgmdbpnaaGreatDoor.R
open Go.RowKit
theorem chk_strB (z : Int) : chk (strB z).data.toList = 0 ↔ z.natAbs < lim := by
 constructor
 · intro h
   have h1 := nat_lim h
   rwa [← szL_valAbs, strB_val] at h1
 · exact strB_chk
theorem result_any (neg : Bool) (v : Value) (n : Nat) (w : World) (h : IsNat w v n) (hn : (dg n).length ≤ 10000) :
   Calls Tryz.prog 121 #[.agg #[.bool neg, v]] w fun e W' => e = .returned (.tuple #[.string (resB (sgnZ neg n)), .int .i64 (resE (sgnZ neg n))]) ∧ Below w.heap.size w W' := by
 have cw := fun W (hW : Below w.heap.size w W) => write_any neg v n W (h.next hW) hn
 have hl : (strB (sgnZ neg n)).size ≤ maxLen := by
   rw [strB_len]
   by_cases h0 : n = 0
   · subst h0
     have : sgnZ neg 0 = 0 := sgn_zero neg
     rw [this]; decide +kernel
   · have hp := dg_len_pos h0
     have hd := (nDigits_le_iff n (6 * (dg n).length) (by omega)).2 (by rw [← B_pow6]; exact (dg_length_le n _).1 (Nat.le_refl _))
     rw [itoa_sgn neg h0, List.length_append, Lib.decDigits_length]
     have hs : (signT neg).length ≤ 1 := by cases neg <;> simp [signT]
     unfold maxLen
     omega
 have cc := fun W => refCheck_any (strB (sgnZ neg n)) W hl
 obtain ⟨p, cap, rfl⟩ := h.shape
 have C := Lib.hid (And.intro cw cc)
 have hk := chk_strB (sgnZ neg n)
 by_cases hb : (sgnZ neg n).natAbs < lim
 · have e1 : resB (sgnZ neg n) = strB (sgnZ neg n) := if_pos hb
   have e2 : resE (sgnZ neg n) = 0 := if_pos hb
   rw [e1, e2]
   rw [hk.2 hb] at C
   clear cw cc hk hb e1 e2 h hl
   generalize strB (sgnZ neg n) = s at *
   generalize (dg n).length = l at *
   go_enter Tryz.func121, Tryz.ntmps121
   go_wp2_with fail
   refine (C.out.1 _ ((Below.refl _ _).alloc (Nat.le_refl _) _)).mono ?_
   rintro e w1 ⟨rfl, hb1⟩
   have HB := Lib.hid (((Below.refl _ w).alloc (Nat.le_refl _) _).trans (hb1.mono (by simp)))
   clear hb1
   go_wp2_with fail
   refine (C.out.2 _).mono ?_
   rintro e w' ⟨rfl, rfl⟩
   go_wp2
   go_ret2
   exact ⟨rfl, HB.out⟩
 · have e1 : resB (sgnZ neg n) = ⟨#[]⟩ := if_neg hb
   have e2 : resE (sgnZ neg n) = 4 := if_neg hb
   rw [e1, e2]
   have hne : (chk (strB (sgnZ neg n)).data.toList != 0) = true := by rw [bne_iff_ne]; exact fun e => hb (hk.1 e)
   clear cw cc hk hb e1 e2 h hl
   generalize strB (sgnZ neg n) = s at *
   generalize chk s.data.toList = c at *
   generalize (dg n).length = l at *
   go_enter Tryz.func121, Tryz.ntmps121
   go_wp2_with fail
   refine (C.out.1 _ ((Below.refl _ _).alloc (Nat.le_refl _) _)).mono ?_
   rintro e w1 ⟨rfl, hb1⟩
   have HB := Lib.hid (((Below.refl _ w).alloc (Nat.le_refl _) _).trans (hb1.mono (by simp)))
   clear hb1
   go_wp2_with fail
   refine (C.out.2 _).mono ?_
   rintro e w' ⟨rfl, rfl⟩
   go_wp2
   go_ret2
   exact ⟨rfl, HB.out⟩
theorem alloc_drew_cell {w : World} {a : Addr} {o : Obj} {u : Value} (h : w.cell? a = some u) : (w.alloc o).drew.cell? a = some u :=
 (World.cell?_of_block (w := w) (Below.heap_alloc w o _ (World.block_lt_of_cell? w a h))).trans h
theorem alloc_cell {w : World} {a : Addr} {o : Obj} {u : Value} (h : w.cell? a = some u) : (w.alloc o).cell? a = some u :=
 (World.cell?_of_block (w := w) (Below.heap_alloc w o _ (World.block_lt_of_cell? w a h))).trans h
structure OB (w : World) (k o : Nat) (ng : Bool) (V : Value) (n : Nat) (W : World) : Prop where
 p0 : W.cell? ⟨o, 0, none⟩ = some (.bool ng)
 p1 : W.cell? ⟨o, 1, none⟩ = some V
 g0 : W.frozen? ⟨o, 0, none⟩ = false
 r0 : ∃ u, W.cell? ⟨k + 1 + 1, 0, none⟩ = some u
 r1 : ∃ u, W.cell? ⟨k + 1 + 1, 1, none⟩ = some u
 f0 : W.frozen? ⟨k + 1 + 1, 0, none⟩ = false
 f1 : W.frozen? ⟨k + 1 + 1, 1, none⟩ = false
 ho : k + 3 ≤ o
 nat : IsNat W V n
 fr : Fresh (k + 3) V
 bel : Below k w W
theorem OB.alloc {w w1 : World} {k : Nat} {ng : Bool} {V x0 x1 y0 y1 z0 z1 : Value} {n : Nat} {T : TypeId} (h : Boxes w k x0 x1 y0 y1 z0 z1 w1) (hn : IsNat w1 V n) (hf : Fresh (k + 3) V) : OB w k w1.heap.size ng V n (w1.alloc (.cells #[.bool ng, V] T)) := by
 have hs := h.size
 have ha : Below w1.heap.size w1 (w1.alloc (.cells #[.bool ng, V] T)) := (Below.refl _ _).alloc (Nat.le_refl _) _
 exact ⟨by go_cell, by go_cell, by simp [go_sem], ⟨_, alloc_cell h.c5⟩, ⟨_, alloc_cell h.c6⟩, (ha.frozen (p := ⟨k + 1 + 1, 0, none⟩) (by show k + 1 + 1 < _; omega)).trans h.f5, (ha.frozen (p := ⟨k + 1 + 1, 1, none⟩) (by show k + 1 + 1 < _; omega)).trans h.f6, hs, hn.next ha, hf, h.below.trans (ha.mono (by omega))⟩
theorem frozen_set (w : World) (p q : Addr) (u : Value) : (w.setCell p u).frozen? q = w.frozen? q := by simp [go_sem]
theorem OB.set {w w1 : World} {k o : Nat} {ng : Bool} {V x0 x1 y0 y1 z0 z1 u0 u1 : Value} {n : Nat} (h : Boxes w k x0 x1 y0 y1 z0 z1 w1) (h0 : w1.cell? ⟨o, 0, none⟩ = some u0) (h1 : w1.cell? ⟨o, 1, none⟩ = some u1) (hfz : w1.frozen? ⟨o, 0, none⟩ = false) (ho : k + 3 ≤ o) (hn : IsNat w1 V n) (hf : Fresh (o + 1) V) :
   OB w k o ng V n ((w1.setCell ⟨o, 0, none⟩ (.bool ng)).setCell ⟨o, 1, none⟩ V) := by
 have hs := h.size
 obtain ⟨b0, b1⟩ := two_back h0 h1 (.bool ng) V
 have q0 : ((w1.setCell ⟨o, 0, none⟩ (.bool ng)).setCell ⟨o, 1, none⟩ V).cell? ⟨o, 0, none⟩ = some (.bool ng) := by go_cell
 refine ⟨q0, b1, by rw [frozen_set, frozen_set]; exact hfz, ⟨_, far2 (by omega) h.c5⟩, ⟨_, far2 (by omega) h.c6⟩, by rw [frozen_set, frozen_set]; exact h.f5, by rw [frozen_set, frozen_set]; exact h.f6, ho, (hn.setCell hf (by show o < o + 1; omega) _).setCell hf (by show o < o + 1; omega) _, hf.mono (by omega), (h.below.setCell (p := ⟨o, 0, none⟩) (by show k ≤ o; omega) _).setCell (p := ⟨o, 1, none⟩) (by show k ≤ o; omega) _⟩
theorem IsNat.any0 {w W : World} {v : Value} (h : IsNat w v 0) : IsNat W v 0 := by
 obtain ⟨p, cap, e, h1, h2, _⟩ := h
 exact ⟨p, cap, e, h1, h2, fun h => absurd dg_zero h⟩
theorem mul_any (na nb : Bool) (va vb : Value) (a b : Nat) (w : World) (ha : IsNat w va a) (hb : IsNat w vb b) (hla : (dg a).length ≤ 100000) (hlb : (dg b).length ≤ 100000) :
   Calls Tryz.prog 124 #[.agg #[.bool na, va], .agg #[.bool nb, vb]] w fun e W' => ∃ neg v, e = .returned (.agg #[.bool neg, v]) ∧ IsNat W' v (a * b) ∧ sgnZ neg (a * b) = sgnZ na a * sgnZ nb b ∧ Fresh w.heap.size v ∧ Below w.heap.size w W' := by
 have cp : ∀ W, Below w.heap.size w W → Calls Tryz.prog 138 #[va, vb] W fun e W' => ∃ v, e = .returned v ∧ IsNat W' v (a * b) ∧ Fresh W.heap.size v ∧ Below W.heap.size W W' := fun W hW => by
   have := times_any va vb (dg a) (dg b) W (Nats.next ha hW) (Nats.next hb hW) (dg_Dig a) (dg_Dig b) hla hlb
   rwa [toN_dg, toN_dg] at this
 obtain ⟨pa, ca, rfl⟩ := ha.shape
 obtain ⟨pb, cb, rfl⟩ := hb.shape
 have CP := Lib.hid cp; clear cp ha hb hla hlb
 generalize (dg a).length = la at *
 generalize (dg b).length = lb at *
 go_enter Tryz.func124, Tryz.ntmps124
 go_wp2
 have hbx := boxes_new w (.bool na) (.slice pa la ca) (.bool nb) (.slice pb lb cb) (.bool false) (.slice none 0 0) 125
 generalize ((w.alloc (.cells #[.bool na, .slice pa la ca] 125)).alloc (.cells #[.bool nb, .slice pb lb cb] 125)).alloc (.cells #[.bool false, .slice none 0 0] 125) = W0 at *
 generalize hk : w.heap.size = k at *
 have HK := Lib.hid hk; clear hk
 have HBX := Lib.hid hbx
 have HBD := Lib.hid hbx.drew
 have HBA := Lib.hid (hbx.next ((Below.refl _ W0).alloc (Nat.le_refl _) (.cells #[.bool false, .slice none 0 0] 125))).drew
 clear hbx
 obtain ⟨c1, c2, c3, c4, _, _, _, _, _, _⟩ := HBX.out
 have hs0 : k + 3 ≤ W0.heap.size := HBX.out.size
 go_region_held3 (fun w' => w'.cell? ⟨k, 0, none⟩ = some (.bool na) ∧ w'.cell? ⟨k, 1, none⟩ = some (.slice pa la ca) ∧ w'.cell? ⟨k + 1, 0, none⟩ = some (.bool nb) ∧ w'.cell? ⟨k + 1, 1, none⟩ = some (.slice pb lb cb))
   (first | (go_keep; done) | (exact ⟨alloc_drew_cell c1, alloc_drew_cell c2, alloc_drew_cell c3, alloc_drew_cell c4⟩) | (exact ⟨alloc_cell e1, alloc_cell e2, alloc_cell e3, alloc_cell e4⟩) | (exact ⟨alloc_drew_cell e1, alloc_drew_cell e2, alloc_drew_cell e3, alloc_drew_cell e4⟩) | (refine ⟨?_, ?_, ?_, ?_⟩ <;> (first | (exact far2 (by omega) (by assumption)) | (exact far2 (by omega) (alloc_cell (by assumption))) | (exact far2 (by omega) (alloc_drew_cell (by assumption))))))
   (first
     | (go_at_call 138; with_reducible refine (CP.out _ HBA.out.below).mono ?_; rintro e w1 ⟨v, rfl, hv, hf, hb1⟩; obtain ⟨p, cap, rfl⟩ := hv.shape; have HB1 := Lib.hid (HBA.out.next hb1); have z0 : w1.cell? ⟨W0.heap.size, 0, none⟩ = some (.bool false) := (hb1.cell (p := ⟨W0.heap.size, 0, none⟩) (by simp)).trans (by go_cell); have z1 : w1.cell? ⟨W0.heap.size, 1, none⟩ = some (.slice none 0 0) := (hb1.cell (p := ⟨W0.heap.size, 1, none⟩) (by simp)).trans (by go_cell); have y0 : w1.frozen? ⟨W0.heap.size, 0, none⟩ = false := (hb1.frozen (p := ⟨W0.heap.size, 0, none⟩) (by simp)).trans (by simp [go_sem]); have y1 : w1.frozen? ⟨W0.heap.size, 1, none⟩ = false := (hb1.frozen (p := ⟨W0.heap.size, 1, none⟩) (by simp)).trans (by simp [go_sem]); have HV := Lib.hid (And.intro hv (And.intro hf hb1)); clear hv hf hb1; obtain ⟨e1, e2, e3, e4, e5, e6, e7, e8, hsz, _⟩ := HB1.out)
     | (go_at_call 138; with_reducible refine (CP.out _ HBD.out.below).mono ?_; rintro e w1 ⟨v, rfl, hv, hf, hb1⟩; obtain ⟨p, cap, rfl⟩ := hv.shape; have HB1 := Lib.hid (HBD.out.next hb1); have HV := Lib.hid (And.intro hv (And.intro hf hb1)); clear hv hf hb1; obtain ⟨e1, e2, e3, e4, e5, e6, e7, e8, hsz, _⟩ := HB1.out))
 · have HOB := Lib.hid (OB.alloc (ng := !(na == nb)) (T := 125) HB1.out HV.out.1 (HV.out.2.1.mono hs0))
   clear e1 e2 e3 e4 e5 e6 e7 e8 hsz HB1 HV c1 c2 c3 c4 HBX HBD HBA hs0 CP
   rename_i hHeld
   clear hHeld
   generalize w1.alloc (.cells #[.bool (!(na == nb)), .slice p (dg (a * b)).length cap] 125) = W2 at *
   generalize w1.heap.size = o at *
   obtain ⟨p0, p1, g0, ⟨u0, r0⟩, ⟨u1, r1⟩, f0, f1, ho, hnat, hfr, hbel⟩ := HOB.out
   have hok : k + 1 + 1 ≠ o := by omega
   have HX := Lib.hid (And.intro hnat (And.intro hfr (And.intro hbel ho)))
   clear hnat hfr hbel HOB
   by_cases hz : a * b = 0
   · have hl : (dg (a * b)).length = 0 := by rw [hz, dg_zero]; rfl
     rw [hl] at p1 HX ⊢
     have HZ := Lib.hid hz
     have q0 : (W2.setCell ⟨o, 0, none⟩ (.bool false)).cell? ⟨o, 0, none⟩ = some (.bool false) := World.cell?_setCell_same' _ _ _ (by rw [p0]; rfl)
     have q1 : (W2.setCell ⟨o, 0, none⟩ (.bool false)).cell? ⟨o, 1, none⟩ = some (.slice p 0 cap) := by go_cell
     have s0 : (W2.setCell ⟨o, 0, none⟩ (.bool false)).cell? ⟨k + 1 + 1, 0, none⟩ = some u0 := (World.cell?_of_block (Below.heap_setCell _ _ _ _ (by show k + 1 + 1 ≠ o; exact hok))).trans r0
     have s1 : (W2.setCell ⟨o, 0, none⟩ (.bool false)).cell? ⟨k + 1 + 1, 1, none⟩ = some u1 := (World.cell?_of_block (Below.heap_setCell _ _ _ _ (by show k + 1 + 1 ≠ o; exact hok))).trans r1
     have f2 : (W2.setCell ⟨o, 0, none⟩ (.bool false)).frozen? ⟨k + 1 + 1, 0, none⟩ = false := by rw [frozen_set]; exact f0
     have f3 : (W2.setCell ⟨o, 0, none⟩ (.bool false)).frozen? ⟨k + 1 + 1, 1, none⟩ = false := by rw [frozen_set]; exact f1
     obtain ⟨b0, b1⟩ := two_back s0 s1 (.bool false) (.slice p 0 cap)
     clear hz hl r0 r1
     go_wp2
     refine bodyPost_ret (v := .agg #[.bool false, .slice p 0 cap]) (by simp [results, Tryz.results124, go_sem, b0, b1]) rfl ?_
     obtain ⟨hn, hf, hb, hoo⟩ := HX.out
     rw [HZ.out] at hn ⊢
     refine ⟨false, _, rfl, hn.any0, ?_, hf.mono (by rw [HK.out]; omega), ?_⟩
     · have := HZ.out
       rcases Nat.mul_eq_zero.1 this with rfl | rfl
       · rw [sgn_zero, sgn_zero, Int.zero_mul]
       · rw [sgn_zero, sgn_zero, Int.mul_zero]
     · rw [HK.out]
       exact ((hb.setCell (p := ⟨o, 0, none⟩) (by show k ≤ o; omega) _).setCell (p := ⟨k + 1 + 1, 0, none⟩) (by show k ≤ k + 1 + 1; omega) _).setCell (p := ⟨k + 1 + 1, 1, none⟩) (by show k ≤ k + 1 + 1; omega) _
   · have hl : (((dg (a * b)).length : Int) == 0) = false := by rw [beq_eq_false_iff_ne]; have := dg_len_pos hz; omega
     obtain ⟨b0, b1⟩ := two_back r0 r1 (.bool (!(na == nb))) (.slice p (dg (a * b)).length cap)
     clear hz
     go_wp2
     refine bodyPost_ret (v := .agg #[.bool (!(na == nb)), .slice p (dg (a * b)).length cap]) (by simp [results, Tryz.results124, go_sem, b0, b1]) rfl ?_
     obtain ⟨hn, hf, hb, hoo⟩ := HX.out
     refine ⟨_, _, rfl, (hn.setCell hf (by show k + 1 + 1 < k + 3; omega) _).setCell hf (by show k + 1 + 1 < k + 3; omega) _, ?_, hf.mono (by rw [HK.out]; omega), ?_⟩
     · exact sgn_mul na nb a b
     · rw [HK.out]
       exact (hb.setCell (p := ⟨k + 1 + 1, 0, none⟩) (by show k ≤ k + 1 + 1; omega) _).setCell (p := ⟨k + 1 + 1, 1, none⟩) (by show k ≤ k + 1 + 1; omega) _
 · have HOB := Lib.hid (OB.set (ng := !(na == nb)) HB1.out z0 z1 y0 hs0 HV.out.1 (HV.out.2.1.mono (by simp)))
   clear e1 e2 e3 e4 e5 e6 e7 e8 hsz HB1 HV c1 c2 c3 c4 HBX HBD HBA CP z0 z1 y0 y1
   rename_i hHeld
   clear hHeld
   generalize hsz0 : W0.heap.size = o at *
   generalize (w1.setCell ⟨o, 0, none⟩ (.bool (!(na == nb)))).setCell ⟨o, 1, none⟩ (.slice p (dg (a * b)).length cap) = W2 at *
   obtain ⟨p0, p1, g0, ⟨u0, r0⟩, ⟨u1, r1⟩, f0, f1, ho, hnat, hfr, hbel⟩ := HOB.out
   have hok : k + 1 + 1 ≠ o := by omega
   have HX := Lib.hid (And.intro hnat (And.intro hfr (And.intro hbel ho)))
   clear hnat hfr hbel HOB
   by_cases hz : a * b = 0
   · have hl : (dg (a * b)).length = 0 := by rw [hz, dg_zero]; rfl
     rw [hl] at p1 HX ⊢
     have HZ := Lib.hid hz
     have q0 : (W2.setCell ⟨o, 0, none⟩ (.bool false)).cell? ⟨o, 0, none⟩ = some (.bool false) := World.cell?_setCell_same' _ _ _ (by rw [p0]; rfl)
     have q1 : (W2.setCell ⟨o, 0, none⟩ (.bool false)).cell? ⟨o, 1, none⟩ = some (.slice p 0 cap) := by go_cell
     have s0 : (W2.setCell ⟨o, 0, none⟩ (.bool false)).cell? ⟨k + 1 + 1, 0, none⟩ = some u0 := (World.cell?_of_block (Below.heap_setCell _ _ _ _ (by show k + 1 + 1 ≠ o; exact hok))).trans r0
     have s1 : (W2.setCell ⟨o, 0, none⟩ (.bool false)).cell? ⟨k + 1 + 1, 1, none⟩ = some u1 := (World.cell?_of_block (Below.heap_setCell _ _ _ _ (by show k + 1 + 1 ≠ o; exact hok))).trans r1
     have f2 : (W2.setCell ⟨o, 0, none⟩ (.bool false)).frozen? ⟨k + 1 + 1, 0, none⟩ = false := by rw [frozen_set]; exact f0
     have f3 : (W2.setCell ⟨o, 0, none⟩ (.bool false)).frozen? ⟨k + 1 + 1, 1, none⟩ = false := by rw [frozen_set]; exact f1
     obtain ⟨b0, b1⟩ := two_back s0 s1 (.bool false) (.slice p 0 cap)
     clear hz hl r0 r1
     go_wp2
     refine bodyPost_ret (v := .agg #[.bool false, .slice p 0 cap]) (by simp [results, Tryz.results124, go_sem, b0, b1]) rfl ?_
     obtain ⟨hn, hf, hb, hoo⟩ := HX.out
     rw [HZ.out] at hn ⊢
     refine ⟨false, _, rfl, hn.any0, ?_, hf.mono (by rw [HK.out]; omega), ?_⟩
     · have := HZ.out
       rcases Nat.mul_eq_zero.1 this with rfl | rfl
       · rw [sgn_zero, sgn_zero, Int.zero_mul]
       · rw [sgn_zero, sgn_zero, Int.mul_zero]
     · rw [HK.out]
       exact ((hb.setCell (p := ⟨o, 0, none⟩) (by show k ≤ o; omega) _).setCell (p := ⟨k + 1 + 1, 0, none⟩) (by show k ≤ k + 1 + 1; omega) _).setCell (p := ⟨k + 1 + 1, 1, none⟩) (by show k ≤ k + 1 + 1; omega) _
   · have hl : (((dg (a * b)).length : Int) == 0) = false := by rw [beq_eq_false_iff_ne]; have := dg_len_pos hz; omega
     obtain ⟨b0, b1⟩ := two_back r0 r1 (.bool (!(na == nb))) (.slice p (dg (a * b)).length cap)
     clear hz
     go_wp2
     refine bodyPost_ret (v := .agg #[.bool (!(na == nb)), .slice p (dg (a * b)).length cap]) (by simp [results, Tryz.results124, go_sem, b0, b1]) rfl ?_
     obtain ⟨hn, hf, hb, hoo⟩ := HX.out
     refine ⟨_, _, rfl, (hn.setCell hf (by show k + 1 + 1 < k + 3; omega) _).setCell hf (by show k + 1 + 1 < k + 3; omega) _, ?_, hf.mono (by rw [HK.out]; omega), ?_⟩
     · exact sgn_mul na nb a b
     · rw [HK.out]
       exact (hb.setCell (p := ⟨k + 1 + 1, 0, none⟩) (by show k ≤ k + 1 + 1; omega) _).setCell (p := ⟨k + 1 + 1, 1, none⟩) (by show k ≤ k + 1 + 1; omega) _
end Go.Proofs.YtmafghdgmdbpnaaGreatDoor.R
namespace Go.Proofs.YtmafghdgmdbpnaaGreatDoor.R
open Go.RowKit
theorem add_any (na nb : Bool) (va vb : Value) (a b : Nat) (w : World) (ha : IsNat w va a) (hb : IsNat w vb b) (hla : (dg a).length ≤ 100000) (hlb : (dg b).length ≤ 100000) :
   Calls Tryz.prog 98 #[.agg #[.bool na, va], .agg #[.bool nb, vb]] w fun e W' => ∃ neg n v, e = .returned (.agg #[.bool neg, v]) ∧ IsNat W' v n ∧ (sgnZ neg n = sgnZ na a + sgnZ nb b ∧ n ≤ a + b) ∧ Fresh w.heap.size v ∧ Below w.heap.size w W' := by
 obtain ⟨pa, ca, rfl⟩ := ha.shape
 obtain ⟨pb, cb, rfl⟩ := hb.shape
 by_cases hs : na = nb
 · have cp : ∀ W, Below w.heap.size w W → Calls Tryz.prog 127 #[.slice pa (dg a).length ca, .slice pb (dg b).length cb] W fun e W' => ∃ v, e = .returned v ∧ IsNat W' v (a + b) ∧ Fresh W.heap.size v ∧ Below W.heap.size W W' := fun W hW => by
     have := plus_any _ _ (dg a) (dg b) W (Nats.next ha hW) (Nats.next hb hW) (dg_Dig a) (dg_Dig b) (by omega) (by omega)
     rwa [toN_dg, toN_dg] at this
   have CP := Lib.hid cp; clear cp ha hb hla hlb
   have HZ : Hid (sgnZ na (a + b) = sgnZ na a + sgnZ nb b ∧ a + b ≤ a + b) := ⟨by rw [← hs]; exact sgn_add_same na a b, Nat.le_refl _⟩
   have hq : (na == nb) = true := by simpa using hs
   clear hs
   generalize (dg a).length = la at *
   generalize (dg b).length = lb at *
   go_enter Tryz.func98, Tryz.ntmps98
   go_wp2
   have hbx := boxes_new w (.bool na) (.slice pa la ca) (.bool nb) (.slice pb lb cb) (.bool false) (.slice none 0 0) 125
   generalize ((w.alloc (.cells #[.bool na, .slice pa la ca] 125)).alloc (.cells #[.bool nb, .slice pb lb cb] 125)).alloc (.cells #[.bool false, .slice none 0 0] 125) = W0 at *
   generalize hk : w.heap.size = k at *
   have HK := Lib.hid hk; clear hk
   have HBD := Lib.hid hbx.drew
   clear hbx
   obtain ⟨c1, c2, c3, c4, _, _, _, _, _, _⟩ := HBD.out
   go_region_held3 (fun w' => w'.cell? ⟨k, 0, none⟩ = some (.bool na) ∧ w'.cell? ⟨k, 1, none⟩ = some (.slice pa la ca) ∧ w'.cell? ⟨k + 1, 0, none⟩ = some (.bool nb) ∧ w'.cell? ⟨k + 1, 1, none⟩ = some (.slice pb lb cb)) (first | (go_keep; done) | ((try dsimp only); refine ⟨?_, ?_, ?_, ?_⟩ <;> (first | (exact far2 (by omega) (by assumption)) | (go_keep; done))))
     (first | (go_at_call 127; refine (CP.out _ HBD.out.below).mono ?_; rintro e w1 ⟨v, rfl, hv, hf, hb1⟩; obtain ⟨p, cap, rfl⟩ := hv.shape; have HB1 := Lib.hid (HBD.out.next hb1); have HV := Lib.hid (And.intro hv (And.intro hf hb1)); clear hv hf hb1; obtain ⟨e1, e2, e3, e4, e5, e6, e7, e8, _, _⟩ := HB1.out))
   obtain ⟨g5, g6⟩ := two_back e5 e6 (.bool na) (.slice p (dg (a + b)).length cap)
   go_wp2
   refine bodyPost_ret (v := .agg #[.bool na, .slice p (dg (a + b)).length cap]) (by simp [results, Tryz.results98, go_sem, g5, g6]) rfl ?_
   obtain ⟨hv, hf, hb1⟩ := HV.out
   have hf' : Fresh (k + 3) (.slice p (dg (a + b)).length cap) := hf.mono HBD.out.size
   refine ⟨_, _, _, rfl, (hv.setCell hf' (by show k + 1 + 1 < k + 3; omega) _).setCell hf' (by show k + 1 + 1 < k + 3; omega) _, HZ.out, hf'.mono (by rw [HK.out]; omega), ?_⟩
   rw [HK.out]
   exact ((HB1.out.below).setCell (p := ⟨k + 1 + 1, 0, none⟩) (by show k ≤ k + 1 + 1; omega) _).setCell (p := ⟨k + 1 + 1, 1, none⟩) (by show k ≤ k + 1 + 1; omega) _
 · have hq : (na == nb) = false := by simpa using hs
   have hbx := boxes_new w (.bool na) (.slice pa (dg a).length ca) (.bool nb) (.slice pb (dg b).length cb) (.bool false) (.slice none 0 0) 125
   have hfz := fz_new w (.bool na) (.slice pa (dg a).length ca) (.bool nb) (.slice pb (dg b).length cb) (.bool false) (.slice none 0 0) 125
   have cc := size_any (.slice pa (dg a).length ca) (.slice pb (dg b).length cb) a b _ (ha.next hbx.below) (hb.next hbx.below)
   have CC := Lib.hid cc; clear cc
   by_cases hle : b ≤ a
   · have hcmp : 0 ≤ cmpN a b := by
       rcases Nat.lt_or_eq_of_le hle with h | h
       · rw [cmpN_gt h]; decide
       · rw [cmpN_eq h.symm]; decide
     have cp : ∀ W, Below w.heap.size w W → Calls Tryz.prog 129 #[.slice pa (dg a).length ca, .slice pb (dg b).length cb] W fun e W' => ∃ v, e = .returned v ∧ IsNat W' v (a - b) ∧ Fresh W.heap.size v ∧ Below W.heap.size W W' := fun W hW => by
       have := minus_any _ _ (dg a) (dg b) W (Nats.next ha hW) (Nats.next hb hW) (dg_Dig a) (dg_Dig b) (by omega) (dg_len_le hle) (by rw [toN_dg, toN_dg]; exact hle)
       rw [toN_dg, toN_dg] at this
       exact this.mono fun e W' ⟨g, cap, he, hn, hg, hB⟩ => ⟨_, he, hn, fun k hk => by cases hk; exact hg, hB⟩
     have CP := Lib.hid cp; clear cp ha hb hla hlb
     have HZ : Hid (sgnZ na (a - b) = sgnZ na a + sgnZ nb b ∧ a - b ≤ a + b) := ⟨sgn_sub na nb hs a b hle, by omega⟩
     have HBX := Lib.hid (And.intro hbx hfz)
     clear hs hle hbx hfz
     generalize (dg a).length = la at *
     generalize (dg b).length = lb at *
     generalize cmpN a b = cm at *
     have hcm2 : ¬ cm < 0 := by omega
     go_enter Tryz.func98, Tryz.ntmps98
     go_wp2_with fail
     refine CC.out.mono ?_
     rintro e w' ⟨rfl, nn, rfl⟩
     clear CC
     have hbx2 := HBX.out.1.drewN nn
     clear HBX
     generalize (((w.alloc (.cells #[.bool na, .slice pa la ca] 125)).alloc (.cells #[.bool nb, .slice pb lb cb] 125)).alloc (.cells #[.bool false, .slice none 0 0] 125)).drewN nn = W0 at *
     generalize hk : w.heap.size = k at *
     have HK := Lib.hid hk; clear hk
     have HBX := Lib.hid hbx2
     obtain ⟨b1, b2, b3, b4, _, _, _, _, _, _⟩ := hbx2
     go_wp2
     clear b1 b2 b3 b4
     have HBD := Lib.hid HBX.out.drew
     have HBA := Lib.hid (HBX.out.next ((Below.refl _ W0).alloc (Nat.le_refl _) (.cells #[.bool false, .slice none 0 0] 125))).drew
     obtain ⟨c1, c2, c3, c4, _, _, _, _, _, _⟩ := HBX.out
     have hs0 : k + 3 ≤ W0.heap.size := HBX.out.size
     go_region_held3 (fun w' => w'.cell? ⟨k, 0, none⟩ = some (.bool na) ∧ w'.cell? ⟨k, 1, none⟩ = some (.slice pa la ca) ∧ w'.cell? ⟨k + 1, 0, none⟩ = some (.bool nb) ∧ w'.cell? ⟨k + 1, 1, none⟩ = some (.slice pb lb cb))
       (first | (go_keep; done) | (exact ⟨alloc_drew_cell c1, alloc_drew_cell c2, alloc_drew_cell c3, alloc_drew_cell c4⟩) | (exact ⟨alloc_cell e1, alloc_cell e2, alloc_cell e3, alloc_cell e4⟩) | (exact ⟨alloc_drew_cell e1, alloc_drew_cell e2, alloc_drew_cell e3, alloc_drew_cell e4⟩) | (refine ⟨?_, ?_, ?_, ?_⟩ <;> (first | (exact far2 (by omega) (by assumption)) | (exact far2 (by omega) (alloc_cell (by assumption))) | (exact far2 (by omega) (alloc_drew_cell (by assumption))))))
       (first
         | (go_at_call 129; with_reducible refine (CP.out _ HBA.out.below).mono ?_; rintro e w1 ⟨v, rfl, hv, hf, hb1⟩; obtain ⟨p, cap, rfl⟩ := hv.shape; have HB1 := Lib.hid (HBA.out.next hb1); have z0 : w1.cell? ⟨W0.heap.size, 0, none⟩ = some (.bool false) := (hb1.cell (p := ⟨W0.heap.size, 0, none⟩) (by simp)).trans (by go_cell); have z1 : w1.cell? ⟨W0.heap.size, 1, none⟩ = some (.slice none 0 0) := (hb1.cell (p := ⟨W0.heap.size, 1, none⟩) (by simp)).trans (by go_cell); have y0 : w1.frozen? ⟨W0.heap.size, 0, none⟩ = false := (hb1.frozen (p := ⟨W0.heap.size, 0, none⟩) (by simp)).trans (by simp [go_sem]); have y1 : w1.frozen? ⟨W0.heap.size, 1, none⟩ = false := (hb1.frozen (p := ⟨W0.heap.size, 1, none⟩) (by simp)).trans (by simp [go_sem]); have HV := Lib.hid (And.intro hv (And.intro hf hb1)); clear hv hf hb1; obtain ⟨e1, e2, e3, e4, e5, e6, e7, e8, hsz, _⟩ := HB1.out)
         | (go_at_call 129; with_reducible refine (CP.out _ HBD.out.below).mono ?_; rintro e w1 ⟨v, rfl, hv, hf, hb1⟩; obtain ⟨p, cap, rfl⟩ := hv.shape; have HB1 := Lib.hid (HBD.out.next hb1); have HV := Lib.hid (And.intro hv (And.intro hf hb1)); clear hv hf hb1; obtain ⟨e1, e2, e3, e4, e5, e6, e7, e8, hsz, _⟩ := HB1.out))
     · have HOB := Lib.hid (OB.alloc (ng := na) (T := 125) HB1.out HV.out.1 (HV.out.2.1.mono hs0))
       clear e1 e2 e3 e4 e5 e6 e7 e8 hsz HB1 HV c1 c2 c3 c4 HBX HBD HBA hs0 CP
       rename_i hHeld
       clear hHeld
       generalize w1.alloc (.cells #[.bool na, .slice p (dg (a - b)).length cap] 125) = W2 at *
       generalize w1.heap.size = o at *
       obtain ⟨p0, p1, g0, ⟨u0, r0⟩, ⟨u1, r1⟩, f0, f1, ho, hnat, hfr, hbel⟩ := HOB.out
       have hok : k + 1 + 1 ≠ o := by omega
       have HX := Lib.hid (And.intro hnat (And.intro hfr (And.intro hbel ho)))
       clear hnat hfr hbel HOB
       by_cases hz : a - b = 0
       · have hl : (dg (a - b)).length = 0 := by rw [hz, dg_zero]; rfl
         rw [hl] at p1 HX ⊢
         have HZ2 := Lib.hid hz
         have q0 : (W2.setCell ⟨o, 0, none⟩ (.bool false)).cell? ⟨o, 0, none⟩ = some (.bool false) := World.cell?_setCell_same' _ _ _ (by rw [p0]; rfl)
         have q1 : (W2.setCell ⟨o, 0, none⟩ (.bool false)).cell? ⟨o, 1, none⟩ = some (.slice p 0 cap) := by go_cell
         have s0 : (W2.setCell ⟨o, 0, none⟩ (.bool false)).cell? ⟨k + 1 + 1, 0, none⟩ = some u0 := (World.cell?_of_block (Below.heap_setCell _ _ _ _ (by show k + 1 + 1 ≠ o; exact hok))).trans r0
         have s1 : (W2.setCell ⟨o, 0, none⟩ (.bool false)).cell? ⟨k + 1 + 1, 1, none⟩ = some u1 := (World.cell?_of_block (Below.heap_setCell _ _ _ _ (by show k + 1 + 1 ≠ o; exact hok))).trans r1
         have f2 : (W2.setCell ⟨o, 0, none⟩ (.bool false)).frozen? ⟨k + 1 + 1, 0, none⟩ = false := by rw [frozen_set]; exact f0
         have f3 : (W2.setCell ⟨o, 0, none⟩ (.bool false)).frozen? ⟨k + 1 + 1, 1, none⟩ = false := by rw [frozen_set]; exact f1
         obtain ⟨b0, b1⟩ := two_back s0 s1 (.bool false) (.slice p 0 cap)
         clear hz hl r0 r1
         go_wp2
         refine bodyPost_ret (v := .agg #[.bool false, .slice p 0 cap]) (by simp [results, Tryz.results98, go_sem, b0, b1]) rfl ?_
         obtain ⟨hn, hf, hb, hoo⟩ := HX.out
         rw [HZ2.out] at hn
         refine ⟨false, 0, _, rfl, hn.any0, ?_, hf.mono (by rw [HK.out]; omega), ?_⟩
         · have h1 := HZ.out
           rw [HZ2.out, sgn_zero] at h1
           exact ⟨by rw [sgn_zero]; exact h1.1, by omega⟩
         · rw [HK.out]
           exact ((hb.setCell (p := ⟨o, 0, none⟩) (by show k ≤ o; omega) _).setCell (p := ⟨k + 1 + 1, 0, none⟩) (by show k ≤ k + 1 + 1; omega) _).setCell (p := ⟨k + 1 + 1, 1, none⟩) (by show k ≤ k + 1 + 1; omega) _
       · have hl : (((dg (a - b)).length : Int) == 0) = false := by rw [beq_eq_false_iff_ne]; have := dg_len_pos hz; omega
         obtain ⟨b0, b1⟩ := two_back r0 r1 (.bool na) (.slice p (dg (a - b)).length cap)
         clear hz
         go_wp2
         refine bodyPost_ret (v := .agg #[.bool na, .slice p (dg (a - b)).length cap]) (by simp [results, Tryz.results98, go_sem, b0, b1]) rfl ?_
         obtain ⟨hn, hf, hb, hoo⟩ := HX.out
         refine ⟨_, _, _, rfl, (hn.setCell hf (by show k + 1 + 1 < k + 3; omega) _).setCell hf (by show k + 1 + 1 < k + 3; omega) _, HZ.out, hf.mono (by rw [HK.out]; omega), ?_⟩
         rw [HK.out]
         exact (hb.setCell (p := ⟨k + 1 + 1, 0, none⟩) (by show k ≤ k + 1 + 1; omega) _).setCell (p := ⟨k + 1 + 1, 1, none⟩) (by show k ≤ k + 1 + 1; omega) _
     · have HOB := Lib.hid (OB.set (ng := na) HB1.out z0 z1 y0 hs0 HV.out.1 (HV.out.2.1.mono (by simp)))
       clear e1 e2 e3 e4 e5 e6 e7 e8 hsz HB1 HV c1 c2 c3 c4 HBX HBD HBA CP z0 z1 y0 y1
       rename_i hHeld
       clear hHeld
       generalize hsz0 : W0.heap.size = o at *
       generalize (w1.setCell ⟨o, 0, none⟩ (.bool na)).setCell ⟨o, 1, none⟩ (.slice p (dg (a - b)).length cap) = W2 at *
       obtain ⟨p0, p1, g0, ⟨u0, r0⟩, ⟨u1, r1⟩, f0, f1, ho, hnat, hfr, hbel⟩ := HOB.out
       have hok : k + 1 + 1 ≠ o := by omega
       have HX := Lib.hid (And.intro hnat (And.intro hfr (And.intro hbel ho)))
       clear hnat hfr hbel HOB
       by_cases hz : a - b = 0
       · have hl : (dg (a - b)).length = 0 := by rw [hz, dg_zero]; rfl
         rw [hl] at p1 HX ⊢
         have HZ2 := Lib.hid hz
         have q0 : (W2.setCell ⟨o, 0, none⟩ (.bool false)).cell? ⟨o, 0, none⟩ = some (.bool false) := World.cell?_setCell_same' _ _ _ (by rw [p0]; rfl)
         have q1 : (W2.setCell ⟨o, 0, none⟩ (.bool false)).cell? ⟨o, 1, none⟩ = some (.slice p 0 cap) := by go_cell
         have s0 : (W2.setCell ⟨o, 0, none⟩ (.bool false)).cell? ⟨k + 1 + 1, 0, none⟩ = some u0 := (World.cell?_of_block (Below.heap_setCell _ _ _ _ (by show k + 1 + 1 ≠ o; exact hok))).trans r0
         have s1 : (W2.setCell ⟨o, 0, none⟩ (.bool false)).cell? ⟨k + 1 + 1, 1, none⟩ = some u1 := (World.cell?_of_block (Below.heap_setCell _ _ _ _ (by show k + 1 + 1 ≠ o; exact hok))).trans r1
         have f2 : (W2.setCell ⟨o, 0, none⟩ (.bool false)).frozen? ⟨k + 1 + 1, 0, none⟩ = false := by rw [frozen_set]; exact f0
         have f3 : (W2.setCell ⟨o, 0, none⟩ (.bool false)).frozen? ⟨k + 1 + 1, 1, none⟩ = false := by rw [frozen_set]; exact f1
         obtain ⟨b0, b1⟩ := two_back s0 s1 (.bool false) (.slice p 0 cap)
         clear hz hl r0 r1
         go_wp2
         refine bodyPost_ret (v := .agg #[.bool false, .slice p 0 cap]) (by simp [results, Tryz.results98, go_sem, b0, b1]) rfl ?_
         obtain ⟨hn, hf, hb, hoo⟩ := HX.out
         rw [HZ2.out] at hn
         refine ⟨false, 0, _, rfl, hn.any0, ?_, hf.mono (by rw [HK.out]; omega), ?_⟩
         · have h1 := HZ.out
           rw [HZ2.out, sgn_zero] at h1
           exact ⟨by rw [sgn_zero]; exact h1.1, by omega⟩
         · rw [HK.out]
           exact ((hb.setCell (p := ⟨o, 0, none⟩) (by show k ≤ o; omega) _).setCell (p := ⟨k + 1 + 1, 0, none⟩) (by show k ≤ k + 1 + 1; omega) _).setCell (p := ⟨k + 1 + 1, 1, none⟩) (by show k ≤ k + 1 + 1; omega) _
       · have hl : (((dg (a - b)).length : Int) == 0) = false := by rw [beq_eq_false_iff_ne]; have := dg_len_pos hz; omega
         obtain ⟨b0, b1⟩ := two_back r0 r1 (.bool na) (.slice p (dg (a - b)).length cap)
         clear hz
         go_wp2
         refine bodyPost_ret (v := .agg #[.bool na, .slice p (dg (a - b)).length cap]) (by simp [results, Tryz.results98, go_sem, b0, b1]) rfl ?_
         obtain ⟨hn, hf, hb, hoo⟩ := HX.out
         refine ⟨_, _, _, rfl, (hn.setCell hf (by show k + 1 + 1 < k + 3; omega) _).setCell hf (by show k + 1 + 1 < k + 3; omega) _, HZ.out, hf.mono (by rw [HK.out]; omega), ?_⟩
         rw [HK.out]
         exact (hb.setCell (p := ⟨k + 1 + 1, 0, none⟩) (by show k ≤ k + 1 + 1; omega) _).setCell (p := ⟨k + 1 + 1, 1, none⟩) (by show k ≤ k + 1 + 1; omega) _
   · have hcmp : cmpN a b < 0 := by rw [cmpN_lt (by omega)]; decide
     have cp : ∀ W, Below w.heap.size w W → Calls Tryz.prog 129 #[.slice pb (dg b).length cb, .slice pa (dg a).length ca] W fun e W' => ∃ v, e = .returned v ∧ IsNat W' v (b - a) ∧ Fresh W.heap.size v ∧ Below W.heap.size W W' := fun W hW => by
       have := minus_any _ _ (dg b) (dg a) W (Nats.next hb hW) (Nats.next ha hW) (dg_Dig b) (dg_Dig a) (by omega) (dg_len_le (by omega)) (by rw [toN_dg, toN_dg]; omega)
       rw [toN_dg, toN_dg] at this
       exact this.mono fun e W' ⟨g, cap, he, hn, hg, hB⟩ => ⟨_, he, hn, fun k hk => by cases hk; exact hg, hB⟩
     have CP := Lib.hid cp; clear cp ha hb hla hlb
     have HZ : Hid (sgnZ nb (b - a) = sgnZ na a + sgnZ nb b ∧ b - a ≤ a + b) := ⟨by rw [sgn_sub nb na (fun h => hs h.symm) b a (by omega), Int.add_comm], by omega⟩
     have HBX := Lib.hid (And.intro hbx hfz)
     clear hs hle hbx hfz
     generalize (dg a).length = la at *
     generalize (dg b).length = lb at *
     generalize cmpN a b = cm at *
     go_enter Tryz.func98, Tryz.ntmps98
     go_wp2_with fail
     refine CC.out.mono ?_
     rintro e w' ⟨rfl, nn, rfl⟩
     clear CC
     have hbx2 := HBX.out.1.drewN nn
     have hfz2 := HBX.out.2.drewN nn
     clear HBX
     generalize (((w.alloc (.cells #[.bool na, .slice pa la ca] 125)).alloc (.cells #[.bool nb, .slice pb lb cb] 125)).alloc (.cells #[.bool false, .slice none 0 0] 125)).drewN nn = W00 at *
     generalize hk : w.heap.size = k at *
     have HK := Lib.hid hk; clear hk
     have HBX0 := Lib.hid hbx2
     obtain ⟨b1, b2, b3, b4, _, _, _, _, _, _⟩ := hbx2
     obtain ⟨f1, f2, f3, f4⟩ := hfz2
     go_wp2
     have hsw := boxes_swap HBX0.out
     clear b1 b2 b3 b4 HBX0 f1 f2 f3 f4
     generalize (((W00.setCell ⟨k, 0, none⟩ (.bool nb)).setCell ⟨k, 1, none⟩ (.slice pb lb cb)).setCell ⟨k + 1, 0, none⟩ (.bool na)).setCell ⟨k + 1, 1, none⟩ (.slice pa la ca) = W0 at *
     have HBX := Lib.hid hsw
     clear hsw
     have HBD := Lib.hid HBX.out.drew
     have HBA := Lib.hid (HBX.out.next ((Below.refl _ W0).alloc (Nat.le_refl _) (.cells #[.bool false, .slice none 0 0] 125))).drew
     obtain ⟨c1, c2, c3, c4, _, _, _, _, _, _⟩ := HBX.out
     have hs0 : k + 3 ≤ W0.heap.size := HBX.out.size
     go_region_held3 (fun w' => w'.cell? ⟨k, 0, none⟩ = some (.bool nb) ∧ w'.cell? ⟨k, 1, none⟩ = some (.slice pb lb cb) ∧ w'.cell? ⟨k + 1, 0, none⟩ = some (.bool na) ∧ w'.cell? ⟨k + 1, 1, none⟩ = some (.slice pa la ca))
       (first | (go_keep; done) | (exact ⟨alloc_drew_cell c1, alloc_drew_cell c2, alloc_drew_cell c3, alloc_drew_cell c4⟩) | (exact ⟨alloc_cell e1, alloc_cell e2, alloc_cell e3, alloc_cell e4⟩) | (exact ⟨alloc_drew_cell e1, alloc_drew_cell e2, alloc_drew_cell e3, alloc_drew_cell e4⟩) | (refine ⟨?_, ?_, ?_, ?_⟩ <;> (first | (exact far2 (by omega) (by assumption)) | (exact far2 (by omega) (alloc_cell (by assumption))) | (exact far2 (by omega) (alloc_drew_cell (by assumption))))))
       (first
         | (go_at_call 129; with_reducible refine (CP.out _ HBA.out.below).mono ?_; rintro e w1 ⟨v, rfl, hv, hf, hb1⟩; obtain ⟨p, cap, rfl⟩ := hv.shape; have HB1 := Lib.hid (HBA.out.next hb1); have z0 : w1.cell? ⟨W0.heap.size, 0, none⟩ = some (.bool false) := (hb1.cell (p := ⟨W0.heap.size, 0, none⟩) (by simp)).trans (by go_cell); have z1 : w1.cell? ⟨W0.heap.size, 1, none⟩ = some (.slice none 0 0) := (hb1.cell (p := ⟨W0.heap.size, 1, none⟩) (by simp)).trans (by go_cell); have y0 : w1.frozen? ⟨W0.heap.size, 0, none⟩ = false := (hb1.frozen (p := ⟨W0.heap.size, 0, none⟩) (by simp)).trans (by simp [go_sem]); have y1 : w1.frozen? ⟨W0.heap.size, 1, none⟩ = false := (hb1.frozen (p := ⟨W0.heap.size, 1, none⟩) (by simp)).trans (by simp [go_sem]); have HV := Lib.hid (And.intro hv (And.intro hf hb1)); clear hv hf hb1; obtain ⟨e1, e2, e3, e4, e5, e6, e7, e8, hsz, _⟩ := HB1.out)
         | (go_at_call 129; with_reducible refine (CP.out _ HBD.out.below).mono ?_; rintro e w1 ⟨v, rfl, hv, hf, hb1⟩; obtain ⟨p, cap, rfl⟩ := hv.shape; have HB1 := Lib.hid (HBD.out.next hb1); have HV := Lib.hid (And.intro hv (And.intro hf hb1)); clear hv hf hb1; obtain ⟨e1, e2, e3, e4, e5, e6, e7, e8, hsz, _⟩ := HB1.out))
     · have HOB := Lib.hid (OB.alloc (ng := nb) (T := 125) HB1.out HV.out.1 (HV.out.2.1.mono hs0))
       clear e1 e2 e3 e4 e5 e6 e7 e8 hsz HB1 HV c1 c2 c3 c4 HBX HBD HBA hs0 CP
       rename_i hHeld
       clear hHeld
       generalize w1.alloc (.cells #[.bool nb, .slice p (dg (b - a)).length cap] 125) = W2 at *
       generalize w1.heap.size = o at *
       obtain ⟨p0, p1, g0, ⟨u0, r0⟩, ⟨u1, r1⟩, f0, f1, ho, hnat, hfr, hbel⟩ := HOB.out
       have hok : k + 1 + 1 ≠ o := by omega
       have HX := Lib.hid (And.intro hnat (And.intro hfr (And.intro hbel ho)))
       clear hnat hfr hbel HOB
       by_cases hz : b - a = 0
       · have hl : (dg (b - a)).length = 0 := by rw [hz, dg_zero]; rfl
         rw [hl] at p1 HX ⊢
         have HZ2 := Lib.hid hz
         have q0 : (W2.setCell ⟨o, 0, none⟩ (.bool false)).cell? ⟨o, 0, none⟩ = some (.bool false) := World.cell?_setCell_same' _ _ _ (by rw [p0]; rfl)
         have q1 : (W2.setCell ⟨o, 0, none⟩ (.bool false)).cell? ⟨o, 1, none⟩ = some (.slice p 0 cap) := by go_cell
         have s0 : (W2.setCell ⟨o, 0, none⟩ (.bool false)).cell? ⟨k + 1 + 1, 0, none⟩ = some u0 := (World.cell?_of_block (Below.heap_setCell _ _ _ _ (by show k + 1 + 1 ≠ o; exact hok))).trans r0
         have s1 : (W2.setCell ⟨o, 0, none⟩ (.bool false)).cell? ⟨k + 1 + 1, 1, none⟩ = some u1 := (World.cell?_of_block (Below.heap_setCell _ _ _ _ (by show k + 1 + 1 ≠ o; exact hok))).trans r1
         have f2 : (W2.setCell ⟨o, 0, none⟩ (.bool false)).frozen? ⟨k + 1 + 1, 0, none⟩ = false := by rw [frozen_set]; exact f0
         have f3 : (W2.setCell ⟨o, 0, none⟩ (.bool false)).frozen? ⟨k + 1 + 1, 1, none⟩ = false := by rw [frozen_set]; exact f1
         obtain ⟨b0, b1⟩ := two_back s0 s1 (.bool false) (.slice p 0 cap)
         clear hz hl r0 r1
         go_wp2
         refine bodyPost_ret (v := .agg #[.bool false, .slice p 0 cap]) (by simp [results, Tryz.results98, go_sem, b0, b1]) rfl ?_
         obtain ⟨hn, hf, hb, hoo⟩ := HX.out
         rw [HZ2.out] at hn
         refine ⟨false, 0, _, rfl, hn.any0, ?_, hf.mono (by rw [HK.out]; omega), ?_⟩
         · have h1 := HZ.out
           rw [HZ2.out, sgn_zero] at h1
           exact ⟨by rw [sgn_zero]; exact h1.1, by omega⟩
         · rw [HK.out]
           exact ((hb.setCell (p := ⟨o, 0, none⟩) (by show k ≤ o; omega) _).setCell (p := ⟨k + 1 + 1, 0, none⟩) (by show k ≤ k + 1 + 1; omega) _).setCell (p := ⟨k + 1 + 1, 1, none⟩) (by show k ≤ k + 1 + 1; omega) _
       · have hl : (((dg (b - a)).length : Int) == 0) = false := by rw [beq_eq_false_iff_ne]; have := dg_len_pos hz; omega
         obtain ⟨b0, b1⟩ := two_back r0 r1 (.bool nb) (.slice p (dg (b - a)).length cap)
         clear hz
         go_wp2
         refine bodyPost_ret (v := .agg #[.bool nb, .slice p (dg (b - a)).length cap]) (by simp [results, Tryz.results98, go_sem, b0, b1]) rfl ?_
         obtain ⟨hn, hf, hb, hoo⟩ := HX.out
         refine ⟨_, _, _, rfl, (hn.setCell hf (by show k + 1 + 1 < k + 3; omega) _).setCell hf (by show k + 1 + 1 < k + 3; omega) _, HZ.out, hf.mono (by rw [HK.out]; omega), ?_⟩
         rw [HK.out]
         exact (hb.setCell (p := ⟨k + 1 + 1, 0, none⟩) (by show k ≤ k + 1 + 1; omega) _).setCell (p := ⟨k + 1 + 1, 1, none⟩) (by show k ≤ k + 1 + 1; omega) _
     · have HOB := Lib.hid (OB.set (ng := nb) HB1.out z0 z1 y0 hs0 HV.out.1 (HV.out.2.1.mono (by simp)))
       clear e1 e2 e3 e4 e5 e6 e7 e8 hsz HB1 HV c1 c2 c3 c4 HBX HBD HBA CP z0 z1 y0 y1
       rename_i hHeld
       clear hHeld
       generalize hsz0 : W0.heap.size = o at *
       generalize (w1.setCell ⟨o, 0, none⟩ (.bool nb)).setCell ⟨o, 1, none⟩ (.slice p (dg (b - a)).length cap) = W2 at *
       obtain ⟨p0, p1, g0, ⟨u0, r0⟩, ⟨u1, r1⟩, f0, f1, ho, hnat, hfr, hbel⟩ := HOB.out
       have hok : k + 1 + 1 ≠ o := by omega
       have HX := Lib.hid (And.intro hnat (And.intro hfr (And.intro hbel ho)))
       clear hnat hfr hbel HOB
       by_cases hz : b - a = 0
       · have hl : (dg (b - a)).length = 0 := by rw [hz, dg_zero]; rfl
         rw [hl] at p1 HX ⊢
         have HZ2 := Lib.hid hz
         have q0 : (W2.setCell ⟨o, 0, none⟩ (.bool false)).cell? ⟨o, 0, none⟩ = some (.bool false) := World.cell?_setCell_same' _ _ _ (by rw [p0]; rfl)
         have q1 : (W2.setCell ⟨o, 0, none⟩ (.bool false)).cell? ⟨o, 1, none⟩ = some (.slice p 0 cap) := by go_cell
         have s0 : (W2.setCell ⟨o, 0, none⟩ (.bool false)).cell? ⟨k + 1 + 1, 0, none⟩ = some u0 := (World.cell?_of_block (Below.heap_setCell _ _ _ _ (by show k + 1 + 1 ≠ o; exact hok))).trans r0
         have s1 : (W2.setCell ⟨o, 0, none⟩ (.bool false)).cell? ⟨k + 1 + 1, 1, none⟩ = some u1 := (World.cell?_of_block (Below.heap_setCell _ _ _ _ (by show k + 1 + 1 ≠ o; exact hok))).trans r1
         have f2 : (W2.setCell ⟨o, 0, none⟩ (.bool false)).frozen? ⟨k + 1 + 1, 0, none⟩ = false := by rw [frozen_set]; exact f0
         have f3 : (W2.setCell ⟨o, 0, none⟩ (.bool false)).frozen? ⟨k + 1 + 1, 1, none⟩ = false := by rw [frozen_set]; exact f1
         obtain ⟨b0, b1⟩ := two_back s0 s1 (.bool false) (.slice p 0 cap)
         clear hz hl r0 r1
         go_wp2
         refine bodyPost_ret (v := .agg #[.bool false, .slice p 0 cap]) (by simp [results, Tryz.results98, go_sem, b0, b1]) rfl ?_
         obtain ⟨hn, hf, hb, hoo⟩ := HX.out
         rw [HZ2.out] at hn
         refine ⟨false, 0, _, rfl, hn.any0, ?_, hf.mono (by rw [HK.out]; omega), ?_⟩
         · have h1 := HZ.out
           rw [HZ2.out, sgn_zero] at h1
           exact ⟨by rw [sgn_zero]; exact h1.1, by omega⟩
         · rw [HK.out]
           exact ((hb.setCell (p := ⟨o, 0, none⟩) (by show k ≤ o; omega) _).setCell (p := ⟨k + 1 + 1, 0, none⟩) (by show k ≤ k + 1 + 1; omega) _).setCell (p := ⟨k + 1 + 1, 1, none⟩) (by show k ≤ k + 1 + 1; omega) _
       · have hl : (((dg (b - a)).length : Int) == 0) = false := by rw [beq_eq_false_iff_ne]; have := dg_len_pos hz; omega
         obtain ⟨b0, b1⟩ := two_back r0 r1 (.bool nb) (.slice p (dg (b - a)).length cap)
         clear hz
         go_wp2
         refine bodyPost_ret (v := .agg #[.bool nb, .slice p (dg (b - a)).length cap]) (by simp [results, Tryz.results98, go_sem, b0, b1]) rfl ?_
         obtain ⟨hn, hf, hb, hoo⟩ := HX.out
         refine ⟨_, _, _, rfl, (hn.setCell hf (by show k + 1 + 1 < k + 3; omega) _).setCell hf (by show k + 1 + 1 < k + 3; omega) _, HZ.out, hf.mono (by rw [HK.out]; omega), ?_⟩
         rw [HK.out]
         exact (hb.setCell (p := ⟨k + 1 + 1, 0, none⟩) (by show k ≤ k + 1 + 1; omega) _).setCell (p := ⟨k + 1 + 1, 1, none⟩) (by show k ≤ k + 1 + 1; omega) _
end Go.Proofs.YtmafghdgmdbpnaaGreatDoor.R
