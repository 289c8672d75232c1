/- Parts of the proof of the text YtkjhaengllpaoaaGreatDoorZB27. -/
import Derived.Deep.RegionHeld3
import Derived.Test.YtkjhaengllpaoaaGreatDoorZB1
import Derived.Test.YtkjhaengllpaoaaGreatDoorZB4
set_option linter.all false
set_option maxRecDepth 100000
set_option maxHeartbeats 8000000
namespace Go.Proofs.YtkjhaengllpaoaaGreatDoor
open Go.RowKit
theorem IsNat.shape {w : World} {v : Value} {n : Nat} (h : IsNat w v n) : ∃ p cap, v = .slice p (dg n).length cap := by
 obtain ⟨p, cap, e, _⟩ := h; exact ⟨p, cap, e⟩
theorem far2 {w : World} {k j o : Nat} {x y v : Value} (hne : j ≠ k) (h : w.cell? ⟨k, o, none⟩ = some v) : ((w.setCell ⟨j, 0, none⟩ x).setCell ⟨j, 1, none⟩ y).cell? ⟨k, o, none⟩ = some v :=
 (World.cell?_of_block (Below.heap_setCell _ _ _ _ (by show k ≠ j; omega))).trans ((World.cell?_of_block (Below.heap_setCell _ _ _ _ (by show k ≠ j; omega))).trans h)
structure Boxes (w : World) (k : Nat) (x0 x1 y0 y1 z0 z1 : Value) (W : World) : Prop where
 c1 : W.cell? ⟨k, 0, none⟩ = some x0
 c2 : W.cell? ⟨k, 1, none⟩ = some x1
 c3 : W.cell? ⟨k + 1, 0, none⟩ = some y0
 c4 : W.cell? ⟨k + 1, 1, none⟩ = some y1
 c5 : W.cell? ⟨k + 1 + 1, 0, none⟩ = some z0
 c6 : W.cell? ⟨k + 1 + 1, 1, none⟩ = some z1
 f5 : W.frozen? ⟨k + 1 + 1, 0, none⟩ = false
 f6 : W.frozen? ⟨k + 1 + 1, 1, none⟩ = false
 size : k + 3 ≤ W.heap.size
 below : Below k w W
theorem boxes_new (w : World) (x0 x1 y0 y1 z0 z1 : Value) (t : TypeId) :
   Boxes w w.heap.size x0 x1 y0 y1 z0 z1 (((w.alloc (.cells #[x0, x1] t)).alloc (.cells #[y0, y1] t)).alloc (.cells #[z0, z1] t)) :=
 ⟨by go_cell, by go_cell, by go_cell, by go_cell, by go_cell, by go_cell, by simp [go_sem], by simp [go_sem], by simp,
   (((Below.refl _ w).alloc (Nat.le_refl _) _).alloc (by simp) _).alloc (by simp; omega) _⟩
theorem Boxes.next {w : World} {k : Nat} {x0 x1 y0 y1 z0 z1 : Value} {W W' : World} (h : Boxes w k x0 x1 y0 y1 z0 z1 W) (hb : Below W.heap.size W W') : Boxes w k x0 x1 y0 y1 z0 z1 W' :=
 have hs := h.size
 ⟨(hb.cell (p := ⟨k, 0, none⟩) (by show k < _; omega)).trans h.c1, (hb.cell (p := ⟨k, 1, none⟩) (by show k < _; omega)).trans h.c2,
  (hb.cell (p := ⟨k + 1, 0, none⟩) (by show k + 1 < _; omega)).trans h.c3, (hb.cell (p := ⟨k + 1, 1, none⟩) (by show k + 1 < _; omega)).trans h.c4,
  (hb.cell (p := ⟨k + 1 + 1, 0, none⟩) (by show k + 1 + 1 < _; omega)).trans h.c5, (hb.cell (p := ⟨k + 1 + 1, 1, none⟩) (by show k + 1 + 1 < _; omega)).trans h.c6,
  (hb.frozen (p := ⟨k + 1 + 1, 0, none⟩) (by show k + 1 + 1 < _; omega)).trans h.f5, (hb.frozen (p := ⟨k + 1 + 1, 1, none⟩) (by show k + 1 + 1 < _; omega)).trans h.f6,
  Nat.le_trans h.size hb.size, h.below.trans (hb.mono (by omega))⟩
theorem Boxes.drew {w : World} {k : Nat} {x0 x1 y0 y1 z0 z1 : Value} {W : World} (h : Boxes w k x0 x1 y0 y1 z0 z1 W) : Boxes w k x0 x1 y0 y1 z0 z1 W.drew := h.next (Below.refl _ _).drew
theorem times_any (na nb : Bool) (va vb : Value) (a b : Nat) (w : World) (ha : IsNat w va a) (hb : IsNat w vb b) (hla : (dg a).length ≤ 1000000) (hlb : (dg b).length ≤ 1000000) :
   Calls Tryz.prog 141 #[.agg #[.bool na, va], .agg #[.bool nb, vb]] w fun e W' => ∃ v, e = .returned (.agg #[.bool (na != nb), v]) ∧ IsNat W' v (a * b) ∧ Fresh w.heap.size v ∧ Below w.heap.size w W' := by
 have cp : ∀ W, Below w.heap.size w W → Calls Tryz.prog 167 #[va, vb] W fun e W' => ∃ v, e = .returned v ∧ IsNat W' v (a * b) ∧ Fresh W.heap.size v ∧ Below W.heap.size W W' := fun W hW => by
   have := product_any va vb (dg a) (dg b) W (Nats.next ha hW) (Nats.next hb hW) (dg_Dig a) (dg_Dig b) hla hlb
   rwa [toN_dg, toN_dg] at this
 obtain ⟨pa, ca, rfl⟩ := ha.shape
 obtain ⟨pb, cb, rfl⟩ := hb.shape
 have CP := Lib.hid cp; clear cp ha hb hla hlb
 generalize (dg a).length = la at *
 generalize (dg b).length = lb at *
 go_enter Tryz.func141, Tryz.ntmps141
 go_wp2
 have hbx := boxes_new w (.bool na) (.slice pa la ca) (.bool nb) (.slice pb lb cb) (.bool false) (.slice none 0 0) 147
 generalize ((w.alloc (.cells #[.bool na, .slice pa la ca] 147)).alloc (.cells #[.bool nb, .slice pb lb cb] 147)).alloc (.cells #[.bool false, .slice none 0 0] 147) = W0 at *
 generalize hk : w.heap.size = k at *
 have HK := Lib.hid hk; clear hk
 have HBD := Lib.hid hbx.drew
 clear hbx
 obtain ⟨c1, c2, c3, c4, _, _, _, _, _, _⟩ := HBD.out
 go_region_held3 (fun w' => w'.cell? ⟨k, 0, none⟩ = some (.bool na) ∧ w'.cell? ⟨k, 1, none⟩ = some (.slice pa la ca) ∧ w'.cell? ⟨k + 1, 0, none⟩ = some (.bool nb) ∧ w'.cell? ⟨k + 1, 1, none⟩ = some (.slice pb lb cb)) (first | (go_keep; done) | ((try dsimp only); refine ⟨?_, ?_, ?_, ?_⟩ <;> (first | (exact far2 (by omega) (by assumption)) | (go_keep; done))))
   (first | (go_at_call 167; refine (CP.out _ HBD.out.below).mono ?_; rintro e w1 ⟨v, rfl, hv, hf, hb1⟩; obtain ⟨p, cap, rfl⟩ := hv.shape; have HB1 := Lib.hid (HBD.out.next hb1); have HV := Lib.hid (And.intro hv (And.intro hf hb1)); clear hv hf hb1; obtain ⟨e1, e2, e3, e4, e5, e6, e7, e8, _, _⟩ := HB1.out))
 obtain ⟨g5, g6⟩ := two_back e5 e6 (.bool (!(na == nb))) (.slice p (dg (a * b)).length cap)
 go_wp2
 refine bodyPost_ret (v := .agg #[.bool (!(na == nb)), .slice p (dg (a * b)).length cap]) (by simp [results, Tryz.results141, go_sem, g5, g6]) rfl ?_
 obtain ⟨hv, hf, hb1⟩ := HV.out
 have hf' : Fresh (k + 3) (.slice p (dg (a * b)).length cap) := hf.mono HBD.out.size
 refine ⟨_, by rw [show (na != nb) = !(na == nb) from rfl], (hv.setCell hf' (by show k + 1 + 1 < k + 3; omega) _).setCell hf' (by show k + 1 + 1 < k + 3; omega) _, hf'.mono (by rw [HK.out]; omega), ?_⟩
 rw [HK.out]
 exact ((HB1.out.below).setCell (p := ⟨k + 1 + 1, 0, none⟩) (by show k ≤ k + 1 + 1; omega) _).setCell (p := ⟨k + 1 + 1, 1, none⟩) (by show k ≤ k + 1 + 1; omega) _
theorem own_below {w w' : World} {base e size n : Nat} {v : Value} {xs : List Value} (h : w.ownsRow base e size v n xs) (hb : Below w.heap.size w w') : w'.ownsRow base e size v n xs := by
 obtain ⟨h1, h2⟩ := h
 refine ⟨h1, ?_⟩
 rcases h2 with h2 | ⟨g, cap, cur, hv, hg, hh, r⟩
 · exact .inl h2
 · exact .inr ⟨g, cap, cur, hv, hg, (hb.block g (Array.getElem?_eq_some_iff.1 hh).1).trans hh, r⟩
theorem strAppendUint_any (B n u : Nat) (hu : u < 18446744073709551616) (sv : Value) (xs : List Value) (w : World) (h : w.ownsRow B 5 1 sv n xs) (hB : B ≤ w.heap.size) (hn : n + 20 ≤ 140737488355328) (ht : Tab w) :
   Calls Tryz.prog 154 #[sv, .int .u64 u, .int .i64 10] w fun e w' => ∃ v', e = .returned v' ∧ w'.ownsRow B 5 1 v' (n + (Lib.decDigits u).length) (xs ++ Lib.byteCells (Lib.decDigits u)) ∧ Below B w w' := by
 have c := Tryz.internal_strconv_AppendUint_10 B n u hu sv xs w h hB hn ht
 have C := Lib.hid c; clear c h ht
 go_enter Tryz.func154, Tryz.ntmps154
 go_wp2_with fail
 refine C.out.mono ?_
 rintro e w' ⟨v', rfl, h1, h2, _⟩
 have H := Lib.hid (And.intro h1 h2); clear h1 h2 C
 go_wp2
 go_ret
 exact ⟨v', rfl, H.out.1, H.out.2⟩
def pad (k : Nat) (d : Nat) : List UInt8 := (List.range k).map fun i => UInt8.ofNat (48 + d / 10 ^ (k - 1 - i) % 10)
theorem pad_succ (k d : Nat) : pad (k + 1) d = UInt8.ofNat (48 + d / 10 ^ k % 10) :: pad k d := by
 unfold pad
 rw [List.range_succ_eq_map, List.map_cons, List.map_map]
 congr 1
 refine List.map_congr_left fun i _ => ?_
 show UInt8.ofNat (48 + d / 10 ^ (k + 1 - 1 - (i + 1)) % 10) = _
 rw [show k + 1 - 1 - (i + 1) = k - 1 - i by omega]
theorem pad_length (k d : Nat) : (pad k d).length = k := by simp [pad]
def nums (l : List UInt8) : List Nat := l.map (·.toNat)
def cells8 (l : List Nat) : List Value := l.map fun x => Value.int .u8 (x : Nat)
theorem cells8_nums (l : List UInt8) : cells8 (nums l) = Lib.byteCells l := by simp [cells8, nums, Lib.byteCells]
def Row8 (w : World) (g : Nat) (l : List Nat) : Prop := w.heap[g]? = some (.cells (cells8 l).toArray 206 (0, 0))
theorem Row8.cell {w : World} {g : Nat} {l : List Nat} (h : Row8 w g l) {i : Nat} (hi : i < l.length) : w.cell? ⟨g, i, none⟩ = some (.int .u8 (l.getD i 0 : Nat)) := by
 rw [cell_of_row w g i _ _ (0, 0) h]
 simp [cells8, hi]
theorem Row8.frozen {w : World} {g : Nat} {l : List Nat} (h : Row8 w g l) (i : Nat) : w.frozen? ⟨g, i, none⟩ = false := by
 unfold Row8 at h
 simp [World.frozen?, h]
theorem Row8.set {w : World} {g : Nat} {l : List Nat} (h : Row8 w g l) (i : Nat) (x : Nat) : Row8 (w.setCell ⟨g, i, none⟩ (.int .u8 (x : Nat))) g (l.set i x) := by
 unfold Row8 at h ⊢
 simp [World.setCell, Array.getElem?_modify, h, cells8, List.map_set]
theorem Row8.lt {w : World} {g : Nat} {l : List Nat} (h : Row8 w g l) : g < w.heap.size := (Array.getElem?_eq_some_iff.1 h).1
theorem drop_set {l : List Nat} {i x : Nat} (hi : i < l.length) : (l.set i x).drop i = x :: l.drop (i + 1) := by
 rw [List.drop_eq_getElem_cons (by simpa using hi), List.getElem_set_self, List.drop_set_of_lt (by omega)]
theorem pad_step {L : List Nat} {k d : Nat} (hk : k < 9) (hL : L.length = 9) (h : L.drop (9 - k) = nums (pad k d)) :
   (L.set (8 - k) (48 + d / 10 ^ k % 10)).drop (9 - (k + 1)) = nums (pad (k + 1) d) := by
 rw [show 9 - (k + 1) = 8 - k by omega, drop_set (by omega), show 8 - k + 1 = 9 - k by omega, h, pad_succ]
 show _ = (UInt8.ofNat (48 + d / 10 ^ k % 10)).toNat :: nums (pad k d)
 rw [toNat_ofNat _ (Nat.mod_lt _ (by decide))]
theorem info_u8 : (Tryz.prog.info? 5).map (fun i => (i.zero, i.size, i.bytes)) = some (some (.int .u8 0), 1, 1) := by kernel_rfl
theorem appendPadded_any (B n d : Nat) (hd : d < 1000000000) (sv : Value) (xs : List Value) (w : World) (h : w.ownsRow B 5 1 sv n xs) (hB : B ≤ w.heap.size) (hn : n + 20 ≤ 140737488355328) :
   Calls Tryz.prog 155 #[sv, .int .u64 d] w fun e w' => ∃ v', e = .returned v' ∧ w'.ownsRow B 5 1 v' (n + 9) (xs ++ Lib.byteCells (pad 9 d)) ∧ Below B w w' := by
 have H := Lib.hid h; clear h
 obtain ⟨i0, hi, hz0, hz1, hz2⟩ := info_parts info_u8
 have HI := Lib.hid (And.intro hi (And.intro hz0 (And.intro hz1 hz2))); clear hi hz0 hz1 hz2
 have hr0 : Row8 (w.alloc (.cells #[.int .u8 0, .int .u8 0, .int .u8 0, .int .u8 0, .int .u8 0, .int .u8 0, .int .u8 0, .int .u8 0, .int .u8 0] 206)) w.heap.size (List.replicate 9 0) := heap_alloc_new w _
 have hb0 : Below w.heap.size w (w.alloc (.cells #[.int .u8 0, .int .u8 0, .int .u8 0, .int .u8 0, .int .u8 0, .int .u8 0, .int .u8 0, .int .u8 0, .int .u8 0] 206)) := (Below.refl _ w).alloc (Nat.le_refl _) _
 have HR := Lib.hid (And.intro hr0 hb0); clear hr0 hb0
 go_enter Tryz.func155, Tryz.ntmps155
 go_wp2
 go_loopw [1, 6] (fun x y wr => ∃ (k : Nat) (L : List Nat) (f : Nat), k ≤ 9 ∧ y = .int .i64 (8 - (k : Int)) ∧ x = .int .u64 f ∧ f < 1000000000 ∧ Hid (f = d / 10 ^ k) ∧ Row8 wr w.heap.size L ∧ L.length = 9 ∧ Hid (L.drop (9 - k) = nums (pad k d)) ∧ Below w.heap.size w wr)
   (fun _ y _ => (intOf y + 1).toNat)
 case atStart => exact ⟨0, List.replicate 9 0, d, by omega, by go_num, rfl, hd, by show d = d / 10 ^ 0; simp, HR.out.1, rfl, rfl, HR.out.2⟩
 case round =>
   clear HR
   obtain ⟨k, L, f, hk, rfl, rfl, hf, hfd, hrow, hlen, hdrop, hbel⟩ := hrel
   by_cases hlt : k < 9
   · have co := hrow.cell (i := 8 - k) (by omega)
     have fo := hrow.frozen (8 - k)
     have HS := Lib.hid (pad_step hlt hlen hdrop.out)
     have hf2 : Hid (f / 10 = d / 10 ^ (k + 1)) := by show f / 10 = _; rw [hfd.out, Nat.pow_succ, Nat.div_div_eq_div_mul]
     have RR := Lib.hid (hrow.set (8 - k) (48 + f % 10))
     have HFD := hfd.out
     rw [← HFD] at HS
     clear HFD hfd hdrop
     have ek : (8 - (k : Int)) = ((8 - k : Nat) : Int) := by omega
     have EK := Lib.hid ek
     rw [ek]
     clear ek
     generalize hj : 8 - k = j at *
     have HJ := Lib.hid hj; clear hj
     have hj9 : j < 9 := by have := HJ.out; omega
     generalize L.getD j 0 = c at *
     go_wp2
     go_roundw
     case rel =>
       refine ⟨k + 1, L.set j (48 + f % 10), f / 10, by omega, ?_, by go_num, by omega, hf2, ?_, by rw [List.length_set]; exact hlen, HS.out, hbel.setCell (p := ⟨w.heap.size, j, none⟩) (Nat.le_refl _) _⟩
       · have := EK.out; go_num
       · have := RR.out
         rw [Int.natCast_add, Int.natCast_emod] at this
         exact this
     case measure => simp [intOf]
   · have ek : k = 9 := by omega
     subst ek
     have hL : L = nums (pad 9 d) := by have := hdrop.out; simpa using this
     clear hdrop hfd
     have hx : cells8 L = Lib.byteCells (pad 9 d) := by rw [hL, cells8_nums]
     have hown := own_below H.out hbel
     have hsrc : ∀ j u, (Lib.byteCells (pad 9 d))[j]? = some u → wr.cell? ((⟨w.heap.size, 0, none⟩ : Addr).add j) = some u := by
       intro j u hu
       rw [← hx] at hu
       have hadd : (⟨w.heap.size, 0, none⟩ : Addr).add j = ⟨w.heap.size, j, none⟩ := by unfold Addr.add; split <;> simp_all
       rw [hadd, cell_of_row wr _ j _ _ (0, 0) hrow]
       simpa using hu
     have hl9 : (Lib.byteCells (pad 9 d)).length = 9 * 1 := by simp [Lib.byteCells, pad_length]
     have hone : ∀ u ∈ Lib.byteCells (pad 9 d), u.oneCell' = true := Lib.byteCells_one _
     have HH := Lib.hid (And.intro hown (And.intro hsrc (And.intro hl9 hone))); clear hown hsrc hl9 hone hx hL hrow hlen
     have hsz := hbel.size
     go_wp2_with (at_builtin; refine wpList_append_own _ rfl _ _ 66 rfl B 5 i0 (.int .u8 0) 1 1 Tryz.underlying66 HI.out.1 HI.out.2.1 HI.out.2.2.1 HI.out.2.2.2 rfl (by decide) _ _ _ rfl HH.out.1 ⟨w.heap.size, 0, none⟩ 9 9 (Lib.byteCells (pad 9 d)) rfl HH.out.2.2.1 HH.out.2.1 HH.out.2.2.2 (by unfold maxLen; omega) (by omega) (by omega) ?_; intro v' w2 hown' hgrow _)
     have hlt : ∀ k, sv.ownBlock = some k → B ≤ k := fun k hk => (H.out.lt k hk).1
     have HZ := Lib.hid (And.intro hown' (And.intro hgrow hlt)); clear hown' hgrow hlt
     go_ret
     exact ⟨v', rfl, HZ.out.1, (hbel.mono hB).grown HZ.out.2.1 (by omega) HZ.out.2.2⟩
end Go.Proofs.YtkjhaengllpaoaaGreatDoor
namespace Go.Proofs.YtkjhaengllpaoaaGreatDoor
theorem pad_snoc (k d : Nat) : pad (k + 1) d = pad k (d / 10) ++ [UInt8.ofNat (48 + d % 10)] := by
 unfold pad
 rw [List.range_succ, List.map_append, List.map_singleton]
 congr 1
 · refine List.map_congr_left fun i hi => ?_
   have hi := List.mem_range.1 hi
   rw [show k + 1 - 1 - i = (k - 1 - i) + 1 by omega, Nat.pow_succ, Nat.mul_comm, ← Nat.div_div_eq_div_mul]
 · rw [show k + 1 - 1 - k = 0 by omega]; simp
theorem dec_scaled (k : Nat) : ∀ (q d : Nat), 0 < q → d < 10 ^ k → Lib.decDigits (q * 10 ^ k + d) = Lib.decDigits q ++ pad k d := by
 induction k with
 | zero => intro q d _ hd; simp at hd; subst hd; simp [pad]
 | succ k ih =>
   intro q d hq hd
   have hp : 0 < 10 ^ k := Nat.pow_pos (by decide)
   have h1 : 10 ^ k ≤ q * 10 ^ k := Nat.le_mul_of_pos_left _ hq
   rw [Nat.pow_succ] at hd ⊢
   have h2 : (q * (10 ^ k * 10) + d) / 10 = q * 10 ^ k + d / 10 := by rw [← Nat.mul_assoc]; omega
   have h3 : (q * (10 ^ k * 10) + d) % 10 = d % 10 := by rw [← Nat.mul_assoc]; omega
   rw [Lib.decDigits, dif_neg (by rw [← Nat.mul_assoc]; omega), h2, h3, ih q (d / 10) hq (by omega), pad_snoc, List.append_assoc]
def txt : List Nat → List UInt8
 | [] => []
 | d :: r => if r = [] then Lib.decDigits d else txt r ++ pad 9 d
theorem txt_one (d : Nat) : txt [d] = Lib.decDigits d := by simp [txt]
theorem txt_cons {d : Nat} {r : List Nat} (h : r ≠ []) : txt (d :: r) = txt r ++ pad 9 d := by simp [txt, h]
theorem txt_dec {l : List Nat} (h : Dig l) (hne : l ≠ []) (hl : l.getLast? ≠ some 0) : txt l = Lib.decDigits (toN l) := by
 induction l with
 | nil => exact absurd rfl hne
 | cons d r ih =>
   by_cases hr : r = []
   · subst hr; rw [txt_one]; simp [toN]
   · have hl' : r.getLast? ≠ some 0 := by rwa [List.getLast?_cons_of_ne_nil hr] at hl
     rw [txt_cons hr, ih h.tail hr hl', toN, ← dec_scaled 9 (toN r) d (toN_pos_of_last hr hl') h.head]
     congr 1
     rw [B_eq, Nat.mul_comm]; omega
theorem txt_dg {n : Nat} (h : n ≠ 0) : txt (dg n) = Lib.decDigits n := by
 rw [txt_dec (dg_Dig n) (fun e => h ((dg_nil_iff n).1 e)) (dg_last n), toN_dg]
theorem drop_getD {l : List Nat} {m : Nat} (h : m < l.length) : l.drop m = l.getD m 0 :: l.drop (m + 1) := by
 rw [List.drop_eq_getElem_cons h, List.getD_eq_getElem?_getD, List.getElem?_eq_getElem h]; rfl
theorem txt_step {l : List Nat} {m : Nat} (h : m + 1 < l.length) : txt (l.drop m) = txt (l.drop (m + 1)) ++ pad 9 (l.getD m 0) := by
 rw [drop_getD (by omega), txt_cons (by intro e; have := congrArg List.length e; rw [List.length_drop] at this; simp at this; omega)]
theorem txt_last {l : List Nat} {m : Nat} (h : m + 1 = l.length) : txt (l.drop m) = Lib.decDigits (l.getD m 0) := by
 rw [drop_getD (by omega), List.drop_of_length_le (by omega), txt_one]
def sgnZ (neg : Bool) (n : Nat) : Int := if neg then -(n : Int) else n
def signT : Bool → List UInt8
 | true => [45]
 | false => []
theorem itoa_sgn (neg : Bool) {n : Nat} (h : n ≠ 0) : Lib.itoa (sgnZ neg n) = signT neg ++ Lib.decDigits n := by
 unfold sgnZ signT
 cases neg
 · simp [Lib.itoa_nonneg]
 · simp only [if_true]; rw [Lib.itoa_neg n (by omega)]; rfl
def resB (z : Int) : ByteArray := if z.natAbs < lim then strB z else ByteArray.empty
def resE (z : Int) : Int := if z.natAbs < lim then 0 else 4
theorem tenTo_pos (k : Nat) : 0 < tenTo k := Nat.pow_pos (by decide)
theorem lim_pos : 0 < lim := tenTo_pos 300
theorem nlen_lim (neg : Bool) (n : Nat) : (300 < nlen n) ↔ ¬ (sgnZ neg n).natAbs < lim := by
 have h0 : (sgnZ neg n).natAbs = n := by unfold sgnZ; cases neg <;> simp
 rw [h0]
 unfold nlen
 by_cases h : n = 0
 · subst h
   rw [if_pos rfl]
   have := lim_pos
   constructor
   · intro h; omega
   · intro h; exact absurd this h
 · rw [if_neg h]
   have := nDigits_tenTo n 300 (by decide)
   rw [show lim = tenTo 300 from rfl, ← this]; omega
end Go.Proofs.YtkjhaengllpaoaaGreatDoor
namespace Go.Proofs.YtkjhaengllpaoaaGreatDoor
open Go.RowKit
theorem enter_add (args : Array Value) (W : World) : (callFunc 176 args).run Tryz.prog W = .ok (.enter 176 args) W := enters_of Tryz.func176 (by kernel_rfl) rfl args W
theorem enter_sub (args : Array Value) (W : World) : (callFunc 177 args).run Tryz.prog W = .ok (.enter 177 args) W := enters_of Tryz.func177 (by kernel_rfl) rfl args W
theorem step_add : StepIs 176 addS := fun x y c W hx hy hc => addDigits_any x y c W hx hy hc
theorem step_sub : StepIs 177 subS := fun x y c W hx hy hc => subDigits_any x y c W hx hy hc
theorem sum_any (va vb : Value) (a b : Nat) (w : World) (ha : IsNat w va a) (hb : IsNat w vb b) (hla : (dg a).length ≤ 1000000) (hlb : (dg b).length ≤ 1000000) :
   Calls Tryz.prog 151 #[va, vb] w fun e W' => ∃ v, e = .returned v ∧ IsNat W' v (a + b) ∧ Fresh w.heap.size v ∧ Below w.heap.size w W' := by
 obtain ⟨pa, ca, rfl, a1, a2, _⟩ := id ha
 obtain ⟨pb, cb, rfl, b1, b2, _⟩ := id hb
 by_cases hlt : (dg a).length < (dg b).length
 · have c := combine_any 176 addS step_add addS_ok enter_add pb pa cb ca (dg b) (dg a) w hb ha (dg_Dig b) (dg_Dig a) hlb
   rw [add_total (dg_Dig b) (dg_Dig a) (by omega), toN_dg, toN_dg, Nat.add_comm] at c
   have C := Lib.hid c; clear c ha hb
   generalize (dg a).length = la at *
   generalize (dg b).length = lb at *
   have hlt' : (la : Int) < (lb : Int) := by omega
   go_enter Tryz.func151, Tryz.ntmps151
   go_wp2_with fail
   refine C.out.mono ?_
   clear C
   rintro e w' ⟨v, rfl, h⟩
   have H := Lib.hid h; clear h
   go_wp2
   go_ret
   exact ⟨v, rfl, H.out⟩
 · have c := combine_any 176 addS step_add addS_ok enter_add pa pb ca cb (dg a) (dg b) w ha hb (dg_Dig a) (dg_Dig b) hla
   rw [add_total (dg_Dig a) (dg_Dig b) (by omega), toN_dg, toN_dg] at c
   have C := Lib.hid c; clear c ha hb
   generalize (dg a).length = la at *
   generalize (dg b).length = lb at *
   have hlt' : ¬ (la : Int) < (lb : Int) := by omega
   go_enter Tryz.func151, Tryz.ntmps151
   go_wp2_with fail
   refine C.out.mono ?_
   clear C
   rintro e w' ⟨v, rfl, h⟩
   have H := Lib.hid h; clear h
   go_wp2
   go_ret
   exact ⟨v, rfl, H.out⟩
theorem dg_le_of {a b : Nat} (h : b ≤ a) : (dg b).length ≤ (dg a).length := by
 rw [dg_length_le]
 exact Nat.lt_of_le_of_lt h ((dg_length_le a _).1 (Nat.le_refl _))
theorem difference_any (va vb : Value) (a b : Nat) (w : World) (ha : IsNat w va a) (hb : IsNat w vb b) (hla : (dg a).length ≤ 1000000) (hle : b ≤ a) :
   Calls Tryz.prog 152 #[va, vb] w fun e W' => ∃ v, e = .returned v ∧ IsNat W' v (a - b) ∧ Fresh w.heap.size v ∧ Below w.heap.size w W' := by
 obtain ⟨pa, ca, rfl, a1, a2, _⟩ := id ha
 obtain ⟨pb, cb, rfl, b1, b2, _⟩ := id hb
 have c := combine_any 177 subS step_sub subS_ok enter_sub pa pb ca cb (dg a) (dg b) w ha hb (dg_Dig a) (dg_Dig b) hla
 rw [sub_total (dg_Dig a) (dg_Dig b) (dg_le_of hle) (by rw [toN_dg, toN_dg]; exact hle), toN_dg, toN_dg] at c
 have C := Lib.hid c; clear c ha hb hle
 generalize (dg a).length = la at *
 generalize (dg b).length = lb at *
 go_enter Tryz.func152, Tryz.ntmps152
 go_wp2_with fail
 refine C.out.mono ?_
 clear C
 rintro e w' ⟨v, rfl, h⟩
 have H := Lib.hid h; clear h
 go_wp2
 go_ret
 exact ⟨v, rfl, H.out⟩
def cmpN (a b : Nat) : Int := if a < b then -1 else if b < a then 1 else 0
theorem cmpN_lt {a b : Nat} (h : a < b) : cmpN a b = -1 := by unfold cmpN; rw [if_pos h]
theorem cmpN_gt {a b : Nat} (h : b < a) : cmpN a b = 1 := by unfold cmpN; rw [if_neg (by omega), if_pos h]
theorem cmpN_eq {a b : Nat} (h : a = b) : cmpN a b = 0 := by unfold cmpN; rw [if_neg (by omega), if_neg (by omega)]
theorem cmpU64_any (x y : Nat) (w : World) :
   Calls Tryz.prog 187 #[.int .u64 x, .int .u64 y] w fun e w' => e = .returned (.int .i64 (cmpN x y)) ∧ w' = w := by
 rcases Nat.lt_trichotomy x y with h | h | h
 · rw [cmpN_lt h]
   have h1 : (x : Int) < y := by omega
   clear h
   go_enter Tryz.func187, Tryz.ntmps187
   go_wp2_with go_in
   go_ret
   exact ⟨rfl, rfl⟩
 · rw [cmpN_eq h]
   subst h
   go_enter Tryz.func187, Tryz.ntmps187
   go_wp2_with go_in
   go_ret
   exact ⟨rfl, rfl⟩
 · rw [cmpN_gt h]
   have h1 : (y : Int) < x := by omega
   clear h
   go_enter Tryz.func187, Tryz.ntmps187
   go_wp2_with go_in
   go_ret
   exact ⟨rfl, rfl⟩
theorem lt_of_len {a b : Nat} (h : (dg a).length < (dg b).length) : a < b := by
 have h1 := (dg_length_le a _).1 (Nat.le_refl _)
 have h2 : ¬ b < B ^ (dg a).length := fun hc => by have := (dg_length_le b _).2 hc; omega
 omega
theorem toN_split (l : List Nat) (i : Nat) (h : i < l.length) : toN l = toN (l.take i) + B ^ i * l.getD i 0 + B ^ (i + 1) * toN (l.drop (i + 1)) := by
 conv => lhs; rw [← List.take_append_drop (i + 1) l]
 rw [toN_append, toN_take_succ l i h, List.length_take, Nat.min_eq_left (by omega)]
theorem lt_of_digit {la lb : List Nat} {i : Nat} (ha : Dig la) (hia : i < la.length) (hib : i < lb.length) (hd : la.drop (i + 1) = lb.drop (i + 1)) (h : la.getD i 0 < lb.getD i 0) : toN la < toN lb := by
 rw [toN_split la i hia, toN_split lb i hib, hd]
 have h1 := toN_lt (ha.take i)
 rw [List.length_take, Nat.min_eq_left (by omega)] at h1
 have h2 : B ^ i * la.getD i 0 + B ^ i ≤ B ^ i * lb.getD i 0 := by rw [← Nat.mul_succ]; exact Nat.mul_le_mul_left _ h
 omega
theorem cmpInt_eq (a b : Nat) : Lib.compareInt (a : Int) (b : Int) = cmpN a b := by
 unfold Lib.compareInt cmpN
 by_cases h : a < b
 · rw [if_pos h, if_pos (by omega)]
 · rw [if_neg h, if_neg (by omega)]
   by_cases h2 : b < a
   · rw [if_pos h2, if_pos (by omega)]
   · rw [if_neg h2, if_neg (by omega)]
theorem compare_any (va vb : Value) (a b : Nat) (w : World) (ha : IsNat w va a) (hb : IsNat w vb b) :
   Calls Tryz.prog 168 #[va, vb] w fun e W' => e = .returned (.int .i64 (cmpN a b)) ∧ ∃ n, W' = w.drewN n := by
 obtain ⟨pa, ca, rfl, a1, a2, a3⟩ := ha
 obtain ⟨pb, cb, rfl, b1, b2, b3⟩ := hb
 have HA := Lib.hid a3; have HB := Lib.hid b3; clear a3 b3
 have HN := Lib.hid (And.intro (toN_dg a) (toN_dg b))
 have HD := Lib.hid (And.intro (dg_Dig a) (dg_Dig b))
 have hlt := Lib.hid (fun h => lt_of_len (a := a) (b := b) h)
 have hgt := Lib.hid (fun h => lt_of_len (a := b) (b := a) h)
 by_cases hne : (dg a).length = (dg b).length
 · have HC := Lib.hid (show cmpN a b = cmpN (toN (dg a)) (toN (dg b)) by rw [toN_dg, toN_dg])
   generalize dg a = la at *
   generalize dg b = lb at *
   rw [HC.out]
   clear hlt hgt HN HC
   have HL := Lib.hid hne
   obtain ⟨n, hn⟩ : ∃ n, la.length = n := ⟨_, rfl⟩
   have hn2 : lb.length = n := by omega
   have HN := Lib.hid (And.intro hn hn2)
   rw [hn] at a1 ⊢
   rw [hn2] at b1 ⊢
   clear hne hn hn2
   have hneq : ((n : Int) != n) = false := by simp
   go_enter Tryz.func168, Tryz.ntmps168
   go_wp2
   go_loopw [5] (fun x wr => ∃ j : Nat, j ≤ n ∧ x = .int .i64 ((j : Int) - 1) ∧ Hid (la.drop j = lb.drop j) ∧ ∃ k, wr = w.drewN k) (fun x _ => (intOf x + 1).toNat)
   case atStart => exact ⟨n, Nat.le_refl _, rfl, by show _ = _; rw [List.drop_of_length_le (by rw [HN.out.1]; exact Nat.le_refl _), List.drop_of_length_le (by rw [HN.out.2]; exact Nat.le_refl _)], 0, rfl⟩
   case round =>
     obtain ⟨j, hj, rfl, hd, hk⟩ := hrel
     have HK := Lib.hid hk; clear hk
     by_cases hj0 : j = 0
     · subst hj0
       have he : cmpN (toN la) (toN lb) = 0 := cmpN_eq (by have := hd.out; rw [List.drop_zero, List.drop_zero] at this; rw [this])
       have HE := Lib.hid he; clear he
       go_wp2
       go_ret
       exact ⟨by rw [HE.out]; rfl, HK.out⟩
     · obtain ⟨i, rfl⟩ : ∃ i, j = i + 1 := ⟨j - 1, by omega⟩
       have hia : i < la.length := by rw [HN.out.1]; omega
       have hib : i < lb.length := by rw [HN.out.2]; omega
       obtain ⟨ba, oa, rfl, hca⟩ := HA.out (by intro e; rw [e] at hia; simp at hia)
       obtain ⟨bb, ob, rfl, hcb⟩ := HB.out (by intro e; rw [e] at hib; simp at hib)
       have xa : wr.cell? ⟨ba, oa + i, none⟩ = some (.int .u64 (la.getD i 0 : Nat)) := by obtain ⟨kk, e⟩ := HK.out; rw [e]; exact hca i hia
       have xb : wr.cell? ⟨bb, ob + i, none⟩ = some (.int .u64 (lb.getD i 0 : Nat)) := by obtain ⟨kk, e⟩ := HK.out; rw [e]; exact hcb i hib
       have e1 := Lib.hid (fun h => lt_of_digit (la := la) (lb := lb) (i := i) HD.out.1 hia hib hd.out h)
       have e2 := Lib.hid (fun h => lt_of_digit (la := lb) (lb := la) (i := i) HD.out.2 hib hia hd.out.symm h)
       have e3 : Hid (la.getD i 0 = lb.getD i 0 → la.drop i = lb.drop i) := fun h => by rw [drop_getD hia, drop_getD hib, h, hd.out]
       clear hca hcb hia hib hd
       generalize la.getD i 0 = x at *
       generalize lb.getD i 0 = y at *
       have ei : ((i : Int) + 1 - 1) = (i : Int) := by omega
       have hx1 : (i : Int) < (n : Int) := by omega
       by_cases hxy : x = y
       · subst hxy
         have h3 : Hid (la.drop i = lb.drop i) := e3.out rfl
         clear e1 e2 e3
         have hq : ((x : Int) != x) = false := by simp
         go_wp2
         go_quiet (fail)
         go_wp2
         go_roundw
         case rel => exact ⟨i, by omega, by go_num, h3, by obtain ⟨kk, e⟩ := HK.out; exact ⟨_, by rw [e, World.drewN_drewN]⟩⟩
         case measure => simp [intOf]
       · have hq : ((x : Int) != y) = true := by rw [bne_iff_ne]; omega
         have hf : Hid (cmpN x y = cmpN (toN la) (toN lb)) := by
           show cmpN x y = _
           rcases Nat.lt_or_gt_of_ne hxy with h | h
           · rw [cmpN_lt h, cmpN_lt (e1.out h)]
           · rw [cmpN_gt h, cmpN_gt (e2.out h)]
         clear e1 e2 e3 hxy
         go_wp2
         go_quiet (fail)
         have ya : (wr.drewN nq).cell? ⟨ba, oa + i, none⟩ = some (.int .u64 (x : Nat)) := xa
         have yb : (wr.drewN nq).cell? ⟨bb, ob + i, none⟩ = some (.int .u64 (y : Nat)) := xb
         have HK2 : Hid (∃ n, wr.drewN nq = w.drewN n) := by obtain ⟨kk, e⟩ := HK.out; exact ⟨_, by rw [e, World.drewN_drewN]⟩
         clear xa xb HK
         generalize wr.drewN nq = W2 at *
         go_wp2
         go_quiet ((go_at_call 187; exact Calls.quiet_of_same (cmpU64_any _ _ _)))
         go_wp2
         go_ret
         exact ⟨by rw [← hf.out]; rfl, by obtain ⟨kk, e⟩ := HK2.out; exact ⟨_, by rw [e, World.drewN_drewN]⟩⟩
 · have hc : cmpN a b = Lib.compareInt (((dg a).length : Nat) : Int) (((dg b).length : Nat) : Int) := by
     rw [cmpInt_eq]
     rcases Nat.lt_or_gt_of_ne hne with h | h
     · rw [cmpN_lt h, cmpN_lt (hlt.out h)]
     · rw [cmpN_gt h, cmpN_gt (hgt.out h)]
   have HC := Lib.hid hc; clear hc hlt hgt HN HD HA HB
   generalize (dg a).length = la at *
   generalize (dg b).length = lb at *
   have hn : ((la : Int) != (lb : Int)) = true := by rw [bne_iff_ne]; omega
   clear hne
   go_enter Tryz.func168, Tryz.ntmps168
   go_wp2_with fail
   refine (Tryz.cmp_Compare_int _ _ _).mono ?_
   rintro e w' ⟨rfl, rfl⟩
   go_wp2
   go_ret
   exact ⟨by rw [HC.out]; rfl, 0, rfl⟩
structure Fz (k : Nat) (W : World) : Prop where
 f1 : W.frozen? ⟨k, 0, none⟩ = false
 f2 : W.frozen? ⟨k, 1, none⟩ = false
 f3 : W.frozen? ⟨k + 1, 0, none⟩ = false
 f4 : W.frozen? ⟨k + 1, 1, none⟩ = false
theorem fz_new (w : World) (x0 x1 y0 y1 z0 z1 : Value) (t : TypeId) : Fz w.heap.size (((w.alloc (.cells #[x0, x1] t)).alloc (.cells #[y0, y1] t)).alloc (.cells #[z0, z1] t)) :=
 ⟨by simp [go_sem], by simp [go_sem], by simp [go_sem], by simp [go_sem]⟩
theorem Fz.drewN {k : Nat} {W : World} (h : Fz k W) (n : Nat) : Fz k (W.drewN n) := ⟨h.f1, h.f2, h.f3, h.f4⟩
theorem Boxes.drewN {w : World} {k : Nat} {x0 x1 y0 y1 z0 z1 : Value} {W : World} (h : Boxes w k x0 x1 y0 y1 z0 z1 W) (n : Nat) : Boxes w k x0 x1 y0 y1 z0 z1 (W.drewN n) :=
 h.next ⟨rfl, rfl, rfl, Nat.le_refl _, fun _ _ => rfl⟩
theorem sgn_add_same (neg : Bool) (a b : Nat) : sgnZ neg (a + b) = sgnZ neg a + sgnZ neg b := by unfold sgnZ; cases neg <;> simp <;> omega
theorem sgn_sub (na nb : Bool) (h : na ≠ nb) (a b : Nat) (hle : b ≤ a) : sgnZ na (a - b) = sgnZ na a + sgnZ nb b := by
 unfold sgnZ; cases na <;> cases nb <;> simp at h ⊢ <;> omega
theorem swap_cells {W : World} {k : Nat} {x0 x1 y0 y1 : Value} (c1 : W.cell? ⟨k, 0, none⟩ = some x0) (c2 : W.cell? ⟨k, 1, none⟩ = some x1) (c3 : W.cell? ⟨k + 1, 0, none⟩ = some y0) (c4 : W.cell? ⟨k + 1, 1, none⟩ = some y1) (X0 X1 Y0 Y1 : Value) :
   let W' := (((W.setCell ⟨k, 0, none⟩ X0).setCell ⟨k, 1, none⟩ X1).setCell ⟨k + 1, 0, none⟩ Y0).setCell ⟨k + 1, 1, none⟩ Y1
   W'.cell? ⟨k, 0, none⟩ = some X0 ∧ W'.cell? ⟨k, 1, none⟩ = some X1 ∧ W'.cell? ⟨k + 1, 0, none⟩ = some Y0 ∧ W'.cell? ⟨k + 1, 1, none⟩ = some Y1 := by
 intro W'
 have hk : ∀ (w : World) (o o' : Nat) (u : Value), (w.setCell ⟨k + 1, o, none⟩ u).cell? ⟨k, o', none⟩ = w.cell? ⟨k, o', none⟩ := fun w o o' u => World.cell?_of_block (Below.heap_setCell _ _ _ _ (by show k ≠ k + 1; omega))
 have hk' : ∀ (w : World) (o o' : Nat) (u : Value), (w.setCell ⟨k, o, none⟩ u).cell? ⟨k + 1, o', none⟩ = w.cell? ⟨k + 1, o', none⟩ := fun w o o' u => World.cell?_of_block (Below.heap_setCell _ _ _ _ (by show k + 1 ≠ k; omega))
 have a0 := (two_back c1 c2 X0 X1).1
 have a1 := (two_back c1 c2 X0 X1).2
 have a0' : ((W.setCell ⟨k, 0, none⟩ X0).setCell ⟨k, 1, none⟩ X1).cell? ⟨k, 0, none⟩ = some X0 := by go_cell
 have b3 : ((W.setCell ⟨k, 0, none⟩ X0).setCell ⟨k, 1, none⟩ X1).cell? ⟨k + 1, 0, none⟩ = some y0 := by rw [hk', hk']; exact c3
 have b4 : ((W.setCell ⟨k, 0, none⟩ X0).setCell ⟨k, 1, none⟩ X1).cell? ⟨k + 1, 1, none⟩ = some y1 := by rw [hk', hk']; exact c4
 refine ⟨?_, ?_, ?_, ?_⟩
 · show ((((W.setCell ⟨k, 0, none⟩ X0).setCell ⟨k, 1, none⟩ X1).setCell ⟨k + 1, 0, none⟩ Y0).setCell ⟨k + 1, 1, none⟩ Y1).cell? ⟨k, 0, none⟩ = _
   rw [hk, hk]; exact a0'
 · show ((((W.setCell ⟨k, 0, none⟩ X0).setCell ⟨k, 1, none⟩ X1).setCell ⟨k + 1, 0, none⟩ Y0).setCell ⟨k + 1, 1, none⟩ Y1).cell? ⟨k, 1, none⟩ = _
   rw [hk, hk]; exact a1
 · show ((((W.setCell ⟨k, 0, none⟩ X0).setCell ⟨k, 1, none⟩ X1).setCell ⟨k + 1, 0, none⟩ Y0).setCell ⟨k + 1, 1, none⟩ Y1).cell? ⟨k + 1, 0, none⟩ = _
   have := (two_back b3 b4 Y0 Y1).1
   go_cell
 · exact (two_back b3 b4 Y0 Y1).2
theorem boxes_swap {w : World} {k : Nat} {x0 x1 y0 y1 z0 z1 : Value} {W : World} (h : Boxes w k x0 x1 y0 y1 z0 z1 W) :
   Boxes w k y0 y1 x0 x1 z0 z1 ((((W.setCell ⟨k, 0, none⟩ y0).setCell ⟨k, 1, none⟩ y1).setCell ⟨k + 1, 0, none⟩ x0).setCell ⟨k + 1, 1, none⟩ x1) := by
 obtain ⟨d1, d2, d3, d4⟩ := swap_cells h.c1 h.c2 h.c3 h.c4 y0 y1 x0 x1
 have hb : ∀ j, k + 1 < j → ((((W.setCell ⟨k, 0, none⟩ y0).setCell ⟨k, 1, none⟩ y1).setCell ⟨k + 1, 0, none⟩ x0).setCell ⟨k + 1, 1, none⟩ x1).heap[j]? = W.heap[j]? := fun j hj => by
   rw [Below.heap_setCell _ _ _ _ (by show j ≠ k + 1; omega), Below.heap_setCell _ _ _ _ (by show j ≠ k + 1; omega), Below.heap_setCell _ _ _ _ (by show j ≠ k; omega), Below.heap_setCell _ _ _ _ (by show j ≠ k; omega)]
 refine ⟨d1, d2, d3, d4, (World.cell?_of_block (hb _ (by show k + 1 < k + 1 + 1; omega))).trans h.c5, (World.cell?_of_block (hb _ (by show k + 1 < k + 1 + 1; omega))).trans h.c6,
   (World.frozen?_of_block (hb _ (by show k + 1 < k + 1 + 1; omega))).trans h.f5, (World.frozen?_of_block (hb _ (by show k + 1 < k + 1 + 1; omega))).trans h.f6, by have := h.size; simp [World.setCell]; exact this, ?_⟩
 exact (((h.below.setCell (p := ⟨k, 0, none⟩) (Nat.le_refl _) _).setCell (p := ⟨k, 1, none⟩) (Nat.le_refl _) _).setCell (p := ⟨k + 1, 0, none⟩) (by show k ≤ k + 1; omega) _).setCell (p := ⟨k + 1, 1, none⟩) (by show k ≤ k + 1; omega) _
theorem opposite_any (neg : Bool) (v : Value) (n : Nat) (w : World) (h : IsNat w v n) :
   Calls Tryz.prog 258 #[.agg #[.bool neg, v]] w fun e W' => e = .returned (.agg #[.bool (!neg), v]) ∧ Below w.heap.size w W' := by
 obtain ⟨p, cap, rfl⟩ := h.shape
 clear h
 generalize (dg n).length = l at *
 go_enter Tryz.func258, Tryz.ntmps258
 go_wp2
 refine bodyPost_ret (v := .agg #[.bool (!neg), .slice p l cap]) (by simp [results, Tryz.results258, go_sem]) rfl ?_
 exact ⟨rfl, by go_grown⟩
theorem plus_any (na nb : Bool) (va vb : Value) (a b : Nat) (w : World) (ha : IsNat w va a) (hb : IsNat w vb b) (hla : (dg a).length ≤ 1000000) (hlb : (dg b).length ≤ 1000000) :
   Calls Tryz.prog 142 #[.agg #[.bool na, va], .agg #[.bool nb, vb]] w fun e W' => ∃ neg n v, e = .returned (.agg #[.bool neg, v]) ∧ IsNat W' v n ∧ (sgnZ neg n = sgnZ na a + sgnZ nb b ∧ n ≤ a + b) ∧ Fresh w.heap.size v ∧ Below w.heap.size w W' := by
 obtain ⟨pa, ca, rfl⟩ := ha.shape
 obtain ⟨pb, cb, rfl⟩ := hb.shape
 have HAB := Lib.hid (And.intro ha hb)
 have hw : (((w.alloc (.cells #[.bool na, .slice pa (dg a).length ca] 147)).alloc (.cells #[.bool nb, .slice pb (dg b).length cb] 147)).alloc (.cells #[.bool false, .slice none 0 0] 147)).heap.size = w.heap.size + 3 := by simp
 by_cases hs : na = nb
 · have cp : ∀ W, Below w.heap.size w W → Calls Tryz.prog 151 #[.slice pa (dg a).length ca, .slice pb (dg b).length cb] W fun e W' => ∃ v, e = .returned v ∧ IsNat W' v (a + b) ∧ Fresh W.heap.size v ∧ Below W.heap.size W W' :=
     fun W hW => sum_any _ _ a b W (ha.next hW) (hb.next hW) hla hlb
   have CP := Lib.hid cp; clear cp ha hb hla hlb hw
   have HZ : Hid (sgnZ na (a + b) = sgnZ na a + sgnZ nb b ∧ a + b ≤ a + b) := ⟨by rw [← hs]; exact sgn_add_same na a b, Nat.le_refl _⟩
   have hq : (na == nb) = true := by simpa using hs
   clear hs
   generalize (dg a).length = la at *
   generalize (dg b).length = lb at *
   go_enter Tryz.func142, Tryz.ntmps142
   go_wp2
   have hbx := boxes_new w (.bool na) (.slice pa la ca) (.bool nb) (.slice pb lb cb) (.bool false) (.slice none 0 0) 147
   generalize ((w.alloc (.cells #[.bool na, .slice pa la ca] 147)).alloc (.cells #[.bool nb, .slice pb lb cb] 147)).alloc (.cells #[.bool false, .slice none 0 0] 147) = W0 at *
   generalize hk : w.heap.size = k at *
   have HK := Lib.hid hk; clear hk
   have HBD := Lib.hid hbx.drew
   clear hbx
   obtain ⟨c1, c2, c3, c4, _, _, _, _, _, _⟩ := HBD.out
   go_region_held3 (fun w' => w'.cell? ⟨k, 0, none⟩ = some (.bool na) ∧ w'.cell? ⟨k, 1, none⟩ = some (.slice pa la ca) ∧ w'.cell? ⟨k + 1, 0, none⟩ = some (.bool nb) ∧ w'.cell? ⟨k + 1, 1, none⟩ = some (.slice pb lb cb)) (first | (go_keep; done) | ((try dsimp only); refine ⟨?_, ?_, ?_, ?_⟩ <;> (first | (exact far2 (by omega) (by assumption)) | (go_keep; done))))
     (first | (go_at_call 151; refine (CP.out _ HBD.out.below).mono ?_; rintro e w1 ⟨v, rfl, hv, hf, hb1⟩; obtain ⟨p, cap, rfl⟩ := hv.shape; have HB1 := Lib.hid (HBD.out.next hb1); have HV := Lib.hid (And.intro hv (And.intro hf hb1)); clear hv hf hb1; obtain ⟨e1, e2, e3, e4, e5, e6, e7, e8, _, _⟩ := HB1.out))
   obtain ⟨g5, g6⟩ := two_back e5 e6 (.bool na) (.slice p (dg (a + b)).length cap)
   go_wp2
   refine bodyPost_ret (v := .agg #[.bool na, .slice p (dg (a + b)).length cap]) (by simp [results, Tryz.results142, go_sem, g5, g6]) rfl ?_
   obtain ⟨hv, hf, hb1⟩ := HV.out
   have hf' : Fresh (k + 3) (.slice p (dg (a + b)).length cap) := hf.mono HBD.out.size
   refine ⟨_, _, _, rfl, (hv.setCell hf' (by show k + 1 + 1 < k + 3; omega) _).setCell hf' (by show k + 1 + 1 < k + 3; omega) _, HZ.out, hf'.mono (by rw [HK.out]; omega), ?_⟩
   rw [HK.out]
   exact ((HB1.out.below).setCell (p := ⟨k + 1 + 1, 0, none⟩) (by show k ≤ k + 1 + 1; omega) _).setCell (p := ⟨k + 1 + 1, 1, none⟩) (by show k ≤ k + 1 + 1; omega) _
 · have hq : (na == nb) = false := by simpa using hs
   have hbx := boxes_new w (.bool na) (.slice pa (dg a).length ca) (.bool nb) (.slice pb (dg b).length cb) (.bool false) (.slice none 0 0) 147
   have hfz := fz_new w (.bool na) (.slice pa (dg a).length ca) (.bool nb) (.slice pb (dg b).length cb) (.bool false) (.slice none 0 0) 147
   have cc := compare_any (.slice pa (dg a).length ca) (.slice pb (dg b).length cb) a b _ (ha.next hbx.below) (hb.next hbx.below)
   have CC := Lib.hid cc; clear cc
   by_cases hle : b ≤ a
   · have hcmp : 0 ≤ cmpN a b := by
       rcases Nat.lt_or_eq_of_le hle with h | h
       · rw [cmpN_gt h]; decide
       · rw [cmpN_eq h.symm]; decide
     have cp : ∀ W, Below w.heap.size w W → Calls Tryz.prog 152 #[.slice pa (dg a).length ca, .slice pb (dg b).length cb] W fun e W' => ∃ v, e = .returned v ∧ IsNat W' v (a - b) ∧ Fresh W.heap.size v ∧ Below W.heap.size W W' :=
       fun W hW => difference_any _ _ a b W (ha.next hW) (hb.next hW) hla hle
     have CP := Lib.hid cp; clear cp ha hb hla hlb hw
     have HZ : Hid (sgnZ na (a - b) = sgnZ na a + sgnZ nb b ∧ a - b ≤ a + b) := ⟨sgn_sub na nb hs a b hle, by omega⟩
     have HBX := Lib.hid (And.intro hbx hfz)
     clear hs hle hbx hfz
     generalize (dg a).length = la at *
     generalize (dg b).length = lb at *
     generalize cmpN a b = cm at *
     go_enter Tryz.func142, Tryz.ntmps142
     go_wp2_with fail
     refine CC.out.mono ?_
     rintro e w' ⟨rfl, nn, rfl⟩
     clear CC
     have hbx2 := HBX.out.1.drewN nn
     clear HBX
     generalize (((w.alloc (.cells #[.bool na, .slice pa la ca] 147)).alloc (.cells #[.bool nb, .slice pb lb cb] 147)).alloc (.cells #[.bool false, .slice none 0 0] 147)).drewN nn = W0 at *
     generalize hk : w.heap.size = k at *
     have HK := Lib.hid hk; clear hk
     have HBX := Lib.hid hbx2
     obtain ⟨b1, b2, b3, b4, _, _, _, _, _, _⟩ := hbx2
     go_wp2
     have HBD := Lib.hid HBX.out.drew
     clear b1 b2 b3 b4 HBX
     obtain ⟨c1, c2, c3, c4, _, _, _, _, _, _⟩ := HBD.out
     go_region_held3 (fun w' => w'.cell? ⟨k, 0, none⟩ = some (.bool na) ∧ w'.cell? ⟨k, 1, none⟩ = some (.slice pa la ca) ∧ w'.cell? ⟨k + 1, 0, none⟩ = some (.bool nb) ∧ w'.cell? ⟨k + 1, 1, none⟩ = some (.slice pb lb cb)) (first | (go_keep; done) | ((try dsimp only); refine ⟨?_, ?_, ?_, ?_⟩ <;> (first | (exact far2 (by omega) (by assumption)) | (go_keep; done))))
       (first | (go_at_call 152; refine (CP.out _ HBD.out.below).mono ?_; rintro e w1 ⟨v, rfl, hv, hf, hb1⟩; obtain ⟨p, cap, rfl⟩ := hv.shape; have HB1 := Lib.hid (HBD.out.next hb1); have HV := Lib.hid (And.intro hv (And.intro hf hb1)); clear hv hf hb1; obtain ⟨e1, e2, e3, e4, e5, e6, e7, e8, _, _⟩ := HB1.out))
     obtain ⟨g5, g6⟩ := two_back e5 e6 (.bool na) (.slice p (dg (a - b)).length cap)
     go_wp2
     refine bodyPost_ret (v := .agg #[.bool na, .slice p (dg (a - b)).length cap]) (by simp [results, Tryz.results142, go_sem, g5, g6]) rfl ?_
     obtain ⟨hv, hf, hb1⟩ := HV.out
     have hf' : Fresh (k + 3) (.slice p (dg (a - b)).length cap) := hf.mono HBD.out.size
     refine ⟨_, _, _, rfl, (hv.setCell hf' (by show k + 1 + 1 < k + 3; omega) _).setCell hf' (by show k + 1 + 1 < k + 3; omega) _, HZ.out, hf'.mono (by rw [HK.out]; omega), ?_⟩
     rw [HK.out]
     exact ((HB1.out.below).setCell (p := ⟨k + 1 + 1, 0, none⟩) (by show k ≤ k + 1 + 1; omega) _).setCell (p := ⟨k + 1 + 1, 1, none⟩) (by show k ≤ k + 1 + 1; omega) _
   · have hcmp : cmpN a b < 0 := by rw [cmpN_lt (by omega)]; decide
     have cp : ∀ W, Below w.heap.size w W → Calls Tryz.prog 152 #[.slice pb (dg b).length cb, .slice pa (dg a).length ca] W fun e W' => ∃ v, e = .returned v ∧ IsNat W' v (b - a) ∧ Fresh W.heap.size v ∧ Below W.heap.size W W' :=
       fun W hW => difference_any _ _ b a W (hb.next hW) (ha.next hW) hlb (by omega)
     have CP := Lib.hid cp; clear cp ha hb hla hlb hw
     have HZ : Hid (sgnZ nb (b - a) = sgnZ na a + sgnZ nb b ∧ b - a ≤ a + b) := ⟨by rw [sgn_sub nb na (fun h => hs h.symm) b a (by omega), Int.add_comm], by omega⟩
     have HBX := Lib.hid (And.intro hbx hfz)
     clear hs hle hbx hfz
     generalize (dg a).length = la at *
     generalize (dg b).length = lb at *
     generalize cmpN a b = cm at *
     go_enter Tryz.func142, Tryz.ntmps142
     go_wp2_with fail
     refine CC.out.mono ?_
     rintro e w' ⟨rfl, nn, rfl⟩
     clear CC
     have hbx2 := HBX.out.1.drewN nn
     have hfz2 := HBX.out.2.drewN nn
     clear HBX
     generalize (((w.alloc (.cells #[.bool na, .slice pa la ca] 147)).alloc (.cells #[.bool nb, .slice pb lb cb] 147)).alloc (.cells #[.bool false, .slice none 0 0] 147)).drewN nn = W0 at *
     generalize hk : w.heap.size = k at *
     have HK := Lib.hid hk; clear hk
     have HBX := Lib.hid hbx2
     obtain ⟨b1, b2, b3, b4, _, _, _, _, _, _⟩ := hbx2
     obtain ⟨f1, f2, f3, f4⟩ := hfz2
     go_wp2
     have hsw := boxes_swap HBX.out
     clear b1 b2 b3 b4 HBX f1 f2 f3 f4
     generalize (((W0.setCell ⟨k, 0, none⟩ (.bool nb)).setCell ⟨k, 1, none⟩ (.slice pb lb cb)).setCell ⟨k + 1, 0, none⟩ (.bool na)).setCell ⟨k + 1, 1, none⟩ (.slice pa la ca) = W1 at *
     have HBD := Lib.hid hsw.drew
     clear hsw
     obtain ⟨c1, c2, c3, c4, _, _, _, _, _, _⟩ := HBD.out
     go_region_held3 (fun w' => w'.cell? ⟨k, 0, none⟩ = some (.bool nb) ∧ w'.cell? ⟨k, 1, none⟩ = some (.slice pb lb cb) ∧ w'.cell? ⟨k + 1, 0, none⟩ = some (.bool na) ∧ w'.cell? ⟨k + 1, 1, none⟩ = some (.slice pa la ca)) (first | (go_keep; done) | ((try dsimp only); refine ⟨?_, ?_, ?_, ?_⟩ <;> (first | (exact far2 (by omega) (by assumption)) | (go_keep; done))))
       (first | (go_at_call 152; refine (CP.out _ HBD.out.below).mono ?_; rintro e w1 ⟨v, rfl, hv, hf, hb1⟩; obtain ⟨p, cap, rfl⟩ := hv.shape; have HB1 := Lib.hid (HBD.out.next hb1); have HV := Lib.hid (And.intro hv (And.intro hf hb1)); clear hv hf hb1; obtain ⟨e1, e2, e3, e4, e5, e6, e7, e8, _, _⟩ := HB1.out))
     obtain ⟨g5, g6⟩ := two_back e5 e6 (.bool nb) (.slice p (dg (b - a)).length cap)
     go_wp2
     refine bodyPost_ret (v := .agg #[.bool nb, .slice p (dg (b - a)).length cap]) (by simp [results, Tryz.results142, go_sem, g5, g6]) rfl ?_
     obtain ⟨hv, hf, hb1⟩ := HV.out
     have hf' : Fresh (k + 3) (.slice p (dg (b - a)).length cap) := hf.mono HBD.out.size
     refine ⟨_, _, _, rfl, (hv.setCell hf' (by show k + 1 + 1 < k + 3; omega) _).setCell hf' (by show k + 1 + 1 < k + 3; omega) _, HZ.out, hf'.mono (by rw [HK.out]; omega), ?_⟩
     rw [HK.out]
     exact ((HB1.out.below).setCell (p := ⟨k + 1 + 1, 0, none⟩) (by show k ≤ k + 1 + 1; omega) _).setCell (p := ⟨k + 1 + 1, 1, none⟩) (by show k ≤ k + 1 + 1; omega) _
end Go.Proofs.YtkjhaengllpaoaaGreatDoor
