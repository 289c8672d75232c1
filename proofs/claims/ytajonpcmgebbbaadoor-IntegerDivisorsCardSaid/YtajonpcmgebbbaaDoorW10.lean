/- The walks of what writes a number's text. -/
import Derived.Test.YtajonpcmgebbbaaDoorW9
namespace Go.Proofs.YtajonpcmgebbbaaDoor
open Go.RowKit

theorem own_below {w w' : World} {base e size n : Nat} {v : Value} {xs : List Value} (h : w.ownsRow base e size v n xs) (hb : Below w.heap.size w w') : w'.ownsRow base e size v n xs := by
  obtain ⟨h1, h2⟩ := h
  refine ⟨h1, ?_⟩
  rcases h2 with h2 | ⟨g, cap, cur, hv, hg, hh, r⟩
  · exact .inl h2
  · exact .inr ⟨g, cap, cur, hv, hg, (hb.block g (Array.getElem?_eq_some_iff.1 hh).1).trans hh, r⟩

theorem strAppendUint_any (B n u : Nat) (hu : u < 18446744073709551616) (sv : Value) (xs : List Value) (w : World) (h : w.ownsRow B 5 1 sv n xs) (hB : B ≤ w.heap.size) (hn : n + 20 ≤ 140737488355328) (ht : Tab w) :
    Calls Tryd.prog 60 #[sv, .int .u64 u, .int .i64 10] w fun e w' => ∃ v', e = .returned v' ∧ w'.ownsRow B 5 1 v' (n + (Lib.decDigits u).length) (xs ++ Lib.byteCells (Lib.decDigits u)) ∧ Below B w w' := by
  have c := Tryd.internal_strconv_AppendUint_10 B n u hu sv xs w h hB hn ht
  have C := Lib.hid c; clear c h ht
  go_enter Tryd.func60, Tryd.ntmps60
  go_wp2_with fail
  refine C.out.mono ?_
  rintro e w' ⟨v', rfl, h1, h2, _⟩
  have H := Lib.hid (And.intro h1 h2); clear h1 h2 C
  go_wp2
  go_ret
  exact ⟨v', rfl, H.out.1, H.out.2⟩

/-- the last k decimal digits -/
def pad (k : Nat) (d : Nat) : List UInt8 := (List.range k).map fun i => UInt8.ofNat (48 + d / 10 ^ (k - 1 - i) % 10)
theorem pad_succ (k d : Nat) : pad (k + 1) d = UInt8.ofNat (48 + d / 10 ^ k % 10) :: pad k d := by
  unfold pad
  rw [List.range_succ_eq_map, List.map_cons, List.map_map]
  congr 1
  refine List.map_congr_left fun i _ => ?_
  show UInt8.ofNat (48 + d / 10 ^ (k + 1 - 1 - (i + 1)) % 10) = _
  rw [show k + 1 - 1 - (i + 1) = k - 1 - i by omega]
theorem pad_length (k d : Nat) : (pad k d).length = k := by simp [pad]

def nums (l : List UInt8) : List Nat := l.map (·.toNat)
def cells8 (l : List Nat) : List Value := l.map fun x => Value.int .u8 (x : Nat)
theorem cells8_nums (l : List UInt8) : cells8 (nums l) = Lib.byteCells l := by simp [cells8, nums, Lib.byteCells]
/-- block g is an array of the call's own of these bytes -/
def Row8 (w : World) (g : Nat) (l : List Nat) : Prop := w.heap[g]? = some (.cells (cells8 l).toArray 108 (0, 0))
theorem Row8.cell {w : World} {g : Nat} {l : List Nat} (h : Row8 w g l) {i : Nat} (hi : i < l.length) : w.cell? ⟨g, i, none⟩ = some (.int .u8 (l.getD i 0 : Nat)) := by
  rw [cell_of_row w g i _ _ (0, 0) h]
  simp [cells8, hi]
theorem Row8.frozen {w : World} {g : Nat} {l : List Nat} (h : Row8 w g l) (i : Nat) : w.frozen? ⟨g, i, none⟩ = false := by
  unfold Row8 at h
  simp [World.frozen?, h]
theorem Row8.set {w : World} {g : Nat} {l : List Nat} (h : Row8 w g l) (i : Nat) (x : Nat) : Row8 (w.setCell ⟨g, i, none⟩ (.int .u8 (x : Nat))) g (l.set i x) := by
  unfold Row8 at h ⊢
  simp [World.setCell, Array.getElem?_modify, h, cells8, List.map_set]
theorem Row8.lt {w : World} {g : Nat} {l : List Nat} (h : Row8 w g l) : g < w.heap.size := (Array.getElem?_eq_some_iff.1 h).1
theorem drop_set {l : List Nat} {i x : Nat} (hi : i < l.length) : (l.set i x).drop i = x :: l.drop (i + 1) := by
  rw [List.drop_eq_getElem_cons (by simpa using hi), List.getElem_set_self, List.drop_set_of_lt (by omega)]
theorem pad_step {L : List Nat} {k d : Nat} (hk : k < 9) (hL : L.length = 9) (h : L.drop (9 - k) = nums (pad k d)) :
    (L.set (8 - k) (48 + d / 10 ^ k % 10)).drop (9 - (k + 1)) = nums (pad (k + 1) d) := by
  rw [show 9 - (k + 1) = 8 - k by omega, drop_set (by omega), show 8 - k + 1 = 9 - k by omega, h, pad_succ]
  show _ = (UInt8.ofNat (48 + d / 10 ^ k % 10)).toNat :: nums (pad k d)
  rw [toNat_ofNat _ (Nat.mod_lt _ (by decide))]

theorem info_u8 : (Tryd.prog.info? 5).map (fun i => (i.zero, i.size, i.bytes)) = some (some (.int .u8 0), 1, 1) := by kernel_rfl

set_option maxRecDepth 100000 in
set_option maxHeartbeats 1000000 in
theorem appendPadded_any (B n d : Nat) (hd : d < 1000000000) (sv : Value) (xs : List Value) (w : World) (h : w.ownsRow B 5 1 sv n xs) (hB : B ≤ w.heap.size) (hn : n + 20 ≤ 140737488355328) :
    Calls Tryd.prog 61 #[sv, .int .u64 d] w fun e w' => ∃ v', e = .returned v' ∧ w'.ownsRow B 5 1 v' (n + 9) (xs ++ Lib.byteCells (pad 9 d)) ∧ Below B w w' := by
  have H := Lib.hid h; clear h
  obtain ⟨i0, hi, hz0, hz1, hz2⟩ := info_parts info_u8
  have HI := Lib.hid (And.intro hi (And.intro hz0 (And.intro hz1 hz2))); clear hi hz0 hz1 hz2
  have hr0 : Row8 (w.alloc (.cells #[.int .u8 0, .int .u8 0, .int .u8 0, .int .u8 0, .int .u8 0, .int .u8 0, .int .u8 0, .int .u8 0, .int .u8 0] 108)) w.heap.size (List.replicate 9 0) := heap_alloc_new w _
  have hb0 : Below w.heap.size w (w.alloc (.cells #[.int .u8 0, .int .u8 0, .int .u8 0, .int .u8 0, .int .u8 0, .int .u8 0, .int .u8 0, .int .u8 0, .int .u8 0] 108)) := (Below.refl _ w).alloc (Nat.le_refl _) _
  have HR := Lib.hid (And.intro hr0 hb0); clear hr0 hb0
  go_enter Tryd.func61, Tryd.ntmps61
  go_wp2
  go_loopw [1, 6] (fun x y wr => ∃ (k : Nat) (L : List Nat) (f : Nat), k ≤ 9 ∧ y = .int .i64 (8 - (k : Int)) ∧ x = .int .u64 f ∧ f < 1000000000 ∧ Hid (f = d / 10 ^ k) ∧ Row8 wr w.heap.size L ∧ L.length = 9 ∧ Hid (L.drop (9 - k) = nums (pad k d)) ∧ Below w.heap.size w wr)
    (fun _ y _ => (intOf y + 1).toNat)
  case atStart => exact ⟨0, List.replicate 9 0, d, by omega, by go_num, rfl, hd, by show d = d / 10 ^ 0; simp, HR.out.1, rfl, rfl, HR.out.2⟩
  case round =>
    clear HR
    obtain ⟨k, L, f, hk, rfl, rfl, hf, hfd, hrow, hlen, hdrop, hbel⟩ := hrel
    by_cases hlt : k < 9
    · have co := hrow.cell (i := 8 - k) (by omega)
      have fo := hrow.frozen (8 - k)
      have HS := Lib.hid (pad_step hlt hlen hdrop.out)
      have hf2 : Hid (f / 10 = d / 10 ^ (k + 1)) := by show f / 10 = _; rw [hfd.out, Nat.pow_succ, Nat.div_div_eq_div_mul]
      have RR := Lib.hid (hrow.set (8 - k) (48 + f % 10))
      have HFD := hfd.out
      rw [← HFD] at HS
      clear HFD hfd hdrop
      have ek : (8 - (k : Int)) = ((8 - k : Nat) : Int) := by omega
      have EK := Lib.hid ek
      rw [ek]
      clear ek
      generalize hj : 8 - k = j at *
      have HJ := Lib.hid hj; clear hj
      have hj9 : j < 9 := by have := HJ.out; omega
      generalize L.getD j 0 = c at *
      go_wp2
      go_roundw
      case rel =>
        refine ⟨k + 1, L.set j (48 + f % 10), f / 10, by omega, ?_, by go_num, by omega, hf2, ?_, by rw [List.length_set]; exact hlen, HS.out, hbel.setCell (p := ⟨w.heap.size, j, none⟩) (Nat.le_refl _) _⟩
        · have := EK.out; go_num
        · have := RR.out
          rw [Int.natCast_add, Int.natCast_emod] at this
          exact this
      case measure => simp [intOf]
    · have ek : k = 9 := by omega
      subst ek
      have hL : L = nums (pad 9 d) := by have := hdrop.out; simpa using this
      clear hdrop hfd
      have hx : cells8 L = Lib.byteCells (pad 9 d) := by rw [hL, cells8_nums]
      have hown := own_below H.out hbel
      have hsrc : ∀ j u, (Lib.byteCells (pad 9 d))[j]? = some u → wr.cell? ((⟨w.heap.size, 0, none⟩ : Addr).add j) = some u := by
        intro j u hu
        rw [← hx] at hu
        have hadd : (⟨w.heap.size, 0, none⟩ : Addr).add j = ⟨w.heap.size, j, none⟩ := by unfold Addr.add; split <;> simp_all
        rw [hadd, cell_of_row wr _ j _ _ (0, 0) hrow]
        simpa using hu
      have hl9 : (Lib.byteCells (pad 9 d)).length = 9 * 1 := by simp [Lib.byteCells, pad_length]
      have hone : ∀ u ∈ Lib.byteCells (pad 9 d), u.oneCell' = true := Lib.byteCells_one _
      have HH := Lib.hid (And.intro hown (And.intro hsrc (And.intro hl9 hone))); clear hown hsrc hl9 hone hx hL hrow hlen
      have hsz := hbel.size
      go_wp2_with (at_builtin; refine wpList_append_own _ rfl _ _ 80 rfl B 5 i0 (.int .u8 0) 1 1 Tryd.underlying80 HI.out.1 HI.out.2.1 HI.out.2.2.1 HI.out.2.2.2 rfl (by decide) _ _ _ rfl HH.out.1 ⟨w.heap.size, 0, none⟩ 9 9 (Lib.byteCells (pad 9 d)) rfl HH.out.2.2.1 HH.out.2.1 HH.out.2.2.2 (by unfold maxLen; omega) (by omega) (by omega) ?_; intro v' w2 hown' hgrow _)
      have hlt : ∀ k, sv.ownBlock = some k → B ≤ k := fun k hk => (H.out.lt k hk).1
      have HZ := Lib.hid (And.intro hown' (And.intro hgrow hlt)); clear hown' hgrow hlt
      go_ret
      exact ⟨v', rfl, HZ.out.1, (hbel.mono hB).grown HZ.out.2.1 (by omega) HZ.out.2.2⟩
end Go.Proofs.YtajonpcmgebbbaaDoor
