/- The walk of what writes an integer. -/
import Derived.Test.YtajonpcmgebbbaaDoorTxt
namespace Go.Proofs.YtajonpcmgebbbaaDoor
open Go.RowKit

theorem box_facts {w W' : World} {x0 x1 : Value} {t : TypeId} (hb : Below (w.heap.size + 1) (w.alloc (.cells #[x0, x1] t)) W') :
    W'.cell? ⟨w.heap.size, 0, none⟩ = some x0 ∧ W'.cell? ⟨w.heap.size, 1, none⟩ = some x1 :=
  ⟨(hb.cell (p := ⟨w.heap.size, 0, none⟩) (Nat.lt_succ_self _)).trans (by go_cell), (hb.cell (p := ⟨w.heap.size, 1, none⟩) (Nat.lt_succ_self _)).trans (by go_cell)⟩
theorem old_fact {w W' : World} {o : Obj} {a : Addr} {u : Value} (hb : Below (w.heap.size + 1) (w.alloc o) W') (h : w.cell? a = some u) : W'.cell? a = some u := by
  have hl := World.block_lt_of_cell? w a h
  exact (hb.cell (p := a) (by omega)).trans ((World.cell?_of_block (Below.heap_alloc _ _ _ hl)).trans h)
theorem Tab.old {w W' : World} {o : Obj} (h : Tab w) (hb : Below (w.heap.size + 1) (w.alloc o) W') : Tab W' := by
  have h1 : Tab (w.alloc o) := h.next ((Below.refl _ w).alloc (Nat.le_refl _) _)
  have := h.lt
  exact h1.below hb (by omega)

set_option maxRecDepth 100000 in
set_option maxHeartbeats 2000000 in
theorem text_any (neg : Bool) (v : Value) (n : Nat) (w : World) (h : IsNat w v n) (hn : (dg n).length ≤ 100000) (ht : Tab w) :
    Calls Tryd.prog 30 #[.agg #[.bool neg, v]] w fun e W' => e = .returned (.tuple #[.string (resB (sgnZ neg n)), .int .i64 (resE (sgnZ neg n))]) ∧ Below w.heap.size w W' := by
  have cl := fun W hW => length_any v n W (Nats.next h hW) (by omega)
  obtain ⟨p, cap, hv, h1, h2, h3⟩ := id h
  subst hv
  have hlim := nlen_lim neg n
  have CL := Lib.hid cl; clear cl
  have H3 := Lib.hid h3; clear h3
  by_cases hbig : 300 < nlen n
  · have hb : (300 : Int) < (nlen n : Nat) := by omega
    have e1 : resB (sgnZ neg n) = ByteArray.empty := by unfold resB; rw [if_neg (hlim.1 hbig)]
    have e2 : resE (sgnZ neg n) = 4 := by unfold resE; rw [if_neg (hlim.1 hbig)]
    rw [e1, e2]
    clear e1 e2 hlim hbig
    generalize nlen n = m at *
    go_enter Tryd.func30, Tryd.ntmps30
    go_wp2_with fail
    refine (CL.out _ ((Below.refl _ w).alloc (Nat.le_refl _) _)).mono ?_
    rintro e w' ⟨rfl, rfl⟩
    go_wp2
    go_ret2
    exact ⟨rfl, (Below.refl _ w).alloc (Nat.le_refl _) _⟩
  · have hb : ((nlen n : Nat) : Int) ≤ 300 := by omega
    have hlt : (sgnZ neg n).natAbs < lim := Decidable.byContradiction fun hc => hbig (hlim.2 hc)
    have e1 : resB (sgnZ neg n) = strB (sgnZ neg n) := by unfold resB; rw [if_pos hlt]
    have e2 : resE (sgnZ neg n) = 0 := by unfold resE; rw [if_pos hlt]
    rw [e1, e2]
    clear e1 e2 hlim hbig hlt
    by_cases h0 : n = 0
    · subst h0
      have hl : (dg 0).length = 0 := by rw [dg_zero]; rfl
      have hz : strB (sgnZ neg 0) = ⟨#[48]⟩ := by
        have : sgnZ neg 0 = 0 := by unfold sgnZ; cases neg <;> rfl
        rw [this]; unfold strB; rw [itoa_zero]
      rw [hz, hl]
      rw [hl] at CL
      have hb2 := hb
      clear hz hl hb hn h1 h H3
      generalize nlen 0 = m at *
      go_enter Tryd.func30, Tryd.ntmps30
      go_wp2_with fail
      refine (CL.out _ ((Below.refl _ w).alloc (Nat.le_refl _) _)).mono ?_
      rintro e w' ⟨rfl, rfl⟩
      go_wp2
      go_ret2
      exact ⟨rfl, (Below.refl _ w).alloc (Nat.le_refl _) _⟩
    · have hne : dg n ≠ [] := fun e => h0 ((dg_nil_iff n).1 e)
      obtain ⟨b, off, rfl, hc⟩ := H3.out hne
      have hl0 : 0 < (dg n).length := List.length_pos_iff.2 hne
      have hz : Lib.itoa (sgnZ neg n) = signT neg ++ txt ((dg n).drop 0) := by rw [itoa_sgn neg h0, List.drop_zero, txt_dg h0]
      have hD := dg_Dig n
      have hlast := (dg_Dig n).getD ((dg n).length - 1)
      have HT := Lib.hid ht
      have HC := Lib.hid hc
      have HZ := Lib.hid hz
      have HD := Lib.hid hD
      obtain ⟨i0, hi, hz0, hz1, hz2⟩ := info_parts info_u8
      have HI := Lib.hid (And.intro hi (And.intro hz0 (And.intro hz1 hz2))); clear hi hz0 hz1 hz2
      clear hz hc H3 ht h hne hD
      generalize dg n = l at *
      generalize nlen n = m at *
      obtain ⟨t, hlt⟩ : ∃ t, l.length = t + 1 := ⟨l.length - 1, by omega⟩
      have HL := Lib.hid hlt
      rw [hlt] at CL h1 hn ⊢
      have hdl : l.getD t 0 < 1000000000 := HD.out.getD t
      obtain ⟨dl, hdl2⟩ : ∃ x, l.getD t 0 = x := ⟨_, rfl⟩
      rw [hdl2] at hdl
      have HDL := Lib.hid hdl2
      have HCL := Lib.hid (show w.cell? ⟨b, off + t, none⟩ = some (.int .u64 (dl : Nat)) by rw [← hdl2]; exact HC.out t (by omega))
      clear hlt hl0 hlast hdl2
      have hB0 := Lib.hid ((Below.refl (w.heap.size + 1) (w.alloc (.cells #[.bool neg, .slice (some ⟨b, off, none⟩) (t + 1) cap] 46))))
      cases neg
      case' false =>
        go_enter Tryd.func30, Tryd.ntmps30
        go_wp2_with fail
        refine (CL.out _ ((Below.refl _ w).alloc (Nat.le_refl _) _)).mono ?_
        rintro e w' ⟨rfl, rfl⟩
        clear CL
        go_wp2_with (at_make; refine wpList_make_own _ rfl _ _ 80 rfl (w.heap.size + 1) 5 i0 (.int .u8 0) 1 Tryd.underlying80 HI.out.1 HI.out.2.1 HI.out.2.2.1 .i64 .i64 _ 301 rfl rfl rfl (by rw [HI.out.2.2.2]; omega) (by unfold maxLen; omega) (by simp) ?_; intro w1 hown hgrow; have hb1 := hB0.out.grown hgrow (by simp) (fun k e => by cases e); obtain ⟨d0, d1⟩ := box_facts hb1; have cd1 := old_fact hb1 HCL.out)
        simp only [World.size_alloc] at hown
        obtain ⟨pre, hpre, hown2⟩ : ∃ pre : List UInt8, Hid (pre = signT false) ∧ w1.ownsRow (w.heap.size + 1) 5 1 (.slice (some ⟨w.heap.size + 1, 0, none⟩) 0 301) pre.length (Lib.byteCells pre) := ⟨[], rfl, hown⟩
        clear hown hgrow
      case' true =>
        go_enter Tryd.func30, Tryd.ntmps30
        go_wp2_with fail
        refine (CL.out _ ((Below.refl _ w).alloc (Nat.le_refl _) _)).mono ?_
        rintro e w' ⟨rfl, rfl⟩
        clear CL
        go_wp2_with (first | (at_make; refine wpList_make_own _ rfl _ _ 80 rfl (w.heap.size + 1) 5 i0 (.int .u8 0) 1 Tryd.underlying80 HI.out.1 HI.out.2.1 HI.out.2.2.1 .i64 .i64 _ 301 rfl rfl rfl (by rw [HI.out.2.2.2]; omega) (by unfold maxLen; omega) (by simp) ?_; intro w0 hown0 hgrow0; simp only [World.size_alloc] at hown0; have hb00 := hB0.out.grown hgrow0 (by simp) (fun k e => by cases e); obtain ⟨d00, d01⟩ := box_facts hb00; have HO := Lib.hid (And.intro hown0 (And.intro hgrow0 hb00)); clear hown0 hgrow0 hb00) | (at_builtin; refine wpList_append_own _ rfl _ _ 80 rfl (w.heap.size + 1) 5 i0 (.int .u8 0) 1 1 Tryd.underlying80 HI.out.1 HI.out.2.1 HI.out.2.2.1 HI.out.2.2.2 rfl (by decide) _ _ _ rfl (HO.out.1.alloc _) ⟨w0.heap.size, 0, none⟩ 1 1 [.int .u8 45] rfl rfl (cell_one_new _ _ _) (by simp [Value.oneCell']) (by unfold maxLen; omega) (by omega) (by have := HO.out.2.2.size; simp at this ⊢; omega) ?_; intro v1 w1 hown1 hgrow1 _; have hb1 := (HO.out.2.2.alloc (by have := HO.out.2.2.size; simp at this; omega) _).grown hgrow1 (by have := HO.out.2.2.size; simp at this ⊢; omega) (fun k e => by cases e; exact Nat.le_refl _); obtain ⟨d0, d1⟩ := box_facts hb1; have cd1 := old_fact hb1 HCL.out))
        obtain ⟨pre, hpre, hown2⟩ : ∃ pre : List UInt8, Hid (pre = signT true) ∧ w1.ownsRow (w.heap.size + 1) 5 1 v1 pre.length (Lib.byteCells pre) := ⟨[45], rfl, hown1⟩
        clear hown1 hgrow1 HO d00 d01
      all_goals
        have hpl : pre.length ≤ 1 := by rw [hpre.out]; simp [signT]
        refine (strAppendUint_any (w.heap.size + 1) pre.length dl (by omega) _ _ _ hown2 (by have := hb1.size; simp at this; omega) (by omega) (HT.out.old hb1)).mono ?_
        rintro e w2 ⟨v2, rfl, hown3, hb2⟩
        have hb3 := hb1.trans hb2
        clear hown2 hb2 hb1 d0 d1 cd1
        obtain ⟨d0, d1⟩ := box_facts hb3
        have hX : ∃ X : List UInt8, Hid (X = pre ++ txt (l.drop t)) ∧ X.length ≤ 30 ∧ 0 < X.length ∧ w2.ownsRow (w.heap.size + 1) 5 1 v2 X.length (Lib.byteCells X) := by
          refine ⟨pre ++ Lib.decDigits dl, ?_, ?_, ?_, ?_⟩
          · show _ = _
            rw [txt_last (by rw [HL.out]), HDL.out]
          · have := (nDigits_le_iff dl 9 (by decide)).2 (by omega)
            rw [List.length_append, Lib.decDigits_length]; omega
          · have := Lib.nDigits_pos dl
            rw [List.length_append, Lib.decDigits_length]; omega
          · rw [List.length_append, Lib.byteCells_append]; exact hown3
        clear hown3
        obtain ⟨X, hX, hXl, hX0, hown⟩ := hX
        have HB3 := Lib.hid hb3; clear hb3
        go_wp2
        clear d0 d1
        go_loopw [4, 6] (fun x y wr => ∃ (j : Nat) (X : List UInt8), j ≤ t ∧ y = .int .i64 ((j : Int) - 1) ∧ Hid (X = pre ++ txt (l.drop j)) ∧ X.length + 9 * j ≤ 30 + 9 * t ∧ 0 < X.length ∧ wr.ownsRow (w.heap.size + 1) 5 1 x X.length (Lib.byteCells X) ∧
            Hid (Below (w.heap.size + 1) (w.alloc (.cells #[_, .slice (some ⟨b, off, none⟩) (t + 1) cap] 46)) wr))
          (fun _ y _ => (intOf y + 1).toNat)
        case atStart => exact ⟨t, X, Nat.le_refl _, rfl, hX, by omega, hX0, hown, HB3⟩
        case round =>
          clear hX hXl hX0 hown HB3 X
          obtain ⟨j, X, hj, rfl, hX, hXl, hX0, hown, hbel⟩ := hrel
          obtain ⟨d0, d1⟩ := box_facts hbel.out
          by_cases hj0 : j = 0
          · subst hj0
            have hXz : Hid (X = Lib.itoa (sgnZ _ n)) := hX.trans (by rw [hpre.out]; exact HZ.out.symm)
            obtain ⟨k, hk⟩ : ∃ k, X.length = k + 1 := ⟨X.length - 1, by omega⟩
            rw [hk] at hown
            obtain ⟨g, cp, rfl⟩ := ownsRow_succ hown
            have hconv := run_convert_bytes_back (P := Tryd.prog) wr 80 9 5 ⟨g, 0, none⟩ cp X Tryd.underlying80 Tryd.underlying5 Tryd.underlying9 (fun j hj => by
              refine hown.cells (g := g) rfl j _ ?_
              simp [Lib.byteCells, List.getElem?_eq_getElem hj])
            rw [hk] at hconv
            clear hown hX hk hX0 hXl
            go_wp2
            go_ret2
            refine ⟨?_, ?_⟩
            · rw [hXz.out]; rfl
            · exact ((Below.refl _ w).alloc (Nat.le_refl _) _).trans (hbel.out.mono (by omega))
          · obtain ⟨i, rfl⟩ : ∃ i, j = i + 1 := ⟨j - 1, by omega⟩
            have hdi := HD.out.getD i
            have ci := old_fact hbel.out (HC.out i (by rw [HL.out]; omega))
            have hX2 : Hid (X ++ pad 9 (l.getD i 0) = pre ++ txt (l.drop i)) := by
              show X ++ pad 9 (l.getD i 0) = _
              have hs := txt_step (l := l) (m := i) (by rw [HL.out]; omega)
              rw [hX.out, hs, List.append_assoc]
            obtain ⟨d, hd⟩ : ∃ x, l.getD i 0 = x := ⟨_, rfl⟩
            rw [hd] at hdi ci hX2
            have hsz := hbel.out.size
            have c := appendPadded_any (w.heap.size + 1) X.length d hdi _ _ wr hown (by simp at hsz; omega) (by omega)
            have C := Lib.hid c
            clear c hd hX hown hsz
            go_wp2_with fail
            refine C.out.mono ?_
            clear C
            rintro e w3 ⟨v3, rfl, hown3, hb3⟩
            have HO3 := Lib.hid (And.intro hown3 hb3); clear hown3 hb3
            go_wp2
            go_roundw
            case rel =>
              refine ⟨i, X ++ pad 9 d, by omega, by go_num, hX2, ?_, ?_, ?_, hbel.out.trans HO3.out.2⟩
              · rw [List.length_append, pad_length]; omega
              · rw [List.length_append]; omega
              · rw [List.length_append, pad_length, Lib.byteCells_append]; exact HO3.out.1
            case measure => simp [intOf]
end Go.Proofs.YtajonpcmgebbbaaDoor
