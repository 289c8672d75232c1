/- Parts of the proof of the text YtkjhaengllpaoaaGreatDoorZB27. -/
import Derived.Test.YtkjhaengllpaoaaGreatDoorZB1
import Derived.Test.YtkjhaengllpaoaaGreatDoorZB5
set_option linter.all false
set_option maxRecDepth 100000
set_option maxHeartbeats 8000000
namespace Go.Proofs.YtkjhaengllpaoaaGreatDoor
open Go.RowKit
theorem box_facts {w W' : World} {x0 x1 : Value} {t : TypeId} (hb : Below (w.heap.size + 1) (w.alloc (.cells #[x0, x1] t)) W') :
   W'.cell? ⟨w.heap.size, 0, none⟩ = some x0 ∧ W'.cell? ⟨w.heap.size, 1, none⟩ = some x1 :=
 ⟨(hb.cell (p := ⟨w.heap.size, 0, none⟩) (Nat.lt_succ_self _)).trans (by go_cell), (hb.cell (p := ⟨w.heap.size, 1, none⟩) (Nat.lt_succ_self _)).trans (by go_cell)⟩
theorem old_fact {w W' : World} {o : Obj} {a : Addr} {u : Value} (hb : Below (w.heap.size + 1) (w.alloc o) W') (h : w.cell? a = some u) : W'.cell? a = some u := by
 have hl := World.block_lt_of_cell? w a h
 exact (hb.cell (p := a) (by omega)).trans ((World.cell?_of_block (Below.heap_alloc _ _ _ hl)).trans h)
theorem Tab.old {w W' : World} {o : Obj} (h : Tab w) (hb : Below (w.heap.size + 1) (w.alloc o) W') : Tab W' := by
 have h1 : Tab (w.alloc o) := h.next ((Below.refl _ w).alloc (Nat.le_refl _) _)
 have := h.lt
 exact h1.below hb (by omega)
theorem text_any (neg : Bool) (v : Value) (n : Nat) (w : World) (h : IsNat w v n) (hn : (dg n).length ≤ 100000) (ht : Tab w) :
   Calls Tryz.prog 114 #[.agg #[.bool neg, v]] w fun e W' => e = .returned (.tuple #[.string (resB (sgnZ neg n)), .int .i64 (resE (sgnZ neg n))]) ∧ Below w.heap.size w W' := by
 have cl := fun W hW => length_any v n W (Nats.next h hW) (by omega)
 obtain ⟨p, cap, hv, h1, h2, h3⟩ := id h
 subst hv
 have hlim := nlen_lim neg n
 have CL := Lib.hid cl; clear cl
 have H3 := Lib.hid h3; clear h3
 by_cases hbig : 300 < nlen n
 · have hb : (300 : Int) < (nlen n : Nat) := by omega
   have e1 : resB (sgnZ neg n) = ByteArray.empty := by unfold resB; rw [if_neg (hlim.1 hbig)]
   have e2 : resE (sgnZ neg n) = 4 := by unfold resE; rw [if_neg (hlim.1 hbig)]
   rw [e1, e2]
   clear e1 e2 hlim hbig
   generalize nlen n = m at *
   go_enter Tryz.func114, Tryz.ntmps114
   go_wp2_with fail
   refine (CL.out _ ((Below.refl _ w).alloc (Nat.le_refl _) _)).mono ?_
   rintro e w' ⟨rfl, rfl⟩
   go_wp2
   go_ret2
   exact ⟨rfl, (Below.refl _ w).alloc (Nat.le_refl _) _⟩
 · have hb : ((nlen n : Nat) : Int) ≤ 300 := by omega
   have hlt : (sgnZ neg n).natAbs < lim := Decidable.byContradiction fun hc => hbig (hlim.2 hc)
   have e1 : resB (sgnZ neg n) = strB (sgnZ neg n) := by unfold resB; rw [if_pos hlt]
   have e2 : resE (sgnZ neg n) = 0 := by unfold resE; rw [if_pos hlt]
   rw [e1, e2]
   clear e1 e2 hlim hbig hlt
   by_cases h0 : n = 0
   · subst h0
     have hl : (dg 0).length = 0 := by rw [dg_zero]; rfl
     have hz : strB (sgnZ neg 0) = ⟨#[48]⟩ := by
       have : sgnZ neg 0 = 0 := by unfold sgnZ; cases neg <;> rfl
       rw [this]; unfold strB; rw [itoa_zero]
     rw [hz, hl]
     rw [hl] at CL
     have hb2 := hb
     clear hz hl hb hn h1 h H3
     generalize nlen 0 = m at *
     go_enter Tryz.func114, Tryz.ntmps114
     go_wp2_with fail
     refine (CL.out _ ((Below.refl _ w).alloc (Nat.le_refl _) _)).mono ?_
     rintro e w' ⟨rfl, rfl⟩
     go_wp2
     go_ret2
     exact ⟨rfl, (Below.refl _ w).alloc (Nat.le_refl _) _⟩
   · have hne : dg n ≠ [] := fun e => h0 ((dg_nil_iff n).1 e)
     obtain ⟨b, off, rfl, hc⟩ := H3.out hne
     have hl0 : 0 < (dg n).length := List.length_pos_iff.2 hne
     have hz : Lib.itoa (sgnZ neg n) = signT neg ++ txt ((dg n).drop 0) := by rw [itoa_sgn neg h0, List.drop_zero, txt_dg h0]
     have hD := dg_Dig n
     have hlast := (dg_Dig n).getD ((dg n).length - 1)
     have HT := Lib.hid ht
     have HC := Lib.hid hc
     have HZ := Lib.hid hz
     have HD := Lib.hid hD
     obtain ⟨i0, hi, hz0, hz1, hz2⟩ := info_parts info_u8
     have HI := Lib.hid (And.intro hi (And.intro hz0 (And.intro hz1 hz2))); clear hi hz0 hz1 hz2
     clear hz hc H3 ht h hne hD
     generalize dg n = l at *
     generalize nlen n = m at *
     obtain ⟨t, hlt⟩ : ∃ t, l.length = t + 1 := ⟨l.length - 1, by omega⟩
     have HL := Lib.hid hlt
     rw [hlt] at CL h1 hn ⊢
     have hdl : l.getD t 0 < 1000000000 := HD.out.getD t
     obtain ⟨dl, hdl2⟩ : ∃ x, l.getD t 0 = x := ⟨_, rfl⟩
     rw [hdl2] at hdl
     have HDL := Lib.hid hdl2
     have HCL := Lib.hid (show w.cell? ⟨b, off + t, none⟩ = some (.int .u64 (dl : Nat)) by rw [← hdl2]; exact HC.out t (by omega))
     clear hlt hl0 hlast hdl2
     have hB0 := Lib.hid ((Below.refl (w.heap.size + 1) (w.alloc (.cells #[.bool neg, .slice (some ⟨b, off, none⟩) (t + 1) cap] 147))))
     cases neg
     case' false =>
       go_enter Tryz.func114, Tryz.ntmps114
       go_wp2_with fail
       refine (CL.out _ ((Below.refl _ w).alloc (Nat.le_refl _) _)).mono ?_
       rintro e w' ⟨rfl, rfl⟩
       clear CL
       go_wp2_with (at_make; refine wpList_make_own _ rfl _ _ 66 rfl (w.heap.size + 1) 5 i0 (.int .u8 0) 1 Tryz.underlying66 HI.out.1 HI.out.2.1 HI.out.2.2.1 .i64 .i64 _ 301 rfl rfl rfl (by rw [HI.out.2.2.2]; omega) (by unfold maxLen; omega) (by simp) ?_; intro w1 hown hgrow; have hb1 := hB0.out.grown hgrow (by simp) (fun k e => by cases e); obtain ⟨d0, d1⟩ := box_facts hb1; have cd1 := old_fact hb1 HCL.out)
       simp only [World.size_alloc] at hown
       obtain ⟨pre, hpre, hown2⟩ : ∃ pre : List UInt8, Hid (pre = signT false) ∧ w1.ownsRow (w.heap.size + 1) 5 1 (.slice (some ⟨w.heap.size + 1, 0, none⟩) 0 301) pre.length (Lib.byteCells pre) := ⟨[], rfl, hown⟩
       clear hown hgrow
     case' true =>
       go_enter Tryz.func114, Tryz.ntmps114
       go_wp2_with fail
       refine (CL.out _ ((Below.refl _ w).alloc (Nat.le_refl _) _)).mono ?_
       rintro e w' ⟨rfl, rfl⟩
       clear CL
       go_wp2_with (first | (at_make; refine wpList_make_own _ rfl _ _ 66 rfl (w.heap.size + 1) 5 i0 (.int .u8 0) 1 Tryz.underlying66 HI.out.1 HI.out.2.1 HI.out.2.2.1 .i64 .i64 _ 301 rfl rfl rfl (by rw [HI.out.2.2.2]; omega) (by unfold maxLen; omega) (by simp) ?_; intro w0 hown0 hgrow0; simp only [World.size_alloc] at hown0; have hb00 := hB0.out.grown hgrow0 (by simp) (fun k e => by cases e); obtain ⟨d00, d01⟩ := box_facts hb00; have HO := Lib.hid (And.intro hown0 (And.intro hgrow0 hb00)); clear hown0 hgrow0 hb00) | (at_builtin; refine wpList_append_own _ rfl _ _ 66 rfl (w.heap.size + 1) 5 i0 (.int .u8 0) 1 1 Tryz.underlying66 HI.out.1 HI.out.2.1 HI.out.2.2.1 HI.out.2.2.2 rfl (by decide) _ _ _ rfl (HO.out.1.alloc _) ⟨w0.heap.size, 0, none⟩ 1 1 [.int .u8 45] rfl rfl (cell_one_new _ _ _) (by simp [Value.oneCell']) (by unfold maxLen; omega) (by omega) (by have := HO.out.2.2.size; simp at this ⊢; omega) ?_; intro v1 w1 hown1 hgrow1 _; have hb1 := (HO.out.2.2.alloc (by have := HO.out.2.2.size; simp at this; omega) _).grown hgrow1 (by have := HO.out.2.2.size; simp at this ⊢; omega) (fun k e => by cases e; exact Nat.le_refl _); obtain ⟨d0, d1⟩ := box_facts hb1; have cd1 := old_fact hb1 HCL.out))
       obtain ⟨pre, hpre, hown2⟩ : ∃ pre : List UInt8, Hid (pre = signT true) ∧ w1.ownsRow (w.heap.size + 1) 5 1 v1 pre.length (Lib.byteCells pre) := ⟨[45], rfl, hown1⟩
       clear hown1 hgrow1 HO d00 d01
     all_goals
       have hpl : pre.length ≤ 1 := by rw [hpre.out]; simp [signT]
       refine (strAppendUint_any (w.heap.size + 1) pre.length dl (by omega) _ _ _ hown2 (by have := hb1.size; simp at this; omega) (by omega) (HT.out.old hb1)).mono ?_
       rintro e w2 ⟨v2, rfl, hown3, hb2⟩
       have hb3 := hb1.trans hb2
       clear hown2 hb2 hb1 d0 d1 cd1
       obtain ⟨d0, d1⟩ := box_facts hb3
       have hX : ∃ X : List UInt8, Hid (X = pre ++ txt (l.drop t)) ∧ X.length ≤ 30 ∧ 0 < X.length ∧ w2.ownsRow (w.heap.size + 1) 5 1 v2 X.length (Lib.byteCells X) := by
         refine ⟨pre ++ Lib.decDigits dl, ?_, ?_, ?_, ?_⟩
         · show _ = _
           rw [txt_last (by rw [HL.out]), HDL.out]
         · have := (nDigits_le_iff dl 9 (by decide)).2 (by omega)
           rw [List.length_append, Lib.decDigits_length]; omega
         · have := Lib.nDigits_pos dl
           rw [List.length_append, Lib.decDigits_length]; omega
         · rw [List.length_append, Lib.byteCells_append]; exact hown3
       clear hown3
       obtain ⟨X, hX, hXl, hX0, hown⟩ := hX
       have HB3 := Lib.hid hb3; clear hb3
       go_wp2
       clear d0 d1
       go_loopw [4, 6] (fun x y wr => ∃ (j : Nat) (X : List UInt8), j ≤ t ∧ y = .int .i64 ((j : Int) - 1) ∧ Hid (X = pre ++ txt (l.drop j)) ∧ X.length + 9 * j ≤ 30 + 9 * t ∧ 0 < X.length ∧ wr.ownsRow (w.heap.size + 1) 5 1 x X.length (Lib.byteCells X) ∧
           Hid (Below (w.heap.size + 1) (w.alloc (.cells #[_, .slice (some ⟨b, off, none⟩) (t + 1) cap] 147)) wr))
         (fun _ y _ => (intOf y + 1).toNat)
       case atStart => exact ⟨t, X, Nat.le_refl _, rfl, hX, by omega, hX0, hown, HB3⟩
       case round =>
         clear hX hXl hX0 hown HB3 X
         obtain ⟨j, X, hj, rfl, hX, hXl, hX0, hown, hbel⟩ := hrel
         obtain ⟨d0, d1⟩ := box_facts hbel.out
         by_cases hj0 : j = 0
         · subst hj0
           have hXz : Hid (X = Lib.itoa (sgnZ _ n)) := hX.trans (by rw [hpre.out]; exact HZ.out.symm)
           obtain ⟨k, hk⟩ : ∃ k, X.length = k + 1 := ⟨X.length - 1, by omega⟩
           rw [hk] at hown
           obtain ⟨g, cp, rfl⟩ := ownsRow_succ hown
           have hconv := run_convert_bytes_back (P := Tryz.prog) wr 66 9 5 ⟨g, 0, none⟩ cp X Tryz.underlying66 Tryz.underlying5 Tryz.underlying9 (fun j hj => by
             refine hown.cells (g := g) rfl j _ ?_
             simp [Lib.byteCells, List.getElem?_eq_getElem hj])
           rw [hk] at hconv
           clear hown hX hk hX0 hXl
           go_wp2
           go_ret2
           refine ⟨?_, ?_⟩
           · rw [hXz.out]; rfl
           · exact ((Below.refl _ w).alloc (Nat.le_refl _) _).trans (hbel.out.mono (by omega))
         · obtain ⟨i, rfl⟩ : ∃ i, j = i + 1 := ⟨j - 1, by omega⟩
           have hdi := HD.out.getD i
           have ci := old_fact hbel.out (HC.out i (by rw [HL.out]; omega))
           have hX2 : Hid (X ++ pad 9 (l.getD i 0) = pre ++ txt (l.drop i)) := by
             show X ++ pad 9 (l.getD i 0) = _
             have hs := txt_step (l := l) (m := i) (by rw [HL.out]; omega)
             rw [hX.out, hs, List.append_assoc]
           obtain ⟨d, hd⟩ : ∃ x, l.getD i 0 = x := ⟨_, rfl⟩
           rw [hd] at hdi ci hX2
           have hsz := hbel.out.size
           have c := appendPadded_any (w.heap.size + 1) X.length d hdi _ _ wr hown (by simp at hsz; omega) (by omega)
           have C := Lib.hid c
           clear c hd hX hown hsz
           go_wp2_with fail
           refine C.out.mono ?_
           clear C
           rintro e w3 ⟨v3, rfl, hown3, hb3⟩
           have HO3 := Lib.hid (And.intro hown3 hb3); clear hown3 hb3
           go_wp2
           go_roundw
           case rel =>
             refine ⟨i, X ++ pad 9 d, by omega, by go_num, hX2, ?_, ?_, ?_, hbel.out.trans HO3.out.2⟩
             · rw [List.length_append, pad_length]; omega
             · rw [List.length_append]; omega
             · rw [List.length_append, pad_length, Lib.byteCells_append]; exact HO3.out.1
           case measure => simp [intOf]
def outB (e z : Int) : ByteArray := if e = 0 then resB z else ByteArray.empty
def outE (e z : Int) : Int := if e = 0 then resE z else e
theorem outB_ok (z : Int) : outB 0 z = resB z := if_pos rfl
theorem outE_ok (z : Int) : outE 0 z = resE z := if_pos rfl
theorem outB_bad {e : Int} (h : e ≠ 0) (z : Int) : outB e z = ⟨#[]⟩ := if_neg h
theorem outE_bad {e : Int} (h : e ≠ 0) (z : Int) : outE e z = e := if_neg h
theorem chk2_zero {a b : List UInt8} (h : chk2 a b = 0) : chk a = 0 ∧ chk b = 0 := by
 unfold chk2 at h; split at h
 · exact ⟨‹_›, h⟩
 · exact absurd h ‹_›
theorem chk_size {s : ByteArray} (h : chk s.data.toList = 0) : s.size ≤ 301 := by
 have h1 : (szL s.data.toList).length ≤ 300 := by
   unfold chk at h
   by_cases h1 : (szL s.data.toList).all isDig
   · simp only [h1, Bool.not_true, Bool.false_eq_true, if_false] at h
     split at h
     · cases h
     · split at h
       · cases h
       · omega
   · simp only [h1] at h; cases h
 have h2 : s.data.toList.length ≤ (szL s.data.toList).length + 1 := by
   unfold szL; split
   · rw [List.length_tail]; omega
   · omega
 rw [size_len] at h2; omega
theorem lim_big : 1000000000000000000000000000000000000000 ≤ lim := by
 have : tenTo 39 ≤ tenTo 300 := tenTo_mono (by decide)
 have h2 : tenTo 39 = 1000000000000000000000000000000000000000 := by decide
 unfold lim; omega
theorem resB_small {z : Int} (h : z.natAbs < 1000000000000000000000000000000000000000) : resB z = strB z := by unfold resB; rw [if_pos (Nat.lt_of_lt_of_le h lim_big)]
theorem resE_small {z : Int} (h : z.natAbs < 1000000000000000000000000000000000000000) : resE z = 0 := by unfold resE; rw [if_pos (Nat.lt_of_lt_of_le h lim_big)]
theorem val_sgn (l : List UInt8) : sgnZ (isNeg l) (natOf (szL l)) = valOf l := by rw [valOf_szL]; unfold sgnZ; rfl
theorem nat_lim {l : List UInt8} (h : chk l = 0) : natOf (szL l) < lim := by
 have := valOf_lt l h
 rw [valOf_szL] at this; split at this <;> simpa using this
theorem B_tenTo (k : Nat) : B ^ k = tenTo (9 * k) := B_pow k
theorem lim_B : lim ≤ B ^ 34 := by
 rw [B_tenTo]
 exact tenTo_mono (by decide)
theorem dg_lim {n : Nat} (h : n < lim) : (dg n).length ≤ 34 := (dg_length_le n 34).2 (Nat.lt_of_lt_of_le h lim_B)
theorem dg_sum {a b n : Nat} (ha : a < lim) (hb : b < lim) (h : n ≤ a + b) : (dg n).length ≤ 35 := by
 rw [dg_length_le]
 have h1 := lim_B
 have h2 : B ^ 35 = B ^ 34 * B := by rw [show (35 : Nat) = 34 + 1 from rfl, Nat.pow_succ]
 have h3 : B ^ 34 * 2 ≤ B ^ 34 * B := Nat.mul_le_mul_left _ (by decide)
 omega
theorem dg_mul {a b : Nat} (ha : a < lim) (hb : b < lim) : (dg (a * b)).length ≤ 68 := by
 rw [dg_length_le, show B ^ 68 = B ^ 34 * B ^ 34 from (Nat.pow_add B 34 34)]
 have h1 := lim_B
 exact Nat.mul_lt_mul'' (Nat.lt_of_lt_of_le ha h1) (Nat.lt_of_lt_of_le hb h1)
theorem sgn_mul (na nb : Bool) (a b : Nat) : sgnZ (na != nb) (a * b) = sgnZ na a * sgnZ nb b := by
 unfold sgnZ; cases na <;> cases nb <;> simp [Int.mul_neg, Int.neg_mul]
theorem sgn_not (nb : Bool) (b : Nat) : sgnZ (!nb) b = -sgnZ nb b := by unfold sgnZ; cases nb <;> simp
theorem Add_any (a b : ByteArray) (w : World) (ha : a.size ≤ maxLen) (hb : b.size ≤ maxLen) (ht : Tab w) :
   Calls Tryz.prog 98 #[.string a, .string b] w fun e W' => e = .returned (.tuple #[.string (outB (chk2 a.data.toList b.data.toList) (valOf a.data.toList + valOf b.data.toList)), .int .i64 (outE (chk2 a.data.toList b.data.toList) (valOf a.data.toList + valOf b.data.toList))]) ∧ Below w.heap.size w W' := by
 have cb := checkBoth_any a b w ha hb
 generalize he : chk2 a.data.toList b.data.toList = e at *
 have CB := Lib.hid cb; clear cb
 by_cases h0 : e = 0
 · subst h0
   obtain ⟨k1, k2⟩ := chk2_zero he
   have s1 := chk_size k1
   have s2 := chk_size k2
   have i1 := fun W => isShort_any a W ha
   have i2 := fun W => isShort_any b W hb
   have IS := Lib.hid (And.intro i1 i2); clear i1 i2
   have HT := Lib.hid ht
   rw [outB_ok, outE_ok]
   have q1 : (a.size : Int) ≤ 18 ∨ ¬ (a.size : Int) ≤ 18 := Decidable.em _
   by_cases hsh : a.size ≤ 18 ∧ b.size ≤ 18
   · obtain ⟨hs1, hs2⟩ := hsh
     have t1 : decide ((a.size : Int) ≤ 18) = true := by simp; omega
     have t2 : decide ((b.size : Int) ≤ 18) = true := by simp; omega
     rw [t1, t2] at IS
     clear q1
     have v1 := valOf_short k1 (by rw [size_len]; omega)
     have v2 := valOf_short k2 (by rw [size_len]; omega)
     have m1 := fun W => machine_any a W (by omega) k1
     have m2 := fun W => machine_any b W (by omega) k2
     have mo := fun W' (h : Below w.heap.size w W') => ofMachine_any (valOf a.data.toList + valOf b.data.toList) W' (by omega) (by omega) (HT.out.next h)
     have r1 := resB_small (z := valOf a.data.toList + valOf b.data.toList) (by omega)
     have r2 := resE_small (z := valOf a.data.toList + valOf b.data.toList) (by omega)
     rw [r1, r2]
     have MM := Lib.hid (And.intro m1 (And.intro m2 mo))
     clear m1 m2 mo r1 r2 he k1 k2 ht
     generalize valOf a.data.toList = x at *
     generalize valOf b.data.toList = y at *
     go_enter Tryz.func98, Tryz.ntmps98
     go_wp2_with fail
     refine CB.out.mono ?_
     rintro e w' ⟨rfl, rfl⟩
     clear CB
     go_wp2_with fail
     refine (IS.out.1 _).mono ?_
     rintro e w' ⟨rfl, rfl⟩
     go_wp2_with fail
     refine (IS.out.2 _).mono ?_
     rintro e w' ⟨rfl, rfl⟩
     clear IS
     go_wp2_with fail
     refine (MM.out.1 _).mono ?_
     rintro e w' ⟨rfl, rfl⟩
     go_wp2_with fail
     refine (MM.out.2.1 _).mono ?_
     rintro e w' ⟨rfl, rfl⟩
     go_wp2_with fail
     refine (MM.out.2.2 _ (Below.refl _ _)).mono ?_
     rintro e w' ⟨rfl, hbb⟩
     have HB := Lib.hid hbb; clear hbb MM
     go_wp2
     go_ret2
     exact ⟨rfl, HB.out⟩
   · have rr1 := fun W => read_any a W (by omega) k1
     have rr2 := fun W => read_any b W (by omega) k2
     have RR := Lib.hid (And.intro rr1 rr2)
     have NL := Lib.hid (And.intro (nat_lim k1) (nat_lim k2))
     clear rr1 rr2 he k1 k2 ht
     by_cases hs1 : a.size ≤ 18
     case' pos =>
       have t1 : decide ((a.size : Int) ≤ 18) = true := by simp; omega
       have t2 : decide ((b.size : Int) ≤ 18) = false := by simp; omega
       rw [t1, t2] at IS
       clear q1
       go_enter Tryz.func98, Tryz.ntmps98
       go_wp2_with fail
       refine CB.out.mono ?_
       rintro e w' ⟨rfl, rfl⟩
       clear CB
       go_wp2_with fail
       refine (IS.out.1 _).mono ?_
       rintro e w' ⟨rfl, rfl⟩
       go_wp2_with fail
       refine (IS.out.2 _).mono ?_
       rintro e w' ⟨rfl, rfl⟩
     case' neg =>
       have t1 : decide ((a.size : Int) ≤ 18) = false := by simp; omega
       rw [t1] at IS
       clear q1
       go_enter Tryz.func98, Tryz.ntmps98
       go_wp2_with fail
       refine CB.out.mono ?_
       rintro e w' ⟨rfl, rfl⟩
       clear CB
       go_wp2_with fail
       refine (IS.out.1 _).mono ?_
       rintro e w' ⟨rfl, rfl⟩
     all_goals
       go_wp2_with fail
       refine (RR.out.1 _).mono ?_
       rintro e w1 ⟨va, rfl, hva, _, hb1⟩
       have H1 := Lib.hid (And.intro hva hb1); clear hva hb1
       go_wp2_with fail
       refine (RR.out.2 _).mono ?_
       rintro e w2 ⟨vb, rfl, hvb, _, hb2⟩
       have H2 := Lib.hid (And.intro (H1.out.1.next hb2) (And.intro hvb (H1.out.2.trans (hb2.mono H1.out.2.size)))); clear hvb hb2 H1
       go_wp2_with fail
       refine (plus_any _ _ _ _ _ _ _ H2.out.1 H2.out.2.1 (Nat.le_trans (dg_lim NL.out.1) (by decide)) (Nat.le_trans (dg_lim NL.out.2) (by decide))).mono ?_
       rintro e w4 ⟨neg, n, v, rfl, hv, hz, _, hb4⟩
       have hzz : sgnZ neg n = valOf a.data.toList + valOf b.data.toList := by rw [hz.1, val_sgn, val_sgn]
       have H4 := Lib.hid (And.intro hv (H2.out.2.2.trans (hb4.mono H2.out.2.2.size)))
       have ctx := text_any neg v n w4 hv (Nat.le_trans (dg_sum NL.out.1 NL.out.2 hz.2) (by decide)) (HT.out.next H4.out.2)
       rw [hzz] at ctx
       have CT := Lib.hid ctx
       clear ctx hv hb4 hz hzz
       go_wp2_with fail
       refine CT.out.mono ?_
       rintro e w5 ⟨rfl, hb5⟩
       have HB := Lib.hid (H4.out.2.trans (hb5.mono H4.out.2.size)); clear hb5 H4 CT
       go_wp2
       go_ret2
       exact ⟨rfl, HB.out⟩
 · have hn : (e != 0) = true := by simpa using h0
   rw [outB_bad h0, outE_bad h0]
   clear he ht h0
   go_enter Tryz.func98, Tryz.ntmps98
   go_wp2_with fail
   refine CB.out.mono ?_
   rintro e w' ⟨rfl, rfl⟩
   clear CB
   go_wp2
   go_ret2
   exact ⟨rfl, Below.refl _ _⟩
theorem Sub_any (a b : ByteArray) (w : World) (ha : a.size ≤ maxLen) (hb : b.size ≤ maxLen) (ht : Tab w) :
   Calls Tryz.prog 255 #[.string a, .string b] w fun e W' => e = .returned (.tuple #[.string (outB (chk2 a.data.toList b.data.toList) (valOf a.data.toList - valOf b.data.toList)), .int .i64 (outE (chk2 a.data.toList b.data.toList) (valOf a.data.toList - valOf b.data.toList))]) ∧ Below w.heap.size w W' := by
 have cb := checkBoth_any a b w ha hb
 generalize he : chk2 a.data.toList b.data.toList = e at *
 have CB := Lib.hid cb; clear cb
 by_cases h0 : e = 0
 · subst h0
   obtain ⟨k1, k2⟩ := chk2_zero he
   have s1 := chk_size k1
   have s2 := chk_size k2
   have i1 := fun W => isShort_any a W ha
   have i2 := fun W => isShort_any b W hb
   have IS := Lib.hid (And.intro i1 i2); clear i1 i2
   have HT := Lib.hid ht
   rw [outB_ok, outE_ok]
   have q1 : (a.size : Int) ≤ 18 ∨ ¬ (a.size : Int) ≤ 18 := Decidable.em _
   by_cases hsh : a.size ≤ 18 ∧ b.size ≤ 18
   · obtain ⟨hs1, hs2⟩ := hsh
     have t1 : decide ((a.size : Int) ≤ 18) = true := by simp; omega
     have t2 : decide ((b.size : Int) ≤ 18) = true := by simp; omega
     rw [t1, t2] at IS
     clear q1
     have v1 := valOf_short k1 (by rw [size_len]; omega)
     have v2 := valOf_short k2 (by rw [size_len]; omega)
     have m1 := fun W => machine_any a W (by omega) k1
     have m2 := fun W => machine_any b W (by omega) k2
     have mo := fun W' (h : Below w.heap.size w W') => ofMachine_any (valOf a.data.toList - valOf b.data.toList) W' (by omega) (by omega) (HT.out.next h)
     have r1 := resB_small (z := valOf a.data.toList - valOf b.data.toList) (by omega)
     have r2 := resE_small (z := valOf a.data.toList - valOf b.data.toList) (by omega)
     rw [r1, r2]
     have MM := Lib.hid (And.intro m1 (And.intro m2 mo))
     clear m1 m2 mo r1 r2 he k1 k2 ht
     generalize valOf a.data.toList = x at *
     generalize valOf b.data.toList = y at *
     go_enter Tryz.func255, Tryz.ntmps255
     go_wp2_with fail
     refine CB.out.mono ?_
     rintro e w' ⟨rfl, rfl⟩
     clear CB
     go_wp2_with fail
     refine (IS.out.1 _).mono ?_
     rintro e w' ⟨rfl, rfl⟩
     go_wp2_with fail
     refine (IS.out.2 _).mono ?_
     rintro e w' ⟨rfl, rfl⟩
     clear IS
     go_wp2_with fail
     refine (MM.out.1 _).mono ?_
     rintro e w' ⟨rfl, rfl⟩
     go_wp2_with fail
     refine (MM.out.2.1 _).mono ?_
     rintro e w' ⟨rfl, rfl⟩
     go_wp2_with fail
     refine (MM.out.2.2 _ (Below.refl _ _)).mono ?_
     rintro e w' ⟨rfl, hbb⟩
     have HB := Lib.hid hbb; clear hbb MM
     go_wp2
     go_ret2
     exact ⟨rfl, HB.out⟩
   · have rr1 := fun W => read_any a W (by omega) k1
     have rr2 := fun W => read_any b W (by omega) k2
     have RR := Lib.hid (And.intro rr1 rr2)
     have NL := Lib.hid (And.intro (nat_lim k1) (nat_lim k2))
     clear rr1 rr2 he k1 k2 ht
     by_cases hs1 : a.size ≤ 18
     case' pos =>
       have t1 : decide ((a.size : Int) ≤ 18) = true := by simp; omega
       have t2 : decide ((b.size : Int) ≤ 18) = false := by simp; omega
       rw [t1, t2] at IS
       clear q1
       go_enter Tryz.func255, Tryz.ntmps255
       go_wp2_with fail
       refine CB.out.mono ?_
       rintro e w' ⟨rfl, rfl⟩
       clear CB
       go_wp2_with fail
       refine (IS.out.1 _).mono ?_
       rintro e w' ⟨rfl, rfl⟩
       go_wp2_with fail
       refine (IS.out.2 _).mono ?_
       rintro e w' ⟨rfl, rfl⟩
     case' neg =>
       have t1 : decide ((a.size : Int) ≤ 18) = false := by simp; omega
       rw [t1] at IS
       clear q1
       go_enter Tryz.func255, Tryz.ntmps255
       go_wp2_with fail
       refine CB.out.mono ?_
       rintro e w' ⟨rfl, rfl⟩
       clear CB
       go_wp2_with fail
       refine (IS.out.1 _).mono ?_
       rintro e w' ⟨rfl, rfl⟩
     all_goals
       go_wp2_with fail
       refine (RR.out.1 _).mono ?_
       rintro e w1 ⟨va, rfl, hva, _, hb1⟩
       have H1 := Lib.hid (And.intro hva hb1); clear hva hb1
       go_wp2_with fail
       refine (RR.out.2 _).mono ?_
       rintro e w2 ⟨vb, rfl, hvb, _, hb2⟩
       have H2 := Lib.hid (And.intro (H1.out.1.next hb2) (And.intro hvb (H1.out.2.trans (hb2.mono H1.out.2.size)))); clear hvb hb2 H1
       go_wp2_with fail
       refine (opposite_any _ _ _ _ H2.out.2.1).mono ?_
       rintro e w3 ⟨rfl, hb3⟩
       have H3 := Lib.hid (And.intro (H2.out.1.next hb3) (And.intro (H2.out.2.1.next hb3) (H2.out.2.2.trans (hb3.mono H2.out.2.2.size)))); clear hb3 H2
       go_wp2_with fail
       refine (plus_any _ _ _ _ _ _ _ H3.out.1 H3.out.2.1 (Nat.le_trans (dg_lim NL.out.1) (by decide)) (Nat.le_trans (dg_lim NL.out.2) (by decide))).mono ?_
       rintro e w4 ⟨neg, n, v, rfl, hv, hz, _, hb4⟩
       have hzz : sgnZ neg n = valOf a.data.toList - valOf b.data.toList := by rw [hz.1, sgn_not, val_sgn, val_sgn]; omega
       have H4 := Lib.hid (And.intro hv (H3.out.2.2.trans (hb4.mono H3.out.2.2.size)))
       have ctx := text_any neg v n w4 hv (Nat.le_trans (dg_sum NL.out.1 NL.out.2 hz.2) (by decide)) (HT.out.next H4.out.2)
       rw [hzz] at ctx
       have CT := Lib.hid ctx
       clear ctx hv hb4 hz hzz
       go_wp2_with fail
       refine CT.out.mono ?_
       rintro e w5 ⟨rfl, hb5⟩
       have HB := Lib.hid (H4.out.2.trans (hb5.mono H4.out.2.size)); clear hb5 H4 CT
       go_wp2
       go_ret2
       exact ⟨rfl, HB.out⟩
 · have hn : (e != 0) = true := by simpa using h0
   rw [outB_bad h0, outE_bad h0]
   clear he ht h0
   go_enter Tryz.func255, Tryz.ntmps255
   go_wp2_with fail
   refine CB.out.mono ?_
   rintro e w' ⟨rfl, rfl⟩
   clear CB
   go_wp2
   go_ret2
   exact ⟨rfl, Below.refl _ _⟩
theorem short_prod {a b : ByteArray} (ka : chk a.data.toList = 0) (kb : chk b.data.toList = 0) (h : a.size + b.size ≤ 18) :
   -1000000000000000000 < valOf a.data.toList * valOf b.data.toList ∧ valOf a.data.toList * valOf b.data.toList < 1000000000000000000 := by
 have h1 := natOf_lt _ (chk_dig ka)
 have h2 := natOf_lt _ (chk_dig kb)
 have l1 := szL_length a.data.toList
 have l2 := szL_length b.data.toList
 rw [size_len] at l1 l2
 have h3 : natOf (szL a.data.toList) * natOf (szL b.data.toList) < 10 ^ 18 := by
   refine Nat.lt_of_lt_of_le (Nat.mul_lt_mul'' h1 h2) ?_
   rw [← Nat.pow_add]
   exact Nat.pow_le_pow_right (by decide) (by omega)
 have h4 : (valOf a.data.toList * valOf b.data.toList).natAbs = natOf (szL a.data.toList) * natOf (szL b.data.toList) := by
   rw [Int.natAbs_mul, valOf_szL, valOf_szL]
   congr 1 <;> split <;> simp
 omega
theorem Mul_any (a b : ByteArray) (w : World) (ha : a.size ≤ maxLen) (hb : b.size ≤ maxLen) (ht : Tab w) :
   Calls Tryz.prog 97 #[.string a, .string b] w fun e W' => e = .returned (.tuple #[.string (outB (chk2 a.data.toList b.data.toList) (valOf a.data.toList * valOf b.data.toList)), .int .i64 (outE (chk2 a.data.toList b.data.toList) (valOf a.data.toList * valOf b.data.toList))]) ∧ Below w.heap.size w W' := by
 have cb := checkBoth_any a b w ha hb
 generalize he : chk2 a.data.toList b.data.toList = e at *
 have CB := Lib.hid cb; clear cb
 by_cases h0 : e = 0
 · subst h0
   obtain ⟨k1, k2⟩ := chk2_zero he
   have s1 := chk_size k1
   have s2 := chk_size k2
   have i1 := fun W => isShort_any a W ha
   have i2 := fun W => isShort_any b W hb
   have IS := Lib.hid (And.intro i1 i2); clear i1 i2
   have HT := Lib.hid ht
   rw [outB_ok, outE_ok]
   by_cases hsh : a.size + b.size ≤ 18
   · have hs1 : a.size ≤ 18 := by omega
     have hs2 : b.size ≤ 18 := by omega
     have hsi : (a.size : Int) + b.size ≤ 18 := by omega
     have hprod := short_prod k1 k2 hsh
     have v1 := valOf_short k1 (by rw [size_len]; omega)
     have v2 := valOf_short k2 (by rw [size_len]; omega)
     have m1 := fun W => machine_any a W (by omega) k1
     have m2 := fun W => machine_any b W (by omega) k2
     have mo := fun W' (h : Below w.heap.size w W') => ofMachine_any (valOf a.data.toList * valOf b.data.toList) W' (by omega) (by omega) (HT.out.next h)
     have r1 := resB_small (z := valOf a.data.toList * valOf b.data.toList) (by omega)
     have r2 := resE_small (z := valOf a.data.toList * valOf b.data.toList) (by omega)
     rw [r1, r2]
     have MM := Lib.hid (And.intro m1 (And.intro m2 mo))
     clear m1 m2 mo r1 r2 he k1 k2 ht
     generalize valOf a.data.toList = x at *
     generalize valOf b.data.toList = y at *
     go_enter Tryz.func97, Tryz.ntmps97
     go_wp2_with fail
     refine CB.out.mono ?_
     rintro e w' ⟨rfl, rfl⟩
     clear CB
     go_wp2_with fail
     refine (MM.out.1 _).mono ?_
     rintro e w' ⟨rfl, rfl⟩
     go_wp2_with fail
     refine (MM.out.2.1 _).mono ?_
     rintro e w' ⟨rfl, rfl⟩
     go_wp2_with fail
     refine (MM.out.2.2 _ (Below.refl _ _)).mono ?_
     rintro e w' ⟨rfl, hbb⟩
     have HB := Lib.hid hbb; clear hbb MM
     go_wp2
     go_ret2
     exact ⟨rfl, HB.out⟩
   · have rr1 := fun W => read_any a W (by omega) k1
     have rr2 := fun W => read_any b W (by omega) k2
     have RR := Lib.hid (And.intro rr1 rr2)
     have NL := Lib.hid (And.intro (nat_lim k1) (nat_lim k2))
     clear rr1 rr2 he k1 k2 ht
     have hsi : ¬ (a.size : Int) + b.size ≤ 18 := by omega
     go_enter Tryz.func97, Tryz.ntmps97
     go_wp2_with fail
     refine CB.out.mono ?_
     rintro e w' ⟨rfl, rfl⟩
     clear CB
     go_wp2_with fail
     refine (RR.out.1 _).mono ?_
     rintro e w1 ⟨va, rfl, hva, _, hb1⟩
     have H1 := Lib.hid (And.intro hva hb1); clear hva hb1
     go_wp2_with fail
     refine (RR.out.2 _).mono ?_
     rintro e w2 ⟨vb, rfl, hvb, _, hb2⟩
     have H2 := Lib.hid (And.intro (H1.out.1.next hb2) (And.intro hvb (H1.out.2.trans (hb2.mono H1.out.2.size)))); clear hvb hb2 H1
     go_wp2_with fail
     refine (times_any _ _ _ _ _ _ _ H2.out.1 H2.out.2.1 (Nat.le_trans (dg_lim NL.out.1) (by decide)) (Nat.le_trans (dg_lim NL.out.2) (by decide))).mono ?_
     rintro e w4 ⟨v, rfl, hv, _, hb4⟩
     have hzz : sgnZ (isNeg a.data.toList != isNeg b.data.toList) (natOf (szL a.data.toList) * natOf (szL b.data.toList)) = valOf a.data.toList * valOf b.data.toList := by rw [sgn_mul, val_sgn, val_sgn]
     have H4 := Lib.hid (And.intro hv (H2.out.2.2.trans (hb4.mono H2.out.2.2.size)))
     have ctx := text_any (isNeg a.data.toList != isNeg b.data.toList) v _ w4 hv (Nat.le_trans (dg_mul NL.out.1 NL.out.2) (by decide)) (HT.out.next H4.out.2)
     rw [hzz] at ctx
     have CT := Lib.hid ctx
     clear ctx hv hb4 hzz
     go_wp2_with fail
     refine CT.out.mono ?_
     rintro e w5 ⟨rfl, hb5⟩
     have HB := Lib.hid (H4.out.2.trans (hb5.mono H4.out.2.size)); clear hb5 H4 CT
     go_wp2
     go_ret2
     exact ⟨rfl, HB.out⟩
 · have hn : (e != 0) = true := by simpa using h0
   rw [outB_bad h0, outE_bad h0]
   clear he ht h0
   go_enter Tryz.func97, Tryz.ntmps97
   go_wp2_with fail
   refine CB.out.mono ?_
   rintro e w' ⟨rfl, rfl⟩
   clear CB
   go_wp2
   go_ret2
   exact ⟨rfl, Below.refl _ _⟩
theorem natOf_cons (c : UInt8) (t : List UInt8) : natOf (c :: t) = (c.toNat - 48) * 10 ^ t.length + natOf t := by
 have h := natOf_append [c] t
 rw [List.singleton_append] at h
 rw [h]
 show (0 * 10 + (c.toNat - 48)) * _ + _ = _
 rw [Nat.zero_mul, Nat.zero_add]
theorem cmpN_cons {x y p q r : Nat} (hp : p < r) (hq : q < r) : cmpN (x * r + p) (y * r + q) = if x < y then -1 else if y < x then 1 else cmpN p q := by
 by_cases h : x < y
 · have h1 : x * r + r ≤ y * r := by rw [← Nat.succ_mul]; exact Nat.mul_le_mul_right r h
   rw [if_pos h, cmpN_lt (by omega)]
 · rw [if_neg h]
   by_cases h2 : y < x
   · have h1 : y * r + r ≤ x * r := by rw [← Nat.succ_mul]; exact Nat.mul_le_mul_right r h2
     rw [if_pos h2, cmpN_gt (by omega)]
   · have : x = y := by omega
     subst this
     rw [if_neg h2]
     unfold cmpN
     simp only [Nat.add_lt_add_iff_left]
theorem cmpBytes : ∀ (l m : List UInt8), l.length = m.length → (∀ c ∈ l, isDig c = true) → (∀ c ∈ m, isDig c = true) → Lib.compareBytes l m = cmpN (natOf l) (natOf m)
 | [], [], _, _, _ => rfl
 | [], _ :: _, h, _, _ => by simp at h
 | _ :: _, [], h, _, _ => by simp at h
 | a :: l, b :: m, h, h1, h2 => by
   have hl : l.length = m.length := by simpa using h
   have ih := cmpBytes l m hl (fun c hc => h1 c (by simp [hc])) (fun c hc => h2 c (by simp [hc]))
   have da := (isDig_iff a).1 (h1 a (by simp))
   have db := (isDig_iff b).1 (h2 b (by simp))
   have p := natOf_lt l (fun c hc => h1 c (by simp [hc]))
   have q := natOf_lt m (fun c hc => h2 c (by simp [hc]))
   rw [natOf_cons, natOf_cons, ← hl, cmpN_cons p (by rw [hl]; exact q), ← ih]
   show (if a < b then (-1 : Int) else if b < a then 1 else Lib.compareBytes l m) = _
   have e1 : (a < b) ↔ (a.toNat - 48 < b.toNat - 48) := by rw [UInt8.lt_iff_toNat_lt]; omega
   have e2 : (b < a) ↔ (b.toNat - 48 < a.toNat - 48) := by rw [UInt8.lt_iff_toNat_lt]; omega
   simp only [e1, e2]
theorem cmp_sizes {l m : List UInt8} {x y : Nat} (hl : l = Lib.decDigits x) (hm : m = Lib.decDigits y) (h : l.length ≠ m.length) : cmpN x y = cmpN l.length m.length := by
 subst hl hm
 rw [Lib.decDigits_length, Lib.decDigits_length] at *
 have key : ∀ u v, Lib.nDigits u < Lib.nDigits v → u < v := fun u v h => by
   have h1 := Lib.lt_pow_nDigits u
   have h2 := (nDigits_le_iff v (Lib.nDigits u) (Lib.nDigits_pos u))
   have h3 : ¬ v < 10 ^ Lib.nDigits u := fun hc => by have := h2.2 hc; omega
   omega
 rcases Nat.lt_or_gt_of_ne h with h | h
 · rw [cmpN_lt h, cmpN_lt (key _ _ h)]
 · rw [cmpN_gt h, cmpN_gt (key _ _ h)]
theorem compareSizes_any (a b : ByteArray) (x y : Nat) (w : World) (ha : a.data.toList = Lib.decDigits x) (hb : b.data.toList = Lib.decDigits y) (_sa : a.size ≤ 1000000) (_sb : b.size ≤ 1000000) :
   Calls Tryz.prog 257 #[.string a, .string b] w fun e W' => e = .returned (.int .i64 (cmpN x y)) ∧ w = W' := by
 by_cases hne : a.size = b.size
 · have hc : Lib.compareBytes a.data.toList b.data.toList = cmpN x y := by
     rw [cmpBytes _ _ (by rw [size_len, size_len]; exact hne) (by rw [ha]; exact decDigits_dig x) (by rw [hb]; exact decDigits_dig y), ha, hb, natOf_dec, natOf_dec]
   have HC := Lib.hid hc; clear hc ha hb
   have hq : ((a.size : Int) != b.size) = false := by rw [hne]; simp
   clear hne
   go_enter Tryz.func257, Tryz.ntmps257
   go_wp2_with fail
   refine (Tryz.strings_Compare a b _).mono ?_
   rintro e w' ⟨rfl, rfl⟩
   go_wp2
   go_ret
   exact ⟨ret_int HC.out, rfl⟩
 · have hc : Lib.compareInt (a.size : Int) (b.size : Int) = cmpN x y := by
     rw [cmpInt_eq, cmp_sizes ha hb (by rw [size_len, size_len]; exact hne), size_len, size_len]
   have HC := Lib.hid hc; clear hc ha hb
   have hq : ((a.size : Int) != b.size) = true := by rw [bne_iff_ne]; omega
   clear hne
   go_enter Tryz.func257, Tryz.ntmps257
   go_wp2_with fail
   refine (Tryz.cmp_Compare_int _ _ _).mono ?_
   rintro e w' ⟨rfl, rfl⟩
   go_wp2
   go_ret
   exact ⟨ret_int HC.out, rfl⟩
def cmpZ (x y : Int) : Int := if x < y then -1 else if y < x then 1 else 0
theorem szL_dec {l : List UInt8} (h : chk l = 0) : szL l = Lib.decDigits (natOf (szL l)) := by
 have h1 := itoa_valOf l h
 have h2 := szL_itoa (valOf l)
 rw [h1] at h2
 rw [h2, natOf_dec]
theorem isNeg_val {l : List UInt8} (h : chk l = 0) : isNeg l = decide (valOf l < 0) := by
 have := head_itoa_neg (valOf l)
 rwa [itoa_valOf l h] at this
theorem cmpN_Z (x y : Nat) : cmpN x y = cmpZ x y := by
 rcases Nat.lt_trichotomy x y with h | h | h
 · rw [cmpN_lt h]; unfold cmpZ; rw [if_pos (by omega)]
 · rw [cmpN_eq h]; unfold cmpZ; rw [if_neg (by omega), if_neg (by omega)]
 · rw [cmpN_gt h]; unfold cmpZ; rw [if_neg (by omega), if_pos (by omega)]
theorem cmpZ_neg (x y : Int) : cmpZ (-x) (-y) = cmpZ y x := by
 unfold cmpZ
 by_cases h : y < x
 · rw [if_pos (by omega), if_pos h]
 · rw [if_neg (by omega), if_neg h]
   by_cases h2 : x < y
   · rw [if_pos (by omega), if_pos h2]
   · rw [if_neg (by omega), if_neg h2]
theorem Compare_any (a b : ByteArray) (w : World) (ha : a.size ≤ maxLen) (hb : b.size ≤ maxLen) :
   Calls Tryz.prog 254 #[.string a, .string b] w fun e W' => e = .returned (.tuple #[.int .i64 (if chk2 a.data.toList b.data.toList = 0 then cmpZ (valOf a.data.toList) (valOf b.data.toList) else 0), .int .i64 (chk2 a.data.toList b.data.toList)]) ∧ w = W' := by
 have cb := checkBoth_any a b w ha hb
 generalize he : chk2 a.data.toList b.data.toList = e at *
 have CB := Lib.hid cb; clear cb
 by_cases h0 : e = 0
 · subst h0
   rw [if_pos rfl]
   obtain ⟨k1, k2⟩ := chk2_zero he
   have s1 := chk_size k1
   have s2 := chk_size k2
   have NA := Lib.hid (fun W => isNegative_any a W)
   have NB := Lib.hid (fun W => isNegative_any b W)
   have n1 := isNeg_val k1
   have n2 := isNeg_val k2
   have vA := valOf_szL a.data.toList
   have vB := valOf_szL b.data.toList
   have d1 : (szB a).data.toList = Lib.decDigits (natOf (szL a.data.toList)) := by rw [szB_data]; exact szL_dec k1
   have d2 : (szB b).data.toList = Lib.decDigits (natOf (szL b.data.toList)) := by rw [szB_data]; exact szL_dec k2
   have z1 := szB_size a
   have z2 := szB_size b
   cases na : isNeg a.data.toList <;> cases nb : isNeg b.data.toList
   · -- both not negative
     rw [na] at NA n1 vA; rw [nb] at NB n2 vB
     have cs := fun W => compareSizes_any a b (natOf (szL a.data.toList)) (natOf (szL b.data.toList)) W (by rw [← d1]; unfold szB; rw [na]; rfl) (by rw [← d2]; unfold szB; rw [nb]; rfl) (by omega) (by omega)
     have hz : cmpN (natOf (szL a.data.toList)) (natOf (szL b.data.toList)) = cmpZ (valOf a.data.toList) (valOf b.data.toList) := by
       rw [cmpN_Z, vA, vB]; rfl
     have HS := Lib.hid (And.intro cs hz)
     clear n1 n2 vA vB d1 d2 cs hz na nb he k1 k2 z1 z2
     go_enter Tryz.func254, Tryz.ntmps254
     go_wp2_with fail
     refine CB.out.mono ?_
     rintro e w' ⟨rfl, rfl⟩
     go_wp2_with fail
     refine (NA.out _).mono ?_
     rintro e w' ⟨rfl, rfl⟩
     go_wp2_with fail
     refine (NA.out _).mono ?_
     rintro e w' ⟨rfl, rfl⟩
     go_wp2_with fail
     refine (NB.out _).mono ?_
     rintro e w' ⟨rfl, rfl⟩
     go_wp2_with fail
     refine (HS.out.1 _).mono ?_
     rintro e w' ⟨rfl, rfl⟩
     go_wp2
     go_ret2
     exact ⟨ret_two HS.out.2 rfl, rfl⟩
   · rw [na] at NA n1; rw [nb] at NB n2
     have hz : cmpZ (valOf a.data.toList) (valOf b.data.toList) = 1 := by
       have x1 : ¬ valOf a.data.toList < 0 := by simpa using n1.symm
       have x2 : valOf b.data.toList < 0 := by simpa using n2.symm
       unfold cmpZ; rw [if_neg (by omega), if_pos (by omega)]
     have HS := Lib.hid hz
     clear n1 n2 vA vB d1 d2 hz na nb he k1 k2 z1 z2
     go_enter Tryz.func254, Tryz.ntmps254
     go_wp2_with fail
     refine CB.out.mono ?_
     rintro e w' ⟨rfl, rfl⟩
     go_wp2_with fail
     refine (NA.out _).mono ?_
     rintro e w' ⟨rfl, rfl⟩
     go_wp2_with fail
     refine (NA.out _).mono ?_
     rintro e w' ⟨rfl, rfl⟩
     go_wp2_with fail
     refine (NB.out _).mono ?_
     rintro e w' ⟨rfl, rfl⟩
     go_wp2
     go_ret2
     exact ⟨ret_two HS.out.symm rfl, rfl⟩
   · rw [na] at NA n1; rw [nb] at NB n2
     have hz : cmpZ (valOf a.data.toList) (valOf b.data.toList) = -1 := by
       have x1 : valOf a.data.toList < 0 := by simpa using n1.symm
       have x2 : ¬ valOf b.data.toList < 0 := by simpa using n2.symm
       unfold cmpZ; rw [if_pos (by omega)]
     have HS := Lib.hid hz
     clear n1 n2 vA vB d1 d2 hz na nb he k1 k2 z1 z2
     go_enter Tryz.func254, Tryz.ntmps254
     go_wp2_with fail
     refine CB.out.mono ?_
     rintro e w' ⟨rfl, rfl⟩
     go_wp2_with fail
     refine (NA.out _).mono ?_
     rintro e w' ⟨rfl, rfl⟩
     go_wp2_with fail
     refine (NB.out _).mono ?_
     rintro e w' ⟨rfl, rfl⟩
     go_wp2_with fail
     refine (NA.out _).mono ?_
     rintro e w' ⟨rfl, rfl⟩
     go_wp2
     go_ret2
     exact ⟨ret_two HS.out.symm rfl, rfl⟩
   · rw [na] at NA vA; rw [nb] at NB vB
     have cs := fun W => compareSizes_any (szB b) (szB a) (natOf (szL b.data.toList)) (natOf (szL a.data.toList)) W d2 d1 (by omega) (by omega)
     have hz : cmpN (natOf (szL b.data.toList)) (natOf (szL a.data.toList)) = cmpZ (valOf a.data.toList) (valOf b.data.toList) := by
       rw [cmpN_Z, vA, vB, if_pos rfl, if_pos rfl, cmpZ_neg]
     have HS := Lib.hid (And.intro cs hz)
     clear n1 n2 vA vB d1 d2 cs hz na nb he k1 k2 z1 z2
     go_enter Tryz.func254, Tryz.ntmps254
     go_wp2_with fail
     refine CB.out.mono ?_
     rintro e w' ⟨rfl, rfl⟩
     go_wp2_with fail
     refine (NA.out _).mono ?_
     rintro e w' ⟨rfl, rfl⟩
     go_wp2_with fail
     refine (NB.out _).mono ?_
     rintro e w' ⟨rfl, rfl⟩
     go_wp2_with fail
     refine (sizeText_any b _ hb).mono ?_
     rintro e w' ⟨rfl, rfl⟩
     go_wp2_with fail
     refine (sizeText_any a _ ha).mono ?_
     rintro e w' ⟨rfl, rfl⟩
     go_wp2_with fail
     refine (HS.out.1 _).mono ?_
     rintro e w' ⟨rfl, rfl⟩
     go_wp2
     go_ret2
     exact ⟨ret_two HS.out.2 rfl, rfl⟩
 · have hn : (e != 0) = true := by simpa using h0
   rw [if_neg h0]
   clear he h0
   go_enter Tryz.func254, Tryz.ntmps254
   go_wp2_with fail
   refine CB.out.mono ?_
   rintro e w' ⟨rfl, rfl⟩
   clear CB
   go_wp2
   go_ret2
   exact ⟨rfl, rfl⟩
end Go.Proofs.YtkjhaengllpaoaaGreatDoor
