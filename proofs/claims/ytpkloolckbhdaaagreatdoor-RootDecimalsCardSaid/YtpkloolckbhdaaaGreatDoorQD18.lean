/- Parts of the proof of the text YtpkloolckbhdaaaGreatDoorQD31. -/
import Derived.OneCell
import Derived.WalkKit
import Derived.Test.YtpkloolckbhdaaaGreatDoorQD1
import Derived.Test.YtpkloolckbhdaaaGreatDoorQD16
import Derived.Test.YtpkloolckbhdaaaGreatDoorQD17
set_option linter.all false
set_option maxRecDepth 100000
set_option maxHeartbeats 8000000
namespace Go.Proofs.YtpkloolckbhdaaaGreatDoor
open Go.RowKit
structure Cell2 (w : World) (k : Nat) (x0 x1 : Value) (W : World) : Prop where
 c0 : W.cell? ⟨k, 0, none⟩ = some x0
 c1 : W.cell? ⟨k, 1, none⟩ = some x1
 f0 : W.frozen? ⟨k, 0, none⟩ = false
 f1 : W.frozen? ⟨k, 1, none⟩ = false
 size : k < W.heap.size
 lo : w.heap.size ≤ k
 below : Below w.heap.size w W
theorem Cell2.new (w : World) (x0 x1 : Value) (t : TypeId) : Cell2 w w.heap.size x0 x1 (w.alloc (.cells #[x0, x1] t)) :=
 ⟨by go_cell, by go_cell, by simp [go_sem], by simp [go_sem], by simp, Nat.le_refl _, (Below.refl _ w).alloc (Nat.le_refl _) _⟩
theorem Cell2.next {w : World} {k : Nat} {x0 x1 : Value} {W W' : World} (h : Cell2 w k x0 x1 W) (b : Below W.heap.size W W') : Cell2 w k x0 x1 W' :=
 ⟨(b.cell (p := ⟨k, 0, none⟩) h.size).trans h.c0, (b.cell (p := ⟨k, 1, none⟩) h.size).trans h.c1, (b.frozen (p := ⟨k, 0, none⟩) h.size).trans h.f0, (b.frozen (p := ⟨k, 1, none⟩) h.size).trans h.f1,
   Nat.lt_of_lt_of_le h.size b.size, h.lo, h.below.trans (b.mono h.below.size)⟩
theorem Cell2.put {w : World} {k : Nat} {x0 x1 : Value} {W : World} (h : Cell2 w k x0 x1 W) (u v : Value) : Below w.heap.size w ((W.setCell ⟨k, 0, none⟩ u).setCell ⟨k, 1, none⟩ v) :=
 (h.below.setCell (p := ⟨k, 0, none⟩) h.lo _).setCell (p := ⟨k, 1, none⟩) h.lo _
theorem TabQ_next {w W : World} (h : Tab64 w) (b : Below w.heap.size w W) : Tab64 W := fun j hj => by
 have h1 := h j hj
 have hl := World.block_lt_of_cell? w _ h1
 exact (b.cell (p := ⟨1, j, none⟩) hl).trans h1
theorem readMachine_bad (s : ByteArray) (w : World) (hs : s.size ≤ maxLen) (h : dOK (cutN s.data.toList) = false) :
   Calls Tryz.prog 69 #[.string s] w fun e W' => (∃ x y, e = .returned (.tuple #[.agg #[.int .i64 x, .int .i64 y], .bool false])) ∧ Below w.heap.size w W' := by
 have cc := fun W => cut_any s W hs
 have r1 := fun W => readDigits_any (bN s) W (Nat.le_trans (bN_size s) hs)
 rw [bN_data] at r1
 rw [h] at r1
 have C := Lib.hid (And.intro cc (And.intro r1 trivial))
 clear cc r1 h hs
 generalize bN s = n at *
 generalize bD s = d at *
 generalize hasS s.data.toList = f at *
 generalize dVal (cutN s.data.toList) = x at *
 go_enter Tryz.func69, Tryz.ntmps69
 go_wp2_with fail
 have hb := Cell2.new w (.int .i64 0) (.int .i64 0) 105
 generalize w.alloc (.cells #[.int .i64 0, .int .i64 0] 105) = W0 at *
 generalize hk : w.heap.size = k at *
 have HK := Lib.hid hk; clear hk
 have HB := Lib.hid hb; clear hb
 refine (C.out.1 _).mono ?_
 rintro e w1 ⟨rfl, b⟩
 have HB1 := Lib.hid (HB.out.next b); clear b HB
 go_wp2_with fail
 refine (C.out.2.1 _).mono ?_
 rintro e w' ⟨rfl, rfl⟩
 obtain ⟨c0, c1, f0, f1, _, _, _⟩ := HB1.out
 obtain ⟨g0, g1⟩ := two_back c0 c1 (.int .i64 0) (.int .i64 0)
 go_wp2
 refine bodyPost_ret (v := .tuple #[.agg #[.int .i64 0, .int .i64 0], .bool false]) (by simp [results, Tryz.results69, go_sem, g0, g1]) rfl ?_
 exact ⟨⟨_, _, rfl⟩, by rw [HK.out]; have := HB1.out.put (.int .i64 0) (.int .i64 0); rwa [HK.out] at this⟩
theorem readMachine_int (s : ByteArray) (w : World) (hs : s.size ≤ maxLen) (h : dOK (cutN s.data.toList) = true) (hf : hasS s.data.toList = false) :
   Calls Tryz.prog 69 #[.string s] w fun e W' => e = .returned (.tuple #[.agg #[.int .i64 (valOf (cutN s.data.toList)), .int .i64 1], .bool true]) ∧ Below w.heap.size w W' := by
 have cc := fun W => cut_any s W hs
 have r1 := fun W => readDigits_any (bN s) W (Nat.le_trans (bN_size s) hs)
 rw [bN_data] at r1
 rw [h, dVal_ok h] at r1
 rw [hf] at cc
 have C := Lib.hid (And.intro cc (And.intro r1 trivial))
 clear cc r1 h hs hf
 generalize bN s = n at *
 generalize bD s = d at *
 generalize valOf (cutN s.data.toList) = x at *
 go_enter Tryz.func69, Tryz.ntmps69
 go_wp2_with fail
 have hb := Cell2.new w (.int .i64 0) (.int .i64 0) 105
 generalize w.alloc (.cells #[.int .i64 0, .int .i64 0] 105) = W0 at *
 generalize hk : w.heap.size = k at *
 have HK := Lib.hid hk; clear hk
 have HB := Lib.hid hb; clear hb
 refine (C.out.1 _).mono ?_
 rintro e w1 ⟨rfl, b⟩
 have HB1 := Lib.hid (HB.out.next b); clear b HB
 go_wp2_with fail
 refine (C.out.2.1 _).mono ?_
 rintro e w' ⟨rfl, rfl⟩
 obtain ⟨c0, c1, f0, f1, _, _, _⟩ := HB1.out
 obtain ⟨g0, g1⟩ := two_back c0 c1 (.int .i64 x) (.int .i64 1)
 go_wp2
 refine bodyPost_ret (v := .tuple #[.agg #[.int .i64 x, .int .i64 1], .bool true]) (by simp [results, Tryz.results69, go_sem, g0, g1]) rfl ?_
 exact ⟨rfl, by rw [HK.out]; have := HB1.out.put (.int .i64 x) (.int .i64 1); rwa [HK.out] at this⟩
theorem readMachine_frac (s : ByteArray) (w : World) (hs : s.size ≤ maxLen) (h : dOK (cutN s.data.toList) = true) (hf : hasS s.data.toList = true) (hd : dOK (cutD s.data.toList) = true) (h1 : 1 < valOf (cutD s.data.toList)) (ht : Tab64 w) :
   Calls Tryz.prog 69 #[.string s] w fun e W' => e = .returned (.tuple #[.agg #[.int .i64 (valOf (cutN s.data.toList)), .int .i64 (valOf (cutD s.data.toList))], .bool (Nat.gcd (valOf (cutN s.data.toList)).natAbs (valOf (cutD s.data.toList)).natAbs == 1)]) ∧ Below w.heap.size w W' := by
 have cc := fun W => cut_any s W hs
 have r1 := fun W => readDigits_any (bN s) W (Nat.le_trans (bN_size s) hs)
 rw [bN_data] at r1
 have hsz : 0 < s.size := by
   rcases Nat.eq_zero_or_pos s.size with h0 | h0
   · rw [data_nil h0] at hf; cases hf
   · exact h0
 have r2 := fun W => readDigits_any (bD s) W (Nat.le_trans (bD_size s hsz) hs)
 rw [bD_data, hd, dVal_ok hd] at r2
 rw [h, dVal_ok h] at r1
 rw [hf] at cc
 have hx := (dOK_parts h).2
 have hy := (dOK_parts hd).2
 have cg := fun W (hW : Below w.heap.size w W) => mach_divisor (valOf (cutN s.data.toList)) (valOf (cutD s.data.toList)) W hx.lo hx.hi hy.lo hy.hi (TabQ_next ht hW)
 have C := Lib.hid (And.intro cc (And.intro r1 (And.intro r2 cg)))
 clear cc r1 r2 cg h hs hf hd hx hy ht hsz
 generalize bN s = n at *
 generalize bD s = d at *
 generalize valOf (cutN s.data.toList) = x at *
 generalize valOf (cutD s.data.toList) = y at *
 generalize Nat.gcd x.natAbs y.natAbs = g at *
 go_enter Tryz.func69, Tryz.ntmps69
 go_wp2_with fail
 have hb := Cell2.new w (.int .i64 0) (.int .i64 0) 105
 generalize w.alloc (.cells #[.int .i64 0, .int .i64 0] 105) = W0 at *
 generalize hk : w.heap.size = k at *
 have HK := Lib.hid hk; clear hk
 have HB := Lib.hid hb; clear hb
 refine (C.out.1 _).mono ?_
 rintro e w1 ⟨rfl, b⟩
 have HB1 := Lib.hid (HB.out.next b); clear b HB
 go_wp2_with fail
 refine (C.out.2.1 _).mono ?_
 rintro e w' ⟨rfl, rfl⟩
 go_wp2_with fail
 refine (C.out.2.2.1 _).mono ?_
 rintro e w' ⟨rfl, rfl⟩
 go_wp2_with fail
 refine (C.out.2.2.2 _ (by have := HB1.out.below; rwa [HK.out] at this)).mono ?_
 rintro e w' ⟨rfl, rfl⟩
 have hgd : ((g : Int) == 1) = (g == 1) := by
   by_cases hg : g = 1
   · subst hg; rfl
   · rw [show (g == 1) = false by simpa using hg, beq_eq_false_iff_ne]; omega
 obtain ⟨c0, c1, f0, f1, _, _, _⟩ := HB1.out
 obtain ⟨g0, g1⟩ := two_back c0 c1 (.int .i64 x) (.int .i64 y)
 go_wp2
 refine bodyPost_ret (v := .tuple #[.agg #[.int .i64 x, .int .i64 y], .bool (g == 1)]) (by simp [results, Tryz.results69, go_sem, g0, g1]) rfl ?_
 exact ⟨rfl, by rw [HK.out]; have := HB1.out.put (.int .i64 x) (.int .i64 y); rwa [HK.out] at this⟩
theorem readMachine_nod (s : ByteArray) (w : World) (hs : s.size ≤ maxLen) (h : dOK (cutN s.data.toList) = true) (hf : hasS s.data.toList = true) (hd : ¬ (dOK (cutD s.data.toList) = true ∧ 1 < valOf (cutD s.data.toList))) :
   Calls Tryz.prog 69 #[.string s] w fun e W' => (∃ x y, e = .returned (.tuple #[.agg #[.int .i64 x, .int .i64 y], .bool false])) ∧ Below w.heap.size w W' := by
 have cc := fun W => cut_any s W hs
 have r1 := fun W => readDigits_any (bN s) W (Nat.le_trans (bN_size s) hs)
 rw [bN_data] at r1
 have hsz : 0 < s.size := by
   rcases Nat.eq_zero_or_pos s.size with h0 | h0
   · rw [data_nil h0] at hf; cases hf
   · exact h0
 have r2 := fun W => readDigits_any (bD s) W (Nat.le_trans (bD_size s hsz) hs)
 rw [bD_data] at r2
 rw [h, dVal_ok h] at r1
 rw [hf] at cc
 have hq : dOK (cutD s.data.toList) = false ∨ (dOK (cutD s.data.toList) = true ∧ ¬ (1 : Int) < dVal (cutD s.data.toList)) := by
   cases hc : dOK (cutD s.data.toList)
   · exact .inl rfl
   · refine .inr ⟨rfl, fun q => hd ⟨hc, ?_⟩⟩
     rwa [dVal_ok hc] at q
 have C := Lib.hid (And.intro cc (And.intro r1 (And.intro r2 trivial)))
 clear cc r1 r2 h hs hf hd hsz
 generalize bN s = n at *
 generalize bD s = d at *
 generalize valOf (cutN s.data.toList) = x at *
 generalize dVal (cutD s.data.toList) = y at *
 generalize dOK (cutD s.data.toList) = o at *
 rcases hq with rfl | ⟨rfl, hy⟩
 · go_enter Tryz.func69, Tryz.ntmps69
   go_wp2_with fail
   have hb := Cell2.new w (.int .i64 0) (.int .i64 0) 105
   generalize w.alloc (.cells #[.int .i64 0, .int .i64 0] 105) = W0 at *
   generalize hk : w.heap.size = k at *
   have HK := Lib.hid hk; clear hk
   have HB := Lib.hid hb; clear hb
   refine (C.out.1 _).mono ?_
   rintro e w1 ⟨rfl, b⟩
   have HB1 := Lib.hid (HB.out.next b); clear b HB
   go_wp2_with fail
   refine (C.out.2.1 _).mono ?_
   rintro e w' ⟨rfl, rfl⟩
   go_wp2_with fail
   refine (C.out.2.2.1 _).mono ?_
   rintro e w' ⟨rfl, rfl⟩
   obtain ⟨c0, c1, f0, f1, _, _, _⟩ := HB1.out
   obtain ⟨g0, g1⟩ := two_back c0 c1 (.int .i64 x) (.int .i64 y)
   go_wp2
   refine bodyPost_ret (v := .tuple #[.agg #[.int .i64 x, .int .i64 y], .bool false]) (by simp [results, Tryz.results69, go_sem, g0, g1]) rfl ?_
   exact ⟨⟨_, _, rfl⟩, by rw [HK.out]; have := HB1.out.put (.int .i64 x) (.int .i64 y); rwa [HK.out] at this⟩
 · go_enter Tryz.func69, Tryz.ntmps69
   go_wp2_with fail
   have hb := Cell2.new w (.int .i64 0) (.int .i64 0) 105
   generalize w.alloc (.cells #[.int .i64 0, .int .i64 0] 105) = W0 at *
   generalize hk : w.heap.size = k at *
   have HK := Lib.hid hk; clear hk
   have HB := Lib.hid hb; clear hb
   refine (C.out.1 _).mono ?_
   rintro e w1 ⟨rfl, b⟩
   have HB1 := Lib.hid (HB.out.next b); clear b HB
   go_wp2_with fail
   refine (C.out.2.1 _).mono ?_
   rintro e w' ⟨rfl, rfl⟩
   go_wp2_with fail
   refine (C.out.2.2.1 _).mono ?_
   rintro e w' ⟨rfl, rfl⟩
   obtain ⟨c0, c1, f0, f1, _, _, _⟩ := HB1.out
   obtain ⟨g0, g1⟩ := two_back c0 c1 (.int .i64 x) (.int .i64 y)
   go_wp2
   refine bodyPost_ret (v := .tuple #[.agg #[.int .i64 x, .int .i64 y], .bool false]) (by simp [results, Tryz.results69, go_sem, g0, g1]) rfl ?_
   exact ⟨⟨_, _, rfl⟩, by rw [HK.out]; have := HB1.out.put (.int .i64 x) (.int .i64 y); rwa [HK.out] at this⟩
theorem readMachine_ok (s : ByteArray) (w : World) (hs : s.size ≤ maxLen) (h : mOK s.data.toList = true) (ht : Tab64 w) :
   Calls Tryz.prog 69 #[.string s] w fun e W' => e = .returned (.tuple #[.agg #[.int .i64 (valOf (cutN s.data.toList)), .int .i64 (valOf (cutD s.data.toList))], .bool true]) ∧ Below w.heap.size w W' := by
 have h' := h
 unfold mOK at h'
 simp only [Bool.and_eq_true, Bool.or_eq_true, Bool.not_eq_true', decide_eq_true_eq] at h'
 obtain ⟨h1, h2⟩ := h'
 cases hf : hasS s.data.toList
 · have c := readMachine_int s w hs h1 hf
   have hd : cutD s.data.toList = [49] := by unfold cutD; rw [hf]; rfl
   rw [hd, valOf_one]; exact c
 · rcases h2 with h2 | ⟨⟨h3, h4⟩, h5⟩
   · rw [hf] at h2; cases h2
   · have c := readMachine_frac s w hs h1 hf h3 h4 ht
     rwa [show (Nat.gcd (valOf (cutN s.data.toList)).natAbs (valOf (cutD s.data.toList)).natAbs == 1) = true by simpa using h5] at c
theorem readMachine_no (s : ByteArray) (w : World) (hs : s.size ≤ maxLen) (h : mOK s.data.toList = false) (ht : Tab64 w) :
   Calls Tryz.prog 69 #[.string s] w fun e W' => (∃ x y, e = .returned (.tuple #[.agg #[.int .i64 x, .int .i64 y], .bool false])) ∧ Below w.heap.size w W' := by
 cases h1 : dOK (cutN s.data.toList)
 · exact readMachine_bad s w hs h1
 · cases hf : hasS s.data.toList
   · exfalso; unfold mOK at h; rw [h1, hf] at h; cases h
   · by_cases hd : dOK (cutD s.data.toList) = true ∧ 1 < valOf (cutD s.data.toList)
     · have c := readMachine_frac s w hs h1 hf hd.1 hd.2 ht
       have hg : (Nat.gcd (valOf (cutN s.data.toList)).natAbs (valOf (cutD s.data.toList)).natAbs == 1) = false := by
         unfold mOK at h
         rw [h1, hf, hd.1, decide_eq_true hd.2] at h
         simpa using h
       rw [hg] at c
       exact c.mono fun e W' ⟨he, hb⟩ => ⟨⟨_, _, he⟩, hb⟩
     · exact readMachine_nod s w hs h1 hf hd
structure Bxs (w : World) (k : Nat) (L : List (List Value)) (W : World) : Prop where
 cells : ∀ i xs, L[i]? = some xs → ∀ j v, xs[j]? = some v → W.cell? ⟨k + i, j, none⟩ = some v
 frozen : ∀ i, i < L.length → ∀ j, W.frozen? ⟨k + i, j, none⟩ = false
 size : k + L.length ≤ W.heap.size
 lo : w.heap.size ≤ k
 below : Below w.heap.size w W
theorem Bxs.next {w : World} {k : Nat} {L : List (List Value)} {W W' : World} (h : Bxs w k L W) (b : Below W.heap.size W W') : Bxs w k L W' :=
 ⟨fun i xs hi j v hj => (b.cell (p := ⟨k + i, j, none⟩) (by have := (List.getElem?_eq_some_iff.1 hi).1; have := h.size; show k + i < _; omega)).trans (h.cells i xs hi j v hj),
   fun i hi j => (b.frozen (p := ⟨k + i, j, none⟩) (by have := h.size; show k + i < _; omega)).trans (h.frozen i hi j), Nat.le_trans h.size b.size, h.lo, h.below.trans (b.mono h.below.size)⟩
theorem Bxs.push {w : World} {k : Nat} {L : List (List Value)} {W : World} (h : Bxs w k L W) (hs : W.heap.size = k + L.length) (xs : List Value) (t : TypeId) : Bxs w k (L ++ [xs]) (W.alloc (.cells xs.toArray t)) := by
 have hb : Below W.heap.size W (W.alloc (.cells xs.toArray t)) := (Below.refl _ W).alloc (Nat.le_refl _) _
 have h2 := h.next hb
 have hnew : (W.alloc (.cells xs.toArray t)).heap[k + L.length]? = some (.cells xs.toArray t (0, 0)) := by rw [← hs]; exact heap_alloc_new W _
 refine ⟨fun i ys hi j v hj => ?_, fun i hi j => ?_, by simp; omega, h2.lo, h2.below⟩
 · by_cases hl : i < L.length
   · rw [List.getElem?_append_left hl] at hi
     exact h2.cells i ys hi j v hj
   · rw [List.getElem?_append_right (by omega)] at hi
     have hi0 : i = L.length := by
       have := (List.getElem?_eq_some_iff.1 hi).1
       simp at this; omega
     subst hi0
     rw [Nat.sub_self] at hi
     have : xs = ys := Option.some.inj hi
     subst this
     rw [cell_of_row _ _ j _ _ _ hnew]
     simpa using hj
 · by_cases hl : i < L.length
   · exact h2.frozen i hl j
   · rw [List.length_append, List.length_singleton] at hi
     have hi0 : i = L.length := by omega
     subst hi0
     exact frozen_no hnew
theorem Bxs.nil (w W : World) (b : Below w.heap.size w W) : Bxs w W.heap.size [] W :=
 ⟨fun i xs hi => by simp at hi, fun i hi => by simp at hi, by simp, b.size, b⟩
end Go.Proofs.YtpkloolckbhdaaaGreatDoor
namespace Go.Proofs.YtpkloolckbhdaaaGreatDoor
open Go Go.RowKit
def Blk (W : World) (k : Nat) (vs : Array Value) : Prop := ∃ t, W.heap[k]? = some (.cells vs t (0, 0))
theorem Blk.lt {W : World} {k : Nat} {vs : Array Value} (h : Blk W k vs) : k < W.heap.size := by
 obtain ⟨t, h⟩ := h; exact lt_of_block h
theorem Blk.cell {W : World} {k : Nat} {vs : Array Value} (h : Blk W k vs) (j : Nat) (v : Value) (hj : vs[j]? = some v) : W.cell? ⟨k, j, none⟩ = some v := by
 obtain ⟨t, h⟩ := h; unfold World.cell?; simp only [h]; simpa using hj
theorem Blk.free {W : World} {k : Nat} {vs : Array Value} (h : Blk W k vs) (j : Nat) : W.frozen? ⟨k, j, none⟩ = false := by
 obtain ⟨t, h⟩ := h; unfold World.frozen?; simp only [h]; simp
theorem Blk.new (W : World) (vs : Array Value) (t : TypeId) : Blk (W.alloc (.cells vs t)) W.heap.size vs := ⟨t, heap_alloc_new W _⟩
theorem Blk.alloc {W : World} {k : Nat} {vs : Array Value} (h : Blk W k vs) (o : Obj) : Blk (W.alloc o) k vs := by
 obtain ⟨t, e⟩ := h; exact ⟨t, by rw [Below.heap_alloc _ _ _ (lt_of_block e)]; exact e⟩
theorem Blk.next {W W' : World} {k : Nat} {vs : Array Value} (h : Blk W k vs) (b : Below W.heap.size W W') : Blk W' k vs := by
 obtain ⟨t, e⟩ := h; exact ⟨t, by rw [b.block k (lt_of_block e)]; exact e⟩
theorem Blk.drew {W : World} {k : Nat} {vs : Array Value} (h : Blk W k vs) : Blk W.drew k vs := h
theorem Blk.other {W : World} {k : Nat} {vs : Array Value} (h : Blk W k vs) {p : Addr} (hp : k ≠ p.block) (u : Value) : Blk (W.setCell p u) k vs := by
 obtain ⟨t, e⟩ := h; exact ⟨t, by rw [Below.heap_setCell _ _ _ _ hp]; exact e⟩
theorem Blk.set {W : World} {k : Nat} {vs : Array Value} (h : Blk W k vs) (j : Nat) (u : Value) : Blk (W.setCell ⟨k, j, none⟩ u) k (vs.setIfInBounds j u) := by
 obtain ⟨t, h⟩ := h
 refine ⟨t, ?_⟩
 have hlt := lt_of_block h
 have h' : W.heap[k] = .cells vs t (0, 0) := by simpa [Array.getElem?_eq_getElem hlt] using h
 show (W.heap.modify k _)[k]? = _
 rw [Array.getElem?_eq_getElem (by simpa using hlt), Array.getElem_modify_self, h']
 rfl
theorem Blk.put2 {W : World} {k : Nat} {a b : Value} (h : Blk W k #[a, b]) (x y : Value) : Blk ((W.setCell ⟨k, 0, none⟩ x).setCell ⟨k, 1, none⟩ y) k #[x, y] := (h.set 0 x).set 1 y
theorem Blk.put4 {W : World} {k : Nat} {a b c d : Value} (h : Blk W k #[a, b, c, d]) (x y z u : Value) : Blk ((((W.setCell ⟨k, 0, none⟩ x).setCell ⟨k, 1, none⟩ y).setCell ⟨k, 2, none⟩ z).setCell ⟨k, 3, none⟩ u) k #[x, y, z, u] := (((h.set 0 x).set 1 y).set 2 z).set 3 u
theorem Blk.other2 {W : World} {k l : Nat} {vs : Array Value} (h : Blk W k vs) (hp : k ≠ l) (x y : Value) : Blk ((W.setCell ⟨l, 0, none⟩ x).setCell ⟨l, 1, none⟩ y) k vs := (h.other hp x).other hp y
theorem below_put2 {B : Nat} {a W : World} (h : Below B a W) {l : Nat} (hl : B ≤ l) (x y : Value) : Below B a ((W.setCell ⟨l, 0, none⟩ x).setCell ⟨l, 1, none⟩ y) := (h.setCell (p := ⟨l, 0, none⟩) hl x).setCell (p := ⟨l, 1, none⟩) hl y
theorem below_put4 {B : Nat} {a W : World} (h : Below B a W) {l : Nat} (hl : B ≤ l) (x y z u : Value) : Below B a ((((W.setCell ⟨l, 0, none⟩ x).setCell ⟨l, 1, none⟩ y).setCell ⟨l, 2, none⟩ z).setCell ⟨l, 3, none⟩ u) := (((h.setCell (p := ⟨l, 0, none⟩) hl x).setCell (p := ⟨l, 1, none⟩) hl y).setCell (p := ⟨l, 2, none⟩) hl z).setCell (p := ⟨l, 3, none⟩) hl u
structure BB (w : World) (k : Nat) (vs : Array Value) (W : World) : Prop where
 blk : Blk W k vs
 lo : w.heap.size ≤ k
 below : Below w.heap.size w W
theorem BB.new (w : World) (vs : Array Value) (t : TypeId) : BB w w.heap.size vs (w.alloc (.cells vs t)) := ⟨Blk.new w vs t, Nat.le_refl _, (Below.refl _ w).alloc (Nat.le_refl _) _⟩
theorem BB.next {w : World} {k : Nat} {vs : Array Value} {W W' : World} (h : BB w k vs W) (b : Below W.heap.size W W') : BB w k vs W' := ⟨h.blk.next b, h.lo, h.below.trans (b.mono h.below.size)⟩
theorem BB.put2 {w : World} {k : Nat} {a b : Value} {W : World} (h : BB w k #[a, b] W) (x y : Value) : BB w k #[x, y] ((W.setCell ⟨k, 0, none⟩ x).setCell ⟨k, 1, none⟩ y) := ⟨h.blk.put2 x y, h.lo, below_put2 h.below h.lo x y⟩
theorem BB.put4 {w : World} {k : Nat} {a b c d : Value} {W : World} (h : BB w k #[a, b, c, d] W) (x y z u : Value) : BB w k #[x, y, z, u] ((((W.setCell ⟨k, 0, none⟩ x).setCell ⟨k, 1, none⟩ y).setCell ⟨k, 2, none⟩ z).setCell ⟨k, 3, none⟩ u) := ⟨h.blk.put4 x y z u, h.lo, below_put4 h.below h.lo x y z u⟩
end Go.Proofs.YtpkloolckbhdaaaGreatDoor
namespace Go.Proofs.YtpkloolckbhdaaaGreatDoor.T
open Go.Proofs.YtpkloolckbhdaaaGreatDoor Go.RowKit Go.Lib
theorem prefix_neg (l : List UInt8) : Lib.hasPrefix l [45] = isNeg l := by
 unfold Lib.hasPrefix isNeg
 cases l with
 | nil => rfl
 | cons a t => simp [List.isPrefixOf]; exact BEq.comm
theorem trim_neg (l : List UInt8) : Lib.trimPrefix l [45] = szL l := by
 unfold Lib.trimPrefix szL
 rw [prefix_neg]
 cases isNeg l <;> simp
def szB (s : ByteArray) : ByteArray := ⟨(szL s.data.toList).toArray⟩
theorem szB_str (z : Int) : szB (strB z) = strB (z.natAbs : Nat) := by
 apply bytes_ext
 unfold szB
 rw [strB_data, strB_data]
 show szL (itoa z) = itoa _
 rw [szL_itoa, Lib.itoa_nonneg]
theorem far2 {w : World} {k j o : Nat} {a b : Value} (hne : j ≠ k) {v : Value} (h : w.cell? ⟨k, o, none⟩ = some v) : ((w.setCell ⟨j, 0, none⟩ a).setCell ⟨j, 1, none⟩ b).cell? ⟨k, o, none⟩ = some v := by
 have hh : ∀ (W : World) (o' : Nat) (u : Value), (W.setCell ⟨j, o', none⟩ u).cell? ⟨k, o, none⟩ = W.cell? ⟨k, o, none⟩ := fun W o' u => World.cell?_of_block (Below.heap_setCell _ _ _ _ (by show k ≠ j; omega))
 rw [hh, hh]; exact h
theorem twoB {w : World} {b : Nat} {x0 x1 : Value} (c0 : w.cell? ⟨b, 0, none⟩ = some x0) (c1 : w.cell? ⟨b, 1, none⟩ = some x1) (X Y : Value) :
   ((w.setCell ⟨b, 0, none⟩ X).setCell ⟨b, 1, none⟩ Y).cell? ⟨b, 0, none⟩ = some X ∧ ((w.setCell ⟨b, 0, none⟩ X).setCell ⟨b, 1, none⟩ Y).cell? ⟨b, 1, none⟩ = some Y := by
 refine ⟨by go_cell, by go_cell⟩
theorem oneg_any (s : ByteArray) (w : World) :
   Calls Tryz.prog 77 #[.string s] w fun e W' => e = .returned (.bool (isNeg s.data.toList)) ∧ Below w.heap.size w W' := by
 have c := fun W => Tryz.strings_HasPrefix s ⟨#[45]⟩ W
 rw [show (⟨#[45]⟩ : ByteArray).data.toList = [45] from rfl, prefix_neg] at c
 have C := Lib.hid c; clear c
 generalize isNeg s.data.toList = b at *
 go_enter Tryz.func77, Tryz.ntmps77
 go_wp2_with fail
 refine (C.out _).mono ?_
 rintro e w' ⟨rfl, rfl⟩
 go_wp2
 go_ret
 exact ⟨rfl, Below.refl _ _⟩
theorem oparts_any (s : ByteArray) (w : World) (hs : s.size ≤ maxLen) :
   Calls Tryz.prog 71 #[.string s] w fun e W' => e = .returned (.agg #[.string (bN s), .string (bD s)]) ∧ Below w.heap.size w W' := by
 have C := Lib.hid (fun W => strCut_any s W hs)
 clear hs
 cases h : hasS s.data.toList
 · obtain ⟨e1, e2⟩ := cut_no h
   rw [e1, h] at C
   rw [e1, e2]
   clear e1 e2 h
   generalize bA s = d at *
   go_enter Tryz.func71, Tryz.ntmps71
   go_wp2_with fail
   have hbx : Bxs w w.heap.size [[.string ⟨#[]⟩, .string ⟨#[]⟩]] (w.alloc (.cells #[.string ⟨#[]⟩, .string ⟨#[]⟩] 75)) := ((Bxs.nil w w (Below.refl _ _)).push rfl [.string ⟨#[]⟩, .string ⟨#[]⟩] 75)
   generalize (w.alloc (.cells #[.string ⟨#[]⟩, .string ⟨#[]⟩] 75)) = W0 at *
   generalize hk : w.heap.size = k at *
   have HK := Lib.hid hk; clear hk
   have HB := Lib.hid hbx
   clear hbx
   have e00 := (show World.cell? _ ⟨k, 0, none⟩ = some (.string ⟨#[]⟩) from HB.out.cells 0 _ rfl 0 _ rfl)
   have f00 := (show World.frozen? _ ⟨k, 0, none⟩ = false from HB.out.frozen 0 (by simp) 0)
   have e01 := (show World.cell? _ ⟨k, 1, none⟩ = some (.string ⟨#[]⟩) from HB.out.cells 0 _ rfl 1 _ rfl)
   have f01 := (show World.frozen? _ ⟨k, 1, none⟩ = false from HB.out.frozen 0 (by simp) 1)
   refine (C.out _).mono ?_
   rintro e w' ⟨rfl, b⟩
   have HN := Lib.hid (HB.out.next b); clear HB b; have HB := HN; clear HN; have e00 := (show World.cell? _ ⟨k, 0, none⟩ = some (.string ⟨#[]⟩) from HB.out.cells 0 _ rfl 0 _ rfl); have f00 := (show World.frozen? _ ⟨k, 0, none⟩ = false from HB.out.frozen 0 (by simp) 0); have e01 := (show World.cell? _ ⟨k, 1, none⟩ = some (.string ⟨#[]⟩) from HB.out.cells 0 _ rfl 1 _ rfl); have f01 := (show World.frozen? _ ⟨k, 1, none⟩ = false from HB.out.frozen 0 (by simp) 1)
   obtain ⟨g0, g1⟩ := twoB e00 e01 (.string s) (.string ⟨#[49]⟩)
   go_wp2
   refine bodyPost_ret (v := .agg #[.string s, .string ⟨#[49]⟩]) (by simp [results, Tryz.results71, go_sem, g0, g1]) rfl ?_
   refine ⟨rfl, ?_⟩
   have hbl := HB.out.below
   rw [HK.out] at hbl ⊢
   exact below_put2 hbl (by omega) _ _
 · rw [show bA s = bD s by unfold bA; rw [h]; rfl, h] at C
   clear h
   generalize bN s = n at *
   generalize bD s = d at *
   go_enter Tryz.func71, Tryz.ntmps71
   go_wp2_with fail
   have hbx : Bxs w w.heap.size [[.string ⟨#[]⟩, .string ⟨#[]⟩]] (w.alloc (.cells #[.string ⟨#[]⟩, .string ⟨#[]⟩] 75)) := ((Bxs.nil w w (Below.refl _ _)).push rfl [.string ⟨#[]⟩, .string ⟨#[]⟩] 75)
   generalize (w.alloc (.cells #[.string ⟨#[]⟩, .string ⟨#[]⟩] 75)) = W0 at *
   generalize hk : w.heap.size = k at *
   have HK := Lib.hid hk; clear hk
   have HB := Lib.hid hbx
   clear hbx
   have e00 := (show World.cell? _ ⟨k, 0, none⟩ = some (.string ⟨#[]⟩) from HB.out.cells 0 _ rfl 0 _ rfl)
   have f00 := (show World.frozen? _ ⟨k, 0, none⟩ = false from HB.out.frozen 0 (by simp) 0)
   have e01 := (show World.cell? _ ⟨k, 1, none⟩ = some (.string ⟨#[]⟩) from HB.out.cells 0 _ rfl 1 _ rfl)
   have f01 := (show World.frozen? _ ⟨k, 1, none⟩ = false from HB.out.frozen 0 (by simp) 1)
   refine (C.out _).mono ?_
   rintro e w' ⟨rfl, b⟩
   have HN := Lib.hid (HB.out.next b); clear HB b; have HB := HN; clear HN; have e00 := (show World.cell? _ ⟨k, 0, none⟩ = some (.string ⟨#[]⟩) from HB.out.cells 0 _ rfl 0 _ rfl); have f00 := (show World.frozen? _ ⟨k, 0, none⟩ = false from HB.out.frozen 0 (by simp) 0); have e01 := (show World.cell? _ ⟨k, 1, none⟩ = some (.string ⟨#[]⟩) from HB.out.cells 0 _ rfl 1 _ rfl); have f01 := (show World.frozen? _ ⟨k, 1, none⟩ = false from HB.out.frozen 0 (by simp) 1)
   obtain ⟨g0, g1⟩ := twoB e00 e01 (.string n) (.string d)
   go_wp2
   refine bodyPost_ret (v := .agg #[.string n, .string d]) (by simp [results, Tryz.results71, go_sem, g0, g1]) rfl ?_
   refine ⟨rfl, ?_⟩
   have hbl := HB.out.below
   rw [HK.out] at hbl ⊢
   exact below_put2 hbl (by omega) _ _
theorem oinverse_any (a b : ByteArray) (w : World) :
   Calls Tryz.prog 84 #[.agg #[.string a, .string b]] w fun e W' => e = .returned (.agg #[.string b, .string a]) ∧ Below w.heap.size w W' := by
 go_enter Tryz.func84, Tryz.ntmps84
 go_wp2
 refine bodyPost_ret (v := .agg #[.string b, .string a]) (by simp [results, Tryz.results84, go_sem]) rfl ?_
 exact ⟨rfl, by go_grown⟩
theorem ptimes (a b c d : Int) (w : World) (ha : short a) (hb : short b) (hc : short c) (hd : short d) (h1 : short (a * c)) (h2 : short (b * d)) (ht : Tab w) :
   Calls Tryz.prog 85 #[.agg #[.string (strB a), .string (strB b)], .agg #[.string (strB c), .string (strB d)]] w fun e W' => e = .returned (.agg #[.string (strB (a * c)), .string (strB (b * d))]) ∧ Below w.heap.size w W' := by
 have ct := fun x y W (hx : short x) (hy : short y) (hz : short (x * y)) (hW : Below w.heap.size w W) => otimes x y W hx hy hz (ht.next hW)
 have C := Lib.hid ct; clear ct ht
 go_enter Tryz.func85, Tryz.ntmps85
 go_wp2
 have hbx : Bxs w w.heap.size [[.string (strB a), .string (strB b)], [.string (strB c), .string (strB d)], [.string ⟨#[]⟩, .string ⟨#[]⟩]] (((w.alloc (.cells #[.string (strB a), .string (strB b)] 75)).alloc (.cells #[.string (strB c), .string (strB d)] 75)).alloc (.cells #[.string ⟨#[]⟩, .string ⟨#[]⟩] 75)) := ((((Bxs.nil w w (Below.refl _ _)).push rfl [.string (strB a), .string (strB b)] 75).push (by simp) [.string (strB c), .string (strB d)] 75).push (by simp) [.string ⟨#[]⟩, .string ⟨#[]⟩] 75)
 generalize (((w.alloc (.cells #[.string (strB a), .string (strB b)] 75)).alloc (.cells #[.string (strB c), .string (strB d)] 75)).alloc (.cells #[.string ⟨#[]⟩, .string ⟨#[]⟩] 75)) = W0 at *
 generalize hk : w.heap.size = k at *
 have HK := Lib.hid hk; clear hk
 have HB := Lib.hid (hbx.next (Below.refl _ _).drew)
 clear hbx
 have e00 := (show World.cell? _ ⟨k, 0, none⟩ = some (.string (strB a)) from HB.out.cells 0 _ rfl 0 _ rfl)
 have e01 := (show World.cell? _ ⟨k, 1, none⟩ = some (.string (strB b)) from HB.out.cells 0 _ rfl 1 _ rfl)
 have e10 := (show World.cell? _ ⟨k + 1, 0, none⟩ = some (.string (strB c)) from HB.out.cells 1 _ rfl 0 _ rfl)
 have e11 := (show World.cell? _ ⟨k + 1, 1, none⟩ = some (.string (strB d)) from HB.out.cells 1 _ rfl 1 _ rfl)
 have e20 := (show World.cell? _ ⟨k + 1 + 1, 0, none⟩ = some (.string ⟨#[]⟩) from HB.out.cells 2 _ rfl 0 _ rfl)
 have f20 := (show World.frozen? _ ⟨k + 1 + 1, 0, none⟩ = false from HB.out.frozen 2 (by simp) 0)
 have e21 := (show World.cell? _ ⟨k + 1 + 1, 1, none⟩ = some (.string ⟨#[]⟩) from HB.out.cells 2 _ rfl 1 _ rfl)
 have f21 := (show World.frozen? _ ⟨k + 1 + 1, 1, none⟩ = false from HB.out.frozen 2 (by simp) 1)
 go_region_held3 (fun w' => w'.cell? ⟨k, 0, none⟩ = some (.string (strB a)) ∧ w'.cell? ⟨k, 1, none⟩ = some (.string (strB b)) ∧ w'.cell? ⟨k + 1, 0, none⟩ = some (.string (strB c)) ∧ w'.cell? ⟨k + 1, 1, none⟩ = some (.string (strB d))) (first | exact ⟨e00, e01, e10, e11⟩ | (go_keep; done) | ((try dsimp only); (refine ⟨?_, ?_, ?_, ?_⟩ <;> (exact far2 (by omega) (by assumption)))))
   (first | (go_at_call 88; refine (C.out _ _ _ (by assumption) (by assumption) (by assumption) (by have := HB.out.below; rwa [HK.out] at this)).mono ?_; rintro e w1 ⟨rfl, b⟩; have HN := Lib.hid (HB.out.next b); clear HB b; have HB := HN; clear HN; have e00 := (show World.cell? _ ⟨k, 0, none⟩ = some (.string (strB a)) from HB.out.cells 0 _ rfl 0 _ rfl); have e01 := (show World.cell? _ ⟨k, 1, none⟩ = some (.string (strB b)) from HB.out.cells 0 _ rfl 1 _ rfl); have e10 := (show World.cell? _ ⟨k + 1, 0, none⟩ = some (.string (strB c)) from HB.out.cells 1 _ rfl 0 _ rfl); have e11 := (show World.cell? _ ⟨k + 1, 1, none⟩ = some (.string (strB d)) from HB.out.cells 1 _ rfl 1 _ rfl); have e20 := (show World.cell? _ ⟨k + 1 + 1, 0, none⟩ = some (.string ⟨#[]⟩) from HB.out.cells 2 _ rfl 0 _ rfl); have f20 := (show World.frozen? _ ⟨k + 1 + 1, 0, none⟩ = false from HB.out.frozen 2 (by simp) 0); have e21 := (show World.cell? _ ⟨k + 1 + 1, 1, none⟩ = some (.string ⟨#[]⟩) from HB.out.cells 2 _ rfl 1 _ rfl); have f21 := (show World.frozen? _ ⟨k + 1 + 1, 1, none⟩ = false from HB.out.frozen 2 (by simp) 1)))
 have e00 := (show World.cell? _ ⟨k, 0, none⟩ = some (.string (strB a)) from HB.out.cells 0 _ rfl 0 _ rfl)
 have e01 := (show World.cell? _ ⟨k, 1, none⟩ = some (.string (strB b)) from HB.out.cells 0 _ rfl 1 _ rfl)
 have e10 := (show World.cell? _ ⟨k + 1, 0, none⟩ = some (.string (strB c)) from HB.out.cells 1 _ rfl 0 _ rfl)
 have e11 := (show World.cell? _ ⟨k + 1, 1, none⟩ = some (.string (strB d)) from HB.out.cells 1 _ rfl 1 _ rfl)
 have e20 := (show World.cell? _ ⟨k + 1 + 1, 0, none⟩ = some (.string ⟨#[]⟩) from HB.out.cells 2 _ rfl 0 _ rfl)
 have f20 := (show World.frozen? _ ⟨k + 1 + 1, 0, none⟩ = false from HB.out.frozen 2 (by simp) 0)
 have e21 := (show World.cell? _ ⟨k + 1 + 1, 1, none⟩ = some (.string ⟨#[]⟩) from HB.out.cells 2 _ rfl 1 _ rfl)
 have f21 := (show World.frozen? _ ⟨k + 1 + 1, 1, none⟩ = false from HB.out.frozen 2 (by simp) 1)
 obtain ⟨g0, g1⟩ := twoB e20 e21 (.string (strB (a * c))) (.string (strB (b * d)))
 go_wp2
 refine bodyPost_ret (v := .agg #[.string (strB (a * c)), .string (strB (b * d))]) (by simp [results, Tryz.results85, go_sem, g0, g1]) rfl ?_
 refine ⟨rfl, ?_⟩
 have hbl := HB.out.below
 rw [HK.out] at hbl ⊢
 exact below_put2 hbl (by omega) _ _
theorem number_core1 (a : ByteArray) (w : World) :
   Calls Tryz.prog 41 #[.agg #[.string a, .string ⟨#[49]⟩]] w fun e W' => e = .returned (.string a) ∧ Below w.heap.size w W' := by
 go_enter Tryz.func41, Tryz.ntmps41
 go_wp2
 go_ret
 exact ⟨rfl, by go_grown⟩
theorem number_core (a b : ByteArray) (w : World) (hb : (b.toList == [49]) = false) (h1 : a.size ≤ 301) (h2 : b.size ≤ 301) :
   Calls Tryz.prog 41 #[.agg #[.string a, .string b]] w fun e W' => e = .returned (.string (a ++ ⟨#[47]⟩ ++ b)) ∧ Below w.heap.size w W' := by
 go_enter Tryz.func41, Tryz.ntmps41
 go_wp2
 go_ret
 exact ⟨rfl, by go_grown⟩
theorem slash_str3 (a b : Int) : (⟨(Lib.itoa a ++ 47 :: Lib.itoa b).toArray⟩ : ByteArray) = strB a ++ ⟨#[47]⟩ ++ strB b := by
 apply bytes_ext
 rw [ByteArray.data_append, ByteArray.data_append]
 simp [strB_data]
theorem str_is1 (d : Int) : ((strB d).toList == [49]) = decide (d = 1) := by
 rw [ByteArray.toList_eq, strB_data]
 by_cases h : d = 1
 · subst h; rw [decide_eq_true rfl, itoa_one]; rfl
 · rw [decide_eq_false h, beq_eq_false_iff_ne]
   intro e
   exact h (itoa_inj (e.trans itoa_one.symm))
theorem onumber (n d : Int) (w : World) (hd : 0 < d) (hc : Nat.Coprime n.natAbs d.natAbs) (h1 : short n) (h2 : short d) :
   Calls Tryz.prog 41 #[.agg #[.string (strB n), .string (strB d)]] w fun e W' => e = .returned (.string (strQ (Rat.divInt n d))) ∧ Below w.heap.size w W' := by
 have e : strQ (Rat.divInt n d) = if d = 1 then strB n else strB n ++ ⟨#[47]⟩ ++ strB d := by
   obtain ⟨k, rfl⟩ : ∃ k : Nat, d = k := ⟨d.natAbs, by omega⟩
   have k0 : k ≠ 0 := by omega
   have hq : Rat.divInt n (k : Int) = ⟨n, k, k0, hc⟩ := by
     rw [Rat.mk_eq_divInt]
   rw [hq]
   unfold strQ itoaQ
   show (⟨(if k = 1 then itoa n else itoa n ++ 47 :: itoa (k : Int)).toArray⟩ : ByteArray) = _
   by_cases h : k = 1
   · rw [if_pos h, if_pos (by omega)]; rfl
   · rw [if_neg h, if_neg (by omega)]; exact slash_str3 _ _
 rw [e]
 by_cases h : d = 1
 · rw [if_pos h, h, show strB 1 = ⟨#[49]⟩ from str_of 1 [49] itoa_one]
   exact number_core1 _ w
 · rw [if_neg h]
   exact number_core _ _ w (by rw [str_is1]; exact decide_eq_false h) (strB_size h1) (strB_size h2)
theorem rootDown_core (a b x y r : ByteArray) (w : World)
   (h1 : ∀ W, Below w.heap.size w W → Calls Tryz.prog 86 #[.string a, .string b] W fun e W' => e = .returned (.tuple #[.string x, .string y]) ∧ Below W.heap.size W W')
   (h2 : ∀ W, Below w.heap.size w W → Calls Tryz.prog 87 #[.string x] W fun e W' => e = .returned (.string r) ∧ Below W.heap.size W W') :
   Calls Tryz.prog 43 #[.agg #[.string a, .string b]] w fun e W' => e = .returned (.string r) ∧ Below w.heap.size w W' := by
 have C := Lib.hid (And.intro h1 h2); clear h1 h2
 go_enter Tryz.func43, Tryz.ntmps43
 go_wp2_with fail
 have hbx : Bxs w w.heap.size [[.string a, .string b]] (w.alloc (.cells #[.string a, .string b] 75)) := ((Bxs.nil w w (Below.refl _ _)).push rfl [.string a, .string b] 75)
 generalize (w.alloc (.cells #[.string a, .string b] 75)) = W0 at *
 generalize hk : w.heap.size = k at *
 have HK := Lib.hid hk; clear hk
 have HB := Lib.hid hbx
 clear hbx
 have e00 := (show World.cell? _ ⟨k, 0, none⟩ = some (.string a) from HB.out.cells 0 _ rfl 0 _ rfl)
 have e01 := (show World.cell? _ ⟨k, 1, none⟩ = some (.string b) from HB.out.cells 0 _ rfl 1 _ rfl)
 refine (C.out.1 _ (by have := HB.out.below; rwa [HK.out] at this)).mono ?_
 rintro e w1 ⟨rfl, b⟩
 have HN := Lib.hid (HB.out.next b); clear HB b; have HB := HN; clear HN; have e00 := (show World.cell? _ ⟨k, 0, none⟩ = some (.string a) from HB.out.cells 0 _ rfl 0 _ rfl); have e01 := (show World.cell? _ ⟨k, 1, none⟩ = some (.string b) from HB.out.cells 0 _ rfl 1 _ rfl)
 go_wp2_with fail
 refine (C.out.2 _ (by have := HB.out.below; rwa [HK.out] at this)).mono ?_
 rintro e w2 ⟨rfl, b⟩
 have HN := Lib.hid (HB.out.next b); clear HB b; have HB := HN; clear HN; have e00 := (show World.cell? _ ⟨k, 0, none⟩ = some (.string a) from HB.out.cells 0 _ rfl 0 _ rfl); have e01 := (show World.cell? _ ⟨k, 1, none⟩ = some (.string b) from HB.out.cells 0 _ rfl 1 _ rfl)
 go_wp2
 go_ret
 refine ⟨rfl, ?_⟩
 have hbl := HB.out.below
 rwa [HK.out] at hbl ⊢
theorem nat_short {n : Nat} : short (n : Int) ↔ n < lim := by unfold short; rw [Int.natAbs_natCast]
theorem nat_fdiv (n d : Nat) : (n : Int).fdiv d = ((n / d : Nat) : Int) := by
 rw [Int.fdiv_eq_ediv_of_nonneg _ (by omega), Int.natCast_ediv]
theorem nat_fmod (n d : Nat) : (n : Int).fmod d = ((n % d : Nat) : Int) := by
 rw [Int.fmod_eq_emod_of_nonneg _ (by omega), Int.natCast_emod]
theorem orootDown (n d : Nat) (w : World) (h1 : n < lim) (h2 : d < lim) (h0 : 0 < d) (ht : Tab w) :
   Calls Tryz.prog 43 #[.agg #[.string (strB n), .string (strB d)]] w fun e W' => e = .returned (.string (strB (rootN (n / d) : Nat))) ∧ Below w.heap.size w W' := by
 refine rootDown_core _ _ _ _ _ w (fun W h => odivide n d W (nat_short.2 h1) (nat_short.2 h2) (by omega) (ht.next h)) (fun W h => ?_)
 rw [nat_fdiv]
 have c := orootOf ((n / d : Nat) : Int) W (Int.natCast_nonneg _) (nat_short.2 (Nat.lt_of_le_of_lt (Nat.div_le_self _ _) h1)) (ht.next h)
 rwa [Int.natAbs_natCast] at c
end Go.Proofs.YtpkloolckbhdaaaGreatDoor.T
