/- Proved here: the sum of a list does not depend on its order, and that of two lists is the sum of both. The law RationalSums returns true for every input, and its arguments read behind the call as before. Conditions: the row's own, the listed tables hold their numbers. -/
import Derived.Laws.AppendOwnNone
import Derived.Sort.Row
import Derived.Test.YtmafghdgmdbpnaaGreatDoorQY1
import Derived.Test.YtmafghdgmdbpnaaGreatDoorQY2
import Derived.Test.YtmafghdgmdbpnaaGreatDoorQY24
import Derived.Test.YtmafghdgmdbpnaaGreatDoorQY30
import Derived.Test.YtmafghdgmdbpnaaGreatDoorQYS1
import Derived.Test.YtmafghdgmdbpnaaGreatDoorQYS5
set_option linter.all false
set_option maxRecDepth 100000
set_option maxHeartbeats 8000000
namespace Go.Proofs.YtmafghdgmdbpnaaGreatDoor
open Go.RowKit
def firstAt (q : ByteArray → Bool) : List ByteArray → Int → Int
 | [], _ => -1
 | s :: t, i => if q s then i else firstAt q t (i + 1)
theorem firstAt_any (q : ByteArray → Bool) : ∀ (xs : List ByteArray) (i : Int), 0 ≤ i → decide (0 ≤ firstAt q xs i) = xs.any q
 | [], i, _ => by simp [firstAt]
 | s :: t, i, h => by
   unfold firstAt
   cases hf : q s
   · simp only [List.any_cons, hf, Bool.false_or, if_neg (by decide : ¬ (false = true))]; exact firstAt_any q t (i + 1) (by omega)
   · simp [hf, h]
theorem firstAt_skip (q : ByteArray → Bool) : ∀ (k : Nat) (xs : List ByteArray) (i : Int), (xs.take k).any q = false → firstAt q xs i = firstAt q (xs.drop k) (i + (min k xs.length : Nat))
 | 0, xs, i, _ => by simp
 | k + 1, [], i, _ => by simp
 | k + 1, s :: t, i, h => by
   simp only [List.take_succ_cons, List.any_cons, Bool.or_eq_false_iff] at h
   have e : firstAt q (s :: t) i = firstAt q t (i + 1) := by conv => lhs; unfold firstAt; rw [if_neg (by rw [h.1]; decide)]
   rw [List.drop_succ_cons, e, firstAt_skip q k t (i + 1) h.2, List.length_cons]
   congr 1; omega
theorem firstAt_end {q : ByteArray → Bool} {xs : List ByteArray} {k : Nat} (h : (xs.take k).any q = false) (hk : xs.length ≤ k) : firstAt q xs 0 = -1 := by
 rw [firstAt_skip q k xs 0 h, List.drop_eq_nil_of_le hk]; rfl
theorem firstAt_here {q : ByteArray → Bool} {xs : List ByteArray} {k : Nat} (h : (xs.take k).any q = false) (hk : k < xs.length) (hf : q (atS xs k) = true) : firstAt q xs 0 = k := by
 rw [atS_get hk] at hf
 rw [firstAt_skip q k xs 0 h, List.drop_eq_getElem_cons hk]
 unfold firstAt
 rw [if_pos hf]
 have : min k xs.length = k := by omega
 rw [this]; omega
theorem anyQ_next {q : ByteArray → Bool} {xs : List ByteArray} {k : Nat} (h : (xs.take k).any q = false) (hk : k < xs.length) (hs : q (atS xs k) = false) : (xs.take (k + 1)).any q = false := by
 rw [take_at hk, List.any_append, h]; simp [hs]
theorem index2_at (g : FuncId) (q : ByteArray → Bool) (en1 : ∀ args W, (callFunc g args).run Tryz.prog W = .ok (.enter g args) W) (b off cap : Nat) (xs : List ByteArray) (w : World) (hl : xs.length ≤ 100) (hs : ∀ s ∈ xs, s.size ≤ maxLen) (hb : b < w.heap.size) (hcl : xs.length ≤ cap)
   (hc : ∀ j, j < xs.length → w.cell? ⟨b, off + j, none⟩ = some (.string (atS xs j)))
   (hg : ∀ s W, s.size ≤ maxLen → Below w.heap.size w W → Calls Tryz.prog g #[.string s] W fun e W' => e = .returned (.bool (q s)) ∧ Below W.heap.size W W') :
   Calls Tryz.prog 86 #[.slice (some ⟨b, off, none⟩) xs.length cap, .func (.func g) #[] #[]] w fun e w' => e = .returned (.int .i64 (firstAt q xs 0)) ∧ Below w.heap.size w w' := by
 have HC := Lib.hid (And.intro hs (And.intro hc hg)); clear hs hc hg
 go_enter Tryz.func86, Tryz.ntmps86
 go_wp2
 go_loopw [8] (fun i wr => ∃ k : Nat, i = .int .i64 k ∧ k ≤ xs.length ∧ Hid ((xs.take k).any q = false) ∧ Hid (Below w.heap.size w wr)) (fun i _ => xs.length - (intOf i).toNat)
 case atStart => exact ⟨0, rfl, by omega, by show _ = false; simp, Below.refl _ _⟩
 case round =>
   obtain ⟨k, rfl, hk, hd, HBw⟩ := hrel
   by_cases hlt : k < xs.length
   · have hck := (HBw.out.cell (p := ⟨b, off + k, none⟩) hb).trans (HC.out.2.1 k hlt)
     have hsz := HC.out.1 _ (atS_mem hlt)
     have hn := Lib.hid (fun h : q (atS xs k) = false => anyQ_next hd.out hlt h)
     have hb := Lib.hid (fun h : q (atS xs k) = true => firstAt_here hd.out hlt h)
     have hr := Lib.hid (HC.out.2.2 (atS xs k) wr hsz HBw.out)
     clear hsz hd
     generalize atS xs k = s at *
     generalize q s = r at *
     go_wp2_with fail
     refine hr.out.mono ?_
     rintro e w' ⟨rfl, b⟩
     have HB2 := Lib.hid (HBw.out.trans (b.mono HBw.out.size)); clear b HBw
     cases r
     · have hnn := Lib.hid (hn.out rfl)
       clear hn hb
       go_wp2
       go_roundw
       case rel => exact ⟨k + 1, by go_num, by omega, hnn.out, HB2.out⟩
       case measure => simp [intOf]; omega
     · have hbb := Lib.hid (hb.out rfl)
       clear hn hb
       go_wp2
       go_ret
       exact ⟨ret_int hbb.out.symm, HB2.out⟩
   · have hbb := Lib.hid (firstAt_end hd.out (by omega))
     clear hd
     go_wp2
     go_ret
     exact ⟨ret_int hbb.out.symm, HBw.out⟩
theorem index2_nil (g : FuncId) (p : Option Addr) (cap : Nat) (w : World) :
   Calls Tryz.prog 86 #[.slice p 0 cap, .func (.func g) #[] #[]] w fun e w' => e = .returned (.int .i64 (-1)) ∧ Below w.heap.size w w' := by
 go_enter Tryz.func86, Tryz.ntmps86
 go_wp2
 go_loopw [8] (fun i wr => i = .int .i64 0 ∧ Hid (Below w.heap.size w wr)) (fun _ _ => 0)
 case atStart => exact ⟨rfl, Below.refl _ _⟩
 case round =>
   obtain ⟨rfl, hB⟩ := hrel
   go_wp2
   go_ret
   exact ⟨rfl, hB.out⟩
theorem index2_any (g : FuncId) (q : ByteArray → Bool) (en1 : ∀ args W, (callFunc g args).run Tryz.prog W = .ok (.enter g args) W) (p : Option Addr) (cap : Nat) (xs : List ByteArray) (w : World) (hl : xs.length ≤ 100) (hs : ∀ s ∈ xs, s.size ≤ maxLen) (hv : StrsAt w.heap.size w (.slice p xs.length cap) xs)
   (hg : ∀ s W, s.size ≤ maxLen → Below w.heap.size w W → Calls Tryz.prog g #[.string s] W fun e W' => e = .returned (.bool (q s)) ∧ Below W.heap.size W W') :
   Calls Tryz.prog 86 #[.slice p xs.length cap, .func (.func g) #[] #[]] w fun e w' => e = .returned (.int .i64 (firstAt q xs 0)) ∧ Below w.heap.size w w' := by
 rcases hv with ⟨_, c, _, e2⟩ | ⟨b, off, c, e1, hb, h1, _, hc⟩
 · subst e2
   exact index2_nil g p cap w
 · obtain ⟨rfl, _, rfl⟩ := slice_inj e1
   exact index2_at g q en1 b off cap xs w hl hs hb h1 hc hg
theorem contains2_any (g : FuncId) (q : ByteArray → Bool) (en1 : ∀ args W, (callFunc g args).run Tryz.prog W = .ok (.enter g args) W) (p : Option Addr) (cap : Nat) (xs : List ByteArray) (w : World) (hl : xs.length ≤ 100) (hs : ∀ s ∈ xs, s.size ≤ maxLen) (hv : StrsAt w.heap.size w (.slice p xs.length cap) xs)
   (hg : ∀ s W, s.size ≤ maxLen → Below w.heap.size w W → Calls Tryz.prog g #[.string s] W fun e W' => e = .returned (.bool (q s)) ∧ Below W.heap.size W W') :
   Calls Tryz.prog 40 #[.slice p xs.length cap, .func (.func g) #[] #[]] w fun e w' => e = .returned (.bool (xs.any q)) ∧ Below w.heap.size w w' := by
 have C := Lib.hid (index2_any g q en1 p cap xs w hl hs hv hg)
 rw [← firstAt_any q xs 0 (by decide)]
 clear hs hv hg en1
 generalize firstAt q xs 0 = r at *
 generalize xs.length = n at *
 go_enter Tryz.func40, Tryz.ntmps40
 go_wp2_with fail
 refine C.out.mono ?_
 rintro e w' ⟨rfl, b⟩
 have B := Lib.hid b; clear b
 go_wp2
 go_ret
 exact ⟨rfl, B.out⟩
theorem any_not (xs : List ByteArray) : xs.any (fun s => !fineQ s) = !xs.all fineQ := by
 induction xs with
 | nil => rfl
 | cons s t ih => rw [List.any_cons, List.all_cons, ih, Bool.not_and]
theorem fine2_any (p : Option Addr) (cap : Nat) (xs : List ByteArray) (w : World) (hl : xs.length ≤ 100) (hs : ∀ s ∈ xs, s.size ≤ maxLen) (hv : StrsAt w.heap.size w (.slice p xs.length cap) xs) (ht : Tab w) :
   Calls Tryz.prog 36 #[.slice p xs.length cap] w fun e w' => e = .returned (.bool (xs.all fineQ)) ∧ Below w.heap.size w w' := by
 have C := Lib.hid (contains2_any 85 (fun s => !fineQ s) (enters_of Tryz.func85 (by kernel_rfl) rfl) p cap xs w hl hs hv (fun s W h hW => fine1_any s W h (ht.next hW)))
 rw [any_not] at C
 clear hs hv ht
 generalize xs.all fineQ = r at *
 generalize xs.length = n at *
 go_enter Tryz.func36, Tryz.ntmps36
 go_wp2_with fail
 refine C.out.mono ?_
 rintro e w' ⟨rfl, b⟩
 have B := Lib.hid b; clear b
 go_wp2
 go_ret
 exact ⟨by simp, B.out⟩
theorem sums1_any (s : ByteArray) (w : World) (hs : s.size ≤ maxLen) :
   Calls Tryz.prog 42 #[.string s] w fun e W' => e = .returned (.bool (decide ((30 : Int) < s.size))) ∧ Below w.heap.size w W' := by
 have hm : (s.size : Int) ≤ 9223372036854775807 := by unfold maxLen at hs; omega
 clear hs
 by_cases h : (30 : Int) < s.size
 · rw [decide_eq_true h]
   go_enter Tryz.func42, Tryz.ntmps42
   go_wp2
   go_ret
   exact ⟨rfl, Below.refl _ _⟩
 · rw [decide_eq_false h]
   go_enter Tryz.func42, Tryz.ntmps42
   go_wp2
   go_ret
   exact ⟨rfl, Below.refl _ _⟩
end Go.Proofs.YtmafghdgmdbpnaaGreatDoor
namespace Go.Proofs.YtmafghdgmdbpnaaGreatDoor
open Go.RowKit Go.Sort Go.WideShapes
theorem infoNum : (Tryz.prog.info? 22).map (fun i => (i.zero, i.size, i.bytes)) = some (some (.string ⟨#[]⟩), 1, 16) := by kernel_rfl
def OwnS (W : World) (base : Nat) (v : Value) (xs : List ByteArray) : Prop := W.ownsRow base 22 1 v xs.length (xs.map Value.string)
theorem OwnS.strs {W : World} {base : Nat} {v : Value} {xs : List ByteArray} (h : OwnS W base v xs) : StrsAt W.heap.size W v xs ∧ ∃ p c, v = .slice p xs.length c ∧ (p = none → c = 0) := by
 have h0 : W.ownsRow base 22 1 v xs.length (xs.map Value.string) := h
 obtain ⟨h1, h2⟩ := h
 rcases h2 with ⟨rfl, h3⟩ | ⟨g, cap, cur, rfl, hb, hh, hn, hcap, hsz, htk⟩
 · have : xs = [] := List.eq_nil_of_length_eq_zero h3
   subst this
   exact ⟨.inl ⟨none, 0, rfl, rfl⟩, none, 0, rfl, fun _ => rfl⟩
 · refine ⟨.inr ⟨g, 0, cap, rfl, (h0.lt g rfl).2, hn, hcap, fun j hj => ?_⟩, some ⟨g, 0, none⟩, cap, rfl, fun e => by cases e⟩
   have h3 := h0.cells (g := g) rfl j (.string (atS xs j)) (by rw [List.getElem?_map, List.getElem?_eq_getElem hj, atS_get hj]; rfl)
   rwa [add_plain] at h3
theorem app_strs {ops : Array Oper} {rest : List Oper} {o : Oper} {a : Act} {Q : Exit → Act → World → Prop} {w : World} (hgd : o.guard = none) (s x : Operand)
   (ho : o.op = .call { callee := .builtin .append, args := #[s, x], argTypes := #[33, 33] })
   (base : Nat) (v : Value) (zs : List ByteArray) (hs : a.eval s = v) (hown : OwnS w base v zs) (p : Option Addr) (c : Nat) (ys : List ByteArray) (hx : a.eval x = .slice p ys.length c) (hv : StrsAt w.heap.size w (.slice p ys.length c) ys) (hn : p = none → c = 0) (hl : zs.length + ys.length ≤ 4096) (hbase : base ≤ w.heap.size)
   (h : ∀ v' w', OwnS w' base v' (zs ++ ys) → Below base w w' → wpList Tryz.prog ops Q rest (a.put o.dst v') w') : wpList Tryz.prog ops Q (o :: rest) a w := by
 obtain ⟨i0, hi, hz0, hz1, hz2⟩ := info_parts infoNum
 cases p with
 | none =>
   have hc := hn rfl
   subst hc
   rcases hv with ⟨_, _, _, e2⟩ | ⟨b, off, c', e1, _⟩
   · subst e2
     exact wpList_append_own_none hgd s x 33 ho base 22 i0 1 Tryz.underlying33 hi v zs.length (zs.map Value.string) hs hown hx (h v w (by rw [List.append_nil]; exact hown) (Below.refl _ _))
   · obtain ⟨e3, _⟩ := slice_inj e1
     cases e3
 | some ad =>
   refine wpList_append_own _ hgd s x 33 ho base 22 i0 (.string ⟨#[]⟩) 1 16 Tryz.underlying33 hi hz0 hz1 hz2 rfl (by decide) v zs.length (zs.map Value.string) hs hown ad ys.length c (ys.map Value.string) hx (by simp) ?_ ?_ (by unfold maxLen; omega) (by omega) hbase ?_
   · intro j u hj
     rw [List.getElem?_map] at hj
     rcases hv with ⟨_, _, _, e2⟩ | ⟨b, off, c', e1, _, _, _, hc⟩
     · subst e2; simp at hj
     · obtain ⟨e3, _⟩ := slice_inj e1
       cases e3
       have hj2 : j < ys.length := by
         by_cases q : j < ys.length
         · exact q
         · rw [List.getElem?_eq_none (by omega)] at hj; cases hj
       rw [List.getElem?_eq_getElem hj2] at hj
       have hu : u = .string (atS ys j) := by rw [atS_get hj2]; exact (Option.some.inj hj).symm
       rw [hu, add_plain]
       exact hc j hj2
   · intro u hu
     obtain ⟨t, _, rfl⟩ := List.mem_map.1 hu
     rfl
   · intro v' w' hown' hgrow _
     refine h v' w' ?_ ((Below.refl base w).grown hgrow hbase (fun k hk => (hown.lt k hk).1))
     show w'.ownsRow base 22 1 v' (zs ++ ys).length ((zs ++ ys).map Value.string)
     rw [List.length_append, List.map_append]; exact hown'
theorem clone_any (p : Option Addr) (c : Nat) (xs : List ByteArray) (w : World) (hl : xs.length ≤ 100) (hv : StrsAt w.heap.size w (.slice p xs.length c) xs) (hn : p = none → c = 0) :
   Calls Tryz.prog 43 #[.slice p xs.length c] w fun e W' => ∃ v, e = .returned v ∧ OwnS W' w.heap.size v xs ∧ Below w.heap.size w W' := by
 have q22 : ∀ (w : World) (a : Option Addr) (n c n' c' : Nat), (binOp .eql 33 (.slice a n c) (.slice none n' c')).run Tryz.prog w = .ok (.bool a.isNone) w := fun w a n c n' c' => Lib.run_eql_slice_nil w _ _ a n c n' c' Tryz.underlying33
 have HV := Lib.hid (And.intro hv hn); clear hv hn
 cases p with
 | none =>
   have hx : Hid (xs = []) := by
     rcases HV.out.1 with ⟨_, _, _, e2⟩ | ⟨b, off, c', e1, _⟩
     · exact e2
     · obtain ⟨e3, _⟩ := slice_inj e1
       cases e3
   go_enter Tryz.func43, Tryz.ntmps43
   go_wp2
   go_ret
   exact ⟨_, rfl, by rw [hx.out]; exact World.ownsRow_nil _ _ _ _, Below.refl _ _⟩
 | some ad =>
   have hB := Below.refl w.heap.size w
   go_enter Tryz.func43, Tryz.ntmps43
   go_wp2_with (at_builtin; refine app_strs rfl _ _ rfl w.heap.size _ [] rfl (World.ownsRow_made w #[] 0 (Nat.le_refl _) (Nat.zero_le _) (by simp)) (some ad) c xs rfl ?qc1 ?qc2 ?qc3 ?qc4 ?_)
   case qc1 => exact (HV.out.1.below (hB.alloc (Nat.le_refl _) _) (Nat.le_refl _)).up (by simp)
   case qc2 => exact HV.out.2
   case qc3 => show 0 + xs.length ≤ 4096; omega
   case qc4 => simp
   intro v' w1 hown hgrow
   have HO := Lib.hid (And.intro hown ((hB.alloc (Nat.le_refl _) _).trans hgrow)); clear hown hgrow hB
   go_wp2
   go_ret
   exact ⟨_, rfl, HO.out.1, HO.out.2⟩
theorem below_putRow {W : World} {base g n : Nat} (ds : Array ByteArray) (h : base ≤ g) : Below base W (putRow Value.string (Sort.ahead W n) g 0 ds) := by
 refine ⟨rfl, rfl, rfl, by simp, fun k hk => ?_⟩
 simp only [putRow, mapBlock, Sort.heap_ahead, Array.getElem?_modify]
 rw [if_neg (by omega)]
theorem reverse_any (base : Nat) (v : Value) (xs : List ByteArray) (w : World) (hl : xs.length ≤ 100) (h : OwnS w base v xs) :
   Calls Tryz.prog 44 #[v] w fun e W' => e = .returned (.tuple #[]) ∧ StrsAt W'.heap.size W' v xs.reverse ∧ Below base w W' := by
 have h0 : w.ownsRow base 22 1 v xs.length (xs.map Value.string) := h
 obtain ⟨h1, h2⟩ := h
 rcases h2 with ⟨rfl, h3⟩ | ⟨g, cap, cur, rfl, hb, hh, hn, hcap, hsz, htk⟩
 · have : xs = [] := List.eq_nil_of_length_eq_zero h3
   subst this
   have c : Calls Tryz.prog 44 _ _ _ := AnyE.slices_Reverse_empty Tryz.laysReverse none 0 w
   exact c.mono fun e W' ⟨he, hw⟩ => ⟨he, .inl ⟨none, 0, rfl, rfl⟩, by rw [hw]; exact Below.refl _ _⟩
 · have hH : Holds Value.string w g 0 xs.toArray := by
     intro j hj
     have hj' : j < xs.length := by simpa using hj
     have h3 := h0.cells (g := g) rfl j (.string (atS xs j)) (by rw [List.getElem?_map, List.getElem?_eq_getElem hj', atS_get hj']; rfl)
     rw [add_plain] at h3
     refine ⟨?_, ?_⟩
     · rw [h3, atS_get hj']; simp [hj']
     · unfold World.frozen?
       rw [hh]; simp
   have c : Calls Tryz.prog 44 #[.slice (some ⟨g, 0, none⟩) xs.length cap] w fun e w' => e = .returned (.tuple #[]) ∧ ∃ n, w' = putRow Value.string (Sort.ahead w n) g 0 xs.reverse.toArray :=
     AnyE.slices_Reverse Tryz.laysReverse Value.string (fun _ => rfl) g 0 cap xs w hH (by omega)
   refine c.mono ?_
   rintro e W' ⟨he, n, rfl⟩
   refine ⟨he, .inr ⟨g, 0, cap, by rw [List.length_reverse], by rw [size_putRow]; exact (h0.lt g rfl).2, by rw [List.length_reverse]; exact hn, hcap, fun j hj => ?_⟩, below_putRow _ hb⟩
   have h3 := cell?_putRow Value.string (Sort.ahead w n) g 0 xs.toArray xs.reverse.toArray (Sort.holds_ahead _ _ _ _ _ _ hH) (by simp) j (by simpa using hj)
   rw [h3, atS_get hj]
   rw [List.length_reverse] at hj
   simp [hj]
end Go.Proofs.YtmafghdgmdbpnaaGreatDoor
namespace Go.Proofs.YtmafghdgmdbpnaaGreatDoor
open Go.RowKit Go.WideShapes
theorem grow_any (n : Nat) (w : World) (hn : n ≤ 1000) :
   Calls Tryz.prog 87 #[.slice none 0 0, .int .i64 n] w fun e W' => ∃ v, e = .returned v ∧ OwnS W' w.heap.size v [] ∧ Below w.heap.size w W' := by
 obtain ⟨i0, hi, hz0, hz1, hz2⟩ := info_parts infoNum
 by_cases h0 : n = 0
 · subst h0
   have c : Calls Tryz.prog 87 #[.slice none 0 0, .int .i64 ((0 : Nat) : Int)] w fun e w' => e = .returned (.slice none 0 0) ∧ w' = w :=
     Any8.slices_Grow_room Tryz.laysGrow none 0 0 0 w (Nat.le_refl _) (by decide) (by decide) (Nat.le_refl _)
   exact c.mono fun e W' ⟨he, hw⟩ => ⟨_, he, World.ownsRow_nil _ _ _ _, by rw [hw]; exact Below.refl _ _⟩
 · have c : Calls Tryz.prog 87 #[.slice none 0 0, .int .i64 n] w fun e w' => e = .returned (.slice (some ⟨w.heap.size, 0, none⟩) 0 (grownCap w (0 + n) 0 22)) ∧
       w' = w.drew.alloc (.cells (([] : List Value).toArray ++ Builtin.zeroCells (Value.string ⟨#[]⟩).cells (0 + n - 0) ++ Builtin.zeroCells (Value.string ⟨#[]⟩).cells (grownCap w (0 + n) 0 22 - (0 + n))) 22) :=
     Any8.slices_Grow_grow Tryz.laysGrow i0 (.string ⟨#[]⟩) hi hz0 (by omega) none 0 0 n [] w (Nat.le_refl _) (by omega) (by rw [hz2]; omega) (by omega) (by simp) (fun _ => rfl) (fun a h => by cases h)
   refine c.mono ?_
   rintro e W' ⟨he, rfl⟩
   refine ⟨_, he, ?_, ((Below.refl _ w).drew).alloc (Nat.le_refl _) _⟩
   have hg := grownCap_ge w (0 + n) 0 22
   have hm := grownCap_le_maxLen w (0 + n) 0 22 (by unfold maxLen; omega)
   refine World.ownsRow_made w.drew _ _ (Nat.le_refl _) hm ?_
   rw [Array.size_append, Array.size_append, size_zeroCells, size_zeroCells]
   show 0 + (0 + n - 0) * 1 + _ * 1 = _ * 1
   omega
theorem concat_any (kb : Nat) (p1 p2 : Option Addr) (c1 c2 : Nat) (xs ys : List ByteArray) (w : World) (hk : kb < w.heap.size) (h0 : w.cell? ⟨kb, 0, none⟩ = some (.slice p1 xs.length c1)) (h1 : w.cell? ⟨kb, 1, none⟩ = some (.slice p2 ys.length c2))
   (hx : StrsAt w.heap.size w (.slice p1 xs.length c1) xs) (hy : StrsAt w.heap.size w (.slice p2 ys.length c2) ys) (nx : p1 = none → c1 = 0) (ny : p2 = none → c2 = 0) (lx : xs.length ≤ 100) (ly : ys.length ≤ 100) :
   Calls Tryz.prog 41 #[.slice (some ⟨kb, 0, none⟩) 2 2] w fun e W' => ∃ v, e = .returned v ∧ OwnS W' w.heap.size v (xs ++ ys) ∧ Below w.heap.size w W' := by
 have HX := Lib.hid (And.intro hx (And.intro hy (And.intro nx ny))); clear hx hy nx ny
 have HC := Lib.hid (And.intro h0 h1)
 have C := fun W => grow_any (xs.length + ys.length) W (by omega)
 simp only [Int.natCast_add] at C
 have C := Lib.hid C
 go_enter Tryz.func41, Tryz.ntmps41
 go_wp2
 refine wp_loop_rounds 3 ?_
 rw [rounds_succ]
 go_wp2_with fail
 rw [rounds_succ]
 go_wp2_with fail
 rw [rounds_succ]
 go_wp2_with fail
 refine (C.out _).mono ?_
 rintro e W1 ⟨v0, rfl, hv0, hb0⟩
 have H1 := Lib.hid (And.intro hv0 hb0); clear hv0 hb0 C h0 h1
 have h0 := (H1.out.2.cell (p := ⟨kb, 0, none⟩) hk).trans HC.out.1
 go_wp2_with fail
 refine wp_loop_rounds 3 ?_
 rw [rounds_succ]
 go_wp2_with (at_builtin; refine app_strs rfl _ _ rfl w.heap.size _ [] rfl H1.out.1 p1 c1 xs rfl ?qc1 ?qc2 ?qc3 ?qc4 ?_)
 case qc1 => exact (HX.out.1.below H1.out.2 (Nat.le_refl _)).up H1.out.2.size
 case qc2 => exact HX.out.2.2.1
 case qc3 => show 0 + xs.length ≤ 4096; omega
 case qc4 => exact H1.out.2.size
 intro v1 W2 hv1 hb1
 have H2 := Lib.hid (And.intro hv1 (H1.out.2.trans hb1)); clear hv1 hb1 H1 h0
 have h1 := (H2.out.2.cell (p := ⟨kb, 1, none⟩) hk).trans HC.out.2
 have hyy := H2.out.1
 go_wp2_with fail
 rw [rounds_succ]
 go_wp2_with (at_builtin; refine app_strs rfl _ _ rfl w.heap.size v1 ([] ++ xs) rfl hyy p2 c2 ys rfl ?rc1 ?rc2 ?rc3 ?rc4 ?_)
 case rc1 => exact (HX.out.2.1.below H2.out.2 (Nat.le_refl _)).up H2.out.2.size
 case rc2 => exact HX.out.2.2.2
 case rc3 => rw [List.nil_append]; omega
 case rc4 => exact H2.out.2.size
 intro v2 W3 hv2 hb2
 have H3 := Lib.hid (And.intro hv2 (H2.out.2.trans hb2)); clear hv2 hb2 H2 h1 hyy
 go_wp2_with fail
 rw [rounds_succ]
 go_wp2
 go_ret
 exact ⟨v2, rfl, H3.out.1, H3.out.2⟩
end Go.Proofs.YtmafghdgmdbpnaaGreatDoor
namespace Go.Proofs.YtmafghdgmdbpnaaGreatDoor
open Go.RowKit
def tot (xs : List ByteArray) : Rat := xs.foldl (fun t s => t + rat s) 0
theorem tot_from : ∀ (xs : List ByteArray) (t : Rat), xs.foldl (fun t s => t + rat s) t = t + tot xs
 | [], t => by show t = t + 0; rw [Rat.add_zero]
 | s :: r, t => by
   show r.foldl (fun t s => t + rat s) (t + rat s) = t + r.foldl (fun t s => t + rat s) (0 + rat s)
   rw [tot_from r, tot_from r (0 + rat s), Rat.zero_add, Rat.add_assoc]
theorem tot_app (xs ys : List ByteArray) : tot (xs ++ ys) = tot xs + tot ys := by
 unfold tot; rw [List.foldl_append]; exact tot_from ys _
theorem tot_one (s : ByteArray) : tot [s] = rat s := by show 0 + rat s = rat s; rw [Rat.zero_add]
theorem tot_rev : ∀ xs : List ByteArray, tot xs.reverse = tot xs
 | [] => rfl
 | s :: r => by
   rw [List.reverse_cons, tot_app, tot_rev r, tot_one, show s :: r = [s] ++ r from rfl, tot_app, tot_one, Rat.add_comm]
def ok30 (s : ByteArray) : Prop := chkQ s.data.toList = 0 ∧ s.size ≤ 30
theorem ok30_bq {s : ByteArray} (h : ok30 s) : Bq 30 (rat s) := by
 obtain ⟨q, e, hq⟩ := short_num h.1 30 h.2 (by decide)
 have : rat s = q := by unfold rat; rw [e, strQ_rat]
 rw [this]; exact hq
theorem sum30 : ∀ (xs pre : List ByteArray) (k : Nat), (∀ s ∈ xs, ok30 s) → sumS pre = some (tot pre) → Bq k (tot pre) → k + 31 * xs.length ≤ 300 → sumS (pre ++ xs) = some (tot (pre ++ xs)) ∧ Bq (k + 31 * xs.length) (tot (pre ++ xs))
 | [], pre, k, _, h1, h2, _ => by rw [List.append_nil]; exact ⟨h1, h2⟩
 | s :: r, pre, k, h, h1, h2, h3 => by
   have hs := ok30_bq (h s (List.mem_cons_self ..))
   rw [List.length_cons] at h3
   obtain ⟨a1, a2, a3⟩ := qadd_ok h2 hs (by omega)
   have e : sumS (pre ++ [s]) = some (tot (pre ++ [s])) := by
     rw [sumS_snoc, h1, Option.bind_some, if_pos a2, tot_app, tot_one]
   have hb : Bq (k + 31) (tot (pre ++ [s])) := by rw [tot_app, tot_one]; exact a3
   have h4 := sum30 r (pre ++ [s]) (k + 31) (fun x hx => h x (List.mem_cons_of_mem _ hx)) e hb (by omega)
   rw [List.append_assoc] at h4
   rw [List.length_cons]
   have e2 : k + 31 * (r.length + 1) = k + 31 + 31 * r.length := by omega
   rw [e2]; exact h4
theorem sum_ok30 {xs : List ByteArray} (h : ∀ s ∈ xs, ok30 s) (hl : xs.length ≤ 8) : sumB xs = strQ (tot xs) ∧ sumE xs = 0 ∧ Bq (1 + 31 * xs.length) (tot xs) := by
 obtain ⟨h1, h2⟩ := sumB_all (xs := xs) (fun s hs => (h s hs).1)
 obtain ⟨h3, h4⟩ := sum30 xs [] 1 h rfl Bq_zero (by omega)
 rw [List.nil_append] at h3 h4
 rw [h1, h2, h3]
 exact ⟨rfl, rfl, h4⟩
theorem fine_ok30 {xs : List ByteArray} (h : xs.all fineQ = true) (h2 : xs.any (fun s => decide ((30 : Int) < s.size)) = false) : ∀ s ∈ xs, ok30 s := by
 intro s hs
 have a := List.all_eq_true.1 h s hs
 have b := List.any_eq_false.1 h2 s hs
 unfold fineQ at a
 simp only [Bool.and_eq_true, decide_eq_true_eq, beq_iff_eq] at a b
 exact ⟨a.2, by omega⟩
theorem RationalSums_any (p1 : Option Addr) (c1 : Nat) (xs : List ByteArray) (p2 : Option Addr) (c2 : Nat) (ys : List ByteArray) (w : World) (hx : StrsAt w.heap.size w (.slice p1 xs.length c1) xs) (nx : p1 = none → c1 = 0) (sx : ∀ s ∈ xs, s.size ≤ maxLen)
   (hy : StrsAt w.heap.size w (.slice p2 ys.length c2) ys) (ny : p2 = none → c2 = 0) (sy : ∀ s ∈ ys, s.size ≤ maxLen) (ht : Tab w) (ht2 : Tab64 w) :
   Calls Tryz.prog 9 #[.slice p1 xs.length c1, .slice p2 ys.length c2] w fun e W' => e = .returned (.bool true) ∧ Below w.heap.size w W' := by
 have oA := fun W (h : Below w.heap.size w W) => awake2_any W (ht.next h) (TabQ_next ht2 h)
 have B0 := Lib.hid (Below.refl w.heap.size w)
 have atx := fun W (h : Below w.heap.size w W) => (hx.below h (Nat.le_refl _)).up h.size
 have aty := fun W (h : Below w.heap.size w W) => (hy.below h (Nat.le_refl _)).up h.size
 by_cases l1 : (4 : Int) < xs.length
 · have O := Lib.hid oA
   clear oA hx hy nx ny sx sy ht ht2 atx aty
   generalize xs.length = n1 at *
   generalize ys.length = n2 at *
   go_enter Tryz.func9, Tryz.ntmps9
   go_wp2_with fail
   refine (O.out _ B0.out).mono ?_
   rintro e v1 ⟨rfl, b⟩
   have B1 := Lib.hid b; clear b
   go_wp2
   go_ret
   exact ⟨rfl, B1.out⟩
 by_cases l2 : (4 : Int) < ys.length
 · have O := Lib.hid oA
   clear oA hx hy nx ny sx sy ht ht2 atx aty
   generalize xs.length = n1 at *
   generalize ys.length = n2 at *
   go_enter Tryz.func9, Tryz.ntmps9
   go_wp2_with fail
   refine (O.out _ B0.out).mono ?_
   rintro e v1 ⟨rfl, b⟩
   have B1 := Lib.hid b; clear b
   go_wp2
   go_ret
   exact ⟨rfl, B1.out⟩
 have k1 : xs.length ≤ 4 := by omega
 have k2 : ys.length ≤ 4 := by omega
 have f1 := fun W (h : Below w.heap.size w W) => fine2_any p1 c1 xs W (by omega) sx (atx W h) (ht.next h)
 have f2 := fun W (h : Below w.heap.size w W) => fine2_any p2 c2 ys W (by omega) sy (aty W h) (ht.next h)
 cases g1 : xs.all fineQ
 · rw [g1] at f1
   have O := Lib.hid (And.intro f1 oA)
   clear oA f1 f2 hx hy nx ny sx sy ht ht2 atx aty g1 k1 k2
   generalize xs.length = n1 at *
   generalize ys.length = n2 at *
   go_enter Tryz.func9, Tryz.ntmps9
   go_wp2_with fail
   refine (O.out.1 _ B0.out).mono ?_
   rintro e v1 ⟨rfl, b⟩
   have B1 := Lib.hid b; clear b
   go_wp2_with fail
   refine (O.out.2 _ B1.out).mono ?_
   rintro e v2 ⟨rfl, b⟩
   have B2 := Lib.hid (B1.out.trans (b.mono B1.out.size)); clear b
   go_wp2
   go_ret
   exact ⟨rfl, B2.out⟩
 cases g2 : ys.all fineQ
 · rw [g1] at f1
   rw [g2] at f2
   have O := Lib.hid (And.intro f1 (And.intro f2 oA))
   clear oA f1 f2 hx hy nx ny sx sy ht ht2 atx aty g1 g2 k1 k2
   generalize xs.length = n1 at *
   generalize ys.length = n2 at *
   go_enter Tryz.func9, Tryz.ntmps9
   go_wp2_with fail
   refine (O.out.1 _ B0.out).mono ?_
   rintro e v1 ⟨rfl, b⟩
   have B1 := Lib.hid b; clear b
   go_wp2_with fail
   refine (O.out.2.1 _ B1.out).mono ?_
   rintro e v2 ⟨rfl, b⟩
   have B2 := Lib.hid (B1.out.trans (b.mono B1.out.size)); clear b
   go_wp2_with fail
   refine (O.out.2.2 _ B2.out).mono ?_
   rintro e v3 ⟨rfl, b⟩
   have B3 := Lib.hid (B2.out.trans (b.mono B2.out.size)); clear b
   go_wp2
   go_ret
   exact ⟨rfl, B3.out⟩
 rw [g1] at f1
 rw [g2] at f2
 have cc := fun kb W (hk : kb < W.heap.size) (h0 : W.cell? ⟨kb, 0, none⟩ = some (.slice p1 xs.length c1)) (h1 : W.cell? ⟨kb, 1, none⟩ = some (.slice p2 ys.length c2)) (h : Below w.heap.size w W) => concat_any kb p1 p2 c1 c2 xs ys W hk h0 h1 (atx W h) (aty W h) nx ny (by omega) (by omega)
 have sxy : ∀ s ∈ xs ++ ys, s.size ≤ maxLen := fun s hs => (List.mem_append.1 hs).elim (sx s) (sy s)
 have ct := fun v base W (h : OwnS W base v (xs ++ ys)) => contains2_any 42 (fun s => decide ((30 : Int) < s.size)) (enters_of Tryz.func42 (by kernel_rfl) rfl) h.strs.2.choose h.strs.2.choose_spec.choose (xs ++ ys) W (by rw [List.length_append]; omega) sxy (by have := h.strs.1; rwa [h.strs.2.choose_spec.choose_spec.1] at this) (fun s W' hs' _ => sums1_any s W' hs')
 cases g3 : (xs ++ ys).any (fun s => decide ((30 : Int) < s.size))
 · rw [g3] at ct
   have ct2 : ∀ v base W, OwnS W base v (xs ++ ys) → Calls Tryz.prog 40 #[v, .func (.func 42) #[] #[]] W fun e w' => e = .returned (.bool false) ∧ Below W.heap.size W w' := fun v base W h => by
     have c := ct v base W h
     rwa [← h.strs.2.choose_spec.choose_spec.1] at c
   rw [List.any_append, Bool.or_eq_false_iff] at g3
   have ax := fine_ok30 g1 g3.1
   have ay := fine_ok30 g2 g3.2
   have ar : ∀ s ∈ xs.reverse, ok30 s := fun s hs => ax s (List.mem_reverse.1 hs)
   have axy : ∀ s ∈ xs ++ ys, ok30 s := fun s hs => (List.mem_append.1 hs).elim (ax s) (ay s)
   have q1 := sum_ok30 ax (by omega)
   have q2 := sum_ok30 ar (by rw [List.length_reverse]; omega)
   have q3 := sum_ok30 ay (by omega)
   have q4 := sum_ok30 axy (by rw [List.length_append]; omega)
   rw [tot_rev] at q2
   rw [tot_app] at q4
   have hbx := q1.2.2.up (show 1 + 31 * xs.length ≤ 125 by omega)
   have hby := q3.2.2.up (show 1 + 31 * ys.length ≤ 125 by omega)
   obtain ⟨e1, e2, _⟩ := qadd_ok hbx hby (by decide)
   have cl := fun W (h : Below w.heap.size w W) => clone_any p1 c1 xs W (by omega) (atx W h) nx
   have rv := fun base v W (ho : OwnS W base v xs) => reverse_any base v xs W (by omega) ho
   have s1 := fun W (h : Below w.heap.size w W) => Sum_any p1 c1 xs W (atx W h) (by omega) sx (ht.next h) (TabQ_next ht2 h)
   rw [q1.1, q1.2.1] at s1
   have s2 : ∀ p c W, StrsAt W.heap.size W (.slice p xs.length c) xs.reverse → Below w.heap.size w W → Calls Tryz.prog 30 #[.slice p xs.length c] W fun e W' => e = .returned (.tuple #[.string (strQ (tot xs)), .int .i64 0]) ∧ Below W.heap.size W W' := fun p c W hv h => by
     have k := Sum_any p c xs.reverse W (by rw [List.length_reverse]; exact hv) (by rw [List.length_reverse]; omega) (fun s hs => sx s (List.mem_reverse.1 hs)) (ht.next h) (TabQ_next ht2 h)
     rwa [List.length_reverse, q2.1, q2.2.1] at k
   have s3 := fun W (h : Below w.heap.size w W) => Sum_any p2 c2 ys W (aty W h) (by omega) sy (ht.next h) (TabQ_next ht2 h)
   rw [q3.1, q3.2.1] at s3
   have s4 : ∀ v base W, OwnS W base v (xs ++ ys) → Below w.heap.size w W → Calls Tryz.prog 30 #[v] W fun e W' => e = .returned (.tuple #[.string (strQ (tot xs + tot ys)), .int .i64 0]) ∧ Below W.heap.size W W' := fun v base W ho h => by
     obtain ⟨hs, p, c, rfl, _⟩ := ho.strs
     have k := Sum_any p c (xs ++ ys) W hs (by rw [List.length_append]; omega) sxy (ht.next h) (TabQ_next ht2 h)
     rwa [q4.1, q4.2.1] at k
   have ad := fun W (h : Below w.heap.size w W) => Add_q (tot xs) (tot ys) W (hbx.lim (by decide)) (hby.lim (by decide)) (ht.next h) (TabQ_next ht2 h)
   rw [e1, e2] at ad
   have O := Lib.hid (And.intro f1 (And.intro f2 (And.intro cc (And.intro ct2 oA))))
   have O2 := Lib.hid (And.intro cl (And.intro rv (And.intro s1 (And.intro s2 (And.intro s3 (And.intro s4 ad))))))
   clear oA f1 f2 cc ct ct2 hx hy nx ny sx sy ht ht2 atx aty g1 g2 g3 k1 k2 sxy cl rv s1 s2 s3 s4 ad ax ay ar axy q1 q2 q3 q4 hbx hby e1 e2
   generalize strQ (tot xs + tot ys) = rs at *
   generalize strQ (tot xs) = rx at *
   generalize strQ (tot ys) = ry at *
   go_enter Tryz.func9, Tryz.ntmps9
   go_wp2_with fail
   refine (O.out.1 _ B0.out).mono ?_
   rintro e v1 ⟨rfl, b⟩
   have B1 := Lib.hid b; clear b
   go_wp2_with fail
   refine (O.out.2.1 _ B1.out).mono ?_
   rintro e v2 ⟨rfl, b⟩
   have B2 := Lib.hid (B1.out.trans (b.mono B1.out.size)); clear b B1
   go_wp2_with fail
   have K0 := Blk.new v2 #[.slice p1 xs.length c1, .slice p2 ys.length c2] 33
   have B3 := Lib.hid (B2.out.alloc B2.out.size (.cells #[.slice p1 xs.length c1, .slice p2 ys.length c2] 33))
   generalize v2.alloc (.cells #[.slice p1 xs.length c1, .slice p2 ys.length c2] 33) = v3 at *
   refine (O.out.2.2.1 _ _ K0.lt (K0.cell 0 _ rfl) (K0.cell 1 _ rfl) B3.out).mono ?_
   rintro e v4 ⟨vc, rfl, ho, b⟩
   have B4 := Lib.hid (And.intro ho (B3.out.trans (b.mono B3.out.size))); clear b ho B3 B2 K0
   go_wp2_with fail
   refine (O.out.2.2.2.1 _ _ _ B4.out.1).mono ?_
   rintro e v5 ⟨rfl, b⟩
   have B5 := Lib.hid (B4.out.2.trans (b.mono B4.out.2.size)); clear b B4
   go_wp2_with fail
   refine (O2.out.1 _ B5.out).mono ?_
   rintro e v6 ⟨vb, rfl, ho, b⟩
   have B6 := Lib.hid (And.intro ho (B5.out.trans (b.mono B5.out.size))); clear b ho
   obtain ⟨q, d, hvb, _⟩ := B6.out.1.strs.2
   subst hvb
   go_wp2_with fail
   refine (O2.out.2.1 _ _ _ B6.out.1).mono ?_
   rintro e v7 ⟨rfl, hr, b⟩
   have B7 := Lib.hid (And.intro hr (B6.out.2.trans (b.mono B5.out.size))); clear b hr B6 B5
   go_wp2_with fail
   refine (O2.out.2.2.1 _ B7.out.2).mono ?_
   rintro e v8 ⟨rfl, b⟩
   have B8 := Lib.hid (And.intro ((B7.out.1.below b (Nat.le_refl _)).up b.size) (B7.out.2.trans (b.mono B7.out.2.size))); clear b B7
   go_wp2_with fail
   refine (O2.out.2.2.2.1 _ _ _ B8.out.1 B8.out.2).mono ?_
   rintro e v9 ⟨rfl, b⟩
   have B9 := Lib.hid (B8.out.2.trans (b.mono B8.out.2.size)); clear b B8
   go_wp2_with fail
   refine (O2.out.2.2.2.2.1 _ B9.out).mono ?_
   rintro e v10 ⟨rfl, b⟩
   have B10 := Lib.hid (B9.out.trans (b.mono B9.out.size)); clear b B9
   go_wp2_with fail
   have K0 := Blk.new v10 #[.slice p1 xs.length c1, .slice p2 ys.length c2] 33
   have B11 := Lib.hid (B10.out.alloc B10.out.size (.cells #[.slice p1 xs.length c1, .slice p2 ys.length c2] 33))
   generalize v10.alloc (.cells #[.slice p1 xs.length c1, .slice p2 ys.length c2] 33) = v11 at *
   refine (O.out.2.2.1 _ _ K0.lt (K0.cell 0 _ rfl) (K0.cell 1 _ rfl) B11.out).mono ?_
   rintro e v12 ⟨vd, rfl, ho, b⟩
   have B12 := Lib.hid (And.intro ho (B11.out.trans (b.mono B11.out.size))); clear b ho B11 B10 K0
   go_wp2_with fail
   refine (O2.out.2.2.2.2.2.1 _ _ _ B12.out.1 B12.out.2).mono ?_
   rintro e v13 ⟨rfl, b⟩
   have B13 := Lib.hid (B12.out.2.trans (b.mono B12.out.2.size)); clear b B12
   go_wp2_with fail
   refine (O2.out.2.2.2.2.2.2 _ B13.out).mono ?_
   rintro e v14 ⟨rfl, b⟩
   have B14 := Lib.hid (B13.out.trans (b.mono B13.out.size)); clear b B13
   go_wp2_with fail
   refine (O.out.2.2.2.2 _ B14.out).mono ?_
   rintro e v15 ⟨rfl, b⟩
   have B15 := Lib.hid (B14.out.trans (b.mono B14.out.size)); clear b
   go_wp2
   go_ret
   exact ⟨rfl, B15.out⟩
 · rw [g3] at ct
   have ct2 : ∀ v base W, OwnS W base v (xs ++ ys) → Calls Tryz.prog 40 #[v, .func (.func 42) #[] #[]] W fun e w' => e = .returned (.bool true) ∧ Below W.heap.size W w' := fun v base W h => by
     have c := ct v base W h
     rwa [← h.strs.2.choose_spec.choose_spec.1] at c
   have O := Lib.hid (And.intro f1 (And.intro f2 (And.intro cc (And.intro ct2 oA))))
   clear oA f1 f2 cc ct ct2 hx hy nx ny sx sy ht ht2 atx aty g1 g2 g3 k1 k2 sxy
   generalize xs.length = n1 at *
   generalize ys.length = n2 at *
   go_enter Tryz.func9, Tryz.ntmps9
   go_wp2_with fail
   refine (O.out.1 _ B0.out).mono ?_
   rintro e v1 ⟨rfl, b⟩
   have B1 := Lib.hid b; clear b
   go_wp2_with fail
   refine (O.out.2.1 _ B1.out).mono ?_
   rintro e v2 ⟨rfl, b⟩
   have B2 := Lib.hid (B1.out.trans (b.mono B1.out.size)); clear b B1
   go_wp2_with fail
   have K0 := Blk.new v2 #[.slice p1 n1 c1, .slice p2 n2 c2] 33
   have B3 := Lib.hid (B2.out.alloc B2.out.size (.cells #[.slice p1 n1 c1, .slice p2 n2 c2] 33))
   generalize v2.alloc (.cells #[.slice p1 n1 c1, .slice p2 n2 c2] 33) = v3 at *
   refine (O.out.2.2.1 _ _ K0.lt (K0.cell 0 _ rfl) (K0.cell 1 _ rfl) B3.out).mono ?_
   rintro e v4 ⟨vc, rfl, ho, b⟩
   have B4 := Lib.hid (And.intro ho (B3.out.trans (b.mono B3.out.size))); clear b ho B3 B2 K0
   go_wp2_with fail
   refine (O.out.2.2.2.1 _ _ _ B4.out.1).mono ?_
   rintro e v5 ⟨rfl, b⟩
   have B5 := Lib.hid (B4.out.2.trans (b.mono B4.out.2.size)); clear b
   go_wp2_with fail
   refine (O.out.2.2.2.2 _ B5.out).mono ?_
   rintro e v6 ⟨rfl, b⟩
   have B6 := Lib.hid (B5.out.trans (b.mono B5.out.size)); clear b
   go_wp2
   go_ret
   exact ⟨rfl, B6.out⟩
end Go.Proofs.YtmafghdgmdbpnaaGreatDoor
namespace Go.Proofs.YtmafghdgmdbpnaaGreatDoor
open Go.ChangeShapes Go.WideShapes Go.ChangeAt Go.RowKit
open Go.ChangeMaps (open_string shut_string)
theorem rationalSums_lifted (os : Os) (started : os.Started) (H : Type) (enc : TypeId × Value → H) :
   ReturnsInHanded {} Tryz.checked os 9 .any (fun w args => (Rows.rationalSumsSpec.pre enc Tryz.prog Tryz.f9 [] false w args ∧ laidMetH Tryz.prog laid3 w) ∧ sizedMet enc Tryz.prog Tryz.f9 (OpenSpec.ofChange Rows.rationalSumsSpec) false w args)
     (Rows.rationalSumsSpec.post enc Tryz.prog Tryz.f9 false true false false) := by
 refine returnsInHanded_of_change_and (C := Tryz.checked) (X := fun w _ => laidMetH Tryz.prog laid3 w) (fun _ _ _ hh h => h.of_heap hh) own started (by kernel_rfl) Tryz.func9
   (ChangeSpec.witness_shaped (enc := enc) (C := Tryz.checked) (os := os) (X := fun w _ => laidMetH Tryz.prog laid3 w) false (World.doorLaid Tryz.prog 400 os) #[.slice none 0 0, .slice none 0 0] 8 rfl (World.shaped_of_RefB (by kernel_rfl) (by kernel_rfl)) (by kernel_rfl) (by kernel_rfl) (by kernel_rfl) (door_met os _)) ?_
 intro W base args ds gs before hval0 hW _ hsz0 hL _
 have hval : ∀ (j : Nat) t v, Tryz.f9.params[j]? = some t → args[j]? = some v → Value.okWide Tryz.prog W .any base t v := hval0
 have hW' := hW
 obtain ⟨p, q, hA0, hV, rfl, hfz, hnd⟩ := hW
 have hA : DataW.TrodAll enc Tryz.prog W 0 (fun _ => true) true Tryz.f9.params.toList args.toList ds p := hA0
 rw [Tryz.params9] at hA hval
 obtain ⟨rfl, rfl⟩ := trodVars_none hV
 have hsz : (DataW.weightsEach Tryz.prog (Tryz.f9.params.toList ++ Rows.rationalSumsSpec.plain.varTypes Tryz.prog) (ds ++ [])).all (· ≤ reachBytes) = true := hsz0
 clear hsz0
 rw [Tryz.params9] at hsz
 have hlt : ∀ x ∈ p, x.block < W.heap.size := fun x hx => by simpa using hW'.lt x (by simpa using hx)
 obtain ⟨v0, v1, d0, d1, p0, p1, rfl, rfl, rfl, h0, h1⟩ := trodAll_two hA
 obtain ⟨a0, n0, c0, rfl⟩ := okWide_slice Tryz.underlying33 (hval 0 33 v0 rfl rfl)
 have lt0 : ∀ x ∈ p0, x.block < W.heap.size := fun x hx => hlt x (List.mem_append_left _ hx)
 obtain ⟨s0, rfl, z0, y0, r0⟩ := strs_arg h0 lt0 (fun el sp hd => by have := sized_slice hsz (j := 0) (t := 33) (e := 22) (elems := el) (spare := sp) rfl (by rw [hd]; rfl) Tryz.underlying33; rwa [bytesNum] at this)
 have k0 := nil_arg h0
 obtain ⟨a1, n1, c1, rfl⟩ := okWide_slice Tryz.underlying33 (hval 1 33 v1 rfl rfl)
 have lt1 : ∀ x ∈ p1, x.block < W.heap.size := fun x hx => hlt x (List.mem_append_right _ hx)
 obtain ⟨s1, rfl, z1, y1, r1⟩ := strs_arg h1 lt1 (fun el sp hd => by have := sized_slice hsz (j := 1) (t := 33) (e := 22) (elems := el) (spare := sp) rfl (by rw [hd]; rfl) Tryz.underlying33; rwa [bytesNum] at this)
 have k1 := nil_arg h1
 clear hA0 hval0
 refine (RationalSums_any a0 c0 s0 a1 c1 s1 W y0 k0 z0 y1 k1 z1 (tab_of_laid hL) (tab64_of_laid hL)).mono fun e W' ⟨he, bel⟩ => ?_
 subst he
 exact ⟨_, rfl, _, _, _, [], _, [], hW', trodAll_mk1 (shut_bool Tryz.underlying4 _), trodAll_mk2 (Below.trod laidOut (by kernel_rfl) (of_decide_eq_true (by kernel_rfl)) h0 bel lt0) (Below.trod laidOut (by kernel_rfl) (of_decide_eq_true (by kernel_rfl)) h1 bel lt1), rfl, bel.frame _, fun h => by cases h⟩
theorem rationalSums_over : Rows.RationalSumsSaid :=
 OpenClaim.holds_of_wide 9 Tryz.f9 rfl rfl rfl rfl rfl rfl rfl ⟨rfl, rfl, rfl, rfl, rfl⟩ rfl rfl rfl rfl rfl (by kernel_rfl) Tryz.func9 (by kernel_rfl)
   (of_decide_eq_true (by kernel_rfl)) (by unfold Func.isWrapper; first | (rw [if_pos (by decide +kernel)]; kernel_rfl) | (rw [if_neg (by decide +kernel)]; exact ⟨rfl, rfl⟩))
   (fun os started H enc _ => rationalSums_lifted os started H enc)
theorem rationalSums_proved : Rows.RationalSumsCardSaid :=
 Claim7.holds_tied_plain_at .later [] [.data, .data, .data] true (true, "c5e0d21a5a41f479a183c420c2e54b6c89083f44158d8e981b1170a56436208f") true
   rationalSums_over (fun _ h => by cases h) (by kernel_rfl) (fun _ h => by cases h) rationalSums_row_tie rfl ⟨rfl, rfl⟩ (by kernel_rfl) rfl
   (fun f fn hf hfn => by
     obtain rfl : f = 9 := Option.some.inj ((show Tryz.prog.funcNamed "kingpost/kingpostlaw02.RationalSums" = some 9 by kernel_rfl).symm.trans hf) |>.symm
     obtain rfl : fn = Tryz.f9 := (Option.some.inj (Tryz.func9.symm.trans hfn)).symm
     exact ⟨by kernel_rfl, fun j t ht => by
       rw [Tryz.params9] at ht
       have hm : t ∈ [33, 33] := by simpa using Array.mem_of_getElem? ht
       have hall : ([33, 33].all fun u => !Tryz.prog.wantsStandIn u) = true := by kernel_rfl
       exact (show Tryz.prog.wantsStandIn t = false by simpa using List.all_eq_true.1 hall t hm)⟩)
   (by kernel_rfl)
#print axioms rationalSums_proved
end Go.Proofs.YtmafghdgmdbpnaaGreatDoor
