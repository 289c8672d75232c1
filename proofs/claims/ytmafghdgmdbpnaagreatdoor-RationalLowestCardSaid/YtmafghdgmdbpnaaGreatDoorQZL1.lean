/- Proved here: results are numbers; equal fractions of integers are equal numbers. The law RationalLowest returns true for every input, and its arguments read behind the call as before. Conditions: the row's own, the listed tables hold their numbers. -/
import Derived.Test.YtmafghdgmdbpnaaGreatDoorQZ1
import Derived.Test.YtmafghdgmdbpnaaGreatDoorQZ2
import Derived.Test.YtmafghdgmdbpnaaGreatDoorQZ24
import Derived.Test.YtmafghdgmdbpnaaGreatDoorQZ32
set_option linter.all false
set_option maxRecDepth 100000
set_option maxHeartbeats 8000000
namespace Go.Proofs.YtmafghdgmdbpnaaGreatDoor
open Go.RowKit
theorem do_core (k : FuncId) (cb : Nat) (a b r : ByteArray) (w : World) (eg : ∀ args W, (callFunc k args).run Tryz.prog W = .ok (.enter k args) W) (hb : Blk w cb #[.bool false])
   (h : Calls Tryz.prog k #[.string a, .string b] w fun e W' => e = .returned (.tuple #[.string r, .int .i64 0]) ∧ Below w.heap.size w W') :
   Calls Tryz.prog 38 #[.pointer (some ⟨cb, 0, none⟩), .func (.func k) #[] #[], .string a, .string b] w fun e W' => e = .returned (.string r) ∧ Below w.heap.size w W' := by
 have C := Lib.hid (And.intro h hb); clear h hb
 go_enter Tryz.func38, Tryz.ntmps38
 go_wp2_with fail
 refine C.out.1.mono ?_
 rintro e w1 ⟨rfl, b⟩
 have K1 := C.out.2.next b
 have H1 := Lib.hid (below_same b K1 (j := 0) (u := .bool false) rfl)
 have c0 := K1.cell 0 (.bool false) rfl
 have f0 := K1.free 0
 clear K1 b
 go_wp2
 go_ret
 exact ⟨rfl, H1.out⟩
theorem clo1 (kb cb : Nat) (a b r : ByteArray) (w : World) (hk : Blk w kb #[.pointer (some ⟨cb, 0, none⟩)]) (hb : Blk w cb #[.bool false])
   (h : Calls Tryz.prog 13 #[.string a, .string b] w fun e W' => e = .returned (.tuple #[.string r, .int .i64 0]) ∧ Below w.heap.size w W') :
   Calls Tryz.prog 37 #[.string a, .string b, .pointer (some ⟨kb, 0, none⟩)] w fun e W' => e = .returned (.string r) ∧ Below w.heap.size w W' := by
 have C := Lib.hid (do_core _ cb a b r w (enters_of Tryz.func13 (by kernel_rfl) rfl) hb h)
 have c0 := hk.cell 0 (.pointer (some ⟨cb, 0, none⟩)) rfl
 clear h hb hk
 go_enter Tryz.func37, Tryz.ntmps37
 go_wp2_with fail
 refine C.out.mono ?_
 rintro e w1 ⟨rfl, b⟩
 have H1 := Lib.hid b; clear b
 go_wp2
 go_ret
 exact ⟨rfl, H1.out⟩
theorem clo2 (kb cb : Nat) (a b r : ByteArray) (w : World) (hk : Blk w kb #[.pointer (some ⟨cb, 0, none⟩)]) (hb : Blk w cb #[.bool false])
   (h : Calls Tryz.prog 15 #[.string a, .string b] w fun e W' => e = .returned (.tuple #[.string r, .int .i64 0]) ∧ Below w.heap.size w W') :
   Calls Tryz.prog 39 #[.string a, .string b, .pointer (some ⟨kb, 0, none⟩)] w fun e W' => e = .returned (.string r) ∧ Below w.heap.size w W' := by
 have C := Lib.hid (do_core _ cb a b r w (enters_of Tryz.func15 (by kernel_rfl) rfl) hb h)
 have c0 := hk.cell 0 (.pointer (some ⟨cb, 0, none⟩)) rfl
 clear h hb hk
 go_enter Tryz.func39, Tryz.ntmps39
 go_wp2_with fail
 refine C.out.mono ?_
 rintro e w1 ⟨rfl, b⟩
 have H1 := Lib.hid b; clear b
 go_wp2
 go_ret
 exact ⟨rfl, H1.out⟩
def I64 (z : Int) : Prop := -9223372036854775808 ≤ z ∧ z ≤ 9223372036854775807
theorem I64.short {z : Int} (h : I64 z) : short z :=
 Nat.lt_of_le_of_lt (show z.natAbs ≤ 9223372036854775808 by unfold I64 at h; omega) (Nat.lt_of_lt_of_le (by decide : 9223372036854775808 < tenTo 19) (tenTo_mono (by decide : 19 ≤ 300)))
theorem Of_q (n d : Int) (w : World) (hn : I64 n) (hd : I64 d) (h0 : d ≠ 0) (ht : Tab w) (ht2 : Tab64 w) :
   Calls Tryz.prog 26 #[.int .i64 n, .int .i64 d] w fun e W' => e = .returned (.tuple #[.string (strQ (Rat.divInt n d)), .int .i64 0]) ∧ Below w.heap.size w W' := by
 have c1 := fun W (h : Below w.heap.size w W) => lowestM_any n d W hn.1 hn.2 hd.1 hd.2 h0 (ht.next h) (TabQ_next ht2 h)
 have c2 := fun W (h : Below w.heap.size w W) => Itoa_any n W hn.1 hn.2 (ht.next h)
 have c3 := fun W (h : Below w.heap.size w W) => Itoa_any d W hd.1 hd.2 (ht.next h)
 have c4 : CqB w 76 #[.agg #[.string (strB n), .int .i64 0, .string (strB d), .int .i64 0]] (.tuple #[.string (strQ (Rat.divInt n d)), .int .i64 0]) := fun W h =>
   lowestL_any (some n) (some d) W (some_wf hn.short) (some_wf hd.short) (fun e => h0 (Option.some.inj e)) (ht.next h)
 have n0 : (d == 0) = false := by rw [beq_eq_false_iff_ne]; exact h0
 have hR : lowRE n d = 0 → lowR n d = strQ (Rat.divInt n d) := fun h => lowR_ne (lowRE_ne h).1 (lowRE_ne h).2
 by_cases he : lowRE n d = 0
 · rw [he, hR he] at c1
   have C := Lib.hid c1
   clear c1 c2 c3 c4 ht ht2 hn hd h0 hR he
   generalize strQ (Rat.divInt n d) = r at *
   go_enter Tryz.func26, Tryz.ntmps26
   go_wp2_with fail
   refine (C.out _ (Below.refl _ _)).mono ?_
   rintro e w1 ⟨rfl, b⟩
   have H1 := Lib.hid b; clear b
   go_wp2
   go_ret2
   exact ⟨rfl, H1.out⟩
 · obtain ⟨m1, m2⟩ := bool_ne he
   have C := Lib.hid (And.intro c1 (And.intro c2 (And.intro c3 c4)))
   clear c1 c2 c3 c4 ht ht2 hn hd h0 hR he
   generalize lowRE n d = e1 at *
   generalize lowR n d = r1 at *
   generalize strQ (Rat.divInt n d) = r at *
   generalize strB n = sn at *
   generalize strB d = sd at *
   go_enter Tryz.func26, Tryz.ntmps26
   go_wp2_with fail
   refine (C.out.1 _ (Below.refl _ _)).mono ?_
   rintro e w1 ⟨rfl, b⟩
   have H1 := Lib.hid b; clear b
   go_wp2_with fail
   refine (C.out.2.1 _ H1.out).mono ?_
   rintro e w2 ⟨rfl, b⟩
   have H2 := Lib.hid (H1.out.trans (b.mono H1.out.size)); clear b H1
   go_wp2_with fail
   refine (C.out.2.2.1 _ H2.out).mono ?_
   rintro e w3 ⟨rfl, b⟩
   have H3 := Lib.hid (H2.out.trans (b.mono H2.out.size)); clear b H2
   go_wp2_with fail
   refine (C.out.2.2.2 _ H3.out).mono ?_
   rintro e w4 ⟨rfl, b⟩
   have H4 := Lib.hid (H3.out.trans (b.mono H3.out.size)); clear b H3
   go_wp2
   go_ret2
   exact ⟨rfl, H4.out⟩
theorem fineQ2 (a b : ByteArray) (B : Nat) (W : World) (ha : a.size ≤ maxLen) (hb : b.size ≤ maxLen) (hB : B < W.heap.size) (h0 : W.cell? ⟨B, 0, none⟩ = some (.string a)) (h1 : W.cell? ⟨B, 1, none⟩ = some (.string b)) (ht : Tab W) :
   Calls Tryz.prog 36 #[.slice (some ⟨B, 0, none⟩) 2 2] W fun e W' => e = .returned (.bool (fineQ a && fineQ b)) ∧ Below W.heap.size W W' := by
 have h := fineL_any [a, b] B W (by show 2 ≤ 100; decide) (by
   intro s hs
   simp only [List.mem_cons, List.not_mem_nil, or_false] at hs
   rcases hs with rfl | rfl <;> assumption) hB (by
   intro i hi
   match i, hi with
   | 0, _ => exact h0
   | 1, _ => exact h1) ht
 have e : [a, b].all fineQ = (fineQ a && fineQ b) := by simp [List.all_cons]
 rwa [e] at h
theorem RationalLowest_core (a b : ByteArray) (n d k : Int) (w : World) (ha : a.size ≤ maxLen) (hb : b.size ≤ maxLen) (n0 : -32768 ≤ n) (n1 : n ≤ 32767) (d0 : -32768 ≤ d) (d1 : d ≤ 32767) (k0 : -32768 ≤ k) (k1 : k ≤ 32767) (ht : Tab w) (ht2 : Tab64 w) :
   Calls Tryz.prog 6 #[.string a, .string b, .int .i16 n, .int .i16 d, .int .i16 k] w fun e W' => e = .returned (.bool true) ∧ Below w.heap.size w W' := by
 have hfin := Lib.hid (fun B W (hB : B < W.heap.size) (h0 : W.cell? ⟨B, 0, none⟩ = some (.string a)) (h1 : W.cell? ⟨B, 1, none⟩ = some (.string b)) (h : Below w.heap.size w W) => fineQ2 a b B W ha hb hB h0 h1 (ht.next h))
 clear ha hb
 by_cases hf : (fineQ a && fineQ b) = true
 · rw [hf] at hfin
   obtain ⟨fa, fb⟩ : fineQ a = true ∧ fineQ b = true := by simpa using hf
   obtain ⟨x, rfl, hx⟩ := fineQ_str fa
   obtain ⟨y, rfl, hy⟩ := fineQ_str fb
   clear hf fa fb
   have sx : Sq x := hx.lim (by decide)
   have sy : Sq y := hy.lim (by decide)
   have o1 := fun W (h : Below w.heap.size w W) => Add_q x y W sx sy (ht.next h) (TabQ_next ht2 h)
   have o2 := fun W (h : Below w.heap.size w W) => Sub_q x y W sx sy (ht.next h) (TabQ_next ht2 h)
   have o3 := fun W (h : Below w.heap.size w W) => Mul_q x y W sx sy (ht.next h) (TabQ_next ht2 h)
   obtain ⟨p1, p2, p3⟩ := qadd_ok hx hy (by decide)
   obtain ⟨q1, q2, q3⟩ := qsub_ok hx hy (by decide)
   obtain ⟨m1, m2, m3⟩ := qmul_ok hx hy (by decide)
   rw [p1, p2] at o1
   rw [q1, q2] at o2
   rw [m1, m2] at o3
   have c1 := fun W (h : Below w.heap.size w W) => Check_q (x + y) W (p3.lim (by decide)) (ht.next h) (TabQ_next ht2 h)
   have c2 := fun W (h : Below w.heap.size w W) => Check_q (x - y) W (q3.lim (by decide)) (ht.next h) (TabQ_next ht2 h)
   have c3 := fun W (h : Below w.heap.size w W) => Check_q (x * y) W (m3.lim (by decide)) (ht.next h) (TabQ_next ht2 h)
   clear p1 p2 p3 q1 q2 q3 m1 m2 m3
   have pn : -1073741824 ≤ n * k ∧ n * k ≤ 1073741824 := by
     have h1 : (n * k).natAbs ≤ 32768 * 32768 := by
       rw [Int.natAbs_mul]; exact Nat.mul_le_mul (by omega) (by omega)
     omega
   have pd : -1073741824 ≤ d * k ∧ d * k ≤ 1073741824 := by
     have h1 : (d * k).natAbs ≤ 32768 * 32768 := by
       rw [Int.natAbs_mul]; exact Nat.mul_le_mul (by omega) (by omega)
     omega
   have f1 := fun W (g : d ≠ 0) (h : Below w.heap.size w W) => Of_q n d W ⟨by omega, by omega⟩ ⟨by omega, by omega⟩ g (ht.next h) (TabQ_next ht2 h)
   have f2 : ∀ W, d ≠ 0 → k ≠ 0 → Below w.heap.size w W → Calls Tryz.prog 26 #[.int .i64 (n * k), .int .i64 (d * k)] W fun e W' => e = .returned (.tuple #[.string (strQ (Rat.divInt n d)), .int .i64 0]) ∧ Below W.heap.size W W' := fun W g g' h => by
     have c := Of_q (n * k) (d * k) W ⟨by omega, by omega⟩ ⟨by omega, by omega⟩ (fun e => (Int.mul_eq_zero.1 e).elim g g') (ht.next h) (TabQ_next ht2 h)
     rwa [Rat.divInt_mul_right g'] at c
   have f3 : ∀ W, d ≠ 0 → Below w.heap.size w W → Calls Tryz.prog 26 #[.int .i64 (-n), .int .i64 (-d)] W fun e W' => e = .returned (.tuple #[.string (strQ (Rat.divInt n d)), .int .i64 0]) ∧ Below W.heap.size W W' := fun W g h => by
     have c := Of_q (-n) (-d) W ⟨by omega, by omega⟩ ⟨by omega, by omega⟩ (by omega) (ht.next h) (TabQ_next ht2 h)
     rwa [Rat.neg_divInt_neg] at c
   have ck : ∀ W, d ≠ 0 → Below w.heap.size w W → Calls Tryz.prog 23 #[.string (strQ (Rat.divInt n d))] W fun e W' => e = .returned (.int .i64 0) ∧ Below W.heap.size W W' := fun W g h =>
     Check_q _ W ((Bq.of_int (k := 19) g (show Int.natAbs n < 10 ^ 19 by omega) (show Int.natAbs d < 10 ^ 19 by omega)).lim (by decide)) (ht.next h) (TabQ_next ht2 h)
   have oA := fun W (h : Below w.heap.size w W) => awake2_any W (ht.next h) (TabQ_next ht2 h)
   by_cases h0 : y = 0
   · have o4 : CqB w 16 #[.string (strQ x), .string (strQ y)] (.tuple #[.string ⟨#[]⟩, .int .i64 12]) := fun W h => by
       rw [h0, strQ_zero]
       exact Div_zero x W sx (ht.next h) (TabQ_next ht2 h)
     have c4 := trivial
     have O := Lib.hid ((And.intro o1 (And.intro o2 (And.intro o3 (And.intro o4 (And.intro c1 (And.intro c2 (And.intro c3 (And.intro c4 (And.intro f1 (And.intro f2 (And.intro f3 (And.intro ck oA)))))))))))))
     clear o1 o2 o3 o4 c1 c2 c3 c4 f1 f2 f3 ck oA ht ht2 hx hy sx sy h0
     generalize strQ (x + y) = r1 at *
     generalize strQ (x - y) = r2 at *
     generalize strQ (x * y) = r3 at *
     generalize strQ x = s1 at *
     generalize strQ y = s2 at *
     generalize strQ (Rat.divInt n d) = r at *
     go_enter Tryz.func6, Tryz.ntmps6
     go_wp2_with fail
     have B0 := (Below.refl w.heap.size w).alloc (Nat.le_refl _) (.cells #[.string s1, .string s2] 22)
     have K0 := Blk.new w #[.string s1, .string s2] 22
     generalize w.alloc (.cells #[.string s1, .string s2] 22) = v0 at *
     have B0 := Lib.hid B0
     refine (hfin.out _ _ K0.lt (K0.cell 0 _ rfl) (K0.cell 1 _ rfl) B0.out).mono ?_
     rintro e v1 ⟨rfl, b⟩
     have B1 := Lib.hid (B0.out.trans (b.mono B0.out.size)); clear b B0 K0
     go_wp2_with fail
     have K := Lib.hid (Blk.new v1 #[.func (.func 13) #[] #[], .func (.func 14) #[] #[], .func (.func 15) #[] #[], .func (.func 16) #[] #[]] 25)
     have BB := Lib.hid (B1.out.alloc B1.out.size (.cells #[.func (.func 13) #[] #[], .func (.func 14) #[] #[], .func (.func 15) #[] #[], .func (.func 16) #[] #[]] 25)); clear B1
     generalize v1.alloc (.cells #[.func (.func 13) #[] #[], .func (.func 14) #[] #[], .func (.func 15) #[] #[], .func (.func 16) #[] #[]] 25) = v1' at *
     generalize v1.heap.size = kb at *
     have B1 := BB; clear BB
     refine wp_loop_rounds 5 ?_
     rw [rounds_succ]
     have c0 := K.out.cell 0 (.func (.func 13) #[] #[]) rfl
     go_wp2_with fail
     refine (O.out.1 _ B1.out).mono ?_
     rintro e v2 ⟨rfl, b⟩
     have B2 := Lib.hid (B1.out.trans (b.mono B1.out.size)); clear B1 c0
     have Kn := Lib.hid (K.out.next b); clear K; have K := Kn; clear Kn
     clear b
     go_wp2_with fail
     refine (O.out.2.2.2.2.1 _ B2.out).mono ?_
     rintro e v3 ⟨rfl, b⟩
     have B3 := Lib.hid (B2.out.trans (b.mono B2.out.size)); clear B2
     have Kn := Lib.hid (K.out.next b); clear K; have K := Kn; clear Kn
     clear b
     go_wp2_with fail
     rw [rounds_succ]
     have c0 := K.out.cell 1 (.func (.func 14) #[] #[]) rfl
     go_wp2_with fail
     refine (O.out.2.1 _ B3.out).mono ?_
     rintro e v4 ⟨rfl, b⟩
     have B4 := Lib.hid (B3.out.trans (b.mono B3.out.size)); clear B3 c0
     have Kn := Lib.hid (K.out.next b); clear K; have K := Kn; clear Kn
     clear b
     go_wp2_with fail
     refine (O.out.2.2.2.2.2.1 _ B4.out).mono ?_
     rintro e v5 ⟨rfl, b⟩
     have B5 := Lib.hid (B4.out.trans (b.mono B4.out.size)); clear B4
     have Kn := Lib.hid (K.out.next b); clear K; have K := Kn; clear Kn
     clear b
     go_wp2_with fail
     rw [rounds_succ]
     have c0 := K.out.cell 2 (.func (.func 15) #[] #[]) rfl
     go_wp2_with fail
     refine (O.out.2.2.1 _ B5.out).mono ?_
     rintro e v6 ⟨rfl, b⟩
     have B6 := Lib.hid (B5.out.trans (b.mono B5.out.size)); clear B5 c0
     have Kn := Lib.hid (K.out.next b); clear K; have K := Kn; clear Kn
     clear b
     go_wp2_with fail
     refine (O.out.2.2.2.2.2.2.1 _ B6.out).mono ?_
     rintro e v7 ⟨rfl, b⟩
     have B7 := Lib.hid (B6.out.trans (b.mono B6.out.size)); clear B6
     have Kn := Lib.hid (K.out.next b); clear K; have K := Kn; clear Kn
     clear b
     go_wp2_with fail
     rw [rounds_succ]
     have c0 := K.out.cell 3 (.func (.func 16) #[] #[]) rfl
     go_wp2_with fail
     refine (O.out.2.2.2.1 _ B7.out).mono ?_
     rintro e v8 ⟨rfl, b⟩
     have B8 := Lib.hid (B7.out.trans (b.mono B7.out.size)); clear B7 c0
     have Kn := Lib.hid (K.out.next b); clear K; have K := Kn; clear Kn
     clear b
     go_wp2_with fail
     rw [rounds_succ]
     by_cases hd0 : d = 0
     · subst hd0
       go_wp2_with fail
       refine (O.out.2.2.2.2.2.2.2.2.2.2.2.2 _ B8.out).mono ?_
       rintro e v9 ⟨rfl, b⟩
       have B9 := Lib.hid (B8.out.trans (b.mono B8.out.size)); clear b
       go_wp2
       go_ret
       exact ⟨rfl, B9.out⟩
     · have d1 : (d == 0) = false := by rw [beq_eq_false_iff_ne]; exact hd0
       by_cases hk0 : k = 0
       · subst hk0
         go_wp2_with fail
         refine (O.out.2.2.2.2.2.2.2.2.2.2.2.2 _ B8.out).mono ?_
         rintro e v9 ⟨rfl, b⟩
         have B9 := Lib.hid (B8.out.trans (b.mono B8.out.size)); clear b
         go_wp2
         go_ret
         exact ⟨rfl, B9.out⟩
       · have d2 : (k == 0) = false := by rw [beq_eq_false_iff_ne]; exact hk0
         have F := O.out.2.2.2.2.2.2.2.2
         go_wp2_with fail
         refine (F.1 _ hd0 B8.out).mono ?_
         rintro e v9 ⟨rfl, b⟩
         have B9 := Lib.hid (B8.out.trans (b.mono B8.out.size)); clear B8 b
         go_wp2_with fail
         refine (F.2.1 _ hd0 hk0 B9.out).mono ?_
         rintro e v10 ⟨rfl, b⟩
         have B10 := Lib.hid (B9.out.trans (b.mono B9.out.size)); clear B9 b
         go_wp2_with fail
         refine (F.2.2.1 _ hd0 B10.out).mono ?_
         rintro e v11 ⟨rfl, b⟩
         have B11 := Lib.hid (B10.out.trans (b.mono B10.out.size)); clear B10 b
         go_wp2_with fail
         refine (F.2.2.2.1 _ hd0 B11.out).mono ?_
         rintro e v12 ⟨rfl, b⟩
         have B12 := Lib.hid (B11.out.trans (b.mono B11.out.size)); clear B11 b
         go_wp2_with fail
         refine (F.2.2.2.2 _ B12.out).mono ?_
         rintro e v13 ⟨rfl, b⟩
         have B13 := Lib.hid (B12.out.trans (b.mono B12.out.size)); clear b
         go_wp2
         go_ret
         exact ⟨rfl, B13.out⟩
   · have o4 := fun W (h : Below w.heap.size w W) => Div_q x y W sx sy h0 (ht.next h) (TabQ_next ht2 h)
     obtain ⟨q1, q2, q3⟩ := qdiv_ok hx hy (by decide) h0
     rw [q1, q2] at o4
     have c4 := fun W (h : Below w.heap.size w W) => Check_q (x / y) W (q3.lim (by decide)) (ht.next h) (TabQ_next ht2 h)
     clear q1 q2 q3
     have O := Lib.hid ((And.intro o1 (And.intro o2 (And.intro o3 (And.intro o4 (And.intro c1 (And.intro c2 (And.intro c3 (And.intro c4 (And.intro f1 (And.intro f2 (And.intro f3 (And.intro ck oA)))))))))))))
     clear o1 o2 o3 o4 c1 c2 c3 c4 f1 f2 f3 ck oA ht ht2 hx hy sx sy h0
     generalize strQ (x + y) = r1 at *
     generalize strQ (x - y) = r2 at *
     generalize strQ (x * y) = r3 at *
     generalize strQ (x / y) = r4 at *
     generalize strQ x = s1 at *
     generalize strQ y = s2 at *
     generalize strQ (Rat.divInt n d) = r at *
     go_enter Tryz.func6, Tryz.ntmps6
     go_wp2_with fail
     have B0 := (Below.refl w.heap.size w).alloc (Nat.le_refl _) (.cells #[.string s1, .string s2] 22)
     have K0 := Blk.new w #[.string s1, .string s2] 22
     generalize w.alloc (.cells #[.string s1, .string s2] 22) = v0 at *
     have B0 := Lib.hid B0
     refine (hfin.out _ _ K0.lt (K0.cell 0 _ rfl) (K0.cell 1 _ rfl) B0.out).mono ?_
     rintro e v1 ⟨rfl, b⟩
     have B1 := Lib.hid (B0.out.trans (b.mono B0.out.size)); clear b B0 K0
     go_wp2_with fail
     have K := Lib.hid (Blk.new v1 #[.func (.func 13) #[] #[], .func (.func 14) #[] #[], .func (.func 15) #[] #[], .func (.func 16) #[] #[]] 25)
     have BB := Lib.hid (B1.out.alloc B1.out.size (.cells #[.func (.func 13) #[] #[], .func (.func 14) #[] #[], .func (.func 15) #[] #[], .func (.func 16) #[] #[]] 25)); clear B1
     generalize v1.alloc (.cells #[.func (.func 13) #[] #[], .func (.func 14) #[] #[], .func (.func 15) #[] #[], .func (.func 16) #[] #[]] 25) = v1' at *
     generalize v1.heap.size = kb at *
     have B1 := BB; clear BB
     refine wp_loop_rounds 5 ?_
     rw [rounds_succ]
     have c0 := K.out.cell 0 (.func (.func 13) #[] #[]) rfl
     go_wp2_with fail
     refine (O.out.1 _ B1.out).mono ?_
     rintro e v2 ⟨rfl, b⟩
     have B2 := Lib.hid (B1.out.trans (b.mono B1.out.size)); clear B1 c0
     have Kn := Lib.hid (K.out.next b); clear K; have K := Kn; clear Kn
     clear b
     go_wp2_with fail
     refine (O.out.2.2.2.2.1 _ B2.out).mono ?_
     rintro e v3 ⟨rfl, b⟩
     have B3 := Lib.hid (B2.out.trans (b.mono B2.out.size)); clear B2
     have Kn := Lib.hid (K.out.next b); clear K; have K := Kn; clear Kn
     clear b
     go_wp2_with fail
     rw [rounds_succ]
     have c0 := K.out.cell 1 (.func (.func 14) #[] #[]) rfl
     go_wp2_with fail
     refine (O.out.2.1 _ B3.out).mono ?_
     rintro e v4 ⟨rfl, b⟩
     have B4 := Lib.hid (B3.out.trans (b.mono B3.out.size)); clear B3 c0
     have Kn := Lib.hid (K.out.next b); clear K; have K := Kn; clear Kn
     clear b
     go_wp2_with fail
     refine (O.out.2.2.2.2.2.1 _ B4.out).mono ?_
     rintro e v5 ⟨rfl, b⟩
     have B5 := Lib.hid (B4.out.trans (b.mono B4.out.size)); clear B4
     have Kn := Lib.hid (K.out.next b); clear K; have K := Kn; clear Kn
     clear b
     go_wp2_with fail
     rw [rounds_succ]
     have c0 := K.out.cell 2 (.func (.func 15) #[] #[]) rfl
     go_wp2_with fail
     refine (O.out.2.2.1 _ B5.out).mono ?_
     rintro e v6 ⟨rfl, b⟩
     have B6 := Lib.hid (B5.out.trans (b.mono B5.out.size)); clear B5 c0
     have Kn := Lib.hid (K.out.next b); clear K; have K := Kn; clear Kn
     clear b
     go_wp2_with fail
     refine (O.out.2.2.2.2.2.2.1 _ B6.out).mono ?_
     rintro e v7 ⟨rfl, b⟩
     have B7 := Lib.hid (B6.out.trans (b.mono B6.out.size)); clear B6
     have Kn := Lib.hid (K.out.next b); clear K; have K := Kn; clear Kn
     clear b
     go_wp2_with fail
     rw [rounds_succ]
     have c0 := K.out.cell 3 (.func (.func 16) #[] #[]) rfl
     go_wp2_with fail
     refine (O.out.2.2.2.1 _ B7.out).mono ?_
     rintro e v8 ⟨rfl, b⟩
     have B8 := Lib.hid (B7.out.trans (b.mono B7.out.size)); clear B7 c0
     have Kn := Lib.hid (K.out.next b); clear K; have K := Kn; clear Kn
     clear b
     go_wp2_with fail
     refine (O.out.2.2.2.2.2.2.2.1 _ B8.out).mono ?_
     rintro e v9 ⟨rfl, b⟩
     have B9 := Lib.hid (B8.out.trans (b.mono B8.out.size)); clear B8
     have Kn := Lib.hid (K.out.next b); clear K; have K := Kn; clear Kn
     clear b
     go_wp2_with fail
     rw [rounds_succ]
     by_cases hd0 : d = 0
     · subst hd0
       go_wp2_with fail
       refine (O.out.2.2.2.2.2.2.2.2.2.2.2.2 _ B9.out).mono ?_
       rintro e v10 ⟨rfl, b⟩
       have B10 := Lib.hid (B9.out.trans (b.mono B9.out.size)); clear b
       go_wp2
       go_ret
       exact ⟨rfl, B10.out⟩
     · have d1 : (d == 0) = false := by rw [beq_eq_false_iff_ne]; exact hd0
       by_cases hk0 : k = 0
       · subst hk0
         go_wp2_with fail
         refine (O.out.2.2.2.2.2.2.2.2.2.2.2.2 _ B9.out).mono ?_
         rintro e v10 ⟨rfl, b⟩
         have B10 := Lib.hid (B9.out.trans (b.mono B9.out.size)); clear b
         go_wp2
         go_ret
         exact ⟨rfl, B10.out⟩
       · have d2 : (k == 0) = false := by rw [beq_eq_false_iff_ne]; exact hk0
         have F := O.out.2.2.2.2.2.2.2.2
         go_wp2_with fail
         refine (F.1 _ hd0 B9.out).mono ?_
         rintro e v10 ⟨rfl, b⟩
         have B10 := Lib.hid (B9.out.trans (b.mono B9.out.size)); clear B9 b
         go_wp2_with fail
         refine (F.2.1 _ hd0 hk0 B10.out).mono ?_
         rintro e v11 ⟨rfl, b⟩
         have B11 := Lib.hid (B10.out.trans (b.mono B10.out.size)); clear B10 b
         go_wp2_with fail
         refine (F.2.2.1 _ hd0 B11.out).mono ?_
         rintro e v12 ⟨rfl, b⟩
         have B12 := Lib.hid (B11.out.trans (b.mono B11.out.size)); clear B11 b
         go_wp2_with fail
         refine (F.2.2.2.1 _ hd0 B12.out).mono ?_
         rintro e v13 ⟨rfl, b⟩
         have B13 := Lib.hid (B12.out.trans (b.mono B12.out.size)); clear B12 b
         go_wp2_with fail
         refine (F.2.2.2.2 _ B13.out).mono ?_
         rintro e v14 ⟨rfl, b⟩
         have B14 := Lib.hid (B13.out.trans (b.mono B13.out.size)); clear b
         go_wp2
         go_ret
         exact ⟨rfl, B14.out⟩
 · have hf' : (fineQ a && fineQ b) = false := by simpa using hf
   rw [hf'] at hfin
   clear hf hf'
   have O := Lib.hid (fun W (h : Below w.heap.size w W) => awake2_any W (ht.next h) (TabQ_next ht2 h))
   clear ht ht2
   go_enter Tryz.func6, Tryz.ntmps6
   go_wp2_with fail
   have B0 := (Below.refl w.heap.size w).alloc (Nat.le_refl _) (.cells #[.string a, .string b] 22)
   have K0 := Blk.new w #[.string a, .string b] 22
   generalize w.alloc (.cells #[.string a, .string b] 22) = v0 at *
   have B0 := Lib.hid B0
   refine (hfin.out _ _ K0.lt (K0.cell 0 _ rfl) (K0.cell 1 _ rfl) B0.out).mono ?_
   rintro e v1 ⟨rfl, b⟩
   have B1 := Lib.hid (B0.out.trans (b.mono B0.out.size)); clear b B0 K0
   go_wp2_with fail
   refine (O.out _ B1.out).mono ?_
   rintro e v2 ⟨rfl, b⟩
   have B2 := Lib.hid (B1.out.trans (b.mono B1.out.size)); clear b
   go_wp2
   go_ret
   exact ⟨rfl, B2.out⟩
theorem RationalLowest_any (a b : ByteArray) (n d k : Int) (w : World) (ha : a.size ≤ maxLen) (hb : b.size ≤ maxLen) (hn : (Lit.int .i16 n).wf = true) (hd : (Lit.int .i16 d).wf = true) (hk : (Lit.int .i16 k).wf = true) (ht : Tab w) (ht2 : Tab64 w) :
   Calls Tryz.prog 6 #[.string a, .string b, .int .i16 n, .int .i16 d, .int .i16 k] w fun e W' => e = .returned (.bool true) ∧ Below w.heap.size w W' := by
 have mn : IntKind.i16.min = -32768 := rfl
 have mx : IntKind.i16.max = 32767 := rfl
 simp [Lit.wf] at hn hd hk
 exact RationalLowest_core a b n d k w ha hb (by omega) (by omega) (by omega) (by omega) (by omega) (by omega) ht ht2
end Go.Proofs.YtmafghdgmdbpnaaGreatDoor
namespace Go.Proofs.YtmafghdgmdbpnaaGreatDoor
open Go.ChangeShapes Go.WideShapes Go.ChangeAt Go.RowKit
open Go.ChangeMaps (open_string shut_string)
theorem rationalLowest_lifted (os : Os) (started : os.Started) (H : Type) (enc : TypeId × Value → H) :
   ReturnsInHanded {} Tryz.checked os 6 .any (fun w args => (Rows.rationalLowestSpec.pre enc Tryz.prog Tryz.f6 [] false w args ∧ laidMetH Tryz.prog laid3 w) ∧ sizedMet enc Tryz.prog Tryz.f6 (OpenSpec.ofChange Rows.rationalLowestSpec) false w args)
     (Rows.rationalLowestSpec.post enc Tryz.prog Tryz.f6 false true false false) := by
 refine returnsInHanded_of_change_and (C := Tryz.checked) (X := fun w _ => laidMetH Tryz.prog laid3 w) (fun _ _ _ hh h => h.of_heap hh) own started (by kernel_rfl) Tryz.func6
   (ChangeSpec.witness_shaped (enc := enc) (C := Tryz.checked) (os := os) (X := fun w _ => laidMetH Tryz.prog laid3 w) false (World.doorLaid Tryz.prog 400 os) #[.string ⟨#[]⟩, .string ⟨#[]⟩, .int .i16 0, .int .i16 0, .int .i16 0] 8 rfl (World.shaped_of_RefB (by kernel_rfl) (by kernel_rfl)) (by kernel_rfl) (by kernel_rfl) (by kernel_rfl) (door_met os _)) ?_
 intro W base args ds gs before hval0 hW _ _ hL _
 have hval : ∀ (j : Nat) t v, Tryz.f6.params[j]? = some t → args[j]? = some v → Value.okWide Tryz.prog W .any base t v := hval0
 have hW' := hW
 obtain ⟨p, q, hA0, hV, rfl, hfz, hnd⟩ := hW
 have hA : DataW.TrodAll enc Tryz.prog W 0 (fun _ => true) true Tryz.f6.params.toList args.toList ds p := hA0
 rw [Tryz.params6] at hA hval
 obtain ⟨v0, v1, v2, v3, v4, d0, d1, d2, d3, d4, p0, p1, p2, p3, p4, rfl, rfl, rfl, h0, h1, h2, h3, h4⟩ := trodAll_five hA
 obtain ⟨rfl, rfl⟩ := trodVars_none hV
 obtain ⟨s0, rfl, rfl, rfl, z0⟩ := open_string Tryz.underlying22 (hval 0 22 v0 rfl rfl) h0
 obtain ⟨s1, rfl, rfl, rfl, z1⟩ := open_string Tryz.underlying22 (hval 1 22 v1 rfl rfl) h1
 obtain ⟨s2, rfl, rfl, rfl, z2⟩ := open_int Tryz.underlying49 (hval 2 49 v2 rfl rfl) h2
 obtain ⟨s3, rfl, rfl, rfl, z3⟩ := open_int Tryz.underlying49 (hval 3 49 v3 rfl rfl) h3
 obtain ⟨s4, rfl, rfl, rfl, z4⟩ := open_int Tryz.underlying49 (hval 4 49 v4 rfl rfl) h4
 clear hA0 hval0
 refine (RationalLowest_any s0 s1 s2 s3 s4 W z0 z1 z2 z3 z4 (tab_of_laid hL) (tab64_of_laid hL)).mono fun e W' ⟨he, bel⟩ => ?_
 subst he
 exact ⟨_, rfl, _, _, _, [], _, [], hW', trodAll_mk1 (shut_bool Tryz.underlying4 _), trodAll_mk5 (shut_string Tryz.underlying22 z0) (shut_string Tryz.underlying22 z1) (shut_int Tryz.underlying49 z2) (shut_int Tryz.underlying49 z3) (shut_int Tryz.underlying49 z4), rfl, bel.frame _, fun h => by cases h⟩
theorem rationalLowest_over : Rows.RationalLowestSaid :=
 OpenClaim.holds_of_wide 6 Tryz.f6 rfl rfl rfl rfl rfl rfl rfl ⟨rfl, rfl, rfl, rfl, rfl⟩ rfl rfl rfl rfl rfl (by kernel_rfl) Tryz.func6 (by kernel_rfl)
   (of_decide_eq_true (by kernel_rfl)) (by unfold Func.isWrapper; first | (rw [if_pos (by decide +kernel)]; kernel_rfl) | (rw [if_neg (by decide +kernel)]; exact ⟨rfl, rfl⟩))
   (fun os started H enc _ => rationalLowest_lifted os started H enc)
theorem rationalLowest_proved : Rows.RationalLowestCardSaid :=
 Claim7.holds_tied_plain_at .later [] [.data, .data, .data] true (true, "c5e0d21a5a41f479a183c420c2e54b6c89083f44158d8e981b1170a56436208f") true
   rationalLowest_over (fun _ h => by cases h) (by kernel_rfl) (fun _ h => by cases h) rationalLowest_row_tie rfl ⟨rfl, rfl⟩ (by kernel_rfl) rfl
   (fun f fn hf hfn => by
     obtain rfl : f = 6 := Option.some.inj ((show Tryz.prog.funcNamed "kingpost/kingpostlaw02.RationalLowest" = some 6 by kernel_rfl).symm.trans hf) |>.symm
     obtain rfl : fn = Tryz.f6 := (Option.some.inj (Tryz.func6.symm.trans hfn)).symm
     exact ⟨by kernel_rfl, fun j t ht => by
       rw [Tryz.params6] at ht
       have hm : t ∈ [22, 22, 49, 49, 49] := by simpa using Array.mem_of_getElem? ht
       have hall : ([22, 22, 49, 49, 49].all fun u => !Tryz.prog.wantsStandIn u) = true := by kernel_rfl
       exact (show Tryz.prog.wantsStandIn t = false by simpa using List.all_eq_true.1 hall t hm)⟩)
   (by kernel_rfl)
#print axioms rationalLowest_proved
end Go.Proofs.YtmafghdgmdbpnaaGreatDoor
