/- Proved here: numbers are ordered; the order agrees with the sign of differences, and adding keeps it. The law RationalOrder returns true for every input, and its arguments read behind the call as before. Conditions: the row's own, the listed tables hold their numbers. -/
import Derived.Test.YtmafghdgmdbpnaaGreatDoorQZ1
import Derived.Test.YtmafghdgmdbpnaaGreatDoorQZ2
import Derived.Test.YtmafghdgmdbpnaaGreatDoorQZ24
import Derived.Test.YtmafghdgmdbpnaaGreatDoorQZ32
set_option linter.all false
set_option maxRecDepth 100000
set_option maxHeartbeats 8000000
namespace Go.Proofs.YtmafghdgmdbpnaaGreatDoor
open Go.RowKit
theorem do_core (k : FuncId) (cb : Nat) (a b r : ByteArray) (w : World) (eg : ∀ args W, (callFunc k args).run Tryz.prog W = .ok (.enter k args) W) (hb : Blk w cb #[.bool false])
   (h : Calls Tryz.prog k #[.string a, .string b] w fun e W' => e = .returned (.tuple #[.string r, .int .i64 0]) ∧ Below w.heap.size w W') :
   Calls Tryz.prog 38 #[.pointer (some ⟨cb, 0, none⟩), .func (.func k) #[] #[], .string a, .string b] w fun e W' => e = .returned (.string r) ∧ Below w.heap.size w W' := by
 have C := Lib.hid (And.intro h hb); clear h hb
 go_enter Tryz.func38, Tryz.ntmps38
 go_wp2_with fail
 refine C.out.1.mono ?_
 rintro e w1 ⟨rfl, b⟩
 have K1 := C.out.2.next b
 have H1 := Lib.hid (below_same b K1 (j := 0) (u := .bool false) rfl)
 have c0 := K1.cell 0 (.bool false) rfl
 have f0 := K1.free 0
 clear K1 b
 go_wp2
 go_ret
 exact ⟨rfl, H1.out⟩
theorem clo1 (kb cb : Nat) (a b r : ByteArray) (w : World) (hk : Blk w kb #[.pointer (some ⟨cb, 0, none⟩)]) (hb : Blk w cb #[.bool false])
   (h : Calls Tryz.prog 13 #[.string a, .string b] w fun e W' => e = .returned (.tuple #[.string r, .int .i64 0]) ∧ Below w.heap.size w W') :
   Calls Tryz.prog 37 #[.string a, .string b, .pointer (some ⟨kb, 0, none⟩)] w fun e W' => e = .returned (.string r) ∧ Below w.heap.size w W' := by
 have C := Lib.hid (do_core _ cb a b r w (enters_of Tryz.func13 (by kernel_rfl) rfl) hb h)
 have c0 := hk.cell 0 (.pointer (some ⟨cb, 0, none⟩)) rfl
 clear h hb hk
 go_enter Tryz.func37, Tryz.ntmps37
 go_wp2_with fail
 refine C.out.mono ?_
 rintro e w1 ⟨rfl, b⟩
 have H1 := Lib.hid b; clear b
 go_wp2
 go_ret
 exact ⟨rfl, H1.out⟩
theorem clo2 (kb cb : Nat) (a b r : ByteArray) (w : World) (hk : Blk w kb #[.pointer (some ⟨cb, 0, none⟩)]) (hb : Blk w cb #[.bool false])
   (h : Calls Tryz.prog 15 #[.string a, .string b] w fun e W' => e = .returned (.tuple #[.string r, .int .i64 0]) ∧ Below w.heap.size w W') :
   Calls Tryz.prog 39 #[.string a, .string b, .pointer (some ⟨kb, 0, none⟩)] w fun e W' => e = .returned (.string r) ∧ Below w.heap.size w W' := by
 have C := Lib.hid (do_core _ cb a b r w (enters_of Tryz.func15 (by kernel_rfl) rfl) hb h)
 have c0 := hk.cell 0 (.pointer (some ⟨cb, 0, none⟩)) rfl
 clear h hb hk
 go_enter Tryz.func39, Tryz.ntmps39
 go_wp2_with fail
 refine C.out.mono ?_
 rintro e w1 ⟨rfl, b⟩
 have H1 := Lib.hid b; clear b
 go_wp2
 go_ret
 exact ⟨rfl, H1.out⟩
theorem RationalOrder_any (a b c : ByteArray) (w : World) (ha : a.size ≤ maxLen) (hb : b.size ≤ maxLen) (hc : c.size ≤ maxLen) (ht : Tab w) (ht2 : Tab64 w) :
   Calls Tryz.prog 7 #[.string a, .string b, .string c] w fun e W' => e = .returned (.bool true) ∧ Below w.heap.size w W' := by
 have hfin := Lib.hid (fun B W (hB : B < W.heap.size) (h0 : W.cell? ⟨B, 0, none⟩ = some (.string a)) (h1 : W.cell? ⟨B, 1, none⟩ = some (.string b)) (h2 : W.cell? ⟨B, 2, none⟩ = some (.string c)) (h : Below w.heap.size w W) => fineQ3 a b c B W ha hb hc hB h0 h1 h2 (ht.next h))
 clear ha hb hc
 by_cases hf : (fineQ a && fineQ b && fineQ c) = true
 · rw [hf] at hfin
   obtain ⟨⟨fa, fb⟩, fc⟩ : (fineQ a = true ∧ fineQ b = true) ∧ fineQ c = true := by simpa using hf
   obtain ⟨x, rfl, hx⟩ := fineQ_str fa
   obtain ⟨y, rfl, hy⟩ := fineQ_str fb
   obtain ⟨z, rfl, hz⟩ := fineQ_str fc
   clear hf fa fb fc
   have sx : Sq x := hx.lim (by decide)
   have sy : Sq y := hy.lim (by decide)
   have sz : Sq z := hz.lim (by decide)
   have o1 := fun W (h : Below w.heap.size w W) => Compare_q x y W sx sy (ht.next h) (TabQ_next ht2 h)
   have o2 := fun W (h : Below w.heap.size w W) => Compare_q y x W sy sx (ht.next h) (TabQ_next ht2 h)
   have o3 := fun W (h : Below w.heap.size w W) => Compare_q y z W sy sz (ht.next h) (TabQ_next ht2 h)
   have o4 := fun W (h : Below w.heap.size w W) => Compare_q x z W sx sz (ht.next h) (TabQ_next ht2 h)
   have o5 := fun W (h : Below w.heap.size w W) => Sub_q x y W sx sy (ht.next h) (TabQ_next ht2 h)
   obtain ⟨d1, d2, d3⟩ := qsub_ok hx hy (by decide)
   obtain ⟨p1, p2, p3⟩ := qadd_ok hx hz (by decide)
   obtain ⟨q1, q2, q3⟩ := qadd_ok hy hz (by decide)
   have o6 := fun W (h : Below w.heap.size w W) => Compare_q (x - y) 0 W (d3.lim (by decide)) (Bq_zero.lim (by decide)) (ht.next h) (TabQ_next ht2 h)
   have o7 := fun W (h : Below w.heap.size w W) => Add_q x z W sx sz (ht.next h) (TabQ_next ht2 h)
   have o8 := fun W (h : Below w.heap.size w W) => Add_q y z W sy sz (ht.next h) (TabQ_next ht2 h)
   have o9 := fun W (h : Below w.heap.size w W) => Compare_q (x + z) (y + z) W (p3.lim (by decide)) (q3.lim (by decide)) (ht.next h) (TabQ_next ht2 h)
   have oA := fun W (h : Below w.heap.size w W) => awake2_any W (ht.next h) (TabQ_next ht2 h)
   rw [(qcmp_ok hx hy (by decide)).1, (qcmp_ok hx hy (by decide)).2] at o1
   rw [(qcmp_ok hy hx (by decide)).1, (qcmp_ok hy hx (by decide)).2, cmpQ_swap x y] at o2
   rw [(qcmp_ok hy hz (by decide)).1, (qcmp_ok hy hz (by decide)).2] at o3
   rw [(qcmp_ok hx hz (by decide)).1, (qcmp_ok hx hz (by decide)).2] at o4
   rw [d1, d2] at o5
   rw [(qcmp_ok d3 Bq_zero (by decide)).1, (qcmp_ok d3 Bq_zero (by decide)).2, cmpQ_sub, strQ_zero] at o6
   rw [p1, p2] at o7
   rw [q1, q2] at o8
   rw [(qcmp_ok p3 q3 (by decide)).1, (qcmp_ok p3 q3 (by decide)).2, cmpQ_add] at o9
   have o5' := fun (cb : Nat) W (h : Below w.heap.size w W) (k : Blk W cb #[.bool false]) => do_core _ cb _ _ _ W (enters_of Tryz.func14 (by kernel_rfl) rfl) k (o5 W h)
   have o7' := fun (cb : Nat) W (h : Below w.heap.size w W) (k : Blk W cb #[.bool false]) => do_core _ cb _ _ _ W (enters_of Tryz.func13 (by kernel_rfl) rfl) k (o7 W h)
   have o8' := fun (cb : Nat) W (h : Below w.heap.size w W) (k : Blk W cb #[.bool false]) => do_core _ cb _ _ _ W (enters_of Tryz.func13 (by kernel_rfl) rfl) k (o8 W h)
   have hE : ((strQ x).toList == (strQ y).toList) = (cmpQ x y == 0) := by
     rw [strQ_toList]
     by_cases h : x = y
     · rw [decide_eq_true h, (cmpQ_zero_iff x y).2 h]; rfl
     · rw [decide_eq_false h, eq_comm, beq_eq_false_iff_ne]; exact fun e => h ((cmpQ_zero_iff x y).1 e)
   have hk : (cmpQ x y = -1 ∨ cmpQ x y = 0 ∨ cmpQ x y = 1) := by
     rcases cmpQ_range x y with ⟨h, _⟩ | ⟨h, _⟩ | ⟨h, _⟩
     · exact .inl h
     · exact .inr (.inl h)
     · exact .inr (.inr h)
   have hT := fun h1 h2 => cmpQ_trans (x := x) (y := y) (z := z) h1 h2
   have gp := strQ_pos (x - y)
   have gp' : (0 : Int) < (strQ (x - y)).size := by omega
   have gm := (isNeg_pos gp).trans (strQ_neg (x - y))
   rw [show decide (x - y < 0) = decide (cmpQ x y < 0) from decide_eq_decide.2 ((sub_neg_iff x y).trans (cmpQ_lt_iff x y).symm)] at gm
   have O := Lib.hid ((And.intro o1 (And.intro o2 (And.intro o3 (And.intro o4 (And.intro o5' (And.intro o6 (And.intro o7' (And.intro o8' (And.intro o9 oA))))))))))
   clear o1 o2 o3 o4 o5 o6 o7 o8 o9 oA o5' o7' o8' ht ht2 hx hy hz sx sy sz d1 d2 d3 p1 p2 p3 q1 q2 q3
   generalize cmpQ x y = k1 at *
   generalize cmpQ y z = k3 at *
   generalize cmpQ x z = k4 at *
   generalize strQ (x - y) = d at *
   generalize strQ (x + z) = p at *
   generalize strQ (y + z) = q at *
   generalize strQ x = s1 at *
   generalize strQ y = s2 at *
   generalize strQ z = s3 at *
   go_enter Tryz.func7, Tryz.ntmps7
   go_wp2_with fail
   have B0 := (Below.refl w.heap.size w).alloc (Nat.le_refl _) (.cells #[.string s1, .string s2, .string s3] 22)
   have K0 := Blk.new w #[.string s1, .string s2, .string s3] 22
   generalize w.alloc (.cells #[.string s1, .string s2, .string s3] 22) = v0 at *
   have B0 := Lib.hid B0
   refine (hfin.out _ _ K0.lt (K0.cell 0 _ rfl) (K0.cell 1 _ rfl) (K0.cell 2 _ rfl) B0.out).mono ?_
   rintro e v1 ⟨rfl, b⟩
   have B1 := Lib.hid (B0.out.trans (b.mono B0.out.size)); clear b B0 K0
   go_wp2_with fail
   refine (O.out.1 _ B1.out).mono ?_
   rintro e v2 ⟨rfl, b⟩
   have B2 := Lib.hid (B1.out.trans (b.mono B1.out.size)); clear B1
   clear b
   go_wp2_with fail
   refine (O.out.2.1 _ B2.out).mono ?_
   rintro e v3 ⟨rfl, b⟩
   have B3 := Lib.hid (B2.out.trans (b.mono B2.out.size)); clear B2
   clear b
   go_wp2_with fail
   refine (O.out.2.2.1 _ B3.out).mono ?_
   rintro e v4 ⟨rfl, b⟩
   have B4 := Lib.hid (B3.out.trans (b.mono B3.out.size)); clear B3
   clear b
   go_wp2_with fail
   refine (O.out.2.2.2.1 _ B4.out).mono ?_
   rintro e v5 ⟨rfl, b⟩
   have B5 := Lib.hid (B4.out.trans (b.mono B4.out.size)); clear B4
   clear b
   rcases hk with rfl | rfl | rfl
   · simp only [show decide ((-1 : Int) < 0) = true by decide] at gm
     have hEE : (s1.toList == s2.toList) = false := by rw [hE]; decide
     clear hE
     by_cases hk3 : k3 ≤ 0
     · have hk4 : k4 ≤ 0 := hT (by decide) hk3
       clear hT
       go_wp2_with fail
       have K := Lib.hid (Blk.new v5 #[.bool false] 45)
       have BB := Lib.hid (B5.out.alloc B5.out.size (.cells #[.bool false] 45)); clear B5
       generalize v5.alloc (.cells #[.bool false] 45) = v5' at *
       generalize v5.heap.size = cb at *
       have B5 := BB; clear BB
       refine (O.out.2.2.2.2.1 cb _ B5.out K.out).mono ?_
       rintro e v6 ⟨rfl, b⟩
       have B6 := Lib.hid (B5.out.trans (b.mono B5.out.size)); clear B5
       have Kn := Lib.hid (K.out.next b); clear K; have K := Kn; clear Kn
       clear b
       go_wp2_with fail
       refine (O.out.2.2.2.2.2.1 _ B6.out).mono ?_
       rintro e v7 ⟨rfl, b⟩
       have B7 := Lib.hid (B6.out.trans (b.mono B6.out.size)); clear B6
       have Kn := Lib.hid (K.out.next b); clear K; have K := Kn; clear Kn
       clear b
       go_wp2_with fail
       refine (O.out.2.2.2.2.2.2.1 cb _ B7.out K.out).mono ?_
       rintro e v8 ⟨rfl, b⟩
       have B8 := Lib.hid (B7.out.trans (b.mono B7.out.size)); clear B7
       have Kn := Lib.hid (K.out.next b); clear K; have K := Kn; clear Kn
       clear b
       go_wp2_with fail
       refine (O.out.2.2.2.2.2.2.2.1 cb _ B8.out K.out).mono ?_
       rintro e v9 ⟨rfl, b⟩
       have B9 := Lib.hid (B8.out.trans (b.mono B8.out.size)); clear B8
       have Kn := Lib.hid (K.out.next b); clear K; have K := Kn; clear Kn
       clear b
       go_wp2_with fail
       refine (O.out.2.2.2.2.2.2.2.2.1 _ B9.out).mono ?_
       rintro e v10 ⟨rfl, b⟩
       have B10 := Lib.hid (B9.out.trans (b.mono B9.out.size)); clear B9
       have Kn := Lib.hid (K.out.next b); clear K; have K := Kn; clear Kn
       clear b
       have m0 := K.out.cell 0 (.bool false) rfl
       go_wp2_with fail
       refine (O.out.2.2.2.2.2.2.2.2.2 _ B10.out).mono ?_
       rintro e v11 ⟨rfl, b⟩
       have B11 := Lib.hid (B10.out.trans (b.mono B10.out.size)); clear b
       go_wp2
       go_ret
       exact ⟨rfl, B11.out⟩
     · clear hT
       go_wp2_with fail
       have K := Lib.hid (Blk.new v5 #[.bool false] 45)
       have BB := Lib.hid (B5.out.alloc B5.out.size (.cells #[.bool false] 45)); clear B5
       generalize v5.alloc (.cells #[.bool false] 45) = v5' at *
       generalize v5.heap.size = cb at *
       have B5 := BB; clear BB
       refine (O.out.2.2.2.2.1 cb _ B5.out K.out).mono ?_
       rintro e v6 ⟨rfl, b⟩
       have B6 := Lib.hid (B5.out.trans (b.mono B5.out.size)); clear B5
       have Kn := Lib.hid (K.out.next b); clear K; have K := Kn; clear Kn
       clear b
       go_wp2_with fail
       refine (O.out.2.2.2.2.2.1 _ B6.out).mono ?_
       rintro e v7 ⟨rfl, b⟩
       have B7 := Lib.hid (B6.out.trans (b.mono B6.out.size)); clear B6
       have Kn := Lib.hid (K.out.next b); clear K; have K := Kn; clear Kn
       clear b
       go_wp2_with fail
       refine (O.out.2.2.2.2.2.2.1 cb _ B7.out K.out).mono ?_
       rintro e v8 ⟨rfl, b⟩
       have B8 := Lib.hid (B7.out.trans (b.mono B7.out.size)); clear B7
       have Kn := Lib.hid (K.out.next b); clear K; have K := Kn; clear Kn
       clear b
       go_wp2_with fail
       refine (O.out.2.2.2.2.2.2.2.1 cb _ B8.out K.out).mono ?_
       rintro e v9 ⟨rfl, b⟩
       have B9 := Lib.hid (B8.out.trans (b.mono B8.out.size)); clear B8
       have Kn := Lib.hid (K.out.next b); clear K; have K := Kn; clear Kn
       clear b
       go_wp2_with fail
       refine (O.out.2.2.2.2.2.2.2.2.1 _ B9.out).mono ?_
       rintro e v10 ⟨rfl, b⟩
       have B10 := Lib.hid (B9.out.trans (b.mono B9.out.size)); clear B9
       have Kn := Lib.hid (K.out.next b); clear K; have K := Kn; clear Kn
       clear b
       have m0 := K.out.cell 0 (.bool false) rfl
       go_wp2_with fail
       refine (O.out.2.2.2.2.2.2.2.2.2 _ B10.out).mono ?_
       rintro e v11 ⟨rfl, b⟩
       have B11 := Lib.hid (B10.out.trans (b.mono B10.out.size)); clear b
       go_wp2
       go_ret
       exact ⟨rfl, B11.out⟩
   · simp only [show decide ((0 : Int) < 0) = false by decide] at gm
     have hEE : (s1.toList == s2.toList) = true := by rw [hE]; decide
     clear hE
     by_cases hk3 : k3 ≤ 0
     · have hk4 : k4 ≤ 0 := hT (by decide) hk3
       clear hT
       go_wp2_with fail
       have K := Lib.hid (Blk.new v5 #[.bool false] 45)
       have BB := Lib.hid (B5.out.alloc B5.out.size (.cells #[.bool false] 45)); clear B5
       generalize v5.alloc (.cells #[.bool false] 45) = v5' at *
       generalize v5.heap.size = cb at *
       have B5 := BB; clear BB
       refine (O.out.2.2.2.2.1 cb _ B5.out K.out).mono ?_
       rintro e v6 ⟨rfl, b⟩
       have B6 := Lib.hid (B5.out.trans (b.mono B5.out.size)); clear B5
       have Kn := Lib.hid (K.out.next b); clear K; have K := Kn; clear Kn
       clear b
       go_wp2_with fail
       refine (O.out.2.2.2.2.2.1 _ B6.out).mono ?_
       rintro e v7 ⟨rfl, b⟩
       have B7 := Lib.hid (B6.out.trans (b.mono B6.out.size)); clear B6
       have Kn := Lib.hid (K.out.next b); clear K; have K := Kn; clear Kn
       clear b
       go_wp2_with fail
       refine (O.out.2.2.2.2.2.2.1 cb _ B7.out K.out).mono ?_
       rintro e v8 ⟨rfl, b⟩
       have B8 := Lib.hid (B7.out.trans (b.mono B7.out.size)); clear B7
       have Kn := Lib.hid (K.out.next b); clear K; have K := Kn; clear Kn
       clear b
       go_wp2_with fail
       refine (O.out.2.2.2.2.2.2.2.1 cb _ B8.out K.out).mono ?_
       rintro e v9 ⟨rfl, b⟩
       have B9 := Lib.hid (B8.out.trans (b.mono B8.out.size)); clear B8
       have Kn := Lib.hid (K.out.next b); clear K; have K := Kn; clear Kn
       clear b
       go_wp2_with fail
       refine (O.out.2.2.2.2.2.2.2.2.1 _ B9.out).mono ?_
       rintro e v10 ⟨rfl, b⟩
       have B10 := Lib.hid (B9.out.trans (b.mono B9.out.size)); clear B9
       have Kn := Lib.hid (K.out.next b); clear K; have K := Kn; clear Kn
       clear b
       have m0 := K.out.cell 0 (.bool false) rfl
       go_wp2_with fail
       refine (O.out.2.2.2.2.2.2.2.2.2 _ B10.out).mono ?_
       rintro e v11 ⟨rfl, b⟩
       have B11 := Lib.hid (B10.out.trans (b.mono B10.out.size)); clear b
       go_wp2
       go_ret
       exact ⟨rfl, B11.out⟩
     · clear hT
       go_wp2_with fail
       have K := Lib.hid (Blk.new v5 #[.bool false] 45)
       have BB := Lib.hid (B5.out.alloc B5.out.size (.cells #[.bool false] 45)); clear B5
       generalize v5.alloc (.cells #[.bool false] 45) = v5' at *
       generalize v5.heap.size = cb at *
       have B5 := BB; clear BB
       refine (O.out.2.2.2.2.1 cb _ B5.out K.out).mono ?_
       rintro e v6 ⟨rfl, b⟩
       have B6 := Lib.hid (B5.out.trans (b.mono B5.out.size)); clear B5
       have Kn := Lib.hid (K.out.next b); clear K; have K := Kn; clear Kn
       clear b
       go_wp2_with fail
       refine (O.out.2.2.2.2.2.1 _ B6.out).mono ?_
       rintro e v7 ⟨rfl, b⟩
       have B7 := Lib.hid (B6.out.trans (b.mono B6.out.size)); clear B6
       have Kn := Lib.hid (K.out.next b); clear K; have K := Kn; clear Kn
       clear b
       go_wp2_with fail
       refine (O.out.2.2.2.2.2.2.1 cb _ B7.out K.out).mono ?_
       rintro e v8 ⟨rfl, b⟩
       have B8 := Lib.hid (B7.out.trans (b.mono B7.out.size)); clear B7
       have Kn := Lib.hid (K.out.next b); clear K; have K := Kn; clear Kn
       clear b
       go_wp2_with fail
       refine (O.out.2.2.2.2.2.2.2.1 cb _ B8.out K.out).mono ?_
       rintro e v9 ⟨rfl, b⟩
       have B9 := Lib.hid (B8.out.trans (b.mono B8.out.size)); clear B8
       have Kn := Lib.hid (K.out.next b); clear K; have K := Kn; clear Kn
       clear b
       go_wp2_with fail
       refine (O.out.2.2.2.2.2.2.2.2.1 _ B9.out).mono ?_
       rintro e v10 ⟨rfl, b⟩
       have B10 := Lib.hid (B9.out.trans (b.mono B9.out.size)); clear B9
       have Kn := Lib.hid (K.out.next b); clear K; have K := Kn; clear Kn
       clear b
       have m0 := K.out.cell 0 (.bool false) rfl
       go_wp2_with fail
       refine (O.out.2.2.2.2.2.2.2.2.2 _ B10.out).mono ?_
       rintro e v11 ⟨rfl, b⟩
       have B11 := Lib.hid (B10.out.trans (b.mono B10.out.size)); clear b
       go_wp2
       go_ret
       exact ⟨rfl, B11.out⟩
   · simp only [show decide ((1 : Int) < 0) = false by decide] at gm
     have hEE : (s1.toList == s2.toList) = false := by rw [hE]; decide
     clear hE hT
     go_wp2_with fail
     have K := Lib.hid (Blk.new v5 #[.bool false] 45)
     have BB := Lib.hid (B5.out.alloc B5.out.size (.cells #[.bool false] 45)); clear B5
     generalize v5.alloc (.cells #[.bool false] 45) = v5' at *
     generalize v5.heap.size = cb at *
     have B5 := BB; clear BB
     refine (O.out.2.2.2.2.1 cb _ B5.out K.out).mono ?_
     rintro e v6 ⟨rfl, b⟩
     have B6 := Lib.hid (B5.out.trans (b.mono B5.out.size)); clear B5
     have Kn := Lib.hid (K.out.next b); clear K; have K := Kn; clear Kn
     clear b
     go_wp2_with fail
     refine (O.out.2.2.2.2.2.1 _ B6.out).mono ?_
     rintro e v7 ⟨rfl, b⟩
     have B7 := Lib.hid (B6.out.trans (b.mono B6.out.size)); clear B6
     have Kn := Lib.hid (K.out.next b); clear K; have K := Kn; clear Kn
     clear b
     go_wp2_with fail
     refine (O.out.2.2.2.2.2.2.1 cb _ B7.out K.out).mono ?_
     rintro e v8 ⟨rfl, b⟩
     have B8 := Lib.hid (B7.out.trans (b.mono B7.out.size)); clear B7
     have Kn := Lib.hid (K.out.next b); clear K; have K := Kn; clear Kn
     clear b
     go_wp2_with fail
     refine (O.out.2.2.2.2.2.2.2.1 cb _ B8.out K.out).mono ?_
     rintro e v9 ⟨rfl, b⟩
     have B9 := Lib.hid (B8.out.trans (b.mono B8.out.size)); clear B8
     have Kn := Lib.hid (K.out.next b); clear K; have K := Kn; clear Kn
     clear b
     go_wp2_with fail
     refine (O.out.2.2.2.2.2.2.2.2.1 _ B9.out).mono ?_
     rintro e v10 ⟨rfl, b⟩
     have B10 := Lib.hid (B9.out.trans (b.mono B9.out.size)); clear B9
     have Kn := Lib.hid (K.out.next b); clear K; have K := Kn; clear Kn
     clear b
     have m0 := K.out.cell 0 (.bool false) rfl
     go_wp2_with fail
     refine (O.out.2.2.2.2.2.2.2.2.2 _ B10.out).mono ?_
     rintro e v11 ⟨rfl, b⟩
     have B11 := Lib.hid (B10.out.trans (b.mono B10.out.size)); clear b
     go_wp2
     go_ret
     exact ⟨rfl, B11.out⟩
 · have hf' : (fineQ a && fineQ b && fineQ c) = false := by simpa using hf
   rw [hf'] at hfin
   clear hf hf'
   have O := Lib.hid (fun W (h : Below w.heap.size w W) => awake2_any W (ht.next h) (TabQ_next ht2 h))
   clear ht ht2
   go_enter Tryz.func7, Tryz.ntmps7
   go_wp2_with fail
   have B0 := (Below.refl w.heap.size w).alloc (Nat.le_refl _) (.cells #[.string a, .string b, .string c] 22)
   have K0 := Blk.new w #[.string a, .string b, .string c] 22
   generalize w.alloc (.cells #[.string a, .string b, .string c] 22) = v0 at *
   have B0 := Lib.hid B0
   refine (hfin.out _ _ K0.lt (K0.cell 0 _ rfl) (K0.cell 1 _ rfl) (K0.cell 2 _ rfl) B0.out).mono ?_
   rintro e v1 ⟨rfl, b⟩
   have B1 := Lib.hid (B0.out.trans (b.mono B0.out.size)); clear b B0 K0
   go_wp2_with fail
   refine (O.out _ B1.out).mono ?_
   rintro e v2 ⟨rfl, b⟩
   have B2 := Lib.hid (B1.out.trans (b.mono B1.out.size)); clear b
   go_wp2
   go_ret
   exact ⟨rfl, B2.out⟩
end Go.Proofs.YtmafghdgmdbpnaaGreatDoor
namespace Go.Proofs.YtmafghdgmdbpnaaGreatDoor
open Go.ChangeShapes Go.WideShapes Go.ChangeAt Go.RowKit
open Go.ChangeMaps (open_string shut_string)
theorem rationalOrder_lifted (os : Os) (started : os.Started) (H : Type) (enc : TypeId × Value → H) :
   ReturnsInHanded {} Tryz.checked os 7 .any (fun w args => (Rows.rationalOrderSpec.pre enc Tryz.prog Tryz.f7 [] false w args ∧ laidMetH Tryz.prog laid3 w) ∧ sizedMet enc Tryz.prog Tryz.f7 (OpenSpec.ofChange Rows.rationalOrderSpec) false w args)
     (Rows.rationalOrderSpec.post enc Tryz.prog Tryz.f7 false true false false) := by
 refine returnsInHanded_of_change_and (C := Tryz.checked) (X := fun w _ => laidMetH Tryz.prog laid3 w) (fun _ _ _ hh h => h.of_heap hh) own started (by kernel_rfl) Tryz.func7
   (ChangeSpec.witness_shaped (enc := enc) (C := Tryz.checked) (os := os) (X := fun w _ => laidMetH Tryz.prog laid3 w) false (World.doorLaid Tryz.prog 400 os) #[.string ⟨#[]⟩, .string ⟨#[]⟩, .string ⟨#[]⟩] 8 rfl (World.shaped_of_RefB (by kernel_rfl) (by kernel_rfl)) (by kernel_rfl) (by kernel_rfl) (by kernel_rfl) (door_met os _)) ?_
 intro W base args ds gs before hval0 hW _ _ hL _
 have hval : ∀ (j : Nat) t v, Tryz.f7.params[j]? = some t → args[j]? = some v → Value.okWide Tryz.prog W .any base t v := hval0
 have hW' := hW
 obtain ⟨p, q, hA0, hV, rfl, hfz, hnd⟩ := hW
 have hA : DataW.TrodAll enc Tryz.prog W 0 (fun _ => true) true Tryz.f7.params.toList args.toList ds p := hA0
 rw [Tryz.params7] at hA hval
 obtain ⟨v0, v1, v2, d0, d1, d2, p0, p1, p2, rfl, rfl, rfl, h0, h1, h2⟩ := trodAll_three hA
 obtain ⟨rfl, rfl⟩ := trodVars_none hV
 obtain ⟨s0, rfl, rfl, rfl, z0⟩ := open_string Tryz.underlying22 (hval 0 22 v0 rfl rfl) h0
 obtain ⟨s1, rfl, rfl, rfl, z1⟩ := open_string Tryz.underlying22 (hval 1 22 v1 rfl rfl) h1
 obtain ⟨s2, rfl, rfl, rfl, z2⟩ := open_string Tryz.underlying22 (hval 2 22 v2 rfl rfl) h2
 clear hA0 hval0
 refine (RationalOrder_any s0 s1 s2 W z0 z1 z2 (tab_of_laid hL) (tab64_of_laid hL)).mono fun e W' ⟨he, bel⟩ => ?_
 subst he
 exact ⟨_, rfl, _, _, _, [], _, [], hW', trodAll_mk1 (shut_bool Tryz.underlying4 _), trodAll_mk3 (shut_string Tryz.underlying22 z0) (shut_string Tryz.underlying22 z1) (shut_string Tryz.underlying22 z2), rfl, bel.frame _, fun h => by cases h⟩
theorem rationalOrder_over : Rows.RationalOrderSaid :=
 OpenClaim.holds_of_wide 7 Tryz.f7 rfl rfl rfl rfl rfl rfl rfl ⟨rfl, rfl, rfl, rfl, rfl⟩ rfl rfl rfl rfl rfl (by kernel_rfl) Tryz.func7 (by kernel_rfl)
   (of_decide_eq_true (by kernel_rfl)) (by unfold Func.isWrapper; first | (rw [if_pos (by decide +kernel)]; kernel_rfl) | (rw [if_neg (by decide +kernel)]; exact ⟨rfl, rfl⟩))
   (fun os started H enc _ => rationalOrder_lifted os started H enc)
theorem rationalOrder_proved : Rows.RationalOrderCardSaid :=
 Claim7.holds_tied_plain_at .later [] [.data, .data, .data] true (true, "c5e0d21a5a41f479a183c420c2e54b6c89083f44158d8e981b1170a56436208f") true
   rationalOrder_over (fun _ h => by cases h) (by kernel_rfl) (fun _ h => by cases h) rationalOrder_row_tie rfl ⟨rfl, rfl⟩ (by kernel_rfl) rfl
   (fun f fn hf hfn => by
     obtain rfl : f = 7 := Option.some.inj ((show Tryz.prog.funcNamed "kingpost/kingpostlaw02.RationalOrder" = some 7 by kernel_rfl).symm.trans hf) |>.symm
     obtain rfl : fn = Tryz.f7 := (Option.some.inj (Tryz.func7.symm.trans hfn)).symm
     exact ⟨by kernel_rfl, fun j t ht => by
       rw [Tryz.params7] at ht
       have hm : t ∈ [22, 22, 22] := by simpa using Array.mem_of_getElem? ht
       have hall : ([22, 22, 22].all fun u => !Tryz.prog.wantsStandIn u) = true := by kernel_rfl
       exact (show Tryz.prog.wantsStandIn t = false by simpa using List.all_eq_true.1 hall t hm)⟩)
   (by kernel_rfl)
#print axioms rationalOrder_proved
end Go.Proofs.YtmafghdgmdbpnaaGreatDoor
