/- Proved here: sums and products are commutative, associative and distributive; differences and quotients undo them. The law RationalField returns true for every input, and its arguments read behind the call as before. Conditions: the row's own, the listed tables hold their numbers. -/
import Derived.Test.YtmafghdgmdbpnaaGreatDoorQZ1
import Derived.Test.YtmafghdgmdbpnaaGreatDoorQZ2
import Derived.Test.YtmafghdgmdbpnaaGreatDoorQZ24
import Derived.Test.YtmafghdgmdbpnaaGreatDoorQZ32
set_option linter.all false
set_option maxRecDepth 100000
set_option maxHeartbeats 8000000
namespace Go.Proofs.YtmafghdgmdbpnaaGreatDoor
open Go.RowKit
theorem do_core (k : FuncId) (cb : Nat) (a b r : ByteArray) (w : World) (eg : ∀ args W, (callFunc k args).run Tryz.prog W = .ok (.enter k args) W) (hb : Blk w cb #[.bool false])
   (h : Calls Tryz.prog k #[.string a, .string b] w fun e W' => e = .returned (.tuple #[.string r, .int .i64 0]) ∧ Below w.heap.size w W') :
   Calls Tryz.prog 38 #[.pointer (some ⟨cb, 0, none⟩), .func (.func k) #[] #[], .string a, .string b] w fun e W' => e = .returned (.string r) ∧ Below w.heap.size w W' := by
 have C := Lib.hid (And.intro h hb); clear h hb
 go_enter Tryz.func38, Tryz.ntmps38
 go_wp2_with fail
 refine C.out.1.mono ?_
 rintro e w1 ⟨rfl, b⟩
 have K1 := C.out.2.next b
 have H1 := Lib.hid (below_same b K1 (j := 0) (u := .bool false) rfl)
 have c0 := K1.cell 0 (.bool false) rfl
 have f0 := K1.free 0
 clear K1 b
 go_wp2
 go_ret
 exact ⟨rfl, H1.out⟩
theorem clo1 (kb cb : Nat) (a b r : ByteArray) (w : World) (hk : Blk w kb #[.pointer (some ⟨cb, 0, none⟩)]) (hb : Blk w cb #[.bool false])
   (h : Calls Tryz.prog 13 #[.string a, .string b] w fun e W' => e = .returned (.tuple #[.string r, .int .i64 0]) ∧ Below w.heap.size w W') :
   Calls Tryz.prog 37 #[.string a, .string b, .pointer (some ⟨kb, 0, none⟩)] w fun e W' => e = .returned (.string r) ∧ Below w.heap.size w W' := by
 have C := Lib.hid (do_core _ cb a b r w (enters_of Tryz.func13 (by kernel_rfl) rfl) hb h)
 have c0 := hk.cell 0 (.pointer (some ⟨cb, 0, none⟩)) rfl
 clear h hb hk
 go_enter Tryz.func37, Tryz.ntmps37
 go_wp2_with fail
 refine C.out.mono ?_
 rintro e w1 ⟨rfl, b⟩
 have H1 := Lib.hid b; clear b
 go_wp2
 go_ret
 exact ⟨rfl, H1.out⟩
theorem clo2 (kb cb : Nat) (a b r : ByteArray) (w : World) (hk : Blk w kb #[.pointer (some ⟨cb, 0, none⟩)]) (hb : Blk w cb #[.bool false])
   (h : Calls Tryz.prog 15 #[.string a, .string b] w fun e W' => e = .returned (.tuple #[.string r, .int .i64 0]) ∧ Below w.heap.size w W') :
   Calls Tryz.prog 39 #[.string a, .string b, .pointer (some ⟨kb, 0, none⟩)] w fun e W' => e = .returned (.string r) ∧ Below w.heap.size w W' := by
 have C := Lib.hid (do_core _ cb a b r w (enters_of Tryz.func15 (by kernel_rfl) rfl) hb h)
 have c0 := hk.cell 0 (.pointer (some ⟨cb, 0, none⟩)) rfl
 clear h hb hk
 go_enter Tryz.func39, Tryz.ntmps39
 go_wp2_with fail
 refine C.out.mono ?_
 rintro e w1 ⟨rfl, b⟩
 have H1 := Lib.hid b; clear b
 go_wp2
 go_ret
 exact ⟨rfl, H1.out⟩
theorem RationalField_any (a b c : ByteArray) (w : World) (ha : a.size ≤ maxLen) (hb : b.size ≤ maxLen) (hc : c.size ≤ maxLen) (ht : Tab w) (ht2 : Tab64 w) :
   Calls Tryz.prog 5 #[.string a, .string b, .string c] w fun e W' => e = .returned (.bool true) ∧ Below w.heap.size w W' := by
 have hfin := Lib.hid (fun B W (hB : B < W.heap.size) (h0 : W.cell? ⟨B, 0, none⟩ = some (.string a)) (h1 : W.cell? ⟨B, 1, none⟩ = some (.string b)) (h2 : W.cell? ⟨B, 2, none⟩ = some (.string c)) (h : Below w.heap.size w W) => fineQ3 a b c B W ha hb hc hB h0 h1 h2 (ht.next h))
 clear ha hb hc
 by_cases hf : (fineQ a && fineQ b && fineQ c) = true
 · rw [hf] at hfin
   obtain ⟨⟨fa, fb⟩, fc⟩ : (fineQ a = true ∧ fineQ b = true) ∧ fineQ c = true := by simpa using hf
   obtain ⟨x, rfl, hx⟩ := fineQ_str fa
   obtain ⟨y, rfl, hy⟩ := fineQ_str fb
   obtain ⟨z, rfl, hz⟩ := fineQ_str fc
   clear hf fa fb fc
   have haxy := (qadd_ok hx hy (by decide)).2.2
   have hayz := (qadd_ok hy hz (by decide)).2.2
   have hmxy := (qmul_ok hx hy (by decide)).2.2
   have hmyz := (qmul_ok hy hz (by decide)).2.2
   have hmxz := (qmul_ok hx hz (by decide)).2.2
   have f0 := fun W (h : Below w.heap.size w W) => Add_q x y W (hx.lim (by decide)) (hy.lim (by decide)) (ht.next h) (TabQ_next ht2 h)
   rw [(qadd_ok hx hy (by decide)).1, (qadd_ok hx hy (by decide)).2.1] at f0
   have f0c := fun (kb cb : Nat) W (h : Below w.heap.size w W) (k : Blk W kb #[.pointer (some ⟨cb, 0, none⟩)]) (k2 : Blk W cb #[.bool false]) => clo1 kb cb _ _ _ W k k2 (f0 W h)
   have f1 := fun W (h : Below w.heap.size w W) => Add_q y x W (hy.lim (by decide)) (hx.lim (by decide)) (ht.next h) (TabQ_next ht2 h)
   rw [(qadd_ok hy hx (by decide)).1, (qadd_ok hy hx (by decide)).2.1, Rat.add_comm y x] at f1
   have f1c := fun (kb cb : Nat) W (h : Below w.heap.size w W) (k : Blk W kb #[.pointer (some ⟨cb, 0, none⟩)]) (k2 : Blk W cb #[.bool false]) => clo1 kb cb _ _ _ W k k2 (f1 W h)
   have f2 := fun W (h : Below w.heap.size w W) => Mul_q x y W (hx.lim (by decide)) (hy.lim (by decide)) (ht.next h) (TabQ_next ht2 h)
   rw [(qmul_ok hx hy (by decide)).1, (qmul_ok hx hy (by decide)).2.1] at f2
   have f2c := fun (kb cb : Nat) W (h : Below w.heap.size w W) (k : Blk W kb #[.pointer (some ⟨cb, 0, none⟩)]) (k2 : Blk W cb #[.bool false]) => clo2 kb cb _ _ _ W k k2 (f2 W h)
   have f3 := fun W (h : Below w.heap.size w W) => Mul_q y x W (hy.lim (by decide)) (hx.lim (by decide)) (ht.next h) (TabQ_next ht2 h)
   rw [(qmul_ok hy hx (by decide)).1, (qmul_ok hy hx (by decide)).2.1, Rat.mul_comm y x] at f3
   have f3c := fun (kb cb : Nat) W (h : Below w.heap.size w W) (k : Blk W kb #[.pointer (some ⟨cb, 0, none⟩)]) (k2 : Blk W cb #[.bool false]) => clo2 kb cb _ _ _ W k k2 (f3 W h)
   have f4 := fun W (h : Below w.heap.size w W) => Add_q (x + y) z W (haxy.lim (by decide)) (hz.lim (by decide)) (ht.next h) (TabQ_next ht2 h)
   rw [(qadd_ok haxy hz (by decide)).1, (qadd_ok haxy hz (by decide)).2.1] at f4
   have f4c := fun (kb cb : Nat) W (h : Below w.heap.size w W) (k : Blk W kb #[.pointer (some ⟨cb, 0, none⟩)]) (k2 : Blk W cb #[.bool false]) => clo1 kb cb _ _ _ W k k2 (f4 W h)
   have f5 := fun W (h : Below w.heap.size w W) => Add_q y z W (hy.lim (by decide)) (hz.lim (by decide)) (ht.next h) (TabQ_next ht2 h)
   rw [(qadd_ok hy hz (by decide)).1, (qadd_ok hy hz (by decide)).2.1] at f5
   have f5c := fun (kb cb : Nat) W (h : Below w.heap.size w W) (k : Blk W kb #[.pointer (some ⟨cb, 0, none⟩)]) (k2 : Blk W cb #[.bool false]) => clo1 kb cb _ _ _ W k k2 (f5 W h)
   have f6 := fun W (h : Below w.heap.size w W) => Add_q x (y + z) W (hx.lim (by decide)) (hayz.lim (by decide)) (ht.next h) (TabQ_next ht2 h)
   rw [(qadd_ok hx hayz (by decide)).1, (qadd_ok hx hayz (by decide)).2.1, ← Rat.add_assoc x y z] at f6
   have f6c := fun (kb cb : Nat) W (h : Below w.heap.size w W) (k : Blk W kb #[.pointer (some ⟨cb, 0, none⟩)]) (k2 : Blk W cb #[.bool false]) => clo1 kb cb _ _ _ W k k2 (f6 W h)
   have f7 := fun W (h : Below w.heap.size w W) => Mul_q (x * y) z W (hmxy.lim (by decide)) (hz.lim (by decide)) (ht.next h) (TabQ_next ht2 h)
   rw [(qmul_ok hmxy hz (by decide)).1, (qmul_ok hmxy hz (by decide)).2.1] at f7
   have f7c := fun (kb cb : Nat) W (h : Below w.heap.size w W) (k : Blk W kb #[.pointer (some ⟨cb, 0, none⟩)]) (k2 : Blk W cb #[.bool false]) => clo2 kb cb _ _ _ W k k2 (f7 W h)
   have f8 := fun W (h : Below w.heap.size w W) => Mul_q y z W (hy.lim (by decide)) (hz.lim (by decide)) (ht.next h) (TabQ_next ht2 h)
   rw [(qmul_ok hy hz (by decide)).1, (qmul_ok hy hz (by decide)).2.1] at f8
   have f8c := fun (kb cb : Nat) W (h : Below w.heap.size w W) (k : Blk W kb #[.pointer (some ⟨cb, 0, none⟩)]) (k2 : Blk W cb #[.bool false]) => clo2 kb cb _ _ _ W k k2 (f8 W h)
   have f9 := fun W (h : Below w.heap.size w W) => Mul_q x (y * z) W (hx.lim (by decide)) (hmyz.lim (by decide)) (ht.next h) (TabQ_next ht2 h)
   rw [(qmul_ok hx hmyz (by decide)).1, (qmul_ok hx hmyz (by decide)).2.1, ← Rat.mul_assoc x y z] at f9
   have f9c := fun (kb cb : Nat) W (h : Below w.heap.size w W) (k : Blk W kb #[.pointer (some ⟨cb, 0, none⟩)]) (k2 : Blk W cb #[.bool false]) => clo2 kb cb _ _ _ W k k2 (f9 W h)
   have f10 := fun W (h : Below w.heap.size w W) => Mul_q x (y + z) W (hx.lim (by decide)) (hayz.lim (by decide)) (ht.next h) (TabQ_next ht2 h)
   rw [(qmul_ok hx hayz (by decide)).1, (qmul_ok hx hayz (by decide)).2.1, Rat.mul_add x y z] at f10
   have f10c := fun (kb cb : Nat) W (h : Below w.heap.size w W) (k : Blk W kb #[.pointer (some ⟨cb, 0, none⟩)]) (k2 : Blk W cb #[.bool false]) => clo2 kb cb _ _ _ W k k2 (f10 W h)
   have f11 := fun W (h : Below w.heap.size w W) => Mul_q x z W (hx.lim (by decide)) (hz.lim (by decide)) (ht.next h) (TabQ_next ht2 h)
   rw [(qmul_ok hx hz (by decide)).1, (qmul_ok hx hz (by decide)).2.1] at f11
   have f11c := fun (kb cb : Nat) W (h : Below w.heap.size w W) (k : Blk W kb #[.pointer (some ⟨cb, 0, none⟩)]) (k2 : Blk W cb #[.bool false]) => clo2 kb cb _ _ _ W k k2 (f11 W h)
   have f12 := fun W (h : Below w.heap.size w W) => Add_q (x * y) (x * z) W (hmxy.lim (by decide)) (hmxz.lim (by decide)) (ht.next h) (TabQ_next ht2 h)
   rw [(qadd_ok hmxy hmxz (by decide)).1, (qadd_ok hmxy hmxz (by decide)).2.1] at f12
   have f12c := fun (kb cb : Nat) W (h : Below w.heap.size w W) (k : Blk W kb #[.pointer (some ⟨cb, 0, none⟩)]) (k2 : Blk W cb #[.bool false]) => clo1 kb cb _ _ _ W k k2 (f12 W h)
   have f13 := fun W (h : Below w.heap.size w W) => Sub_q (x + y) y W (haxy.lim (by decide)) (hy.lim (by decide)) (ht.next h) (TabQ_next ht2 h)
   rw [(qsub_ok haxy hy (by decide)).1, (qsub_ok haxy hy (by decide)).2.1, Rat.add_sub_cancel] at f13
   have f13c := fun (cb : Nat) W (h : Below w.heap.size w W) (k : Blk W cb #[.bool false]) => do_core _ cb _ _ _ W (enters_of Tryz.func14 (by kernel_rfl) rfl) k (f13 W h)
   have f14 := fun W (h : Below w.heap.size w W) => Add_q x 0 W (hx.lim (by decide)) (Bq_zero.lim (by decide)) (ht.next h) (TabQ_next ht2 h)
   rw [(qadd_ok hx Bq_zero (by decide)).1, (qadd_ok hx Bq_zero (by decide)).2.1, Rat.add_zero, strQ_zero] at f14
   have f14c := fun (kb cb : Nat) W (h : Below w.heap.size w W) (k : Blk W kb #[.pointer (some ⟨cb, 0, none⟩)]) (k2 : Blk W cb #[.bool false]) => clo1 kb cb _ _ _ W k k2 (f14 W h)
   have f15 := fun W (h : Below w.heap.size w W) => Mul_q x 1 W (hx.lim (by decide)) (Bq_one.lim (by decide)) (ht.next h) (TabQ_next ht2 h)
   rw [(qmul_ok hx Bq_one (by decide)).1, (qmul_ok hx Bq_one (by decide)).2.1, Rat.mul_one, strQ_one] at f15
   have f15c := fun (kb cb : Nat) W (h : Below w.heap.size w W) (k : Blk W kb #[.pointer (some ⟨cb, 0, none⟩)]) (k2 : Blk W cb #[.bool false]) => clo2 kb cb _ _ _ W k k2 (f15 W h)
   have sx := hx.lim (by decide : 60 ≤ 300)
   have sy := hy.lim (by decide : 60 ≤ 300)
   have oZ := fun W (h : Below w.heap.size w W) => Div_zero x W sx (ht.next h) (TabQ_next ht2 h)
   have oD : ∀ (cb : Nat) W (h : Below w.heap.size w W) (k : Blk W cb #[.bool false]), y ≠ 0 → Calls Tryz.prog 38 #[.pointer (some ⟨cb, 0, none⟩), .func (.func 16) #[] #[], .string (strQ (x * y)), .string (strQ y)] W fun e W' => e = .returned (.string (strQ x)) ∧ Below W.heap.size W W' := fun cb W h k h0 => by
     have c := Div_q (x * y) y W (hmxy.lim (by decide)) sy h0 (ht.next h) (TabQ_next ht2 h)
     obtain ⟨q1, q2, _⟩ := qdiv_ok hmxy hy (by decide) h0
     rw [q1, q2, Rat.mul_div_cancel h0] at c
     exact do_core _ cb _ _ _ W (enters_of Tryz.func16 (by kernel_rfl) rfl) k c
   have oA := fun W (h : Below w.heap.size w W) => awake2_any W (ht.next h) (TabQ_next ht2 h)
   have hz0 := strQ_is0 y
   have h48 : y = 0 → strQ y = ⟨#[48]⟩ := fun h => by rw [h]; exact strQ_zero
   have O := Lib.hid ((And.intro f0c (And.intro f1c (And.intro f2c (And.intro f3c (And.intro f4c (And.intro f5c (And.intro f6c (And.intro f7c (And.intro f8c (And.intro f9c (And.intro f10c (And.intro f11c (And.intro f12c (And.intro f13c (And.intro f14c (And.intro f15c (And.intro oZ (And.intro oD oA)))))))))))))))))))
   clear f0 f1 f2 f3 f4 f5 f6 f7 f8 f9 f10 f11 f12 f13 f14 f15 f0c f1c f2c f3c f4c f5c f6c f7c f8c f9c f10c f11c f12c f13c f14c f15c oZ oD oA ht ht2 hx hy hz sx sy haxy hayz hmxy hmyz hmxz
   generalize strQ (x + y + z) = s_sum3 at *
   generalize strQ (x * y * z) = s_mul3 at *
   generalize strQ (x * y + x * z) = s_dist at *
   generalize strQ (x + y) = s_axy at *
   generalize strQ (y + z) = s_ayz at *
   generalize strQ (x * y) = s_mxy at *
   generalize strQ (y * z) = s_myz at *
   generalize strQ (x * z) = s_mxz at *
   generalize strQ x = s_x at *
   generalize strQ y = s_y at *
   generalize strQ z = s_z at *
   go_enter Tryz.func5, Tryz.ntmps5
   go_wp2_with fail
   have B0 := (Below.refl w.heap.size w).alloc (Nat.le_refl _) (.cells #[.string s_x, .string s_y, .string s_z] 22)
   have K0 := Blk.new w #[.string s_x, .string s_y, .string s_z] 22
   generalize w.alloc (.cells #[.string s_x, .string s_y, .string s_z] 22) = v0 at *
   have B0 := Lib.hid B0
   refine (hfin.out _ _ K0.lt (K0.cell 0 _ rfl) (K0.cell 1 _ rfl) (K0.cell 2 _ rfl) B0.out).mono ?_
   rintro e v1 ⟨rfl, b⟩
   have B1 := Lib.hid (B0.out.trans (b.mono B0.out.size)); clear b B0 K0
   have hmf := mkf
   have en1 : ∀ args W, (callFunc 37 args).run Tryz.prog W = .ok (.enter 37 args) W := enters_of Tryz.func37 (by kernel_rfl) rfl
   have en2 : ∀ args W, (callFunc 39 args).run Tryz.prog W = .ok (.enter 39 args) W := enters_of Tryz.func39 (by kernel_rfl) rfl
   go_wp2_with fail
   have K := (Blk.new v1 #[.bool false] 45).alloc (.cells #[.pointer (some ⟨v1.heap.size, 0, none⟩)] 43)
   have KK := Blk.new (v1.alloc (.cells #[.bool false] 45)) #[.pointer (some ⟨v1.heap.size, 0, none⟩)] 43
   rw [World.size_alloc] at KK
   have BB := Lib.hid ((B1.out.alloc B1.out.size (.cells #[.bool false] 45)).alloc (by rw [World.size_alloc]; have := B1.out.size; omega) (.cells #[.pointer (some ⟨v1.heap.size, 0, none⟩)] 43)); clear B1
   generalize (v1.alloc (.cells #[.bool false] 45)).alloc (.cells #[.pointer (some ⟨v1.heap.size, 0, none⟩)] 43) = v1' at *
   generalize hcb : v1.heap.size = cb at *
   generalize hkb : cb + 1 = kb at *
   have B1 := BB; clear BB
   have HKC := Lib.hid (show cb ≠ kb by omega); clear hcb hkb
   have K := Lib.hid K; have KK := Lib.hid KK
   refine (O.out.1 kb cb _ B1.out KK.out K.out).mono ?_
   rintro e v2 ⟨rfl, b⟩
   have B2 := Lib.hid (B1.out.trans (b.mono B1.out.size)); clear B1
   have Kn := Lib.hid (K.out.next b); clear K; have K := Kn; clear Kn
   have Kn := Lib.hid (KK.out.next b); clear KK; have KK := Kn; clear Kn
   clear b
   go_wp2_with fail
   refine (O.out.2.1 kb cb _ B2.out KK.out K.out).mono ?_
   rintro e v3 ⟨rfl, b⟩
   have B3 := Lib.hid (B2.out.trans (b.mono B2.out.size)); clear B2
   have Kn := Lib.hid (K.out.next b); clear K; have K := Kn; clear Kn
   have Kn := Lib.hid (KK.out.next b); clear KK; have KK := Kn; clear Kn
   clear b
   go_wp2_with fail
   refine (O.out.2.2.1 kb cb _ B3.out KK.out K.out).mono ?_
   rintro e v4 ⟨rfl, b⟩
   have B4 := Lib.hid (B3.out.trans (b.mono B3.out.size)); clear B3
   have Kn := Lib.hid (K.out.next b); clear K; have K := Kn; clear Kn
   have Kn := Lib.hid (KK.out.next b); clear KK; have KK := Kn; clear Kn
   clear b
   go_wp2_with fail
   refine (O.out.2.2.2.1 kb cb _ B4.out KK.out K.out).mono ?_
   rintro e v5 ⟨rfl, b⟩
   have B5 := Lib.hid (B4.out.trans (b.mono B4.out.size)); clear B4
   have Kn := Lib.hid (K.out.next b); clear K; have K := Kn; clear Kn
   have Kn := Lib.hid (KK.out.next b); clear KK; have KK := Kn; clear Kn
   clear b
   go_wp2_with fail
   refine (O.out.1 kb cb _ B5.out KK.out K.out).mono ?_
   rintro e v6 ⟨rfl, b⟩
   have B6 := Lib.hid (B5.out.trans (b.mono B5.out.size)); clear B5
   have Kn := Lib.hid (K.out.next b); clear K; have K := Kn; clear Kn
   have Kn := Lib.hid (KK.out.next b); clear KK; have KK := Kn; clear Kn
   clear b
   go_wp2_with fail
   refine (O.out.2.2.2.2.1 kb cb _ B6.out KK.out K.out).mono ?_
   rintro e v7 ⟨rfl, b⟩
   have B7 := Lib.hid (B6.out.trans (b.mono B6.out.size)); clear B6
   have Kn := Lib.hid (K.out.next b); clear K; have K := Kn; clear Kn
   have Kn := Lib.hid (KK.out.next b); clear KK; have KK := Kn; clear Kn
   clear b
   go_wp2_with fail
   refine (O.out.2.2.2.2.2.1 kb cb _ B7.out KK.out K.out).mono ?_
   rintro e v8 ⟨rfl, b⟩
   have B8 := Lib.hid (B7.out.trans (b.mono B7.out.size)); clear B7
   have Kn := Lib.hid (K.out.next b); clear K; have K := Kn; clear Kn
   have Kn := Lib.hid (KK.out.next b); clear KK; have KK := Kn; clear Kn
   clear b
   go_wp2_with fail
   refine (O.out.2.2.2.2.2.2.1 kb cb _ B8.out KK.out K.out).mono ?_
   rintro e v9 ⟨rfl, b⟩
   have B9 := Lib.hid (B8.out.trans (b.mono B8.out.size)); clear B8
   have Kn := Lib.hid (K.out.next b); clear K; have K := Kn; clear Kn
   have Kn := Lib.hid (KK.out.next b); clear KK; have KK := Kn; clear Kn
   clear b
   go_wp2_with fail
   refine (O.out.2.2.1 kb cb _ B9.out KK.out K.out).mono ?_
   rintro e v10 ⟨rfl, b⟩
   have B10 := Lib.hid (B9.out.trans (b.mono B9.out.size)); clear B9
   have Kn := Lib.hid (K.out.next b); clear K; have K := Kn; clear Kn
   have Kn := Lib.hid (KK.out.next b); clear KK; have KK := Kn; clear Kn
   clear b
   go_wp2_with fail
   refine (O.out.2.2.2.2.2.2.2.1 kb cb _ B10.out KK.out K.out).mono ?_
   rintro e v11 ⟨rfl, b⟩
   have B11 := Lib.hid (B10.out.trans (b.mono B10.out.size)); clear B10
   have Kn := Lib.hid (K.out.next b); clear K; have K := Kn; clear Kn
   have Kn := Lib.hid (KK.out.next b); clear KK; have KK := Kn; clear Kn
   clear b
   go_wp2_with fail
   refine (O.out.2.2.2.2.2.2.2.2.1 kb cb _ B11.out KK.out K.out).mono ?_
   rintro e v12 ⟨rfl, b⟩
   have B12 := Lib.hid (B11.out.trans (b.mono B11.out.size)); clear B11
   have Kn := Lib.hid (K.out.next b); clear K; have K := Kn; clear Kn
   have Kn := Lib.hid (KK.out.next b); clear KK; have KK := Kn; clear Kn
   clear b
   go_wp2_with fail
   refine (O.out.2.2.2.2.2.2.2.2.2.1 kb cb _ B12.out KK.out K.out).mono ?_
   rintro e v13 ⟨rfl, b⟩
   have B13 := Lib.hid (B12.out.trans (b.mono B12.out.size)); clear B12
   have Kn := Lib.hid (K.out.next b); clear K; have K := Kn; clear Kn
   have Kn := Lib.hid (KK.out.next b); clear KK; have KK := Kn; clear Kn
   clear b
   go_wp2_with fail
   refine (O.out.2.2.2.2.2.1 kb cb _ B13.out KK.out K.out).mono ?_
   rintro e v14 ⟨rfl, b⟩
   have B14 := Lib.hid (B13.out.trans (b.mono B13.out.size)); clear B13
   have Kn := Lib.hid (K.out.next b); clear K; have K := Kn; clear Kn
   have Kn := Lib.hid (KK.out.next b); clear KK; have KK := Kn; clear Kn
   clear b
   go_wp2_with fail
   refine (O.out.2.2.2.2.2.2.2.2.2.2.1 kb cb _ B14.out KK.out K.out).mono ?_
   rintro e v15 ⟨rfl, b⟩
   have B15 := Lib.hid (B14.out.trans (b.mono B14.out.size)); clear B14
   have Kn := Lib.hid (K.out.next b); clear K; have K := Kn; clear Kn
   have Kn := Lib.hid (KK.out.next b); clear KK; have KK := Kn; clear Kn
   clear b
   go_wp2_with fail
   refine (O.out.2.2.1 kb cb _ B15.out KK.out K.out).mono ?_
   rintro e v16 ⟨rfl, b⟩
   have B16 := Lib.hid (B15.out.trans (b.mono B15.out.size)); clear B15
   have Kn := Lib.hid (K.out.next b); clear K; have K := Kn; clear Kn
   have Kn := Lib.hid (KK.out.next b); clear KK; have KK := Kn; clear Kn
   clear b
   go_wp2_with fail
   refine (O.out.2.2.2.2.2.2.2.2.2.2.2.1 kb cb _ B16.out KK.out K.out).mono ?_
   rintro e v17 ⟨rfl, b⟩
   have B17 := Lib.hid (B16.out.trans (b.mono B16.out.size)); clear B16
   have Kn := Lib.hid (K.out.next b); clear K; have K := Kn; clear Kn
   have Kn := Lib.hid (KK.out.next b); clear KK; have KK := Kn; clear Kn
   clear b
   go_wp2_with fail
   refine (O.out.2.2.2.2.2.2.2.2.2.2.2.2.1 kb cb _ B17.out KK.out K.out).mono ?_
   rintro e v18 ⟨rfl, b⟩
   have B18 := Lib.hid (B17.out.trans (b.mono B17.out.size)); clear B17
   have Kn := Lib.hid (K.out.next b); clear K; have K := Kn; clear Kn
   have Kn := Lib.hid (KK.out.next b); clear KK; have KK := Kn; clear Kn
   clear b
   go_wp2_with fail
   have BW := Lib.hid (show Below w.heap.size w v18.drew from B18.out.drew); clear B18
   have Kn := Lib.hid (show Blk v18.drew cb #[.bool false] from K.out); clear K; have K := Kn; clear Kn
   have Kn := Lib.hid (show Blk v18.drew kb #[.pointer (some ⟨cb, 0, none⟩)] from KK.out); clear KK; have KK := Kn; clear Kn
   have c0 : v18.cell? ⟨kb, 0, none⟩ = some (.pointer (some ⟨cb, 0, none⟩)) := KK.out.cell 0 _ rfl
   have c1 : v18.cell? ⟨cb, 0, none⟩ = some (.bool false) := K.out.cell 0 _ rfl
   go_region_held3 (fun w' => w'.cell? ⟨kb, 0, none⟩ = some (.pointer (some ⟨cb, 0, none⟩))) (first | exact c0 | (go_keep; done))
     (first | (go_at_call 37; refine (O.out.1 kb cb _ BW.out KK.out K.out).mono ?_; rintro e wr ⟨rfl, b⟩; have BWn := Lib.hid (BW.out.trans (b.mono BW.out.size)); clear BW; have BW := BWn; clear BWn; have Kn := Lib.hid (K.out.next b); clear K; have K := Kn; clear Kn; have Kn := Lib.hid (KK.out.next b); clear KK; have KK := Kn; clear Kn; clear b c0 c1; have c0 := KK.out.cell 0 (.pointer (some ⟨cb, 0, none⟩)) rfl; have c1 := K.out.cell 0 (.bool false) rfl) | (go_at_call 38; refine (O.out.2.2.2.2.2.2.2.2.2.2.2.2.2.1 cb _ BW.out K.out).mono ?_; rintro e wr ⟨rfl, b⟩; have BWn := Lib.hid (BW.out.trans (b.mono BW.out.size)); clear BW; have BW := BWn; clear BWn; have Kn := Lib.hid (K.out.next b); clear K; have K := Kn; clear Kn; have Kn := Lib.hid (KK.out.next b); clear KK; have KK := Kn; clear Kn; clear b c0 c1; have c0 := KK.out.cell 0 (.pointer (some ⟨cb, 0, none⟩)) rfl; have c1 := K.out.cell 0 (.bool false) rfl) | (go_at_call 37; refine (O.out.2.2.2.2.2.2.2.2.2.2.2.2.2.2.1 kb cb _ BW.out KK.out K.out).mono ?_; rintro e wr ⟨rfl, b⟩; have BWn := Lib.hid (BW.out.trans (b.mono BW.out.size)); clear BW; have BW := BWn; clear BWn; have Kn := Lib.hid (K.out.next b); clear K; have K := Kn; clear Kn; have Kn := Lib.hid (KK.out.next b); clear KK; have KK := Kn; clear Kn; clear b c0 c1; have c0 := KK.out.cell 0 (.pointer (some ⟨cb, 0, none⟩)) rfl; have c1 := K.out.cell 0 (.bool false) rfl) | (go_at_call 39; refine (O.out.2.2.2.2.2.2.2.2.2.2.2.2.2.2.2.1 kb cb _ BW.out KK.out K.out).mono ?_; rintro e wr ⟨rfl, b⟩; have BWn := Lib.hid (BW.out.trans (b.mono BW.out.size)); clear BW; have BW := BWn; clear BWn; have Kn := Lib.hid (K.out.next b); clear K; have K := Kn; clear Kn; have Kn := Lib.hid (KK.out.next b); clear KK; have KK := Kn; clear Kn; clear b c0 c1; have c0 := KK.out.cell 0 (.pointer (some ⟨cb, 0, none⟩)) rfl; have c1 := K.out.cell 0 (.bool false) rfl))
   by_cases h0 : y = 0
   · have e0 := h48 h0
     rw [decide_eq_true h0] at hz0
     clear h48 h0
     subst e0
     go_wp2_with fail
     refine (O.out.2.2.2.2.2.2.2.2.2.2.2.2.2.2.2.2.1 _ BW.out).mono ?_
     rintro e u1 ⟨rfl, b⟩
     have BWn := Lib.hid (BW.out.trans (b.mono BW.out.size)); clear BW; have BW := BWn; clear BWn; have Kn := Lib.hid (K.out.next b); clear K; have K := Kn; clear Kn; have Kn := Lib.hid (KK.out.next b); clear KK; have KK := Kn; clear Kn; clear b c0 c1; have c0 := KK.out.cell 0 (.pointer (some ⟨cb, 0, none⟩)) rfl; have c1 := K.out.cell 0 (.bool false) rfl
     go_wp2_with fail
     refine (O.out.2.2.2.2.2.2.2.2.2.2.2.2.2.2.2.2.2.2 _ BW.out).mono ?_
     rintro e u2 ⟨rfl, b⟩
     have BWn := Lib.hid (BW.out.trans (b.mono BW.out.size)); clear BW; have BW := BWn; clear BWn; have Kn := Lib.hid (K.out.next b); clear K; have K := Kn; clear Kn; have Kn := Lib.hid (KK.out.next b); clear KK; have KK := Kn; clear Kn; clear b c0 c1; have c0 := KK.out.cell 0 (.pointer (some ⟨cb, 0, none⟩)) rfl; have c1 := K.out.cell 0 (.bool false) rfl
     go_wp2
     go_ret
     exact ⟨rfl, BW.out⟩
   · rw [decide_eq_false h0] at hz0
     clear h48
     go_wp2_with fail
     have BWn := Lib.hid (show Below w.heap.size w wr.drew from BW.out.drew); clear BW; have BW := BWn; clear BWn
     have Kn := Lib.hid (show Blk wr.drew cb #[.bool false] from K.out); clear K; have K := Kn; clear Kn
     have Kn := Lib.hid (show Blk wr.drew kb #[.pointer (some ⟨cb, 0, none⟩)] from KK.out); clear KK; have KK := Kn; clear Kn
     go_region_held3 (fun w' => w'.cell? ⟨kb, 0, none⟩ = some (.pointer (some ⟨cb, 0, none⟩)) ∧ w'.cell? ⟨cb, 0, none⟩ = some (.bool false)) (first | exact ⟨c0, c1⟩ | (go_keep; done))
       (first | (go_at_call 39; refine (O.out.2.2.1 kb cb _ BW.out KK.out K.out).mono ?_; rintro e wr ⟨rfl, b⟩; have BWn := Lib.hid (BW.out.trans (b.mono BW.out.size)); clear BW; have BW := BWn; clear BWn; have Kn := Lib.hid (K.out.next b); clear K; have K := Kn; clear Kn; have Kn := Lib.hid (KK.out.next b); clear KK; have KK := Kn; clear Kn; clear b c0 c1; have c0 := KK.out.cell 0 (.pointer (some ⟨cb, 0, none⟩)) rfl; have c1 := K.out.cell 0 (.bool false) rfl) | (go_at_call 38; refine (O.out.2.2.2.2.2.2.2.2.2.2.2.2.2.2.2.2.2.1 cb _ BW.out K.out h0).mono ?_; rintro e wr ⟨rfl, b⟩; have BWn := Lib.hid (BW.out.trans (b.mono BW.out.size)); clear BW; have BW := BWn; clear BWn; have Kn := Lib.hid (K.out.next b); clear K; have K := Kn; clear Kn; have Kn := Lib.hid (KK.out.next b); clear KK; have KK := Kn; clear Kn; clear b c0 c1; have c0 := KK.out.cell 0 (.pointer (some ⟨cb, 0, none⟩)) rfl; have c1 := K.out.cell 0 (.bool false) rfl) | (go_at_call 12; refine (O.out.2.2.2.2.2.2.2.2.2.2.2.2.2.2.2.2.2.2 _ BW.out).mono ?_; rintro e wr ⟨rfl, b⟩; have BWn := Lib.hid (BW.out.trans (b.mono BW.out.size)); clear BW; have BW := BWn; clear BWn; have Kn := Lib.hid (K.out.next b); clear K; have K := Kn; clear Kn; have Kn := Lib.hid (KK.out.next b); clear KK; have KK := Kn; clear Kn; clear b c0 c1; have c0 := KK.out.cell 0 (.pointer (some ⟨cb, 0, none⟩)) rfl; have c1 := K.out.cell 0 (.bool false) rfl))
     go_wp2
     go_ret
     exact ⟨rfl, BW.out⟩
 · have hf' : (fineQ a && fineQ b && fineQ c) = false := by simpa using hf
   rw [hf'] at hfin
   clear hf hf'
   have O := Lib.hid (fun W (h : Below w.heap.size w W) => awake2_any W (ht.next h) (TabQ_next ht2 h))
   clear ht ht2
   go_enter Tryz.func5, Tryz.ntmps5
   go_wp2_with fail
   have B0 := (Below.refl w.heap.size w).alloc (Nat.le_refl _) (.cells #[.string a, .string b, .string c] 22)
   have K0 := Blk.new w #[.string a, .string b, .string c] 22
   generalize w.alloc (.cells #[.string a, .string b, .string c] 22) = v0 at *
   have B0 := Lib.hid B0
   refine (hfin.out _ _ K0.lt (K0.cell 0 _ rfl) (K0.cell 1 _ rfl) (K0.cell 2 _ rfl) B0.out).mono ?_
   rintro e v1 ⟨rfl, b⟩
   have B1 := Lib.hid (B0.out.trans (b.mono B0.out.size)); clear b B0 K0
   go_wp2_with fail
   refine (O.out _ B1.out).mono ?_
   rintro e v2 ⟨rfl, b⟩
   have B2 := Lib.hid (B1.out.trans (b.mono B1.out.size)); clear b
   go_wp2
   go_ret
   exact ⟨rfl, B2.out⟩
end Go.Proofs.YtmafghdgmdbpnaaGreatDoor
namespace Go.Proofs.YtmafghdgmdbpnaaGreatDoor
open Go.ChangeShapes Go.WideShapes Go.ChangeAt Go.RowKit
open Go.ChangeMaps (open_string shut_string)
theorem rationalField_lifted (os : Os) (started : os.Started) (H : Type) (enc : TypeId × Value → H) :
   ReturnsInHanded {} Tryz.checked os 5 .any (fun w args => (Rows.rationalFieldSpec.pre enc Tryz.prog Tryz.f5 [] false w args ∧ laidMetH Tryz.prog laid3 w) ∧ sizedMet enc Tryz.prog Tryz.f5 (OpenSpec.ofChange Rows.rationalFieldSpec) false w args)
     (Rows.rationalFieldSpec.post enc Tryz.prog Tryz.f5 false true false false) := by
 refine returnsInHanded_of_change_and (C := Tryz.checked) (X := fun w _ => laidMetH Tryz.prog laid3 w) (fun _ _ _ hh h => h.of_heap hh) own started (by kernel_rfl) Tryz.func5
   (ChangeSpec.witness_shaped (enc := enc) (C := Tryz.checked) (os := os) (X := fun w _ => laidMetH Tryz.prog laid3 w) false (World.doorLaid Tryz.prog 400 os) #[.string ⟨#[]⟩, .string ⟨#[]⟩, .string ⟨#[]⟩] 8 rfl (World.shaped_of_RefB (by kernel_rfl) (by kernel_rfl)) (by kernel_rfl) (by kernel_rfl) (by kernel_rfl) (door_met os _)) ?_
 intro W base args ds gs before hval0 hW _ _ hL _
 have hval : ∀ (j : Nat) t v, Tryz.f5.params[j]? = some t → args[j]? = some v → Value.okWide Tryz.prog W .any base t v := hval0
 have hW' := hW
 obtain ⟨p, q, hA0, hV, rfl, hfz, hnd⟩ := hW
 have hA : DataW.TrodAll enc Tryz.prog W 0 (fun _ => true) true Tryz.f5.params.toList args.toList ds p := hA0
 rw [Tryz.params5] at hA hval
 obtain ⟨v0, v1, v2, d0, d1, d2, p0, p1, p2, rfl, rfl, rfl, h0, h1, h2⟩ := trodAll_three hA
 obtain ⟨rfl, rfl⟩ := trodVars_none hV
 obtain ⟨s0, rfl, rfl, rfl, z0⟩ := open_string Tryz.underlying22 (hval 0 22 v0 rfl rfl) h0
 obtain ⟨s1, rfl, rfl, rfl, z1⟩ := open_string Tryz.underlying22 (hval 1 22 v1 rfl rfl) h1
 obtain ⟨s2, rfl, rfl, rfl, z2⟩ := open_string Tryz.underlying22 (hval 2 22 v2 rfl rfl) h2
 clear hA0 hval0
 refine (RationalField_any s0 s1 s2 W z0 z1 z2 (tab_of_laid hL) (tab64_of_laid hL)).mono fun e W' ⟨he, bel⟩ => ?_
 subst he
 exact ⟨_, rfl, _, _, _, [], _, [], hW', trodAll_mk1 (shut_bool Tryz.underlying4 _), trodAll_mk3 (shut_string Tryz.underlying22 z0) (shut_string Tryz.underlying22 z1) (shut_string Tryz.underlying22 z2), rfl, bel.frame _, fun h => by cases h⟩
theorem rationalField_over : Rows.RationalFieldSaid :=
 OpenClaim.holds_of_wide 5 Tryz.f5 rfl rfl rfl rfl rfl rfl rfl ⟨rfl, rfl, rfl, rfl, rfl⟩ rfl rfl rfl rfl rfl (by kernel_rfl) Tryz.func5 (by kernel_rfl)
   (of_decide_eq_true (by kernel_rfl)) (by unfold Func.isWrapper; first | (rw [if_pos (by decide +kernel)]; kernel_rfl) | (rw [if_neg (by decide +kernel)]; exact ⟨rfl, rfl⟩))
   (fun os started H enc _ => rationalField_lifted os started H enc)
theorem rationalField_proved : Rows.RationalFieldCardSaid :=
 Claim7.holds_tied_plain_at .later [] [.data, .data, .data] true (true, "c5e0d21a5a41f479a183c420c2e54b6c89083f44158d8e981b1170a56436208f") true
   rationalField_over (fun _ h => by cases h) (by kernel_rfl) (fun _ h => by cases h) rationalField_row_tie rfl ⟨rfl, rfl⟩ (by kernel_rfl) rfl
   (fun f fn hf hfn => by
     obtain rfl : f = 5 := Option.some.inj ((show Tryz.prog.funcNamed "kingpost/kingpostlaw02.RationalField" = some 5 by kernel_rfl).symm.trans hf) |>.symm
     obtain rfl : fn = Tryz.f5 := (Option.some.inj (Tryz.func5.symm.trans hfn)).symm
     exact ⟨by kernel_rfl, fun j t ht => by
       rw [Tryz.params5] at ht
       have hm : t ∈ [22, 22, 22] := by simpa using Array.mem_of_getElem? ht
       have hall : ([22, 22, 22].all fun u => !Tryz.prog.wantsStandIn u) = true := by kernel_rfl
       exact (show Tryz.prog.wantsStandIn t = false by simpa using List.all_eq_true.1 hall t hm)⟩)
   (by kernel_rfl)
#print axioms rationalField_proved
end Go.Proofs.YtmafghdgmdbpnaaGreatDoor
