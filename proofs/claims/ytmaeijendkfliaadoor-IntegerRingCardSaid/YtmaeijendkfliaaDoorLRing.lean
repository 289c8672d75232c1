/- The walk of the law IntegerRing: sums and products are commutative and associative, products distribute over sums, and differences undo sums. -/
import Derived.Test.YtmaeijendkfliaaDoorLOrder
namespace Go.Proofs.YtmaeijendkfliaaDoor
open Go.RowKit

theorem max6 (W : World) : (Builtin.max_ #[24, 24, 24, 24, 24, 24] 24 #[.int .i64 0, .int .i64 0, .int .i64 0, .int .i64 0, .int .i64 0, .int .i64 0]).run Tryd.prog W = .ok (.int .i64 0) W := by kernel_rfl
theorem max8 (W : World) : (Builtin.max_ #[24, 24, 24, 24, 24, 24, 24, 24] 24 #[.int .i64 0, .int .i64 0, .int .i64 0, .int .i64 0, .int .i64 0, .int .i64 0, .int .i64 0, .int .i64 0]).run Tryd.prog W = .ok (.int .i64 0) W := by kernel_rfl

set_option maxRecDepth 100000 in
set_option maxHeartbeats 4000000 in
theorem IntegerRing_any (a b c : ByteArray) (w : World) (ha : a.size ≤ maxLen) (hb : b.size ≤ maxLen) (hc : c.size ≤ maxLen) (ht : Tab w) :
    Calls Tryd.prog 5 #[.string a, .string b, .string c] w fun e W' => e = .returned (.bool true) ∧ Below w.heap.size w W' := by
  have hfin := Lib.hid (fun B W => fine3 a b c B W ha hb hc)
  clear ha hb hc
  by_cases hf : (fineS a && fineS b && fineS c) = true
  · rw [hf] at hfin
    obtain ⟨⟨fa, fb⟩, fc⟩ : (fineS a = true ∧ fineS b = true) ∧ fineS c = true := by simpa using hf
    obtain ⟨x, rfl, hx⟩ := fine_str fa
    obtain ⟨y, rfl, hy⟩ := fine_str fb
    obtain ⟨z, rfl, hz⟩ := fine_str fc
    clear hf fa fb fc
    have hmax6 := max6
    have hmax8 := max8
    have hxy := hx.add hy
    have hyz := hy.add hz
    have hp := hx.mul hy
    have hr := hy.mul hz
    have hq := hx.mul hz
    have o1 := fun W (h : Below w.heap.size w W) => Add_str x y W (hx.lt (by decide)) (hy.lt (by decide)) ((hx.add hy).lt (by decide)) (ht.next h)
    have o2 := fun W (h : Below w.heap.size w W) => Add_str y x W (hy.lt (by decide)) (hx.lt (by decide)) ((hy.add hx).lt (by decide)) (ht.next h)
    have o3 := fun W (h : Below w.heap.size w W) => Add_str (x + y) z W (hxy.lt (by decide)) (hz.lt (by decide)) ((hxy.add (hz.up (by decide))).lt (by decide)) (ht.next h)
    have o4 := fun W (h : Below w.heap.size w W) => Add_str y z W (hy.lt (by decide)) (hz.lt (by decide)) ((hy.add hz).lt (by decide)) (ht.next h)
    have o5 := fun W (h : Below w.heap.size w W) => Add_str x (y + z) W (hx.lt (by decide)) (hyz.lt (by decide)) (((hx.up (by decide)).add hyz).lt (by decide)) (ht.next h)
    have o6 := fun W (h : Below w.heap.size w W) => Sub_str (x + y) y W (hxy.lt (by decide)) (hy.lt (by decide)) ((hxy.sub (hy.up (by decide))).lt (by decide)) (ht.next h)
    have o7 := fun W (h : Below w.heap.size w W) => Mul_str x y W (hx.lt (by decide)) (hy.lt (by decide)) ((hx.mul hy).lt (by decide)) (ht.next h)
    have o8 := fun W (h : Below w.heap.size w W) => Mul_str y x W (hy.lt (by decide)) (hx.lt (by decide)) ((hy.mul hx).lt (by decide)) (ht.next h)
    have o9 := fun W (h : Below w.heap.size w W) => Mul_str (x * y) z W (hp.lt (by decide)) (hz.lt (by decide)) ((hp.mul hz).lt (by decide)) (ht.next h)
    have o10 := fun W (h : Below w.heap.size w W) => Mul_str y z W (hy.lt (by decide)) (hz.lt (by decide)) ((hy.mul hz).lt (by decide)) (ht.next h)
    have o11 := fun W (h : Below w.heap.size w W) => Mul_str x (y * z) W (hx.lt (by decide)) (hr.lt (by decide)) ((hx.mul hr).lt (by decide)) (ht.next h)
    have o12 := fun W (h : Below w.heap.size w W) => Mul_str x (y + z) W (hx.lt (by decide)) (hyz.lt (by decide)) ((hx.mul hyz).lt (by decide)) (ht.next h)
    have o13 := fun W (h : Below w.heap.size w W) => Mul_str x z W (hx.lt (by decide)) (hz.lt (by decide)) ((hx.mul hz).lt (by decide)) (ht.next h)
    have o14 := fun W (h : Below w.heap.size w W) => Add_str (x * y) (x * z) W (hp.lt (by decide)) (hq.lt (by decide)) ((hp.add hq).lt (by decide)) (ht.next h)
    have o15 := fun W (h : Below w.heap.size w W) => awake_any W (ht.next h)
    rw [Int.add_comm y x] at o2
    rw [show x + (y + z) = x + y + z by omega] at o5
    rw [show x + y - y = x by omega] at o6
    rw [Int.mul_comm y x] at o8
    rw [← Int.mul_assoc] at o11
    rw [← Int.mul_add] at o14
    generalize strB (x + y) = s1 at *
    generalize strB (x + y + z) = s2 at *
    generalize strB (y + z) = s3 at *
    generalize strB (x * y) = s4 at *
    generalize strB (x * y * z) = s5 at *
    generalize strB (y * z) = s6 at *
    generalize strB (x * (y + z)) = s7 at *
    generalize strB (x * z) = s8 at *
    generalize strB x = sx at *
    generalize strB y = sy at *
    generalize strB z = sz at *
    have O := Lib.hid (And.intro o1 (And.intro o2 (And.intro o3 (And.intro o4 (And.intro o5 (And.intro o6 (And.intro o7 (And.intro o8 (And.intro o9 (And.intro o10 (And.intro o11 (And.intro o12 (And.intro o13 (And.intro o14 o15))))))))))))))
    clear o1 o2 o3 o4 o5 o6 o7 o8 o9 o10 o11 o12 o13 o14 o15 ht hx hy hz hxy hyz hp hr hq
    go_enter Tryd.func5, Tryd.ntmps5
    go_wp2_with fail
    refine (hfin.out _ _ (by go_cell) (by go_cell) (by go_cell)).mono ?_
    rintro e w' ⟨rfl, rfl⟩
    have B0 := Lib.hid ((Below.refl w.heap.size w).alloc (Nat.le_refl _) (.cells #[.string sx, .string sy, .string sz] 9))
    generalize w.alloc (.cells #[.string sx, .string sy, .string sz] 9) = v0 at *
    go_wp2_with fail
    refine (O.out.1 _ B0.out).mono ?_
    rintro e v1 ⟨rfl, b1⟩
    have B1 := Lib.hid (B0.out.trans (b1.mono B0.out.size)); clear b1 B0
    go_wp2_with fail
    refine (O.out.2.1 _ B1.out).mono ?_
    rintro e v2 ⟨rfl, b2⟩
    have B2 := Lib.hid (B1.out.trans (b2.mono B1.out.size)); clear b2 B1
    go_wp2_with fail
    refine (O.out.2.2.1 _ B2.out).mono ?_
    rintro e v3 ⟨rfl, b3⟩
    have B3 := Lib.hid (B2.out.trans (b3.mono B2.out.size)); clear b3 B2
    go_wp2_with fail
    refine (O.out.2.2.2.1 _ B3.out).mono ?_
    rintro e v4 ⟨rfl, b4⟩
    have B4 := Lib.hid (B3.out.trans (b4.mono B3.out.size)); clear b4 B3
    go_wp2_with fail
    refine (O.out.2.2.2.2.1 _ B4.out).mono ?_
    rintro e v5 ⟨rfl, b5⟩
    have B5 := Lib.hid (B4.out.trans (b5.mono B4.out.size)); clear b5 B4
    go_wp2_with fail
    refine (O.out.2.2.2.2.2.1 _ B5.out).mono ?_
    rintro e v6 ⟨rfl, b6⟩
    have B6 := Lib.hid (B5.out.trans (b6.mono B5.out.size)); clear b6 B5
    go_wp2_with fail
    refine (O.out.2.2.2.2.2.2.1 _ B6.out).mono ?_
    rintro e v7 ⟨rfl, b7⟩
    have B7 := Lib.hid (B6.out.trans (b7.mono B6.out.size)); clear b7 B6
    go_wp2_with fail
    refine (O.out.2.2.2.2.2.2.2.1 _ B7.out).mono ?_
    rintro e v8 ⟨rfl, b8⟩
    have B8 := Lib.hid (B7.out.trans (b8.mono B7.out.size)); clear b8 B7
    go_wp2_with fail
    refine (O.out.2.2.2.2.2.2.2.2.1 _ B8.out).mono ?_
    rintro e v9 ⟨rfl, b9⟩
    have B9 := Lib.hid (B8.out.trans (b9.mono B8.out.size)); clear b9 B8
    go_wp2_with fail
    refine (O.out.2.2.2.2.2.2.2.2.2.1 _ B9.out).mono ?_
    rintro e v10 ⟨rfl, b10⟩
    have B10 := Lib.hid (B9.out.trans (b10.mono B9.out.size)); clear b10 B9
    go_wp2_with fail
    refine (O.out.2.2.2.2.2.2.2.2.2.2.1 _ B10.out).mono ?_
    rintro e v11 ⟨rfl, b11⟩
    have B11 := Lib.hid (B10.out.trans (b11.mono B10.out.size)); clear b11 B10
    go_wp2_with fail
    refine (O.out.2.2.2.2.2.2.2.2.2.2.2.1 _ B11.out).mono ?_
    rintro e v12 ⟨rfl, b12⟩
    have B12 := Lib.hid (B11.out.trans (b12.mono B11.out.size)); clear b12 B11
    go_wp2_with fail
    refine (O.out.2.2.2.2.2.2.2.2.2.2.2.2.1 _ B12.out).mono ?_
    rintro e v13 ⟨rfl, b13⟩
    have B13 := Lib.hid (B12.out.trans (b13.mono B12.out.size)); clear b13 B12
    go_wp2_with fail
    refine (O.out.2.2.2.2.2.2.2.2.2.2.2.2.2.1 _ B13.out).mono ?_
    rintro e v14 ⟨rfl, b14⟩
    have B14 := Lib.hid (B13.out.trans (b14.mono B13.out.size)); clear b14 B13
    go_wp2_with fail
    refine (O.out.2.2.2.2.2.2.2.2.2.2.2.2.2.2 _ B14.out).mono ?_
    rintro e v15 ⟨rfl, b15⟩
    have B15 := Lib.hid (B14.out.trans (b15.mono B14.out.size)); clear b15 B14
    go_wp2
    go_ret
    exact ⟨rfl, B15.out⟩
  · have hf' : (fineS a && fineS b && fineS c) = false := by simpa using hf
    rw [hf'] at hfin
    clear hf hf'
    have O := Lib.hid (fun W (h : Below w.heap.size w W) => awake_any W (ht.next h))
    clear ht
    go_enter Tryd.func5, Tryd.ntmps5
    go_wp2_with fail
    refine (hfin.out _ _ (by go_cell) (by go_cell) (by go_cell)).mono ?_
    rintro e w' ⟨rfl, rfl⟩
    have B0 := Lib.hid ((Below.refl w.heap.size w).alloc (Nat.le_refl _) (.cells #[.string a, .string b, .string c] 9))
    generalize w.alloc (.cells #[.string a, .string b, .string c] 9) = v0 at *
    go_wp2_with fail
    refine (O.out _ B0.out).mono ?_
    rintro e v1 ⟨rfl, b1⟩
    have B1 := Lib.hid (B0.out.trans (b1.mono B0.out.size)); clear b1 B0
    go_wp2
    go_ret
    exact ⟨rfl, B1.out⟩
end Go.Proofs.YtmaeijendkfliaaDoor
