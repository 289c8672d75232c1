/- The walk of the law IntegerPowers: powers of the same integer are multiplied by adding exponents. -/
import Derived.Test.YtmaeijendkfliaaDoorLFin2
import Derived.Test.YtmaeijendkfliaaDoorPow
namespace Go.Proofs.YtmaeijendkfliaaDoor
open Go.RowKit

theorem fine1 (a : ByteArray) (B : Nat) (W : World) (ha : a.size ≤ maxLen) (h0 : W.cell? ⟨B, 0, none⟩ = some (.string a)) :
    Calls Tryd.prog 24 #[.slice (some ⟨B, 0, none⟩) 1 1] W fun e w' => e = .returned (.bool (fineS a)) ∧ W = w' := by
  have h := fine_any [a] B W (by show 1 ≤ 100; decide) (by
    intro s hs
    simp only [List.mem_cons, List.not_mem_nil, or_false] at hs
    subst hs; exact ha) (by
    intro i hi
    match i, hi with
    | 0, _ => exact h0)
  have e : [a].all fineS = fineS a := by simp
  rwa [e] at h
theorem Power_str (x : Int) (k : Nat) (w : World) (hx : x.natAbs < lim) (hk : k ≤ 4096) (ht : Tab w) :
    Calls Tryd.prog 22 #[.string (strB x), .int .i64 k] w fun e W' => e = .returned (.tuple #[.string (resB (x ^ k)), .int .i64 (resE (x ^ k))]) ∧ Below w.heap.size w W' := by
  have c := Power_any (strB x) k w (strB_chk hx) hk ht
  rwa [strB_val] at c
theorem resB_ok {z : Int} (h : z.natAbs < lim) : resB z = strB z := by unfold resB; rw [if_pos h]
theorem resE_ok {z : Int} (h : z.natAbs < lim) : resE z = 0 := by unfold resE; rw [if_pos h]
theorem resE_bad {z : Int} (h : ¬ z.natAbs < lim) : resE z = 4 := by unfold resE; rw [if_neg h]
theorem resE_two (z : Int) : resE z = 0 ∨ resE z = 4 := by unfold resE; split; exact .inl rfl; exact .inr rfl
theorem Mul_res (x y : Int) (w : World) (hx : x.natAbs < lim) (hy : y.natAbs < lim) (ht : Tab w) :
    Calls Tryd.prog 14 #[.string (strB x), .string (strB y)] w fun e W' => e = .returned (.tuple #[.string (resB (x * y)), .int .i64 (resE (x * y))]) ∧ Below w.heap.size w W' := by
  have c := Mul_any (strB x) (strB y) w (by have := strB_size hx; unfold maxLen; omega) (by have := strB_size hy; unfold maxLen; omega) ht
  rwa [strB_chk2 hx hy, strB_val, strB_val, outB_ok, outE_ok] at c

set_option maxRecDepth 100000 in
set_option maxHeartbeats 4000000 in
theorem IntegerPowers_nat (a : ByteArray) (m n : Nat) (w : World) (ha : a.size ≤ maxLen) (hm : m ≤ 255) (hn : n ≤ 255) (ht : Tab w) :
    Calls Tryd.prog 11 #[.string a, .int .u8 m, .int .u8 n] w fun e W' => e = .returned (.bool true) ∧ Below w.heap.size w W' := by
  have hfin := Lib.hid (fun B W => fine1 a B W ha)
  clear ha
  by_cases hf : fineS a = true
  · rw [hf] at hfin
    obtain ⟨x, rfl, hx⟩ := fine_str hf
    clear hf
    have hxl := hx.lt (show 80 ≤ 300 by decide)
    have o1 := fun W (h : Below w.heap.size w W) => show Calls Tryd.prog 22 #[.string (strB x), .int .i64 1] W fun e W' => e = .returned (.tuple #[.string (resB (x ^ 1)), .int .i64 (resE (x ^ 1))]) ∧ Below W.heap.size W W' from Power_str x 1 W hxl (by decide) (ht.next h)
    have o2 := fun W (h : Below w.heap.size w W) => show Calls Tryd.prog 22 #[.string (strB x), .int .i64 0] W fun e W' => e = .returned (.tuple #[.string (resB (x ^ 0)), .int .i64 (resE (x ^ 0))]) ∧ Below W.heap.size W W' from Power_str x 0 W hxl (by decide) (ht.next h)
    have o3 := fun W (h : Below w.heap.size w W) => Power_str x m W hxl (by omega) (ht.next h)
    have o4 := fun W (h : Below w.heap.size w W) => Power_str x n W hxl (by omega) (ht.next h)
    have o5 := fun W (h : Below w.heap.size w W) => Power_str x (m + n) W hxl (by omega) (ht.next h)
    have o6 := fun W (h : Below w.heap.size w W) => awake_any W (ht.next h)
    rw [Int.pow_succ, Int.pow_zero, Int.one_mul, resB_ok hxl, resE_ok hxl] at o1
    rw [Int.pow_zero, resB_ok (small_lim (by decide)), resE_ok (small_lim (by decide)), str_of 1 [49] (by decide +kernel)] at o2
    rw [Int.natCast_add] at o5
    have big1 := fun h => pow_big (x := x) (Nat.le_add_right m n) h
    have big2 := fun h => pow_big (x := x) (Nat.le_add_left n m) h
    have hmul := fun h1 h2 W (h : Below w.heap.size w W) => Mul_res (x ^ m) (x ^ n) W h1 h2 (ht.next h)
    rw [← Int.pow_add] at hmul
    have HZ := Lib.hid (And.intro big1 (And.intro big2 hmul))
    have O := Lib.hid (And.intro o1 (And.intro o2 (And.intro o3 (And.intro o4 (And.intro o5 o6)))))
    clear o1 o2 o3 o4 o5 o6 big1 big2 hmul ht hx hxl
    go_enter Tryd.func11, Tryd.ntmps11
    go_wp2_with fail
    refine (hfin.out _ _ (by go_cell)).mono ?_
    rintro e w' ⟨rfl, rfl⟩
    have B0 := Lib.hid ((Below.refl w.heap.size w).alloc (Nat.le_refl _) (.cells #[.string (strB x)] 9))
    generalize w.alloc (.cells #[.string (strB x)] 9) = v0 at *
    go_wp2_with fail
    refine (O.out.1 _ B0.out).mono ?_
    rintro e v1 ⟨rfl, b1⟩
    have B1 := Lib.hid (B0.out.trans (b1.mono B0.out.size)); clear b1 B0
    go_wp2_with fail
    refine (O.out.2.1 _ B1.out).mono ?_
    rintro e v2 ⟨rfl, b2⟩
    have B2 := Lib.hid (B1.out.trans (b2.mono B1.out.size)); clear b2 B1
    go_wp2_with fail
    refine (O.out.2.2.1 _ B2.out).mono ?_
    rintro e v3 ⟨rfl, b3⟩
    have B3 := Lib.hid (B2.out.trans (b3.mono B2.out.size)); clear b3 B2
    go_wp2_with fail
    refine (O.out.2.2.2.1 _ B3.out).mono ?_
    rintro e v4 ⟨rfl, b4⟩
    have B4 := Lib.hid (B3.out.trans (b4.mono B3.out.size)); clear b4 B3
    go_wp2_with fail
    refine (O.out.2.2.2.2.1 _ B4.out).mono ?_
    rintro e v5 ⟨rfl, b5⟩
    have B5 := Lib.hid (B4.out.trans (b5.mono B4.out.size)); clear b5 B4
    by_cases c1 : (x ^ m).natAbs < lim
    · by_cases c2 : (x ^ n).natAbs < lim
      · have MU := Lib.hid (HZ.out.2.2 c1 c2)
        have q1 := resE_ok c1
        have q2 := resE_ok c2
        have q3 := resB_ok c1
        have q4 := resB_ok c2
        clear c1 c2 HZ
        generalize resE (x ^ m) = z1 at *
        generalize resE (x ^ n) = z2 at *
        generalize resB (x ^ m) = s1 at *
        generalize resB (x ^ n) = s2 at *
        generalize resB (x ^ (m + n)) = s3 at *
        generalize resE (x ^ (m + n)) = z3 at *
        subst q1 q2 q3 q4
        go_wp2_with fail
        refine (MU.out _ B5.out).mono ?_
        rintro e v6 ⟨rfl, b6⟩
        have B6 := Lib.hid (B5.out.trans (b6.mono B5.out.size)); clear b6 B5
        go_wp2_with fail
        refine (O.out.2.2.2.2.2 _ B6.out).mono ?_
        rintro e v9 ⟨rfl, b9⟩
        have B9 := Lib.hid (B6.out.trans (b9.mono B6.out.size)); clear b9 B6
        go_wp2
        go_ret
        exact ⟨rfl, B9.out⟩
      · have q1 := resE_ok c1
        have q2 := resE_bad c2
        have q3 := resE_bad (HZ.out.2.1 c2)
        clear c1 c2 HZ
        generalize resE (x ^ m) = z1 at *
        generalize resE (x ^ n) = z2 at *
        generalize resE (x ^ (m + n)) = z3 at *
        subst q1 q2 q3
        go_wp2_with fail
        refine (O.out.2.2.2.2.2 _ B5.out).mono ?_
        rintro e v9 ⟨rfl, b9⟩
        have B9 := Lib.hid (B5.out.trans (b9.mono B5.out.size)); clear b9 B5
        go_wp2
        go_ret
        exact ⟨rfl, B9.out⟩
    · have q1 := resE_bad c1
      have q2 := Lib.hid (resE_two (x ^ n))
      have q3 := resE_bad (HZ.out.1 c1)
      clear c1 HZ
      generalize resE (x ^ m) = z1 at *
      generalize resE (x ^ n) = z2 at *
      generalize resE (x ^ (m + n)) = z3 at *
      subst q1 q3
      rcases q2.out with rfl | rfl
      · go_wp2_with fail
        refine (O.out.2.2.2.2.2 _ B5.out).mono ?_
        rintro e v9 ⟨rfl, b9⟩
        have B9 := Lib.hid (B5.out.trans (b9.mono B5.out.size)); clear b9 B5
        go_wp2
        go_ret
        exact ⟨rfl, B9.out⟩
      · go_wp2_with fail
        refine (O.out.2.2.2.2.2 _ B5.out).mono ?_
        rintro e v9 ⟨rfl, b9⟩
        have B9 := Lib.hid (B5.out.trans (b9.mono B5.out.size)); clear b9 B5
        go_wp2
        go_ret
        exact ⟨rfl, B9.out⟩
  · have hf' : fineS a = false := by simpa using hf
    rw [hf'] at hfin
    clear hf hf'
    have O := Lib.hid (fun W (h : Below w.heap.size w W) => awake_any W (ht.next h))
    clear ht
    go_enter Tryd.func11, Tryd.ntmps11
    go_wp2_with fail
    refine (hfin.out _ _ (by go_cell)).mono ?_
    rintro e w' ⟨rfl, rfl⟩
    have B0 := Lib.hid ((Below.refl w.heap.size w).alloc (Nat.le_refl _) (.cells #[.string a] 9))
    generalize w.alloc (.cells #[.string a] 9) = v0 at *
    go_wp2_with fail
    refine (O.out _ B0.out).mono ?_
    rintro e v1 ⟨rfl, b1⟩
    have B1 := Lib.hid (B0.out.trans (b1.mono B0.out.size)); clear b1 B0
    go_wp2
    go_ret
    exact ⟨rfl, B1.out⟩
theorem IntegerPowers_any (a : ByteArray) (m n : Int) (w : World) (ha : a.size ≤ maxLen) (hm : (Lit.int .u8 m).wf = true) (hn : (Lit.int .u8 n).wf = true) (ht : Tab w) :
    Calls Tryd.prog 11 #[.string a, .int .u8 m, .int .u8 n] w fun e W' => e = .returned (.bool true) ∧ Below w.heap.size w W' := by
  have mn : IntKind.u8.min = 0 := rfl
  have mx : IntKind.u8.max = 255 := rfl
  simp [Lit.wf] at hm hn
  obtain ⟨m', rfl⟩ : ∃ k : Nat, m = k := ⟨m.toNat, by omega⟩
  obtain ⟨n', rfl⟩ : ∃ k : Nat, n = k := ⟨n.toNat, by omega⟩
  exact IntegerPowers_nat a m' n' w ha (by omega) (by omega) ht
end Go.Proofs.YtmaeijendkfliaaDoor
