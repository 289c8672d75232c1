/- The walk of the law IntegerDivision: the quotient times the divisor, and the remainder, are the dividend; the remainder is less than the divisor in size, and has its sign. -/
-- needs kingpost/kingpostlaw01.IntegerDivision
import Derived.Test.YtajonpcmgebbbaaDoorLKit
namespace Go.Proofs.YtajonpcmgebbbaaDoor
open Go.RowKit

set_option maxRecDepth 100000 in
set_option maxHeartbeats 1000000 in
theorem IntegerDivision_any (a b : ByteArray) (w : World) (ha : a.size ≤ maxLen) (hb : b.size ≤ maxLen) (ht : Tab w) :
    Calls Tryd.prog 5 #[.string a, .string b] w fun e W' => e = .returned (.bool true) ∧ Below w.heap.size w W' := by
  have hfin := Lib.hid (fun B W => fine2s a b B W ha hb)
  clear ha hb
  by_cases hf : (fineS a && fineS b) = true
  · rw [hf] at hfin
    obtain ⟨fa, fb⟩ : fineS a = true ∧ fineS b = true := by simpa using hf
    obtain ⟨x, rfl, hx⟩ := fine_str fa
    obtain ⟨y, rfl, hy⟩ := fine_str fb
    clear hf fa fb
    by_cases hy0 : y = 0
    · subst hy0
      clear hy
      have o1 := fun W (h : Below w.heap.size w W) => Divide_zero x W (hx.lt (by decide)) (ht.next h)
      have oA := fun W (h : Below w.heap.size w W) => awake_any W (ht.next h)
      rw [str_zero] at hfin o1 ⊢
      generalize strB x = sx at *
      have O := Lib.hid (And.intro o1 oA)
      clear o1 oA ht hx
      go_enter Tryd.func5, Tryd.ntmps5
      go_wp2_with fail
      refine (hfin.out _ _ (by go_cell) (by go_cell)).mono ?_
      rintro e w' ⟨rfl, rfl⟩
      have B0 := Lib.hid ((Below.refl w.heap.size w).alloc (Nat.le_refl _) (.cells #[.string sx, .string ⟨#[48]⟩] 9))
      generalize w.alloc (.cells #[.string sx, .string ⟨#[48]⟩] 9) = v0 at *
      go_wp2_with fail
      refine (O.out.1 _ B0.out).mono ?_
      rintro e v1 ⟨rfl, b1⟩
      have B1 := Lib.hid (B0.out.trans (b1.mono B0.out.size)); clear b1 B0
      go_wp2_with fail
      refine (O.out.2 _ B1.out).mono ?_
      rintro e v2 ⟨rfl, b2⟩
      have B2 := Lib.hid (B1.out.trans (b2.mono B1.out.size)); clear b2 B1
      go_wp2
      go_ret
      exact ⟨rfl, B2.out⟩
    · have hq : Bd 80 (x.fdiv y) := Nat.lt_of_le_of_lt (fdiv_abs hy0).1 hx
      have hr : Bd 80 (x.fmod y) := Nat.lt_of_le_of_lt (fdiv_abs hy0).2 hy
      have hsum : x.fdiv y * y + x.fmod y = x := by rw [Int.mul_comm]; exact Int.mul_fdiv_add_fmod x y
      have hmax := max6s
      have h48 := strB_not48 hy0
      have hcm := Lib.hid (div_cmps (x := x) hy0)
      have o1 := fun W (h : Below w.heap.size w W) => Divide_strs x y W (hx.lt (by decide)) (hy.lt (by decide)) hy0 (ht.next h)
      have o2 := fun W (h : Below w.heap.size w W) => Mul_str (x.fdiv y) y W (hq.lt (by decide)) (hy.lt (by decide)) ((hq.mul hy).lt (by decide)) (ht.next h)
      have o3 := fun W (h : Below w.heap.size w W) => Add_str (x.fdiv y * y) (x.fmod y) W ((hq.mul hy).lt (by decide)) (hr.lt (by decide)) (by rw [hsum]; exact hx.lt (by decide)) (ht.next h)
      have o4 := fun W => Compare_str (x.fmod y) 0 W (hr.lt (by decide)) (small_lim (by decide))
      have o5 := fun W => Compare_str y 0 W (hy.lt (by decide)) (small_lim (by decide))
      have o6 := fun W => Compare_str (x.fmod y) y W (hr.lt (by decide)) (hy.lt (by decide))
      have oA := fun W (h : Below w.heap.size w W) => awake_any W (ht.next h)
      rw [hsum] at o3
      rw [str_zero] at o4 o5
      clear hsum
      generalize cmpZ (x.fmod y) 0 = n at *
      generalize cmpZ y 0 = m at *
      generalize cmpZ (x.fmod y) y = d at *
      generalize strB (x.fdiv y * y) = sp at *
      generalize strB (x.fdiv y) = sq at *
      generalize strB (x.fmod y) = sr at *
      generalize strB x = sx at *
      generalize strB y = sy at *
      have O := Lib.hid (And.intro o1 (And.intro o2 (And.intro o3 (And.intro o4 (And.intro o5 (And.intro o6 oA))))))
      clear o1 o2 o3 o4 o5 o6 oA ht hx hy hq hr hy0
      go_enter Tryd.func5, Tryd.ntmps5
      go_wp2_with fail
      refine (hfin.out _ _ (by go_cell) (by go_cell)).mono ?_
      rintro e w' ⟨rfl, rfl⟩
      have B0 := Lib.hid ((Below.refl w.heap.size w).alloc (Nat.le_refl _) (.cells #[.string sx, .string sy] 9))
      generalize w.alloc (.cells #[.string sx, .string sy] 9) = v0 at *
      go_wp2_with fail
      refine (O.out.1 _ B0.out).mono ?_
      rintro e v1 ⟨rfl, b1⟩
      have B1 := Lib.hid (B0.out.trans (b1.mono B0.out.size)); clear b1 B0
      go_wp2_with fail
      refine (O.out.2.1 _ B1.out).mono ?_
      rintro e v2 ⟨rfl, b2⟩
      have B2 := Lib.hid (B1.out.trans (b2.mono B1.out.size)); clear b2 B1
      go_wp2_with fail
      refine (O.out.2.2.1 _ B2.out).mono ?_
      rintro e v3 ⟨rfl, b3⟩
      have B3 := Lib.hid (B2.out.trans (b3.mono B2.out.size)); clear b3 B2
      go_wp2_with fail
      refine (O.out.2.2.2.1 _).mono ?_
      rintro e w' ⟨rfl, rfl⟩
      go_wp2_with fail
      refine (O.out.2.2.2.2.1 _).mono ?_
      rintro e w' ⟨rfl, rfl⟩
      go_wp2_with fail
      refine (O.out.2.2.2.2.2.1 _).mono ?_
      rintro e w' ⟨rfl, rfl⟩
      rcases hcm.out with ⟨rfl, rfl, rfl | rfl⟩ | ⟨rfl, rfl, rfl | rfl⟩
      · go_wp2_with fail
        refine (O.out.2.2.2.2.2.2 _ B3.out).mono ?_
        rintro e v4 ⟨rfl, b4⟩
        have B4 := Lib.hid (B3.out.trans (b4.mono B3.out.size)); clear b4 B3
        go_wp2
        go_ret
        exact ⟨rfl, B4.out⟩
      · go_wp2_with fail
        refine (O.out.2.2.2.2.2.2 _ B3.out).mono ?_
        rintro e v4 ⟨rfl, b4⟩
        have B4 := Lib.hid (B3.out.trans (b4.mono B3.out.size)); clear b4 B3
        go_wp2
        go_ret
        exact ⟨rfl, B4.out⟩
      · go_wp2_with fail
        refine (O.out.2.2.2.2.2.2 _ B3.out).mono ?_
        rintro e v4 ⟨rfl, b4⟩
        have B4 := Lib.hid (B3.out.trans (b4.mono B3.out.size)); clear b4 B3
        go_wp2
        go_ret
        exact ⟨rfl, B4.out⟩
      · go_wp2_with fail
        refine (O.out.2.2.2.2.2.2 _ B3.out).mono ?_
        rintro e v4 ⟨rfl, b4⟩
        have B4 := Lib.hid (B3.out.trans (b4.mono B3.out.size)); clear b4 B3
        go_wp2
        go_ret
        exact ⟨rfl, B4.out⟩
  · have hf' : (fineS a && fineS b) = false := by simpa using hf
    rw [hf'] at hfin
    clear hf hf'
    have o1 := fun W (h : Below w.heap.size w W) => awake_any W (ht.next h)
    have O := Lib.hid o1
    clear o1 ht
    go_enter Tryd.func5, Tryd.ntmps5
    go_wp2_with fail
    refine (hfin.out _ _ (by go_cell) (by go_cell)).mono ?_
    rintro e w' ⟨rfl, rfl⟩
    have B0 := Lib.hid ((Below.refl w.heap.size w).alloc (Nat.le_refl _) (.cells #[.string a, .string b] 9))
    generalize w.alloc (.cells #[.string a, .string b] 9) = v0 at *
    go_wp2_with fail
    refine (O.out _ B0.out).mono ?_
    rintro e v1 ⟨rfl, b1⟩
    have B1 := Lib.hid (B0.out.trans (b1.mono B0.out.size)); clear b1 B0
    go_wp2
    go_ret
    exact ⟨rfl, B1.out⟩
end Go.Proofs.YtajonpcmgebbbaaDoor
