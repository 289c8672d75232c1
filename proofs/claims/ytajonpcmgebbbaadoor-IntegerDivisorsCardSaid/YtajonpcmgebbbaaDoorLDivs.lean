/- The walk of the law IntegerDivisors: the greatest common divisor divides both; it stays the same if a multiple of one is added to the other, and is multiplied as they are. -/
-- needs kingpost/kingpostlaw01.IntegerDivisors
import Derived.Test.YtajonpcmgebbbaaDoorLKit3
namespace Go.Proofs.YtajonpcmgebbbaaDoor
open Go.RowKit

theorem natCast_dvd {n : Nat} {z : Int} : (n : Int) ∣ z ↔ n ∣ z.natAbs := by
  rw [← Int.natAbs_dvd_natAbs]; rfl
theorem fmod_dvd {x : Int} {g : Nat} (h : g ∣ x.natAbs) : x.fmod g = 0 := by
  rw [Int.fmod_eq_emod_of_nonneg _ (by omega)]
  exact Int.emod_eq_zero_of_dvd (natCast_dvd.2 h)
theorem gcd_add_mul (x y z : Int) : Nat.gcd (x + z * y).natAbs y.natAbs = Nat.gcd x.natAbs y.natAbs := by
  refine Nat.dvd_antisymm (Nat.dvd_gcd ?_ (Nat.gcd_dvd_right _ _)) (Nat.dvd_gcd ?_ (Nat.gcd_dvd_right _ _))
  · have h1 := natCast_dvd.2 (Nat.gcd_dvd_left (x + z * y).natAbs y.natAbs)
    have h2 := natCast_dvd.2 (Nat.gcd_dvd_right (x + z * y).natAbs y.natAbs)
    refine natCast_dvd.1 ?_
    have := Int.dvd_sub h1 (Int.dvd_trans h2 (Int.dvd_mul_left z y))
    rwa [Int.add_sub_cancel] at this
  · have h1 := natCast_dvd.2 (Nat.gcd_dvd_left x.natAbs y.natAbs)
    have h2 := natCast_dvd.2 (Nat.gcd_dvd_right x.natAbs y.natAbs)
    refine natCast_dvd.1 ?_
    exact Int.dvd_add h1 (Int.dvd_trans h2 (Int.dvd_mul_left z y))

set_option maxRecDepth 100000 in
set_option maxHeartbeats 1000000 in
theorem IntegerDivisors_any (a b c : ByteArray) (w : World) (ha : a.size ≤ maxLen) (hb : b.size ≤ maxLen) (hc : c.size ≤ maxLen) (ht : Tab w) :
    Calls Tryd.prog 6 #[.string a, .string b, .string c] w fun e W' => e = .returned (.bool true) ∧ Below w.heap.size w W' := by
  have hfin := Lib.hid (fun B W => fine3s a b c B W ha hb hc)
  clear ha hb hc
  by_cases hf : (fineS a && fineS b && fineS c) = true
  · rw [hf] at hfin
    obtain ⟨⟨fa, fb⟩, fc⟩ : (fineS a = true ∧ fineS b = true) ∧ fineS c = true := by simpa using hf
    obtain ⟨x, rfl, hx⟩ := fine_str fa
    obtain ⟨y, rfl, hy⟩ := fine_str fb
    obtain ⟨z, rfl, hz⟩ := fine_str fc
    clear hf fa fb fc
    by_cases hD : Nat.gcd x.natAbs y.natAbs = 0
    · have hx0 : x = 0 := by have := Nat.eq_zero_of_gcd_eq_zero_left hD; omega
      have hy0 : y = 0 := by have := Nat.eq_zero_of_gcd_eq_zero_right hD; omega
      subst hx0 hy0
      clear hx hy hD
      have o1 := fun W (h : Below w.heap.size w W) => Gcd_strs2 0 0 W (small_lim (by decide)) (small_lim (by decide)) (ht.next h)
      have oA := fun W (h : Below w.heap.size w W) => awake_any W (ht.next h)
      rw [show ((Nat.gcd (0 : Int).natAbs (0 : Int).natAbs : Nat) : Int) = 0 from rfl, str_zero] at o1
      rw [str_zero] at hfin ⊢
      have e1 : ((⟨#[48]⟩ : ByteArray).toList == []) = false := by rw [ByteArray.toList_eq]; rfl
      have e2 : ((⟨#[48]⟩ : ByteArray).toList == [48]) = true := by rw [ByteArray.toList_eq]; rfl
      generalize strB z = sz at *
      have O := Lib.hid (And.intro o1 oA)
      clear o1 oA ht hz
      go_enter Tryd.func6, Tryd.ntmps6
      go_wp2_with fail
      refine (hfin.out _ _ (by go_cell) (by go_cell) (by go_cell)).mono ?_
      rintro e w' ⟨rfl, rfl⟩
      have B0 := Lib.hid ((Below.refl w.heap.size w).alloc (Nat.le_refl _) (.cells #[.string ⟨#[48]⟩, .string ⟨#[48]⟩, .string sz] 9))
      generalize w.alloc (.cells #[.string ⟨#[48]⟩, .string ⟨#[48]⟩, .string sz] 9) = v0 at *
      go_wp2_with fail
      refine (O.out.1 _ B0.out).mono ?_
      rintro e v1 ⟨rfl, b1⟩
      have B1 := Lib.hid (B0.out.trans (b1.mono B0.out.size)); clear b1 B0
      go_wp2_with fail
      refine (O.out.2 _ B1.out).mono ?_
      rintro e v2 ⟨rfl, b2⟩
      have B2 := Lib.hid (B1.out.trans (b2.mono B1.out.size)); clear b2 B1
      go_wp2
      go_ret
      exact ⟨rfl, B2.out⟩
    · obtain ⟨D, hDe⟩ : ∃ D : Int, ((Nat.gcd x.natAbs y.natAbs : Nat) : Int) = D := ⟨_, rfl⟩
      have hD0 : D ≠ 0 := by omega
      have hDn : ¬ D < 0 := by omega
      have hd : Bd 80 D := by
        rw [← hDe]
        show Nat.gcd x.natAbs y.natAbs < _
        by_cases h0 : x.natAbs = 0
        · rw [h0, Nat.gcd_zero_left]; exact hy
        · exact Nat.lt_of_le_of_lt (Nat.gcd_le_left _ (by omega)) hx
      have hzy := hz.mul hy
      have hzx := hz.mul hx
      have hzd := hz.mul hd
      have hs : Bd 161 (x + z * y) := (hx.up (by decide)).add hzy
      have hmax5 := max5s
      have h48 := strB_not48 hD0
      have hl : 0 < (strB D).size := strB_size_pos D
      have h45 : (((strB D)[0].toNat : Int) == 45) = false := by rw [isNeg_pos hl, strB_neg]; exact decide_eq_false hDn
      have hne : ((strB D).toList == []) = false := by
        rw [ByteArray.toList_eq, beq_eq_false_iff_ne]
        intro e
        have h1 : (strB D).data.toList.length = 0 := by rw [e]; rfl
        rw [size_len] at h1
        omega
      have r1 : x.fmod D = 0 := by rw [← hDe]; exact fmod_dvd (Nat.gcd_dvd_left _ _)
      have r2 : y.fmod D = 0 := by rw [← hDe]; exact fmod_dvd (Nat.gcd_dvd_right _ _)
      have g1 : ((Nat.gcd (x + z * y).natAbs y.natAbs : Nat) : Int) = D := by rw [gcd_add_mul, hDe]
      have g2 : ((Nat.gcd (z * x).natAbs (z * y).natAbs : Nat) : Int) = ((Nat.gcd (z * D).natAbs (0 : Int).natAbs : Nat) : Int) := by
        rw [Int.natAbs_mul, Int.natAbs_mul, Nat.gcd_mul_left, Int.natAbs_mul, show (0 : Int).natAbs = 0 from rfl, Nat.gcd_zero_right, ← hDe]
        rfl
      have o1 := fun W (h : Below w.heap.size w W) => Gcd_strs2 x y W (hx.lt (by decide)) (hy.lt (by decide)) (ht.next h)
      have o2 := fun W (h : Below w.heap.size w W) => Divide_strs x D W (hx.lt (by decide)) (hd.lt (by decide)) hD0 (ht.next h)
      have o3 := fun W (h : Below w.heap.size w W) => Divide_strs y D W (hy.lt (by decide)) (hd.lt (by decide)) hD0 (ht.next h)
      have o4 := fun W (h : Below w.heap.size w W) => Mul_str z y W (hz.lt (by decide)) (hy.lt (by decide)) (hzy.lt (by decide)) (ht.next h)
      have o5 := fun W (h : Below w.heap.size w W) => Add_str x (z * y) W (hx.lt (by decide)) (hzy.lt (by decide)) (hs.lt (by decide)) (ht.next h)
      have o6 := fun W (h : Below w.heap.size w W) => Gcd_strs2 (x + z * y) y W (hs.lt (by decide)) (hy.lt (by decide)) (ht.next h)
      have o7 := fun W (h : Below w.heap.size w W) => Mul_str z x W (hz.lt (by decide)) (hx.lt (by decide)) (hzx.lt (by decide)) (ht.next h)
      have o8 := fun W (h : Below w.heap.size w W) => Gcd_strs2 (z * x) (z * y) W (hzx.lt (by decide)) (hzy.lt (by decide)) (ht.next h)
      have o9 := fun W (h : Below w.heap.size w W) => Mul_str z D W (hz.lt (by decide)) (hd.lt (by decide)) (hzd.lt (by decide)) (ht.next h)
      have oB := fun W (h : Below w.heap.size w W) => Gcd_strs2 (z * D) 0 W (hzd.lt (by decide)) (small_lim (by decide)) (ht.next h)
      have oA := fun W (h : Below w.heap.size w W) => awake_any W (ht.next h)
      rw [hDe] at o1
      rw [r1, str_zero] at o2
      rw [r2, str_zero] at o3
      rw [g1] at o6
      rw [g2] at o8
      rw [str_zero] at oB
      clear r1 r2 g1 g2 hDe hDn hD
      generalize strB ((Nat.gcd (z * D).natAbs (0 : Int).natAbs : Nat) : Int) = s1 at *
      generalize strB (x.fdiv D) = s2 at *
      generalize strB (y.fdiv D) = s3 at *
      generalize strB (x + z * y) = s4 at *
      generalize strB (z * y) = s5 at *
      generalize strB (z * x) = s6 at *
      generalize strB (z * D) = s7 at *
      generalize strB D = sd at *
      generalize strB x = sx at *
      generalize strB y = sy at *
      generalize strB z = sz at *
      have O := Lib.hid (And.intro o1 (And.intro o2 (And.intro o3 (And.intro o4 (And.intro o5 (And.intro o6 (And.intro o7 (And.intro o8 (And.intro o9 (And.intro oB oA))))))))))
      clear o1 o2 o3 o4 o5 o6 o7 o8 o9 oB oA ht hx hy hz hd hzy hzx hzd hs hD0
      go_enter Tryd.func6, Tryd.ntmps6
      go_wp2_with fail
      refine (hfin.out _ _ (by go_cell) (by go_cell) (by go_cell)).mono ?_
      rintro e w' ⟨rfl, rfl⟩
      have B0 := Lib.hid ((Below.refl w.heap.size w).alloc (Nat.le_refl _) (.cells #[.string sx, .string sy, .string sz] 9))
      generalize w.alloc (.cells #[.string sx, .string sy, .string sz] 9) = v0 at *
      go_wp2_with fail
      refine (O.out.1 _ B0.out).mono ?_
      rintro e v1 ⟨rfl, b1⟩
      have B1 := Lib.hid (B0.out.trans (b1.mono B0.out.size)); clear b1 B0
      go_wp2_with fail
      refine (O.out.2.1 _ B1.out).mono ?_
      rintro e v2 ⟨rfl, b2⟩
      have B2 := Lib.hid (B1.out.trans (b2.mono B1.out.size)); clear b2 B1
      go_wp2_with fail
      refine (O.out.2.2.1 _ B2.out).mono ?_
      rintro e v3 ⟨rfl, b3⟩
      have B3 := Lib.hid (B2.out.trans (b3.mono B2.out.size)); clear b3 B2
      go_wp2_with fail
      refine (O.out.2.2.2.1 _ B3.out).mono ?_
      rintro e v4 ⟨rfl, b4⟩
      have B4 := Lib.hid (B3.out.trans (b4.mono B3.out.size)); clear b4 B3
      go_wp2_with fail
      refine (O.out.2.2.2.2.1 _ B4.out).mono ?_
      rintro e v5 ⟨rfl, b5⟩
      have B5 := Lib.hid (B4.out.trans (b5.mono B4.out.size)); clear b5 B4
      go_wp2_with fail
      refine (O.out.2.2.2.2.2.1 _ B5.out).mono ?_
      rintro e v6 ⟨rfl, b6⟩
      have B6 := Lib.hid (B5.out.trans (b6.mono B5.out.size)); clear b6 B5
      go_wp2_with fail
      refine (O.out.2.2.2.2.2.2.1 _ B6.out).mono ?_
      rintro e v7 ⟨rfl, b7⟩
      have B7 := Lib.hid (B6.out.trans (b7.mono B6.out.size)); clear b7 B6
      go_wp2_with fail
      refine (O.out.2.2.2.1 _ B7.out).mono ?_
      rintro e v8 ⟨rfl, b8⟩
      have B8 := Lib.hid (B7.out.trans (b8.mono B7.out.size)); clear b8 B7
      go_wp2_with fail
      refine (O.out.2.2.2.2.2.2.2.1 _ B8.out).mono ?_
      rintro e v9 ⟨rfl, b9⟩
      have B9 := Lib.hid (B8.out.trans (b9.mono B8.out.size)); clear b9 B8
      go_wp2_with fail
      refine (O.out.2.2.2.2.2.2.2.2.1 _ B9.out).mono ?_
      rintro e v10 ⟨rfl, b10⟩
      have B10 := Lib.hid (B9.out.trans (b10.mono B9.out.size)); clear b10 B9
      go_wp2_with fail
      refine (O.out.2.2.2.2.2.2.2.2.2.1 _ B10.out).mono ?_
      rintro e v11 ⟨rfl, b11⟩
      have B11 := Lib.hid (B10.out.trans (b11.mono B10.out.size)); clear b11 B10
      go_wp2_with fail
      refine (O.out.2.2.2.2.2.2.2.2.2.2 _ B11.out).mono ?_
      rintro e v12 ⟨rfl, b12⟩
      have B12 := Lib.hid (B11.out.trans (b12.mono B11.out.size)); clear b12 B11
      go_wp2
      go_ret
      exact ⟨rfl, B12.out⟩
  · have hf' : (fineS a && fineS b && fineS c) = false := by simpa using hf
    rw [hf'] at hfin
    clear hf hf'
    have o1 := fun W (h : Below w.heap.size w W) => awake_any W (ht.next h)
    have O := Lib.hid o1
    clear o1 ht
    go_enter Tryd.func6, Tryd.ntmps6
    go_wp2_with fail
    refine (hfin.out _ _ (by go_cell) (by go_cell) (by go_cell)).mono ?_
    rintro e w' ⟨rfl, rfl⟩
    have B0 := Lib.hid ((Below.refl w.heap.size w).alloc (Nat.le_refl _) (.cells #[.string a, .string b, .string c] 9))
    generalize w.alloc (.cells #[.string a, .string b, .string c] 9) = v0 at *
    go_wp2_with fail
    refine (O.out _ B0.out).mono ?_
    rintro e v1 ⟨rfl, b1⟩
    have B1 := Lib.hid (B0.out.trans (b1.mono B0.out.size)); clear b1 B0
    go_wp2
    go_ret
    exact ⟨rfl, B1.out⟩
end Go.Proofs.YtajonpcmgebbbaaDoor
