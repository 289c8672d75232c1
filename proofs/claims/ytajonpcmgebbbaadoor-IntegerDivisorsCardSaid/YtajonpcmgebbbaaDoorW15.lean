/- The walks of Add, Sub and Mul: what the chapter says of them. Written by wip/mkops.py. -/
import Derived.Test.YtajonpcmgebbbaaDoorW14
import Derived.Test.YtajonpcmgebbbaaDoorW11
namespace Go.Proofs.YtajonpcmgebbbaaDoor
open Go.RowKit

/-- the text that a call returns, and its error: e is the error of Check, z the result -/
def outB (e z : Int) : ByteArray := if e = 0 then resB z else ByteArray.empty
def outE (e z : Int) : Int := if e = 0 then resE z else e
theorem outB_ok (z : Int) : outB 0 z = resB z := if_pos rfl
theorem outE_ok (z : Int) : outE 0 z = resE z := if_pos rfl
theorem outB_bad {e : Int} (h : e ≠ 0) (z : Int) : outB e z = ⟨#[]⟩ := if_neg h
theorem outE_bad {e : Int} (h : e ≠ 0) (z : Int) : outE e z = e := if_neg h
theorem chk2_zero {a b : List UInt8} (h : chk2 a b = 0) : chk a = 0 ∧ chk b = 0 := by
  unfold chk2 at h; split at h
  · exact ⟨‹_›, h⟩
  · exact absurd h ‹_›
theorem chk_size {s : ByteArray} (h : chk s.data.toList = 0) : s.size ≤ 301 := by
  have h1 : (szL s.data.toList).length ≤ 300 := by
    unfold chk at h
    by_cases h1 : (szL s.data.toList).all isDig
    · simp only [h1, Bool.not_true, Bool.false_eq_true, if_false] at h
      split at h
      · cases h
      · split at h
        · cases h
        · omega
    · simp only [h1] at h; cases h
  have h2 : s.data.toList.length ≤ (szL s.data.toList).length + 1 := by
    unfold szL; split
    · rw [List.length_tail]; omega
    · omega
  rw [size_len] at h2; omega
theorem lim_big : 1000000000000000000000000000000000000000 ≤ lim := by
  have : tenTo 39 ≤ tenTo 300 := tenTo_mono (by decide)
  have h2 : tenTo 39 = 1000000000000000000000000000000000000000 := by decide
  unfold lim; omega
theorem resB_small {z : Int} (h : z.natAbs < 1000000000000000000000000000000000000000) : resB z = strB z := by unfold resB; rw [if_pos (Nat.lt_of_lt_of_le h lim_big)]
theorem resE_small {z : Int} (h : z.natAbs < 1000000000000000000000000000000000000000) : resE z = 0 := by unfold resE; rw [if_pos (Nat.lt_of_lt_of_le h lim_big)]
theorem val_sgn (l : List UInt8) : sgnZ (isNeg l) (natOf (szL l)) = valOf l := by rw [valOf_szL]; unfold sgnZ; rfl
theorem nat_lim {l : List UInt8} (h : chk l = 0) : natOf (szL l) < lim := by
  have := valOf_lt l h
  rw [valOf_szL] at this; split at this <;> simpa using this
theorem B_tenTo (k : Nat) : B ^ k = tenTo (9 * k) := B_pow k
theorem lim_B : lim ≤ B ^ 34 := by
  rw [B_tenTo]
  exact tenTo_mono (by decide)
theorem dg_lim {n : Nat} (h : n < lim) : (dg n).length ≤ 34 := (dg_length_le n 34).2 (Nat.lt_of_lt_of_le h lim_B)
theorem dg_sum {a b n : Nat} (ha : a < lim) (hb : b < lim) (h : n ≤ a + b) : (dg n).length ≤ 35 := by
  rw [dg_length_le]
  have h1 := lim_B
  have h2 : B ^ 35 = B ^ 34 * B := by rw [show (35 : Nat) = 34 + 1 from rfl, Nat.pow_succ]
  have h3 : B ^ 34 * 2 ≤ B ^ 34 * B := Nat.mul_le_mul_left _ (by decide)
  omega
theorem dg_mul {a b : Nat} (ha : a < lim) (hb : b < lim) : (dg (a * b)).length ≤ 68 := by
  rw [dg_length_le, show B ^ 68 = B ^ 34 * B ^ 34 from (Nat.pow_add B 34 34)]
  have h1 := lim_B
  exact Nat.mul_lt_mul'' (Nat.lt_of_lt_of_le ha h1) (Nat.lt_of_lt_of_le hb h1)
theorem sgn_mul (na nb : Bool) (a b : Nat) : sgnZ (na != nb) (a * b) = sgnZ na a * sgnZ nb b := by
  unfold sgnZ; cases na <;> cases nb <;> simp [Int.mul_neg, Int.neg_mul]
theorem sgn_not (nb : Bool) (b : Nat) : sgnZ (!nb) b = -sgnZ nb b := by unfold sgnZ; cases nb <;> simp
theorem ret_res {s t : ByteArray} {a b : Int} (h : s = t) (h2 : a = b) : Ending.returned (.tuple #[.string s, .int .i64 a]) = .returned (.tuple #[.string t, .int .i64 b]) := by rw [h, h2]

set_option maxHeartbeats 1000000 in
theorem Add_any (a b : ByteArray) (w : World) (ha : a.size ≤ maxLen) (hb : b.size ≤ maxLen) (ht : Tab w) :
    Calls Tryd.prog 21 #[.string a, .string b] w fun e W' => e = .returned (.tuple #[.string (outB (chk2 a.data.toList b.data.toList) (valOf a.data.toList + valOf b.data.toList)), .int .i64 (outE (chk2 a.data.toList b.data.toList) (valOf a.data.toList + valOf b.data.toList))]) ∧ Below w.heap.size w W' := by
  have cb := checkBoth_any a b w ha hb
  generalize he : chk2 a.data.toList b.data.toList = e at *
  have CB := Lib.hid cb; clear cb
  by_cases h0 : e = 0
  · subst h0
    obtain ⟨k1, k2⟩ := chk2_zero he
    have s1 := chk_size k1
    have s2 := chk_size k2
    have i1 := fun W => isShort_any a W ha
    have i2 := fun W => isShort_any b W hb
    have IS := Lib.hid (And.intro i1 i2); clear i1 i2
    have HT := Lib.hid ht
    rw [outB_ok, outE_ok]
    have q1 : (a.size : Int) ≤ 18 ∨ ¬ (a.size : Int) ≤ 18 := Decidable.em _
    by_cases hsh : a.size ≤ 18 ∧ b.size ≤ 18
    · obtain ⟨hs1, hs2⟩ := hsh
      have t1 : decide ((a.size : Int) ≤ 18) = true := by simp; omega
      have t2 : decide ((b.size : Int) ≤ 18) = true := by simp; omega
      rw [t1, t2] at IS
      clear q1
      have v1 := valOf_short k1 (by rw [size_len]; omega)
      have v2 := valOf_short k2 (by rw [size_len]; omega)
      have m1 := fun W => machine_any a W (by omega) k1
      have m2 := fun W => machine_any b W (by omega) k2
      have mo := fun W' (h : Below w.heap.size w W') => ofMachine_any (valOf a.data.toList + valOf b.data.toList) W' (by omega) (by omega) (HT.out.next h)
      have r1 := resB_small (z := valOf a.data.toList + valOf b.data.toList) (by omega)
      have r2 := resE_small (z := valOf a.data.toList + valOf b.data.toList) (by omega)
      rw [r1, r2]
      have MM := Lib.hid (And.intro m1 (And.intro m2 mo))
      clear m1 m2 mo r1 r2 he k1 k2 ht
      generalize valOf a.data.toList = x at *
      generalize valOf b.data.toList = y at *
      go_enter Tryd.func21, Tryd.ntmps21
      go_wp2_with fail
      refine CB.out.mono ?_
      rintro e w' ⟨rfl, rfl⟩
      clear CB
      go_wp2_with fail
      refine (IS.out.1 _).mono ?_
      rintro e w' ⟨rfl, rfl⟩
      go_wp2_with fail
      refine (IS.out.2 _).mono ?_
      rintro e w' ⟨rfl, rfl⟩
      clear IS
      go_wp2_with fail
      refine (MM.out.1 _).mono ?_
      rintro e w' ⟨rfl, rfl⟩
      go_wp2_with fail
      refine (MM.out.2.1 _).mono ?_
      rintro e w' ⟨rfl, rfl⟩
      go_wp2_with fail
      refine (MM.out.2.2 _ (Below.refl _ _)).mono ?_
      rintro e w' ⟨rfl, hbb⟩
      have HB := Lib.hid hbb; clear hbb MM
      go_wp2
      go_ret2
      exact ⟨rfl, HB.out⟩
    · have rr1 := fun W => read_any a W (by omega) k1
      have rr2 := fun W => read_any b W (by omega) k2
      have RR := Lib.hid (And.intro rr1 rr2)
      have NL := Lib.hid (And.intro (nat_lim k1) (nat_lim k2))
      clear rr1 rr2 he k1 k2 ht
      by_cases hs1 : a.size ≤ 18
      case' pos =>
        have t1 : decide ((a.size : Int) ≤ 18) = true := by simp; omega
        have t2 : decide ((b.size : Int) ≤ 18) = false := by simp; omega
        rw [t1, t2] at IS
        clear q1
        go_enter Tryd.func21, Tryd.ntmps21
        go_wp2_with fail
        refine CB.out.mono ?_
        rintro e w' ⟨rfl, rfl⟩
        clear CB
        go_wp2_with fail
        refine (IS.out.1 _).mono ?_
        rintro e w' ⟨rfl, rfl⟩
        go_wp2_with fail
        refine (IS.out.2 _).mono ?_
        rintro e w' ⟨rfl, rfl⟩
      case' neg =>
        have t1 : decide ((a.size : Int) ≤ 18) = false := by simp; omega
        rw [t1] at IS
        clear q1
        go_enter Tryd.func21, Tryd.ntmps21
        go_wp2_with fail
        refine CB.out.mono ?_
        rintro e w' ⟨rfl, rfl⟩
        clear CB
        go_wp2_with fail
        refine (IS.out.1 _).mono ?_
        rintro e w' ⟨rfl, rfl⟩
      all_goals
        go_wp2_with fail
        refine (RR.out.1 _).mono ?_
        rintro e w1 ⟨va, rfl, hva, _, hb1⟩
        have H1 := Lib.hid (And.intro hva hb1); clear hva hb1
        go_wp2_with fail
        refine (RR.out.2 _).mono ?_
        rintro e w2 ⟨vb, rfl, hvb, _, hb2⟩
        have H2 := Lib.hid (And.intro (H1.out.1.next hb2) (And.intro hvb (H1.out.2.trans (hb2.mono H1.out.2.size)))); clear hvb hb2 H1
        go_wp2_with fail
        refine (plus_any _ _ _ _ _ _ _ H2.out.1 H2.out.2.1 (Nat.le_trans (dg_lim NL.out.1) (by decide)) (Nat.le_trans (dg_lim NL.out.2) (by decide))).mono ?_
        rintro e w4 ⟨neg, n, v, rfl, hv, hz, _, hb4⟩
        have hzz : sgnZ neg n = valOf a.data.toList + valOf b.data.toList := by rw [hz.1, val_sgn, val_sgn]
        have H4 := Lib.hid (And.intro hv (H2.out.2.2.trans (hb4.mono H2.out.2.2.size)))
        have ctx := text_any neg v n w4 hv (Nat.le_trans (dg_sum NL.out.1 NL.out.2 hz.2) (by decide)) (HT.out.next H4.out.2)
        rw [hzz] at ctx
        have CT := Lib.hid ctx
        clear ctx hv hb4 hz hzz
        go_wp2_with fail
        refine CT.out.mono ?_
        rintro e w5 ⟨rfl, hb5⟩
        have HB := Lib.hid (H4.out.2.trans (hb5.mono H4.out.2.size)); clear hb5 H4 CT
        go_wp2
        go_ret2
        exact ⟨rfl, HB.out⟩
  · have hn : (e != 0) = true := by simpa using h0
    rw [outB_bad h0, outE_bad h0]
    clear he ht h0
    go_enter Tryd.func21, Tryd.ntmps21
    go_wp2_with fail
    refine CB.out.mono ?_
    rintro e w' ⟨rfl, rfl⟩
    clear CB
    go_wp2
    go_ret2
    exact ⟨rfl, Below.refl _ _⟩

theorem natOf_take_any (l : List UInt8) (h : ∀ c ∈ l, isDig c = true) : natOf l < 10 ^ l.length := natOf_lt l h
theorem short_prod {a b : ByteArray} (ka : chk a.data.toList = 0) (kb : chk b.data.toList = 0) (h : a.size + b.size ≤ 18) :
    -1000000000000000000 < valOf a.data.toList * valOf b.data.toList ∧ valOf a.data.toList * valOf b.data.toList < 1000000000000000000 := by
  have h1 := natOf_lt _ (chk_dig ka)
  have h2 := natOf_lt _ (chk_dig kb)
  have l1 := szL_length a.data.toList
  have l2 := szL_length b.data.toList
  rw [size_len] at l1 l2
  have h3 : natOf (szL a.data.toList) * natOf (szL b.data.toList) < 10 ^ 18 := by
    refine Nat.lt_of_lt_of_le (Nat.mul_lt_mul'' h1 h2) ?_
    rw [← Nat.pow_add]
    exact Nat.pow_le_pow_right (by decide) (by omega)
  have h4 : (valOf a.data.toList * valOf b.data.toList).natAbs = natOf (szL a.data.toList) * natOf (szL b.data.toList) := by
    rw [Int.natAbs_mul, valOf_szL, valOf_szL]
    congr 1 <;> split <;> simp
  omega

set_option maxHeartbeats 1000000 in
theorem Mul_any (a b : ByteArray) (w : World) (ha : a.size ≤ maxLen) (hb : b.size ≤ maxLen) (ht : Tab w) :
    Calls Tryd.prog 10 #[.string a, .string b] w fun e W' => e = .returned (.tuple #[.string (outB (chk2 a.data.toList b.data.toList) (valOf a.data.toList * valOf b.data.toList)), .int .i64 (outE (chk2 a.data.toList b.data.toList) (valOf a.data.toList * valOf b.data.toList))]) ∧ Below w.heap.size w W' := by
  have cb := checkBoth_any a b w ha hb
  generalize he : chk2 a.data.toList b.data.toList = e at *
  have CB := Lib.hid cb; clear cb
  by_cases h0 : e = 0
  · subst h0
    obtain ⟨k1, k2⟩ := chk2_zero he
    have s1 := chk_size k1
    have s2 := chk_size k2
    have i1 := fun W => isShort_any a W ha
    have i2 := fun W => isShort_any b W hb
    have IS := Lib.hid (And.intro i1 i2); clear i1 i2
    have HT := Lib.hid ht
    rw [outB_ok, outE_ok]
    by_cases hsh : a.size + b.size ≤ 18
    · have hs1 : a.size ≤ 18 := by omega
      have hs2 : b.size ≤ 18 := by omega
      have hsi : (a.size : Int) + b.size ≤ 18 := by omega
      have hprod := short_prod k1 k2 hsh
      have v1 := valOf_short k1 (by rw [size_len]; omega)
      have v2 := valOf_short k2 (by rw [size_len]; omega)
      have m1 := fun W => machine_any a W (by omega) k1
      have m2 := fun W => machine_any b W (by omega) k2
      have mo := fun W' (h : Below w.heap.size w W') => ofMachine_any (valOf a.data.toList * valOf b.data.toList) W' (by omega) (by omega) (HT.out.next h)
      have r1 := resB_small (z := valOf a.data.toList * valOf b.data.toList) (by omega)
      have r2 := resE_small (z := valOf a.data.toList * valOf b.data.toList) (by omega)
      rw [r1, r2]
      have MM := Lib.hid (And.intro m1 (And.intro m2 mo))
      clear m1 m2 mo r1 r2 he k1 k2 ht
      generalize valOf a.data.toList = x at *
      generalize valOf b.data.toList = y at *
      go_enter Tryd.func10, Tryd.ntmps10
      go_wp2_with fail
      refine CB.out.mono ?_
      rintro e w' ⟨rfl, rfl⟩
      clear CB
      go_wp2_with fail
      refine (MM.out.1 _).mono ?_
      rintro e w' ⟨rfl, rfl⟩
      go_wp2_with fail
      refine (MM.out.2.1 _).mono ?_
      rintro e w' ⟨rfl, rfl⟩
      go_wp2_with fail
      refine (MM.out.2.2 _ (Below.refl _ _)).mono ?_
      rintro e w' ⟨rfl, hbb⟩
      have HB := Lib.hid hbb; clear hbb MM
      go_wp2
      go_ret2
      exact ⟨rfl, HB.out⟩
    · have rr1 := fun W => read_any a W (by omega) k1
      have rr2 := fun W => read_any b W (by omega) k2
      have RR := Lib.hid (And.intro rr1 rr2)
      have NL := Lib.hid (And.intro (nat_lim k1) (nat_lim k2))
      clear rr1 rr2 he k1 k2 ht
      have hsi : ¬ (a.size : Int) + b.size ≤ 18 := by omega
      go_enter Tryd.func10, Tryd.ntmps10
      go_wp2_with fail
      refine CB.out.mono ?_
      rintro e w' ⟨rfl, rfl⟩
      clear CB
      go_wp2_with fail
      refine (RR.out.1 _).mono ?_
      rintro e w1 ⟨va, rfl, hva, _, hb1⟩
      have H1 := Lib.hid (And.intro hva hb1); clear hva hb1
      go_wp2_with fail
      refine (RR.out.2 _).mono ?_
      rintro e w2 ⟨vb, rfl, hvb, _, hb2⟩
      have H2 := Lib.hid (And.intro (H1.out.1.next hb2) (And.intro hvb (H1.out.2.trans (hb2.mono H1.out.2.size)))); clear hvb hb2 H1
      go_wp2_with fail
      refine (times_any _ _ _ _ _ _ _ H2.out.1 H2.out.2.1 (Nat.le_trans (dg_lim NL.out.1) (by decide)) (Nat.le_trans (dg_lim NL.out.2) (by decide))).mono ?_
      rintro e w4 ⟨v, rfl, hv, _, hb4⟩
      have hzz : sgnZ (isNeg a.data.toList != isNeg b.data.toList) (natOf (szL a.data.toList) * natOf (szL b.data.toList)) = valOf a.data.toList * valOf b.data.toList := by rw [sgn_mul, val_sgn, val_sgn]
      have H4 := Lib.hid (And.intro hv (H2.out.2.2.trans (hb4.mono H2.out.2.2.size)))
      have ctx := text_any (isNeg a.data.toList != isNeg b.data.toList) v _ w4 hv (Nat.le_trans (dg_mul NL.out.1 NL.out.2) (by decide)) (HT.out.next H4.out.2)
      rw [hzz] at ctx
      have CT := Lib.hid ctx
      clear ctx hv hb4 hzz
      go_wp2_with fail
      refine CT.out.mono ?_
      rintro e w5 ⟨rfl, hb5⟩
      have HB := Lib.hid (H4.out.2.trans (hb5.mono H4.out.2.size)); clear hb5 H4 CT
      go_wp2
      go_ret2
      exact ⟨rfl, HB.out⟩
  · have hn : (e != 0) = true := by simpa using h0
    rw [outB_bad h0, outE_bad h0]
    clear he ht h0
    go_enter Tryd.func10, Tryd.ntmps10
    go_wp2_with fail
    refine CB.out.mono ?_
    rintro e w' ⟨rfl, rfl⟩
    clear CB
    go_wp2
    go_ret2
    exact ⟨rfl, Below.refl _ _⟩
end Go.Proofs.YtajonpcmgebbbaaDoor
