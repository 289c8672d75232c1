/- The walk of Compare. -/
import Derived.Test.YtajonpcmgebbbaaDoorW15
namespace Go.Proofs.YtajonpcmgebbbaaDoor
open Go.RowKit

theorem natOf_cons (c : UInt8) (t : List UInt8) : natOf (c :: t) = (c.toNat - 48) * 10 ^ t.length + natOf t := by
  have h := natOf_append [c] t
  rw [List.singleton_append] at h
  rw [h]
  show (0 * 10 + (c.toNat - 48)) * _ + _ = _
  rw [Nat.zero_mul, Nat.zero_add]
theorem cmpN_cons {x y p q r : Nat} (hp : p < r) (hq : q < r) : cmpN (x * r + p) (y * r + q) = if x < y then -1 else if y < x then 1 else cmpN p q := by
  by_cases h : x < y
  · have h1 : x * r + r ≤ y * r := by rw [← Nat.succ_mul]; exact Nat.mul_le_mul_right r h
    rw [if_pos h, cmpN_lt (by omega)]
  · rw [if_neg h]
    by_cases h2 : y < x
    · have h1 : y * r + r ≤ x * r := by rw [← Nat.succ_mul]; exact Nat.mul_le_mul_right r h2
      rw [if_pos h2, cmpN_gt (by omega)]
    · have : x = y := by omega
      subst this
      rw [if_neg h2]
      unfold cmpN
      simp only [Nat.add_lt_add_iff_left]
theorem cmpBytes : ∀ (l m : List UInt8), l.length = m.length → (∀ c ∈ l, isDig c = true) → (∀ c ∈ m, isDig c = true) → Lib.compareBytes l m = cmpN (natOf l) (natOf m)
  | [], [], _, _, _ => rfl
  | [], _ :: _, h, _, _ => by simp at h
  | _ :: _, [], h, _, _ => by simp at h
  | a :: l, b :: m, h, h1, h2 => by
    have hl : l.length = m.length := by simpa using h
    have ih := cmpBytes l m hl (fun c hc => h1 c (by simp [hc])) (fun c hc => h2 c (by simp [hc]))
    have da := (isDig_iff a).1 (h1 a (by simp))
    have db := (isDig_iff b).1 (h2 b (by simp))
    have p := natOf_lt l (fun c hc => h1 c (by simp [hc]))
    have q := natOf_lt m (fun c hc => h2 c (by simp [hc]))
    rw [natOf_cons, natOf_cons, ← hl, cmpN_cons p (by rw [hl]; exact q), ← ih]
    show (if a < b then (-1 : Int) else if b < a then 1 else Lib.compareBytes l m) = _
    have e1 : (a < b) ↔ (a.toNat - 48 < b.toNat - 48) := by rw [UInt8.lt_iff_toNat_lt]; omega
    have e2 : (b < a) ↔ (b.toNat - 48 < a.toNat - 48) := by rw [UInt8.lt_iff_toNat_lt]; omega
    simp only [e1, e2]
theorem cmp_sizes {l m : List UInt8} {x y : Nat} (hl : l = Lib.decDigits x) (hm : m = Lib.decDigits y) (h : l.length ≠ m.length) : cmpN x y = cmpN l.length m.length := by
  subst hl hm
  rw [Lib.decDigits_length, Lib.decDigits_length] at *
  have key : ∀ u v, Lib.nDigits u < Lib.nDigits v → u < v := fun u v h => by
    have h1 := Lib.lt_pow_nDigits u
    have h2 := (nDigits_le_iff v (Lib.nDigits u) (Lib.nDigits_pos u))
    have h3 : ¬ v < 10 ^ Lib.nDigits u := fun hc => by have := h2.2 hc; omega
    omega
  rcases Nat.lt_or_gt_of_ne h with h | h
  · rw [cmpN_lt h, cmpN_lt (key _ _ h)]
  · rw [cmpN_gt h, cmpN_gt (key _ _ h)]

set_option maxHeartbeats 400000 in
theorem compareSizes_any (a b : ByteArray) (x y : Nat) (w : World) (ha : a.data.toList = Lib.decDigits x) (hb : b.data.toList = Lib.decDigits y) (_sa : a.size ≤ 1000000) (_sb : b.size ≤ 1000000) :
    Calls Tryd.prog 57 #[.string a, .string b] w fun e W' => e = .returned (.int .i64 (cmpN x y)) ∧ w = W' := by
  by_cases hne : a.size = b.size
  · have hc : Lib.compareBytes a.data.toList b.data.toList = cmpN x y := by
      rw [cmpBytes _ _ (by rw [size_len, size_len]; exact hne) (by rw [ha]; exact decDigits_dig x) (by rw [hb]; exact decDigits_dig y), ha, hb, natOf_dec, natOf_dec]
    have HC := Lib.hid hc; clear hc ha hb
    have hq : ((a.size : Int) != b.size) = false := by rw [hne]; simp
    clear hne
    go_enter Tryd.func57, Tryd.ntmps57
    go_wp2_with fail
    refine (Tryd.strings_Compare a b _).mono ?_
    rintro e w' ⟨rfl, rfl⟩
    go_wp2
    go_ret
    exact ⟨ret_int HC.out, rfl⟩
  · have hc : Lib.compareInt (a.size : Int) (b.size : Int) = cmpN x y := by
      rw [cmpInt_eq, cmp_sizes ha hb (by rw [size_len, size_len]; exact hne), size_len, size_len]
    have HC := Lib.hid hc; clear hc ha hb
    have hq : ((a.size : Int) != b.size) = true := by rw [bne_iff_ne]; omega
    clear hne
    go_enter Tryd.func57, Tryd.ntmps57
    go_wp2_with fail
    refine (Tryd.cmp_Compare_int _ _ _).mono ?_
    rintro e w' ⟨rfl, rfl⟩
    go_wp2
    go_ret
    exact ⟨ret_int HC.out, rfl⟩

/-- the order of integers -/
def cmpZ (x y : Int) : Int := if x < y then -1 else if y < x then 1 else 0
theorem szL_dec {l : List UInt8} (h : chk l = 0) : szL l = Lib.decDigits (natOf (szL l)) := by
  have h1 := itoa_valOf l h
  have h2 := szL_itoa (valOf l)
  rw [h1] at h2
  rw [h2, natOf_dec]
theorem isNeg_val {l : List UInt8} (h : chk l = 0) : isNeg l = decide (valOf l < 0) := by
  have := head_itoa_neg (valOf l)
  rwa [itoa_valOf l h] at this
theorem cmpN_Z (x y : Nat) : cmpN x y = cmpZ x y := by
  rcases Nat.lt_trichotomy x y with h | h | h
  · rw [cmpN_lt h]; unfold cmpZ; rw [if_pos (by omega)]
  · rw [cmpN_eq h]; unfold cmpZ; rw [if_neg (by omega), if_neg (by omega)]
  · rw [cmpN_gt h]; unfold cmpZ; rw [if_neg (by omega), if_pos (by omega)]
theorem cmpZ_neg (x y : Int) : cmpZ (-x) (-y) = cmpZ y x := by
  unfold cmpZ
  by_cases h : y < x
  · rw [if_pos (by omega), if_pos h]
  · rw [if_neg (by omega), if_neg h]
    by_cases h2 : x < y
    · rw [if_pos (by omega), if_pos h2]
    · rw [if_neg (by omega), if_neg h2]

set_option maxHeartbeats 1000000 in
theorem Compare_any (a b : ByteArray) (w : World) (ha : a.size ≤ maxLen) (hb : b.size ≤ maxLen) :
    Calls Tryd.prog 22 #[.string a, .string b] w fun e W' => e = .returned (.tuple #[.int .i64 (if chk2 a.data.toList b.data.toList = 0 then cmpZ (valOf a.data.toList) (valOf b.data.toList) else 0), .int .i64 (chk2 a.data.toList b.data.toList)]) ∧ w = W' := by
  have cb := checkBoth_any a b w ha hb
  generalize he : chk2 a.data.toList b.data.toList = e at *
  have CB := Lib.hid cb; clear cb
  by_cases h0 : e = 0
  · subst h0
    rw [if_pos rfl]
    obtain ⟨k1, k2⟩ := chk2_zero he
    have s1 := chk_size k1
    have s2 := chk_size k2
    have NA := Lib.hid (fun W => isNegative_any a W)
    have NB := Lib.hid (fun W => isNegative_any b W)
    have n1 := isNeg_val k1
    have n2 := isNeg_val k2
    have vA := valOf_szL a.data.toList
    have vB := valOf_szL b.data.toList
    have d1 : (szB a).data.toList = Lib.decDigits (natOf (szL a.data.toList)) := by rw [szB_data]; exact szL_dec k1
    have d2 : (szB b).data.toList = Lib.decDigits (natOf (szL b.data.toList)) := by rw [szB_data]; exact szL_dec k2
    have z1 := szB_size a
    have z2 := szB_size b
    cases na : isNeg a.data.toList <;> cases nb : isNeg b.data.toList
    · -- both not negative
      rw [na] at NA n1 vA; rw [nb] at NB n2 vB
      have cs := fun W => compareSizes_any a b (natOf (szL a.data.toList)) (natOf (szL b.data.toList)) W (by rw [← d1]; unfold szB; rw [na]; rfl) (by rw [← d2]; unfold szB; rw [nb]; rfl) (by omega) (by omega)
      have hz : cmpN (natOf (szL a.data.toList)) (natOf (szL b.data.toList)) = cmpZ (valOf a.data.toList) (valOf b.data.toList) := by
        rw [cmpN_Z, vA, vB]; rfl
      have HS := Lib.hid (And.intro cs hz)
      clear n1 n2 vA vB d1 d2 cs hz na nb he k1 k2 z1 z2
      go_enter Tryd.func22, Tryd.ntmps22
      go_wp2_with fail
      refine CB.out.mono ?_
      rintro e w' ⟨rfl, rfl⟩
      go_wp2_with fail
      refine (NA.out _).mono ?_
      rintro e w' ⟨rfl, rfl⟩
      go_wp2_with fail
      refine (NA.out _).mono ?_
      rintro e w' ⟨rfl, rfl⟩
      go_wp2_with fail
      refine (NB.out _).mono ?_
      rintro e w' ⟨rfl, rfl⟩
      go_wp2_with fail
      refine (HS.out.1 _).mono ?_
      rintro e w' ⟨rfl, rfl⟩
      go_wp2
      go_ret2
      exact ⟨ret_two HS.out.2 rfl, rfl⟩
    · rw [na] at NA n1; rw [nb] at NB n2
      have hz : cmpZ (valOf a.data.toList) (valOf b.data.toList) = 1 := by
        have x1 : ¬ valOf a.data.toList < 0 := by simpa using n1.symm
        have x2 : valOf b.data.toList < 0 := by simpa using n2.symm
        unfold cmpZ; rw [if_neg (by omega), if_pos (by omega)]
      have HS := Lib.hid hz
      clear n1 n2 vA vB d1 d2 hz na nb he k1 k2 z1 z2
      go_enter Tryd.func22, Tryd.ntmps22
      go_wp2_with fail
      refine CB.out.mono ?_
      rintro e w' ⟨rfl, rfl⟩
      go_wp2_with fail
      refine (NA.out _).mono ?_
      rintro e w' ⟨rfl, rfl⟩
      go_wp2_with fail
      refine (NA.out _).mono ?_
      rintro e w' ⟨rfl, rfl⟩
      go_wp2_with fail
      refine (NB.out _).mono ?_
      rintro e w' ⟨rfl, rfl⟩
      go_wp2
      go_ret2
      exact ⟨ret_two HS.out.symm rfl, rfl⟩
    · rw [na] at NA n1; rw [nb] at NB n2
      have hz : cmpZ (valOf a.data.toList) (valOf b.data.toList) = -1 := by
        have x1 : valOf a.data.toList < 0 := by simpa using n1.symm
        have x2 : ¬ valOf b.data.toList < 0 := by simpa using n2.symm
        unfold cmpZ; rw [if_pos (by omega)]
      have HS := Lib.hid hz
      clear n1 n2 vA vB d1 d2 hz na nb he k1 k2 z1 z2
      go_enter Tryd.func22, Tryd.ntmps22
      go_wp2_with fail
      refine CB.out.mono ?_
      rintro e w' ⟨rfl, rfl⟩
      go_wp2_with fail
      refine (NA.out _).mono ?_
      rintro e w' ⟨rfl, rfl⟩
      go_wp2_with fail
      refine (NB.out _).mono ?_
      rintro e w' ⟨rfl, rfl⟩
      go_wp2_with fail
      refine (NA.out _).mono ?_
      rintro e w' ⟨rfl, rfl⟩
      go_wp2
      go_ret2
      exact ⟨ret_two HS.out.symm rfl, rfl⟩
    · rw [na] at NA vA; rw [nb] at NB vB
      have cs := fun W => compareSizes_any (szB b) (szB a) (natOf (szL b.data.toList)) (natOf (szL a.data.toList)) W d2 d1 (by omega) (by omega)
      have hz : cmpN (natOf (szL b.data.toList)) (natOf (szL a.data.toList)) = cmpZ (valOf a.data.toList) (valOf b.data.toList) := by
        rw [cmpN_Z, vA, vB, if_pos rfl, if_pos rfl, cmpZ_neg]
      have HS := Lib.hid (And.intro cs hz)
      clear n1 n2 vA vB d1 d2 cs hz na nb he k1 k2 z1 z2
      go_enter Tryd.func22, Tryd.ntmps22
      go_wp2_with fail
      refine CB.out.mono ?_
      rintro e w' ⟨rfl, rfl⟩
      go_wp2_with fail
      refine (NA.out _).mono ?_
      rintro e w' ⟨rfl, rfl⟩
      go_wp2_with fail
      refine (NB.out _).mono ?_
      rintro e w' ⟨rfl, rfl⟩
      go_wp2_with fail
      refine (sizeText_any b _ hb).mono ?_
      rintro e w' ⟨rfl, rfl⟩
      go_wp2_with fail
      refine (sizeText_any a _ ha).mono ?_
      rintro e w' ⟨rfl, rfl⟩
      go_wp2_with fail
      refine (HS.out.1 _).mono ?_
      rintro e w' ⟨rfl, rfl⟩
      go_wp2
      go_ret2
      exact ⟨ret_two HS.out.2 rfl, rfl⟩
  · have hn : (e != 0) = true := by simpa using h0
    rw [if_neg h0]
    clear he h0
    go_enter Tryd.func22, Tryd.ntmps22
    go_wp2_with fail
    refine CB.out.mono ?_
    rintro e w' ⟨rfl, rfl⟩
    clear CB
    go_wp2
    go_ret2
    exact ⟨rfl, rfl⟩
end Go.Proofs.YtajonpcmgebbbaaDoor
