/- Parts of the proof of the text YtilggfeodhfjfaaGreatDoorQR31. -/
import Derived.Lib.TrailingZeros
import Derived.Shelf.Spec.TrailingZeros
import Derived.Lib.MinMax
import Derived.Test.YtilggfeodhfjfaaGreatDoorQR1
import Derived.Test.YtilggfeodhfjfaaGreatDoorQR2
set_option linter.all false
set_option maxRecDepth 100000
set_option maxHeartbeats 8000000
namespace Go.Proofs.YtilggfeodhfjfaaGreatDoor
open Go.RowKit
def tooL : Int := -9223372036854775808
theorem mach_size (a : Int) (w : World) (h0 : -9223372036854775808 < a) (h1 : a ≤ 9223372036854775807) :
   Calls Tryz.prog 219 #[.int .i64 a] w fun e W' => e = .returned (.int .u64 (a.natAbs : Int)) ∧ w = W' := by
 by_cases hn : a < 0
 · go_enter Tryz.func219, Tryz.ntmps219
   go_wp2
   go_ret
   exact ⟨ret_int (by omega), rfl⟩
 · go_enter Tryz.func219, Tryz.ntmps219
   go_wp2
   go_ret
   exact ⟨ret_int (by omega), rfl⟩
theorem mach_neg (a : Int) (w : World) :
   Calls Tryz.prog 298 #[.int .i64 a] w fun e W' => e = .returned (.bool (decide (a < 0))) ∧ w = W' := by
 go_enter Tryz.func298, Tryz.ntmps298
 go_wp2
 go_ret
 exact ⟨rfl, rfl⟩
theorem mach_one (a : Int) (w : World) :
   Calls Tryz.prog 299 #[.int .i64 a] w fun e W' => e = .returned (.bool (a == 1)) ∧ w = W' := by
 go_enter Tryz.func299, Tryz.ntmps299
 go_wp2
 go_ret
 exact ⟨rfl, rfl⟩
theorem mach_opp (a : Int) (w : World) (h0 : -9223372036854775808 < a) (h1 : a ≤ 9223372036854775807) :
   Calls Tryz.prog 301 #[.int .i64 a] w fun e W' => e = .returned (.int .i64 (-a)) ∧ w = W' := by
 go_enter Tryz.func301, Tryz.ntmps301
 go_wp2
 go_ret
 exact ⟨ret_int (by omega), rfl⟩
theorem mach_err (a : Int) (w : World) :
   Calls Tryz.prog 297 #[.int .i64 a] w fun e W' => e = .returned (.int .i64 (if a = tooL then 4 else 0)) ∧ w = W' := by
 by_cases h : a = tooL
 · rw [if_pos h]
   unfold tooL at h; subst h
   go_enter Tryz.func297, Tryz.ntmps297
   go_wp2
   go_ret
   exact ⟨rfl, rfl⟩
 · rw [if_neg h]
   unfold tooL at h
   go_enter Tryz.func297, Tryz.ntmps297
   go_wp2
   go_ret
   exact ⟨rfl, rfl⟩
theorem mach_over (a b : Int) (w : World) (h0 : -9223372036854775808 < a) (h1 : a ≤ 9223372036854775807) (hb : 0 < b) (h2 : b ≤ 9223372036854775807) :
   Calls Tryz.prog 302 #[.int .i64 a, .int .i64 b] w fun e W' => e = .returned (.int .i64 (a.tdiv b)) ∧ w = W' := by
 have hb0 : ¬ b = 0 := by omega
 have hb1 : (b == 0) = false := by simpa using hb0
 go_enter Tryz.func302, Tryz.ntmps302
 go_wp2
 go_ret
 exact ⟨ret_int (by omega), rfl⟩
theorem mach_plus (a b : Int) (w : World) (h0 : -9223372036854775808 < a) (h1 : a ≤ 9223372036854775807) (h2 : -9223372036854775808 < b) (h3 : b ≤ 9223372036854775807)
   (h4 : -9223372036854775808 < a + b) (h5 : a + b ≤ 9223372036854775807) :
   Calls Tryz.prog 303 #[.int .i64 a, .int .i64 b] w fun e W' => e = .returned (.int .i64 (a + b)) ∧ w = W' := by
 have n1 : (a == -9223372036854775808) = false := by simp; omega
 have n2 : (b == -9223372036854775808) = false := by simp; omega
 go_enter Tryz.func303, Tryz.ntmps303
 go_wp2
 go_ret
 exact ⟨ret_int (by omega), rfl⟩
theorem mach_plus1 (b : Int) (w : World) :
   Calls Tryz.prog 303 #[.int .i64 tooL, .int .i64 b] w fun e W' => e = .returned (.int .i64 tooL) ∧ w = W' := by
 unfold tooL
 go_enter Tryz.func303, Tryz.ntmps303
 go_wp2
 go_ret
 exact ⟨rfl, rfl⟩
theorem mach_plus2 (a : Int) (w : World) :
   Calls Tryz.prog 303 #[.int .i64 a, .int .i64 tooL] w fun e W' => e = .returned (.int .i64 tooL) ∧ w = W' := by
 by_cases h : a = -9223372036854775808
 · subst h
   exact mach_plus1 _ w
 · unfold tooL
   go_enter Tryz.func303, Tryz.ntmps303
   go_wp2
   go_ret
   exact ⟨rfl, rfl⟩
def timesM (a b : Int) : Int := if (a * b).natAbs < 4611686018427387904 then a * b else tooL
theorem mach_times (a b : Int) (w : World) (h0 : -9223372036854775808 < a) (h1 : a ≤ 9223372036854775807) (h2 : -9223372036854775808 < b) (h3 : b ≤ 9223372036854775807) :
   Calls Tryz.prog 304 #[.int .i64 a, .int .i64 b] w fun e W' => e = .returned (.int .i64 (timesM a b)) ∧ w = W' := by
 have ca := fun W => mach_size a W h0 h1
 have cb := fun W => mach_size b W h2 h3
 have cm := fun W => Tryz.bits_Mul64 a.natAbs b.natAbs (by omega) (by omega) W
 have hab : (a * b).natAbs = a.natAbs * b.natAbs := Int.natAbs_mul a b
 have C := Lib.hid (And.intro ca (And.intro cb cm))
 clear ca cb cm
 generalize hx : a.natAbs * b.natAbs = x at *
 by_cases hb : 18446744073709551616 ≤ x
 · have e1 : timesM a b = tooL := if_neg (by omega)
   have d1 : ((x / 18446744073709551616 : Nat) : Int) ≠ 0 := by omega
   rw [e1]; unfold tooL
   have D := Lib.hid d1
   clear hx hab hb e1
   generalize x / 18446744073709551616 = hi at *
   generalize x % 18446744073709551616 = lo at *
   go_enter Tryz.func304, Tryz.ntmps304
   go_wp2_with fail
   refine (C.out.1 _).mono ?_
   rintro e w' ⟨rfl, rfl⟩
   go_wp2_with fail
   refine (C.out.2.1 _).mono ?_
   rintro e w' ⟨rfl, rfl⟩
   go_wp2_with fail
   refine (C.out.2.2 _).mono ?_
   rintro e w' ⟨rfl, rfl⟩
   go_wp2
   go_ret
   exact ⟨rfl, rfl⟩
 · have d1 : x / 18446744073709551616 = 0 := by omega
   have d2 : x % 18446744073709551616 = x := by omega
   rw [d1, d2] at C
   by_cases hs : 4611686018427387904 ≤ x
   · have e1 : timesM a b = tooL := if_neg (by omega)
     rw [e1]; unfold tooL
     have hs' : (4611686018427387904 : Int) ≤ (x : Int) := by omega
     clear hx hab hb e1 d1 d2
     go_enter Tryz.func304, Tryz.ntmps304
     go_wp2_with fail
     refine (C.out.1 _).mono ?_
     rintro e w' ⟨rfl, rfl⟩
     go_wp2_with fail
     refine (C.out.2.1 _).mono ?_
     rintro e w' ⟨rfl, rfl⟩
     go_wp2_with fail
     refine (C.out.2.2 _).mono ?_
     rintro e w' ⟨rfl, rfl⟩
     go_wp2
     go_ret
     exact ⟨rfl, rfl⟩
   · have e1 : timesM a b = a * b := if_pos (by omega)
     rw [e1]
     have hs' : ¬ (4611686018427387904 : Int) ≤ (x : Int) := by omega
     have l1 : -9223372036854775808 ≤ a * b := by omega
     have l2 : a * b ≤ 9223372036854775807 := by omega
     clear hx hab hb e1 d1 d2 hs
     generalize (x : Int) = X at *
     go_enter Tryz.func304, Tryz.ntmps304
     go_wp2_with fail
     refine (C.out.1 _).mono ?_
     rintro e w' ⟨rfl, rfl⟩
     go_wp2_with fail
     refine (C.out.2.1 _).mono ?_
     rintro e w' ⟨rfl, rfl⟩
     go_wp2_with fail
     refine (C.out.2.2 _).mono ?_
     rintro e w' ⟨rfl, rfl⟩
     go_wp2
     go_ret
     exact ⟨ret_int (by omega), rfl⟩
end Go.Proofs.YtilggfeodhfjfaaGreatDoor
namespace Go.Proofs.YtilggfeodhfjfaaGreatDoor
open Go.Lib
theorem ctz_spec {x : Nat} (h0 : x ≠ 0) (h : x < 18446744073709551616) : ∃ m, x = 2 ^ ctz 64 x * (2 * m + 1) ∧ ctz 64 x < 64 := by
 obtain ⟨m, h1, h2⟩ := ctzFrom_spec 64 x (by omega) (by simpa using h)
 exact ⟨m, by unfold ctz; rw [if_neg h0]; exact h1, by unfold ctz; rw [if_neg h0]; exact h2⟩
theorem odd_cop (k m : Nat) : Nat.Coprime (2 ^ k) (2 * m + 1) := by
 refine Nat.Coprime.pow_left k ?_
 unfold Nat.Coprime
 rw [Nat.gcd_rec, show (2 * m + 1) % 2 = 1 by omega]; rfl
theorem gcd_odd (m k n : Nat) : Nat.gcd (2 * m + 1) (2 ^ k * n) = Nat.gcd (2 * m + 1) n := by
 rw [Nat.gcd_comm, Nat.Coprime.gcd_mul_left_cancel n (odd_cop k m), Nat.gcd_comm]
theorem shr_odd {x : Nat} (h0 : x ≠ 0) (h : x < 18446744073709551616) : ∃ m, x / 2 ^ ctz 64 x = 2 * m + 1 ∧ x = 2 ^ ctz 64 x * (2 * m + 1) := by
 obtain ⟨m, h1, _⟩ := ctz_spec h0 h
 refine ⟨m, ?_, h1⟩
 have : x / 2 ^ ctz 64 x = (2 ^ ctz 64 x * (2 * m + 1)) / 2 ^ ctz 64 x := congrArg (· / 2 ^ ctz 64 x) h1
 rw [this, Nat.mul_div_cancel_left _ (Nat.pow_pos (by decide))]
theorem dvd_ctz {x k m c : Nat} (h : x = 2 ^ c * (2 * m + 1)) : 2 ^ k ∣ x ↔ k ≤ c := by
 constructor
 · intro hd
   rcases Nat.lt_or_ge c k with q | q
   · exfalso
     have h1 : 2 ^ (c + 1) ∣ 2 ^ c * (2 * m + 1) := by rw [← h]; exact Nat.dvd_trans (Nat.pow_dvd_pow 2 q) hd
     rw [Nat.pow_succ] at h1
     have := Nat.dvd_of_mul_dvd_mul_left (Nat.pow_pos (by decide)) h1
     omega
   · exact q
 · intro q
   rw [h]; exact Nat.dvd_trans (Nat.pow_dvd_pow 2 q) (Nat.dvd_mul_right _ _)
theorem dvd_or (x y k : Nat) : 2 ^ k ∣ (x ||| y) ↔ 2 ^ k ∣ x ∧ 2 ^ k ∣ y := by
 rw [Nat.dvd_iff_mod_eq_zero, Nat.dvd_iff_mod_eq_zero, Nat.dvd_iff_mod_eq_zero, Nat.or_mod_two_pow, Nat.or_eq_zero_iff]
theorem ctz_or {x y : Nat} (hx : x ≠ 0) (hy : y ≠ 0) (h : x < 18446744073709551616) (h' : y < 18446744073709551616) : ctz 64 (x ||| y) = min (ctz 64 x) (ctz 64 y) := by
 obtain ⟨m, h1, _⟩ := ctz_spec hx h
 obtain ⟨n, h2, _⟩ := ctz_spec hy h'
 have h3 : x ||| y ≠ 0 := fun q => hx (Nat.or_eq_zero_iff.1 q).1
 obtain ⟨l, h4, _⟩ := ctz_spec h3 (Nat.or_lt_two_pow (n := 64) h h')
 have hk : ∀ k, k ≤ ctz 64 (x ||| y) ↔ k ≤ ctz 64 x ∧ k ≤ ctz 64 y := fun k => by
   rw [← dvd_ctz h4, dvd_or, dvd_ctz h1, dvd_ctz h2]
 have a := (hk (ctz 64 (x ||| y))).1 (Nat.le_refl _)
 have b := (hk (min (ctz 64 x) (ctz 64 y))).2 ⟨Nat.min_le_left _ _, Nat.min_le_right _ _⟩
 omega
theorem bin_start {x y : Nat} (hx : x ≠ 0) (hy : y ≠ 0) (h : x < 18446744073709551616) (h' : y < 18446744073709551616) :
   Nat.gcd x y = Nat.gcd (x / 2 ^ ctz 64 x) y * 2 ^ ctz 64 (x ||| y) := by
 obtain ⟨m, h1, h2⟩ := shr_odd hx h
 obtain ⟨n, _, h4⟩ := shr_odd hy h'
 rw [ctz_or hx hy h h', h1]
 generalize ctz 64 x = a at *
 generalize ctz 64 y = b at *
 subst h2; subst h4
 rw [gcd_odd]
 rcases Nat.le_total a b with q | q
 · obtain ⟨c, rfl⟩ := Nat.exists_eq_add_of_le q
   rw [Nat.min_eq_left q, Nat.pow_add, Nat.mul_assoc, Nat.gcd_mul_left, gcd_odd, Nat.mul_comm]
 · obtain ⟨c, rfl⟩ := Nat.exists_eq_add_of_le q
   rw [Nat.min_eq_right q, Nat.pow_add, Nat.mul_assoc, Nat.gcd_mul_left, Nat.Coprime.gcd_mul_left_cancel _ (odd_cop c n), Nat.mul_comm]
theorem bin_round {x y : Nat} (hx : x % 2 = 1) (hy : y ≠ 0) (h' : y < 18446744073709551616) :
   Nat.gcd (min x (y / 2 ^ ctz 64 y)) (max x (y / 2 ^ ctz 64 y) - min x (y / 2 ^ ctz 64 y)) = Nat.gcd x y ∧ min x (y / 2 ^ ctz 64 y) % 2 = 1 ∧
     min x (y / 2 ^ ctz 64 y) + (max x (y / 2 ^ ctz 64 y) - min x (y / 2 ^ ctz 64 y)) < x + y ∧ y / 2 ^ ctz 64 y ≤ y := by
 obtain ⟨n, h3, h4⟩ := shr_odd hy h'
 have h5 : y / 2 ^ ctz 64 y ≤ y := Nat.div_le_self _ _
 have h6 : Nat.gcd x y = Nat.gcd x (y / 2 ^ ctz 64 y) := by
   rw [h3]
   conv => lhs; rw [h4]
   obtain ⟨m, rfl⟩ : ∃ m, x = 2 * m + 1 := ⟨x / 2, by omega⟩
   exact gcd_odd _ _ _
 rw [h6]
 generalize y / 2 ^ ctz 64 y = z at *
 rcases Nat.le_total x z with q | q
 · rw [Nat.min_eq_left q, Nat.max_eq_right q]
   exact ⟨Nat.gcd_sub_self_right q, hx, by omega, h5⟩
 · rw [Nat.min_eq_right q, Nat.max_eq_left q]
   exact ⟨by rw [Nat.gcd_sub_self_right q, Nat.gcd_comm], by omega, by omega, h5⟩
end Go.Proofs.YtilggfeodhfjfaaGreatDoor
namespace Go.Proofs.YtilggfeodhfjfaaGreatDoor
open Go.RowKit
def Tab64 (w : World) : Prop := TabAt 4 Lib.deBruijn64tab w
theorem tz_core (x k idx : Nat) (w : World) (hx0 : ((x : Int) == 0) = false)
   (key : IntKind.u64.wrap (bits BinOp.and IntKind.u64 (x : Int) (IntKind.u64.wrap (-(x : Int))) * 285870213051353865) / 288230376151711744 = (idx : Int))
   (hi : idx < 64) (hk : k < 64) (hcell : w.cell? ⟨4, idx, none⟩ = some (.int .u8 k)) :
   Calls Tryz.prog 220 #[.int .u64 x] w fun e w' => e = .returned (.int .i64 k) ∧ w = w' := by
 go_enter Tryz.func220, Tryz.ntmps220
 go_wp2_with (simp only [key])
 go_ret
 exact ⟨rfl, rfl⟩
theorem tz_any (x : Nat) (w : World) (h0 : x ≠ 0) (hx : x < 18446744073709551616) (ht : Tab64 w) :
   Calls Tryz.prog 220 #[.int .u64 x] w fun e w' => e = .returned (.int .i64 (Lib.ctz 64 x : Nat)) ∧ w = w' := by
 obtain ⟨hlow, hk⟩ := Lib.lowest_bit 64 x h0 hx
 obtain ⟨hi, htab⟩ := Lib.deBruijn64_at _ hk
 have hcell := ht _ hi
 rw [htab] at hcell
 exact tz_core x _ _ w (by simp; omega) (tz64_key x _ hx h0 hlow) hi hk hcell
theorem bits_or_nat (a b : Nat) (ha : a < 18446744073709551616) (hb : b < 18446744073709551616) : bits .or .u64 (a : Int) (b : Int) = ((a ||| b : Nat) : Int) := by
 have hx : a ||| b < 2 ^ 64 := Nat.or_lt_two_pow ha hb
 have h1 : (BitVec.ofInt 64 (a : Int)).toNat = a := by
   rw [BitVec.ofInt_natCast, BitVec.toNat_ofNat]; exact Nat.mod_eq_of_lt (by omega)
 have h2 : (BitVec.ofInt 64 (b : Int)).toNat = b := by
   rw [BitVec.ofInt_natCast, BitVec.toNat_ofNat]; exact Nat.mod_eq_of_lt (by omega)
 show IntKind.u64.wrap ((BitVec.ofInt 64 (a : Int) ||| BitVec.ofInt 64 (b : Int)).toNat : Int) = _
 rw [BitVec.toNat_or, h1, h2, IntKind.wrap_u64]
 omega
theorem mach_divisor (a b : Int) (w : World) (h0 : -9223372036854775808 < a) (h1 : a ≤ 9223372036854775807) (h2 : -9223372036854775808 < b) (h3 : b ≤ 9223372036854775807) (ht : Tab64 w) :
   Calls Tryz.prog 185 #[.int .i64 a, .int .i64 b] w fun e W' => e = .returned (.int .i64 (Nat.gcd a.natAbs b.natAbs : Nat)) ∧ w = W' := by
 have ca := fun W => mach_size a W h0 h1
 have cb := fun W => mach_size b W h2 h3
 have ha : a.natAbs < 9223372036854775808 := by omega
 have hb : b.natAbs < 9223372036854775808 := by omega
 have C := Lib.hid (And.intro ca cb)
 have HT := Lib.hid ht
 clear ca cb h0 h1 h2 h3 ht
 generalize a.natAbs = x at *
 generalize b.natAbs = y at *
 by_cases hz : x = 0 ∨ y = 0
 · have hg : ((Nat.gcd x y : Nat) : Int) = (x : Int) + (y : Int) := by
     rcases hz with h | h
     · subst h; rw [Nat.gcd_zero_left]; simp
     · subst h; rw [Nat.gcd_zero_right]; simp
   rw [hg]
   have hs1 : (x : Int) + (y : Int) ≤ 9223372036854775807 := by rcases hz with h | h <;> omega
   by_cases hx : x = 0
   · have hx' : ((x : Int) == 0) = true := by simp [hx]
     clear hg hz
     go_enter Tryz.func185, Tryz.ntmps185
     go_wp2_with fail
     refine (C.out.1 _).mono ?_
     rintro e w' ⟨rfl, rfl⟩
     go_wp2_with fail
     refine (C.out.2 _).mono ?_
     rintro e w' ⟨rfl, rfl⟩
     go_wp2
     go_ret
     exact ⟨ret_int (by omega), rfl⟩
   · have hx' : ((x : Int) == 0) = false := by simp [hx]
     have hy' : ((y : Int) == 0) = true := by have := hz.resolve_left hx; simp [this]
     clear hg hz
     go_enter Tryz.func185, Tryz.ntmps185
     go_wp2_with fail
     refine (C.out.1 _).mono ?_
     rintro e w' ⟨rfl, rfl⟩
     go_wp2_with fail
     refine (C.out.2 _).mono ?_
     rintro e w' ⟨rfl, rfl⟩
     go_wp2
     go_ret
     exact ⟨ret_int (by omega), rfl⟩
 · have hx : x ≠ 0 := fun h => hz (.inl h)
   have hy : y ≠ 0 := fun h => hz (.inr h)
   have hx' : ((x : Int) == 0) = false := by simp [hx]
   have hy' : ((y : Int) == 0) = false := by simp [hy]
   have hor : bits BinOp.or IntKind.u64 (x : Int) (y : Int) = ((x ||| y : Nat) : Int) := bits_or_nat x y (by omega) (by omega)
   have ct := fun W (h : Tab64 W) => tz_any (x ||| y) W (fun q => hx (Nat.or_eq_zero_iff.1 q).1) (Nat.or_lt_two_pow (n := 64) (by omega) (by omega)) h
   have cx := fun W (h : Tab64 W) => tz_any x W hx (by omega) h
   have hst := bin_start hx hy (by omega) (by omega)
   have hmx : ∃ m, x / 2 ^ Lib.ctz 64 x = 2 * m + 1 := by obtain ⟨m, h, _⟩ := shr_odd hx (by omega); exact ⟨m, h⟩
   have HGL := Lib.hid (show Nat.gcd x y < 9223372036854775808 from Nat.lt_of_le_of_lt (Nat.gcd_le_left _ (by omega)) ha)
   have hle : x / 2 ^ Lib.ctz 64 x ≤ x := Nat.div_le_self _ _
   have hcx : Lib.ctz 64 x < 64 := by obtain ⟨_, _, h⟩ := ctz_spec hx (by omega); exact h
   have htt : Lib.ctz 64 (x ||| y) < 64 := by obtain ⟨_, _, h⟩ := ctz_spec (x := x ||| y) (fun q => hx (Nat.or_eq_zero_iff.1 q).1) (Nat.or_lt_two_pow (n := 64) (by omega) (by omega)); exact h
   have HT2 := Lib.hid (And.intro ct cx)
   clear ct cx hz hx hy
   generalize Lib.ctz 64 (x ||| y) = t at *
   have HST := Lib.hid (And.intro hst (And.intro hmx (And.intro hle (And.intro hcx htt))))
   clear hst hmx hle hor hcx htt
   have HOR := Lib.hid (bits_or_nat x y (by omega) (by omega))
   generalize x ||| y = xy at *
   go_enter Tryz.func185, Tryz.ntmps185
   go_wp2_with fail
   refine (C.out.1 _).mono ?_
   rintro e w' ⟨rfl, rfl⟩
   have HX := Lib.hid (And.intro hx' (And.intro hy' (And.intro ha hb)))
   clear ha hb hx' hy'
   go_wp2_with fail
   refine (C.out.2 _).mono ?_
   rintro e w' ⟨rfl, rfl⟩
   clear C
   have hx' := HX.out.1
   have hy' := HX.out.2.1
   have hor := HOR.out
   go_wp2_with fail
   refine (HT2.out.1 _ HT.out).mono ?_
   rintro e w' ⟨rfl, rfl⟩
   clear hor hx' hy'
   go_wp2_with fail
   refine (HT2.out.2 _ HT.out).mono ?_
   rintro e w' ⟨rfl, rfl⟩
   clear HT2
   generalize Lib.ctz 64 x = cx at *
   go_wp2_with fail
   have hst := HST.out
   have hmin : min cx 64 = cx := by have := hst.2.2.2.1; omega
   have e0 : ((x : Int) / 2 ^ cx) = ((x / 2 ^ cx : Nat) : Int) := by simp
   rw [hmin, e0]
   clear e0 hmin
   have HT64 := Lib.hid hst.2.2.2.2
   clear HST
   generalize hz : x / 2 ^ cx = z at *
   have HG := Lib.hid hst.1
   obtain ⟨m, hm⟩ := hst.2.1
   have hzl := hst.2.2.1
   have hx := HX.out.2.2.1
   have hyl := HX.out.2.2.2
   clear hst hz HX
   have HZ := Lib.hid (show z % 2 = 1 ∧ z < 9223372036854775808 ∧ y < 9223372036854775808 by omega)
   clear hx hyl hzl hm m
   go_loop [5, 6] (fun u v => ∃ X Y : Nat, u = .int .u64 X ∧ v = .int .u64 Y ∧ Hid (X % 2 = 1 ∧ X < 9223372036854775808 ∧ Y < 9223372036854775808) ∧ Hid (Nat.gcd X Y = Nat.gcd z y)) (fun u v => (intOf u + intOf v).toNat)
   case atStart => exact ⟨z, y, rfl, rfl, HZ, rfl⟩
   case round =>
     obtain ⟨X, Y, rfl, rfl, hb, hg⟩ := hrel
     by_cases hY : Y = 0
     · have hY' : ((Y : Int) == 0) = true := by simp [hY]
       have hgg := hg.out
       rw [hY, Nat.gcd_zero_right] at hgg
       have hfin : X * 2 ^ t = Nat.gcd x y := by rw [HG.out, ← hgg]
       have hlt : X * 2 ^ t < 9223372036854775808 := by
         rw [hfin]; exact HGL.out
       have HF := Lib.hid (And.intro hfin hlt)
       clear hfin hlt hgg hY
       go_wp2
       go_ret
       refine ⟨ret_int ?_, rfl⟩
       have h1 := HF.out.1
       have h2 := HF.out.2
       have hm : min t 64 = t := by have := HT64.out; omega
       rw [hm, show ((X : Int) * 2 ^ t) = ((X * 2 ^ t : Nat) : Int) by simp, ← h1]
       generalize X * 2 ^ t = g at *
       rw [IntKind.wrap_u64]
       unfold wrap64
       omega
     · have hY' : ((Y : Int) == 0) = false := by simp [hY]
       have hr := bin_round hb.out.1 hY (by have := hb.out.2.2; omega)
       have ct := tz_any Y w hY (by have := hb.out.2.2; omega) HT.out
       have hc64 : Lib.ctz 64 Y < 64 := by obtain ⟨_, _, h⟩ := ctz_spec hY (by have := hb.out.2.2; omega); exact h
       have HR := Lib.hid (And.intro hr (And.intro ct hc64))
       clear hr ct hc64
       generalize Lib.ctz 64 Y = cy at *
       go_wp2_with fail
       refine HR.out.2.1.mono ?_
       rintro e w' ⟨rfl, rfl⟩
       obtain ⟨⟨r1, r2, r3, r4⟩, _, hc64⟩ := HR.out
       obtain ⟨Z, hZ⟩ : ∃ Z, Y / 2 ^ cy = Z := ⟨_, rfl⟩
       have e1 : (Y : Int) / 2 ^ min cy 64 = (Z : Int) := by rw [show min cy 64 = cy by omega, ← hZ]; simp
       rw [hZ] at r1 r2 r3 r4
       have hX1 := hb.out.2.1
       have hY1 := hb.out.2.2
       have hX0 := hb.out.1
       by_cases hxz : X ≤ Z
       · rw [Nat.min_eq_left hxz] at r1 r2 r3
         rw [Nat.max_eq_right hxz] at r1 r3
         have emin : min (X : Int) (Z : Int) = X := by omega
         have emax : max (X : Int) (Z : Int) = Z := by omega
         have HQ := Lib.hid (And.intro (r1.trans hg.out) r3)
         have HW := Lib.hid (show X % 2 = 1 ∧ X < 9223372036854775808 ∧ Z - X < 9223372036854775808 by omega)
         have esub : IntKind.u64.wrap ((Z : Int) - (X : Int)) = ((Z - X : Nat) : Int) := by rw [IntKind.wrap_u64]; omega
         have HS := Lib.hid hxz
         clear r1 r2 r3 r4 hZ HR hb hg hX0 hX1 hY1 hc64 hxz
         go_wp2
         go_round
         case rel => exact ⟨X, Z - X, rfl, by go_num, HW, HQ.out.1⟩
         case measure => have := HQ.out.2; have := HS.out; simp [intOf]; omega
       · have hxz : Z ≤ X := by omega
         rw [Nat.min_eq_right hxz] at r1 r2 r3
         rw [Nat.max_eq_left hxz] at r1 r3
         have emin : min (X : Int) (Z : Int) = Z := by omega
         have emax : max (X : Int) (Z : Int) = X := by omega
         have HQ := Lib.hid (And.intro (r1.trans hg.out) r3)
         have HW := Lib.hid (show Z % 2 = 1 ∧ Z < 9223372036854775808 ∧ X - Z < 9223372036854775808 by omega)
         have esub : IntKind.u64.wrap ((X : Int) - (Z : Int)) = ((X - Z : Nat) : Int) := by rw [IntKind.wrap_u64]; omega
         have HS := Lib.hid hxz
         clear r1 r2 r3 r4 hZ HR hb hg hX0 hX1 hY1 hc64 hxz
         go_wp2
         go_round
         case rel => exact ⟨Z, X - Z, rfl, by go_num, HW, HQ.out.1⟩
         case measure => have := HQ.out.2; have := HS.out; simp [intOf]; omega
end Go.Proofs.YtilggfeodhfjfaaGreatDoor
namespace Go.Proofs.YtilggfeodhfjfaaGreatDoor
open Go.ChangeShapes Go.WideShapes Go.ChangeAt Go.RowKit
theorem gTab64 : Tryz.prog.globalNamed "math/bits.deBruijn64tab" = some 4 := by kernel_rfl
theorem laid64_tab : (Rows.laid_math_bits_deBruijn64tab : DataW Unit) = Lib.tabData .u8 (Lib.deBruijn64tab.map fun n : Nat => (n : Int)) := rfl
theorem tab64_of {W : World} (h : Lib.TabIs Tryz.prog W "math/bits.deBruijn64tab" .u8 (Lib.deBruijn64tab.map fun n : Nat => (n : Int))) : Tab64 W := by
 intro j hj
 unfold Lib.TabIs World.var? at h
 rw [gTab64] at h
 unfold World.cell?
 cases hh : W.heap[4]? with
 | none => simp [hh] at h
 | some o =>
   cases o with
   | cells cs t f =>
     have h1 : some cs = some ((Lib.deBruijn64tab.map fun n : Nat => (n : Int)).map fun z => Value.int .u8 z).toArray := by
       rw [← h]; simp only [Option.bind_some, hh]
     have h2 := Option.some.inj h1
     subst h2
     have hj' : j < 64 := hj
     simp only [List.map_map, List.getElem?_toArray, List.getElem?_map]
     rw [List.getD_eq_getElem?_getD, List.getElem?_eq_getElem hj]
     rfl
   | _ => simp [hh] at h
section
variable {H : Type} {enc : TypeId × Value → H} {P : Program} {w : World} {base : Nat} {spare : Nat → Bool} {held : Bool}
end
end Go.Proofs.YtilggfeodhfjfaaGreatDoor
namespace Go.Proofs.YtilggfeodhfjfaaGreatDoor
def B : Nat := 1000000000
theorem B_eq : B = 1000000000 := rfl
theorem B_pos : 0 < B := by decide
def toN : List Nat → Nat
 | [] => 0
 | d :: r => d + B * toN r
def Dig (l : List Nat) : Prop := ∀ x ∈ l, x < 1000000000
theorem Dig.nil : Dig [] := fun _ h => by cases h
theorem Dig.cons {d : Nat} {l : List Nat} (h : d < 1000000000) (hl : Dig l) : Dig (d :: l) := fun x hx => by
 rcases List.mem_cons.1 hx with rfl | hx
 · exact h
 · exact hl x hx
theorem Dig.head {d : Nat} {l : List Nat} (h : Dig (d :: l)) : d < 1000000000 := h d (by simp)
theorem Dig.tail {d : Nat} {l : List Nat} (h : Dig (d :: l)) : Dig l := fun x hx => h x (by simp [hx])
theorem Dig.take {l : List Nat} (h : Dig l) (k : Nat) : Dig (l.take k) := fun x hx => h x (List.mem_of_mem_take hx)
theorem Dig.drop {l : List Nat} (h : Dig l) (k : Nat) : Dig (l.drop k) := fun x hx => h x (List.mem_of_mem_drop hx)
theorem Dig.append {l m : List Nat} (h : Dig l) (h' : Dig m) : Dig (l ++ m) := fun x hx => by
 rcases List.mem_append.1 hx with hx | hx
 · exact h x hx
 · exact h' x hx
theorem Dig.one {d : Nat} (h : d < 1000000000) : Dig [d] := Dig.cons h Dig.nil
theorem Dig.getD {l : List Nat} (h : Dig l) (i : Nat) : l.getD i 0 < 1000000000 := by
 by_cases hi : i < l.length
 · rw [List.getD_eq_getElem?_getD, List.getElem?_eq_getElem hi]; exact h _ (List.getElem_mem _)
 · rw [List.getD_eq_getElem?_getD, List.getElem?_eq_none (by omega)]; simp
theorem Dig.replicate (k : Nat) : Dig (List.replicate k 0) := fun x hx => by
 rw [(List.mem_replicate.1 hx).2]; decide
theorem toN_append (l m : List Nat) : toN (l ++ m) = toN l + B ^ l.length * toN m := by
 induction l with
 | nil => simp [toN]
 | cons d r ih =>
   simp only [List.cons_append, toN, ih, List.length_cons, Nat.pow_succ]
   rw [Nat.mul_add, Nat.add_assoc, ← Nat.mul_assoc, Nat.mul_comm B (B ^ r.length)]
theorem toN_snoc (l : List Nat) (d : Nat) : toN (l ++ [d]) = toN l + B ^ l.length * d := by
 rw [toN_append]; simp [toN]
theorem toN_replicate (k : Nat) : toN (List.replicate k 0) = 0 := by
 induction k with
 | zero => rfl
 | succ k ih => rw [List.replicate_succ]; simp [toN, ih]
theorem toN_lt {l : List Nat} (h : Dig l) : toN l < B ^ l.length := by
 induction l with
 | nil => simp [toN]
 | cons d r ih =>
   have h1 := ih h.tail
   have h2 := h.head
   rw [toN, List.length_cons, Nat.pow_succ, Nat.mul_comm (B ^ r.length) B]
   have h3 : B * toN r + B ≤ B * B ^ r.length := by
     rw [← Nat.mul_succ]; exact Nat.mul_le_mul_left B h1
   rw [B_eq] at *
   omega
theorem take_succ_getD (l : List Nat) (k : Nat) (h : k < l.length) : l.take (k + 1) = l.take k ++ [l.getD k 0] := by
 rw [List.take_succ_eq_append_getElem h, List.getD_eq_getElem?_getD, List.getElem?_eq_getElem h]; rfl
theorem toN_take_succ (l : List Nat) (k : Nat) (h : k < l.length) : toN (l.take (k + 1)) = toN (l.take k) + B ^ k * l.getD k 0 := by
 rw [take_succ_getD l k h, toN_snoc, List.length_take, Nat.min_eq_left (by omega)]
def dg (n : Nat) : List Nat := if _h : n = 0 then [] else n % B :: dg (n / B)
termination_by n
decreasing_by exact Nat.div_lt_self (by omega) (by decide)
theorem dg_zero : dg 0 = [] := by rw [dg]; rfl
theorem dg_pos {n : Nat} (h : n ≠ 0) : dg n = n % B :: dg (n / B) := by rw [dg, dif_neg h]
theorem toN_dg (n : Nat) : toN (dg n) = n := by
 induction n using Nat.strongRecOn with
 | _ n ih =>
   by_cases h : n = 0
   · subst h; rw [dg_zero]; rfl
   · rw [dg_pos h, toN, ih (n / B) (Nat.div_lt_self (by omega) (by decide))]
     exact Nat.mod_add_div n B
theorem dg_Dig (n : Nat) : Dig (dg n) := by
 induction n using Nat.strongRecOn with
 | _ n ih =>
   by_cases h : n = 0
   · subst h; rw [dg_zero]; exact Dig.nil
   · rw [dg_pos h]
     exact Dig.cons (Nat.mod_lt _ (by decide)) (ih (n / B) (Nat.div_lt_self (by omega) (by decide)))
theorem toN_pos_of_last {l : List Nat} (hne : l ≠ []) (hl : l.getLast? ≠ some 0) : 0 < toN l := by
 induction l with
 | nil => exact absurd rfl hne
 | cons d r ih =>
   rw [toN]
   by_cases hr : r = []
   · subst hr
     have : d ≠ 0 := fun e => hl (by rw [e]; rfl)
     omega
   · have h1 := ih hr (by rwa [List.getLast?_cons_of_ne_nil hr] at hl)
     have := Nat.mul_pos B_pos h1
     omega
theorem dg_toN {l : List Nat} (h : Dig l) (hl : l.getLast? ≠ some 0) : dg (toN l) = l := by
 induction l with
 | nil => exact dg_zero
 | cons d r ih =>
   have h0 := toN_pos_of_last (l := d :: r) (by simp) hl
   have hd : d < B := h.head
   rw [dg_pos (by omega)]
   simp only [toN]
   have e1 : (d + B * toN r) % B = d := by rw [Nat.add_mul_mod_self_left]; exact Nat.mod_eq_of_lt hd
   have e2 : (d + B * toN r) / B = toN r := by
     rw [Nat.add_mul_div_left _ _ B_pos, Nat.div_eq_of_lt hd]; omega
   rw [e1, e2]
   by_cases hr : r = []
   · subst hr; rw [show toN [] = 0 from rfl, dg_zero]
   · rw [ih h.tail (by rwa [List.getLast?_cons_of_ne_nil hr] at hl)]
theorem dg_last (n : Nat) : (dg n).getLast? ≠ some 0 := by
 induction n using Nat.strongRecOn with
 | _ n ih =>
   by_cases h : n = 0
   · subst h; rw [dg_zero]; simp
   · rw [dg_pos h]
     have h1 := ih (n / B) (Nat.div_lt_self (by omega) (by decide))
     by_cases hr : dg (n / B) = []
     · rw [hr]
       intro e
       have e : n % B = 0 := by simpa using e
       have e2 : n / B = 0 := by have := toN_dg (n / B); rw [hr] at this; exact this.symm
       have := Nat.mod_add_div n B
       rw [e, e2] at this; omega
     · rwa [List.getLast?_cons_of_ne_nil hr]
theorem dg_nil_iff (n : Nat) : dg n = [] ↔ n = 0 := by
 constructor
 · intro h; have := toN_dg n; rw [h] at this; exact this.symm
 · rintro rfl; exact dg_zero
theorem dg_length_le (n k : Nat) : (dg n).length ≤ k ↔ n < B ^ k := by
 constructor
 · intro h
   have h1 := toN_lt (dg_Dig n)
   rw [toN_dg] at h1
   exact Nat.lt_of_lt_of_le h1 (Nat.pow_le_pow_right B_pos h)
 · induction k generalizing n with
   | zero => intro h; have : n = 0 := by simpa using h
             subst this; rw [dg_zero]; exact Nat.le_refl _
   | succ k ih =>
     intro h
     by_cases h0 : n = 0
     · subst h0; rw [dg_zero]; simp
     · rw [dg_pos h0, List.length_cons]
       have := ih (n / B) (by rw [Nat.div_lt_iff_lt_mul B_pos]; rwa [Nat.pow_succ] at h)
       omega
theorem dg_of_take {l : List Nat} (h : Dig l) (k : Nat) (hk : k ≤ l.length) (hv : toN (l.take k) = toN l) (hl : k = 0 ∨ l.getD (k - 1) 0 ≠ 0) : dg (toN l) = l.take k := by
 rw [← hv]
 refine dg_toN (h.take k) ?_
 rcases hl with rfl | hl
 · simp
 · intro e
   by_cases h0 : k = 0
   · subst h0; simp at e
   · apply hl
     have h1 : k - 1 < l.length := by omega
     have h2 := take_succ_getD l (k - 1) h1
     rw [Nat.sub_add_cancel (by omega)] at h2
     rw [h2, List.getLast?_concat] at e
     exact Option.some.inj e
theorem dg_one {n : Nat} (h0 : n ≠ 0) (h : n < B) : dg n = [n] := by
 rw [dg_pos h0, Nat.mod_eq_of_lt h, Nat.div_eq_of_lt h, dg_zero]
end Go.Proofs.YtilggfeodhfjfaaGreatDoor
namespace Go.Proofs.YtilggfeodhfjfaaGreatDoor
open Go.RowKit
def Nats (w : World) (v : Value) (l : List Nat) : Prop :=
 ∃ p cap, v = .slice p l.length cap ∧ l.length ≤ cap ∧ cap ≤ 9223372036854775807 ∧
   (l ≠ [] → ∃ b off, p = some ⟨b, off, none⟩ ∧ ∀ i, i < l.length → w.cell? ⟨b, off + i, none⟩ = some (.int .u64 (l.getD i 0 : Nat)))
theorem Nats.next {w w' : World} {v : Value} {l : List Nat} (h : Nats w v l) (hb : Below w.heap.size w w') : Nats w' v l := by
 obtain ⟨p, cap, rfl, h1, h2, h3⟩ := h
 refine ⟨p, cap, rfl, h1, h2, fun hne => ?_⟩
 obtain ⟨b, off, e, hc⟩ := h3 hne
 exact ⟨b, off, e, fun i hi => (hb.cell (World.block_lt_of_cell? w _ (hc i hi))).trans (hc i hi)⟩
theorem Nats.nil (w : World) : Nats w (.slice none 0 0) [] := ⟨none, 0, rfl, Nat.le_refl _, by decide, fun h => absurd rfl h⟩
theorem at_any (v : Value) (l : List Nat) (i : Int) (w : World) (h : Nats w v l) (hi : 0 ≤ i) (hi' : i ≤ 4611686018427387904) :
   Calls Tryz.prog 265 #[v, .int .i64 i] w fun e w' => e = .returned (.int .u64 (l.getD i.toNat 0 : Nat)) ∧ w = w' := by
 obtain ⟨p, cap, rfl, h1, h2, h3⟩ := h
 by_cases hlt : i < (l.length : Int)
 · obtain ⟨b, off, rfl, hc⟩ := h3 (by intro e; subst e; simp at hlt; omega)
   have hc' := hc i.toNat (by omega)
   clear hc
   have e1 : ((i.toNat : Nat) : Int) = i := by omega
   generalize l.length = n at *
   generalize l.getD i.toNat 0 = d at *
   obtain ⟨k, rfl⟩ : ∃ k : Nat, i = k := ⟨i.toNat, by omega⟩
   rw [Int.toNat_natCast] at hc'
   clear e1
   go_enter Tryz.func265, Tryz.ntmps265
   go_wp2
   go_ret
   exact ⟨rfl, rfl⟩
 · have e : l.getD i.toNat 0 = 0 := by rw [List.getD_eq_getElem?_getD, List.getElem?_eq_none (by omega)]; rfl
   rw [e]
   generalize l.length = n at *
   clear h3 e
   go_enter Tryz.func265, Tryz.ntmps265
   go_wp2
   go_ret
   exact ⟨rfl, rfl⟩
def lenOf : Value → Nat | .slice _ n _ => n | _ => 0
theorem trimmed_at (p : Option Addr) (cap : Nat) (l : List Nat) (w : World) (h : Nats w (.slice p l.length cap) l) (hd : Dig l) :
   Calls Tryz.prog 224 #[.slice p l.length cap] w fun e w' => e = .returned (.slice p (dg (toN l)).length cap) ∧ w = w' := by
 obtain ⟨p', cap', he, h1, h2, h3⟩ := h
 simp only [Value.slice.injEq, true_and] at he
 obtain ⟨rfl, rfl⟩ := he
 have H3 := Lib.hid h3; clear h3
 have HD := Lib.hid hd; clear hd
 go_enter Tryz.func224, Tryz.ntmps224
 go_wp2
 go_loop [0] (fun x => ∃ k : Nat, k ≤ l.length ∧ x = .slice p k cap ∧ Hid (toN (l.take k) = toN l)) (fun x => lenOf x)
 case atStart => exact ⟨l.length, Nat.le_refl _, rfl, by show toN _ = _; rw [List.take_length]⟩
 case round =>
   obtain ⟨k, hk, rfl, hv⟩ := hrel
   by_cases h0 : k = 0
   · subst h0
     have he := dg_of_take HD.out 0 hk hv.out (.inl rfl)
     have HE := Lib.hid (show (dg (toN l)).length = 0 by rw [he]; simp); clear he
     go_wp2
     go_ret
     exact ⟨by rw [HE.out]; rfl, rfl⟩
   · obtain ⟨b, off, rfl, hc⟩ := H3.out (by intro e; subst e; simp at hk; omega)
     have hc1 := hc (k - 1) (by omega)
     have HC := Lib.hid hc; clear hc
     obtain ⟨j, rfl⟩ : ∃ j, k = j + 1 := ⟨k - 1, by omega⟩
     rw [Nat.add_sub_cancel] at hc1
     have ej : ((j + 1 : Nat) : Int) - 1 = (j : Int) := by omega
     have HJ := Lib.hid ej; clear ej
     have hs := toN_take_succ l j (by omega)
     have HS := Lib.hid hs; clear hs
     have hl := Lib.hid (dg_of_take HD.out (j + 1) hk hv.out)
     have hdd := Lib.hid (show l.getD j 0 = l.getD j 0 from rfl)
     by_cases hz : l.getD j 0 = 0
     · have hv2 : Hid (toN (l.take j) = toN l) := by
         show toN (l.take j) = toN l
         rw [← hv.out, HS.out, hz]; simp
       rw [hz] at hc1
       have HZ := Lib.hid hz; clear hz hl hv HS hdd
       generalize l.length = n at *
       go_wp2
       go_round
       case rel => exact ⟨j, by omega, rfl, hv2⟩
       case measure => simp [lenOf]
     · have hz' : (((l.getD j 0 : Nat) : Int) == 0) = false := by rw [beq_eq_false_iff_ne]; omega
       have hr : (dg (toN l)).length = j + 1 := by
         rw [hl.out (.inr (by rw [Nat.add_sub_cancel]; exact hz)), List.length_take]; omega
       have HR := Lib.hid hr; clear hr hz hl hv HS hdd
       generalize l.getD j 0 = d at *
       generalize l.length = n at *
       go_wp2
       go_ret
       exact ⟨by rw [HR.out]; rfl, rfl⟩
theorem dg_prefix {l : List Nat} (h : Dig l) : dg (toN l) <+: l := by
 induction l using snoc_ind with
 | h0 => rw [show toN [] = 0 from rfl, dg_zero]; exact List.prefix_refl _
 | hs m d ih =>
   by_cases hd : d = 0
   · subst hd
     rw [toN_snoc, Nat.mul_zero, Nat.add_zero]
     exact (ih (fun x hx => h x (by simp [hx]))).trans (List.prefix_append _ _)
   · rw [dg_toN h (by rw [List.getLast?_concat]; intro e; exact hd (Option.some.inj e))]
     exact List.prefix_refl _
theorem Nats.take {w : World} {p : Option Addr} {cap : Nat} {l m : List Nat} (h : Nats w (.slice p l.length cap) l) (hm : m <+: l) : Nats w (.slice p m.length cap) m := by
 obtain ⟨p', cap', he, h1, h2, h3⟩ := h
 simp only [Value.slice.injEq, true_and] at he
 obtain ⟨rfl, rfl⟩ := he
 refine ⟨p, cap, rfl, Nat.le_trans hm.length_le h1, h2, fun hne => ?_⟩
 obtain ⟨r, rfl⟩ := hm
 obtain ⟨b, off, e, hc⟩ := h3 (by simp [hne])
 refine ⟨b, off, e, fun i hi => ?_⟩
 rw [hc i (by rw [List.length_append]; omega)]
 rw [List.getD_eq_getElem?_getD, List.getD_eq_getElem?_getD, List.getElem?_append_left hi]
def Fresh (base : Nat) (v : Value) : Prop := ∀ k, v.ownBlock = some k → base ≤ k
theorem Fresh.mono {a b : Nat} {v : Value} (h : Fresh b v) (hab : a ≤ b) : Fresh a v := fun k hk => Nat.le_trans hab (h k hk)
theorem Fresh.nil (b : Nat) : Fresh b (.slice none 0 0) := fun k hk => by cases hk
theorem trimmed_any (v : Value) (l : List Nat) (w : World) (h : Nats w v l) (hd : Dig l) :
   Calls Tryz.prog 224 #[v] w fun e w' => w = w' ∧ ∃ v', e = .returned v' ∧ Nats w v' (dg (toN l)) ∧ v'.ownBlock = v.ownBlock := by
 have h' := h
 obtain ⟨p, cap, rfl, h1, h2, h3⟩ := h
 refine (trimmed_at p cap l w h' hd).mono fun e w' ⟨he, hw⟩ => ⟨hw, _, he, h'.take (dg_prefix hd), ?_⟩
 cases p <;> rfl
def IsNat (w : World) (v : Value) (n : Nat) : Prop := Nats w v (dg n)
theorem IsNat.next {w w' : World} {v : Value} {n : Nat} (h : IsNat w v n) (hb : Below w.heap.size w w') : IsNat w' v n := Nats.next h hb
theorem isNat_zero (w : World) : IsNat w (.slice none 0 0) 0 := by unfold IsNat; rw [dg_zero]; exact Nats.nil w
theorem Nats.of_cells {w : World} {b : Nat} {l : List Nat} {cap : Nat} (h1 : l.length ≤ cap) (h2 : cap ≤ 9223372036854775807)
   (h : ∀ i, i < l.length → w.cell? ⟨b, i, none⟩ = some (.int .u64 (l.getD i 0 : Nat))) : Nats w (.slice (some ⟨b, 0, none⟩) l.length cap) l :=
 ⟨_, cap, rfl, h1, h2, fun _ => ⟨b, 0, rfl, fun i hi => by rw [Nat.zero_add]; exact h i hi⟩⟩
theorem nats_two (w : World) (x y : Nat) (e : TypeId) :
   Nats (w.alloc (.cells #[.int .u64 x, .int .u64 y] e)) (.slice (some ⟨w.heap.size, 0, none⟩) 2 2) [x, y] :=
 Nats.of_cells (l := [x, y]) (Nat.le_refl _) (by decide) (fun i hi => by
   match i, hi with
   | 0, _ => go_cell
   | 1, _ => go_cell)
theorem ofValue_any (n : Nat) (w : World) (hn : n < 1000000000000000000) :
   Calls Tryz.prog 227 #[.int .u64 n] w fun e w' => ∃ v, e = .returned v ∧ IsNat w' v n ∧ Fresh w.heap.size v ∧ Below w.heap.size w w' := by
 have hv : toN [n % 1000000000, n / 1000000000] = n := by
   simp only [toN, Nat.mul_zero, Nat.add_zero, B_eq]; omega
 have hd : Dig [n % 1000000000, n / 1000000000] := Dig.cons (by omega) (Dig.one (by omega))
 have c := trimmed_any _ _ _ (nats_two w (n % 1000000000) (n / 1000000000) 183) hd
 rw [Int.natCast_emod, Int.natCast_ediv, hv] at c
 have C := Lib.hid c; clear c hv hd
 go_enter Tryz.func227, Tryz.ntmps227
 go_wp2_with fail
 refine C.out.mono ?_
 rintro e w' ⟨rfl, v, rfl, hv, ho⟩
 have HV := Lib.hid hv; clear hv C
 have HO := Lib.hid ho; clear ho
 go_wp2
 go_ret
 exact ⟨v, rfl, HV.out, fun k hk => by rw [HO.out] at hk; cases hk; exact Nat.le_refl _, (Below.refl _ _).alloc (Nat.le_refl _) _⟩
theorem dg_getD (n i : Nat) : (dg n).getD i 0 = n / B ^ i % B := by
 induction i generalizing n with
 | zero =>
   by_cases h : n = 0
   · subst h; rw [dg_zero]; simp
   · rw [dg_pos h]; simp
 | succ i ih =>
   by_cases h : n = 0
   · subst h; rw [dg_zero]; simp
   · rw [dg_pos h, List.getD_cons_succ, ih, Nat.pow_succ, Nat.mul_comm, Nat.div_div_eq_div_mul]
theorem natMachine_any (v : Value) (n : Nat) (w : World) (h : IsNat w v n) (hn : n < 1000000000000000000) :
   Calls Tryz.prog 247 #[v] w fun e w' => e = .returned (.int .u64 n) ∧ w = w' := by
 have c1 := at_any v (dg n) 1 w h (by decide) (by decide)
 have c0 := at_any v (dg n) 0 w h (by decide) (by decide)
 have g1 : (dg n).getD 1 0 = n / 1000000000 := by
   rw [dg_getD, Nat.pow_one, B_eq]; omega
 have g0 : (dg n).getD 0 0 = n % 1000000000 := by
   rw [dg_getD, Nat.pow_zero, B_eq]; omega
 rw [show (1 : Int).toNat = 1 from rfl, g1] at c1
 rw [show (0 : Int).toNat = 0 from rfl, g0] at c0
 have C1 := Lib.hid c1; have C0 := Lib.hid c0
 clear c1 c0 g1 g0
 obtain ⟨q, hq⟩ : ∃ q, n / 1000000000 = q := ⟨_, rfl⟩
 obtain ⟨r, hr⟩ : ∃ r, n % 1000000000 = r := ⟨_, rfl⟩
 have hqr : q * 1000000000 + r = n := by omega
 have hq2 : q < 1000000000 := by omega
 have hr2 : r < 1000000000 := by omega
 rw [hq] at C1; rw [hr] at C0
 have HN := Lib.hid hqr; clear hq hr hqr
 go_enter Tryz.func247, Tryz.ntmps247
 go_wp2_with fail
 refine C1.out.mono ?_
 rintro e w' ⟨rfl, rfl⟩
 go_wp2_with fail
 refine C0.out.mono ?_
 rintro e w' ⟨rfl, rfl⟩
 clear C0 C1
 go_wp2
 go_ret
 exact ⟨ret_int (by have := HN.out; omega), rfl⟩
theorem pow_le_nDigits (u : Nat) (h : 0 < u) : 10 ^ (Lib.nDigits u - 1) ≤ u := by
 induction u using Nat.strongRecOn with
 | _ u ih =>
   by_cases hu : u < 10
   · rw [Lib.nDigits_small hu]; simp; omega
   · rw [Lib.nDigits_big hu, Nat.add_sub_cancel]
     have h1 := ih (u / 10) (by omega) (by omega)
     have h2 := Lib.nDigits_pos (u / 10)
     obtain ⟨k, hk⟩ : ∃ k, Lib.nDigits (u / 10) = k + 1 := ⟨Lib.nDigits (u / 10) - 1, by omega⟩
     rw [hk] at h1 ⊢
     rw [Nat.add_sub_cancel] at h1
     rw [Nat.pow_succ]; omega
theorem nDigits_scaled (d k r : Nat) (hd : 0 < d) (hr : r < 10 ^ k) : Lib.nDigits (r + 10 ^ k * d) = k + Lib.nDigits d := by
 have h1 := Lib.nDigits_pos d
 obtain ⟨m, hm⟩ : ∃ m, Lib.nDigits d = m + 1 := ⟨Lib.nDigits d - 1, by omega⟩
 have h2 := pow_le_nDigits d hd
 have h3 := Lib.lt_pow_nDigits d
 rw [hm] at h2 h3 ⊢
 rw [Nat.add_sub_cancel] at h2
 rw [show k + (m + 1) = (k + m) + 1 by omega]
 refine Lib.nDigits_unique (k + m) _ ?_ ?_
 · rw [Nat.pow_add]
   exact Nat.le_trans (Nat.mul_le_mul_left _ h2) (Nat.le_add_left _ _)
 · have h4 : 10 ^ k * (d + 1) ≤ 10 ^ k * 10 ^ (m + 1) := Nat.mul_le_mul_left _ h3
   rw [show k + m + 1 = k + (m + 1) by omega, Nat.pow_add]
   rw [Nat.mul_succ] at h4
   omega
theorem B_pow (k : Nat) : B ^ k = 10 ^ (9 * k) := by rw [Nat.pow_mul]; rfl
theorem dg_split (n : Nat) (h : n ≠ 0) : ∃ r, r < B ^ ((dg n).length - 1) ∧ 0 < (dg n).getD ((dg n).length - 1) 0 ∧ n = r + B ^ ((dg n).length - 1) * (dg n).getD ((dg n).length - 1) 0 := by
 have hne : dg n ≠ [] := fun e => h ((dg_nil_iff n).1 e)
 have hl : 0 < (dg n).length := List.length_pos_iff.2 hne
 have h1 := toN_take_succ (dg n) ((dg n).length - 1) (by omega)
 rw [Nat.sub_add_cancel hl, List.take_length, toN_dg] at h1
 have h2 := toN_lt ((dg_Dig n).take ((dg n).length - 1))
 rw [List.length_take, Nat.min_eq_left (by omega)] at h2
 refine ⟨_, h2, ?_, h1⟩
 apply Nat.pos_of_ne_zero
 intro e
 apply dg_last n
 rw [List.getLast?_eq_getElem?, List.getElem?_eq_getElem (by omega)]
 rw [List.getD_eq_getElem?_getD, List.getElem?_eq_getElem (by omega)] at e
 exact congrArg some e
theorem nDigits_dg (n : Nat) (h : n ≠ 0) : Lib.nDigits n = 9 * ((dg n).length - 1) + Lib.nDigits ((dg n).getD ((dg n).length - 1) 0) := by
 obtain ⟨r, h1, h2, h3⟩ := dg_split n h
 rw [B_pow] at h1 h3
 generalize (dg n).getD ((dg n).length - 1) 0 = d at *
 generalize (dg n).length - 1 = k at *
 subst h3
 exact nDigits_scaled d (9 * k) r h2 h1
def nlen (n : Nat) : Nat := if n = 0 then 0 else Lib.nDigits n
theorem nlen_div (f : Nat) (h : f ≠ 0) : nlen f = nlen (f / 10) + 1 := by
 unfold nlen
 rw [if_neg h]
 by_cases h2 : f < 10
 · rw [Lib.nDigits_small h2, if_pos (by omega)]
 · rw [Lib.nDigits_big h2, if_neg (by omega)]
theorem length_any (v : Value) (n : Nat) (w : World) (h : IsNat w v n) (hn : (dg n).length ≤ 1000000) :
   Calls Tryz.prog 197 #[v] w fun e w' => e = .returned (.int .i64 (nlen n : Nat)) ∧ w = w' := by
 obtain ⟨p, cap, rfl, h1, h2, h3⟩ := h
 have H3 := Lib.hid h3; clear h3
 by_cases h0 : n = 0
 · subst h0
   have HL := Lib.hid (show (dg 0).length = 0 by rw [dg_zero]; rfl)
   rw [HL.out]
   rw [HL.out] at h1
   clear hn
   go_enter Tryz.func197, Tryz.ntmps197
   go_wp2
   go_ret
   exact ⟨rfl, rfl⟩
 · have hne : dg n ≠ [] := fun e => h0 ((dg_nil_iff n).1 e)
   have hl : 0 < (dg n).length := List.length_pos_iff.2 hne
   obtain ⟨b, off, rfl, hc⟩ := H3.out hne
   have hc1 := hc ((dg n).length - 1) (by omega)
   have hd := (dg_Dig n).getD ((dg n).length - 1)
   have HN := Lib.hid (nDigits_dg n h0)
   have hdp : 0 < (dg n).getD ((dg n).length - 1) 0 := by
     obtain ⟨r, _, h5, _⟩ := dg_split n h0; exact h5
   clear hc H3
   have HR := Lib.hid (show nlen n = Lib.nDigits n by unfold nlen; rw [if_neg h0])
   generalize (dg n).getD ((dg n).length - 1) 0 = d at *
   generalize Lib.nDigits n = m at *
   obtain ⟨k, hk⟩ : ∃ k, (dg n).length = k + 1 := ⟨(dg n).length - 1, by omega⟩
   rw [hk] at hn h1 hc1 HN ⊢
   clear hk hl
   rw [Nat.add_sub_cancel] at hc1 HN
   have ej : ((k + 1 : Nat) : Int) - 1 = (k : Int) := by omega
   have HD := Lib.hid (show nlen d = Lib.nDigits d by unfold nlen; rw [if_neg (by omega)])
   have hdl : nlen d ≤ 9 := by rw [HD.out]; exact (nDigits_le_iff d 9 (by decide)).2 (by omega)
   go_enter Tryz.func197, Tryz.ntmps197
   go_wp2
   go_loop [3, 4] (fun x y => ∃ c f : Nat, c ≤ 100 ∧ f < 1000000000 ∧ x = .int .i64 ((k : Int) * 9 + c) ∧ y = .int .u64 f ∧ Hid (c + nlen f = nlen d)) (fun _ y => (intOf y).toNat)
   case atStart => exact ⟨0, d, by omega, hd, by go_num, rfl, by show 0 + nlen d = nlen d; omega⟩
   case round =>
     obtain ⟨c, f, hc, hf, rfl, rfl, hh⟩ := hrel
     by_cases hf0 : f = 0
     · subst hf0
       have hz : nlen 0 = 0 := rfl
       have hh2 := hh.out
       rw [hz] at hh2
       have HH := Lib.hid hh2; clear hh2 hz hh hdl
       go_wp2
       go_ret
       exact ⟨ret_int (by have e1 := HH.out; have e2 := HN.out; have e3 := HR.out; have e4 := HD.out; omega), rfl⟩
     · have hs := nlen_div f hf0
       have hc2 : c + 1 ≤ 100 := by have := hh.out; omega
       have hh2 : Hid (c + 1 + nlen (f / 10) = nlen d) := by have := hh.out; show c + 1 + nlen (f / 10) = nlen d; omega
       have HC := Lib.hid (Int.natCast_ediv f 10)
       have hf10 : f / 10 < 1000000000 := by omega
       clear hs hh hdl
       go_wp2
       go_round
       case rel => exact ⟨c + 1, f / 10, hc2, hf10, by go_num, by rw [HC.out]; rfl, hh2⟩
       case measure => simp [intOf]; omega
end Go.Proofs.YtilggfeodhfjfaaGreatDoor
