/- Parts of the proof of the text YtkjhaengllpaoaaGreatDoorZB27. -/
import Derived.Shelf.Spec.TrailingZeros
import Derived.Lib.MinMax
import Derived.Deep.RegionHeld3
import Derived.Test.YtkjhaengllpaoaaGreatDoorZB1
import Derived.Test.YtkjhaengllpaoaaGreatDoorZB2
import Derived.Test.YtkjhaengllpaoaaGreatDoorZB3
import Derived.Test.YtkjhaengllpaoaaGreatDoorZB4
import Derived.Test.YtkjhaengllpaoaaGreatDoorZB7
set_option linter.all false
set_option maxRecDepth 100000
set_option maxHeartbeats 8000000
namespace Go.Proofs.YtkjhaengllpaoaaGreatDoor
open Go.RowKit
def Tab64 (w : World) : Prop := TabAt 4 Lib.deBruijn64tab w
theorem tz_core (x k idx : Nat) (w : World) (hx0 : ((x : Int) == 0) = false)
   (key : IntKind.u64.wrap (bits BinOp.and IntKind.u64 (x : Int) (IntKind.u64.wrap (-(x : Int))) * 285870213051353865) / 288230376151711744 = (idx : Int))
   (hi : idx < 64) (hk : k < 64) (hcell : w.cell? ⟨4, idx, none⟩ = some (.int .u8 k)) :
   Calls Tryz.prog 162 #[.int .u64 x] w fun e w' => e = .returned (.int .i64 k) ∧ w = w' := by
 go_enter Tryz.func162, Tryz.ntmps162
 go_wp2_with (simp only [key])
 go_ret
 exact ⟨rfl, rfl⟩
theorem tz_any (x : Nat) (w : World) (h0 : x ≠ 0) (hx : x < 18446744073709551616) (ht : Tab64 w) :
   Calls Tryz.prog 162 #[.int .u64 x] w fun e w' => e = .returned (.int .i64 (Lib.ctz 64 x : Nat)) ∧ w = w' := by
 obtain ⟨hlow, hk⟩ := Lib.lowest_bit 64 x h0 hx
 obtain ⟨hi, htab⟩ := Lib.deBruijn64_at _ hk
 have hcell := ht _ hi
 rw [htab] at hcell
 exact tz_core x _ _ w (by simp; omega) (tz64_key x _ hx h0 hlow) hi hk hcell
theorem bits_or_nat (a b : Nat) (ha : a < 18446744073709551616) (hb : b < 18446744073709551616) : bits .or .u64 (a : Int) (b : Int) = ((a ||| b : Nat) : Int) := by
 have hx : a ||| b < 2 ^ 64 := Nat.or_lt_two_pow ha hb
 have h1 : (BitVec.ofInt 64 (a : Int)).toNat = a := by
   rw [BitVec.ofInt_natCast, BitVec.toNat_ofNat]; exact Nat.mod_eq_of_lt (by omega)
 have h2 : (BitVec.ofInt 64 (b : Int)).toNat = b := by
   rw [BitVec.ofInt_natCast, BitVec.toNat_ofNat]; exact Nat.mod_eq_of_lt (by omega)
 show IntKind.u64.wrap ((BitVec.ofInt 64 (a : Int) ||| BitVec.ofInt 64 (b : Int)).toNat : Int) = _
 rw [BitVec.toNat_or, h1, h2, IntKind.wrap_u64]
 omega
theorem mach_divisor (a b : Int) (w : World) (h0 : -9223372036854775808 < a) (h1 : a ≤ 9223372036854775807) (h2 : -9223372036854775808 < b) (h3 : b ≤ 9223372036854775807) (ht : Tab64 w) :
   Calls Tryz.prog 128 #[.int .i64 a, .int .i64 b] w fun e W' => e = .returned (.int .i64 (Nat.gcd a.natAbs b.natAbs : Nat)) ∧ w = W' := by
 have ca := fun W => mach_size a W h0 h1
 have cb := fun W => mach_size b W h2 h3
 have ha : a.natAbs < 9223372036854775808 := by omega
 have hb : b.natAbs < 9223372036854775808 := by omega
 have C := Lib.hid (And.intro ca cb)
 have HT := Lib.hid ht
 clear ca cb h0 h1 h2 h3 ht
 generalize a.natAbs = x at *
 generalize b.natAbs = y at *
 by_cases hz : x = 0 ∨ y = 0
 · have hg : ((Nat.gcd x y : Nat) : Int) = (x : Int) + (y : Int) := by
     rcases hz with h | h
     · subst h; rw [Nat.gcd_zero_left]; simp
     · subst h; rw [Nat.gcd_zero_right]; simp
   rw [hg]
   have hs1 : (x : Int) + (y : Int) ≤ 9223372036854775807 := by rcases hz with h | h <;> omega
   by_cases hx : x = 0
   · have hx' : ((x : Int) == 0) = true := by simp [hx]
     clear hg hz
     go_enter Tryz.func128, Tryz.ntmps128
     go_wp2_with fail
     refine (C.out.1 _).mono ?_
     rintro e w' ⟨rfl, rfl⟩
     go_wp2_with fail
     refine (C.out.2 _).mono ?_
     rintro e w' ⟨rfl, rfl⟩
     go_wp2
     go_ret
     exact ⟨ret_int (by omega), rfl⟩
   · have hx' : ((x : Int) == 0) = false := by simp [hx]
     have hy' : ((y : Int) == 0) = true := by have := hz.resolve_left hx; simp [this]
     clear hg hz
     go_enter Tryz.func128, Tryz.ntmps128
     go_wp2_with fail
     refine (C.out.1 _).mono ?_
     rintro e w' ⟨rfl, rfl⟩
     go_wp2_with fail
     refine (C.out.2 _).mono ?_
     rintro e w' ⟨rfl, rfl⟩
     go_wp2
     go_ret
     exact ⟨ret_int (by omega), rfl⟩
 · have hx : x ≠ 0 := fun h => hz (.inl h)
   have hy : y ≠ 0 := fun h => hz (.inr h)
   have hx' : ((x : Int) == 0) = false := by simp [hx]
   have hy' : ((y : Int) == 0) = false := by simp [hy]
   have hor : bits BinOp.or IntKind.u64 (x : Int) (y : Int) = ((x ||| y : Nat) : Int) := bits_or_nat x y (by omega) (by omega)
   have ct := fun W (h : Tab64 W) => tz_any (x ||| y) W (fun q => hx (Nat.or_eq_zero_iff.1 q).1) (Nat.or_lt_two_pow (n := 64) (by omega) (by omega)) h
   have cx := fun W (h : Tab64 W) => tz_any x W hx (by omega) h
   have hst := bin_start hx hy (by omega) (by omega)
   have hmx : ∃ m, x / 2 ^ Lib.ctz 64 x = 2 * m + 1 := by obtain ⟨m, h, _⟩ := shr_odd hx (by omega); exact ⟨m, h⟩
   have HGL := Lib.hid (show Nat.gcd x y < 9223372036854775808 from Nat.lt_of_le_of_lt (Nat.gcd_le_left _ (by omega)) ha)
   have hle : x / 2 ^ Lib.ctz 64 x ≤ x := Nat.div_le_self _ _
   have hcx : Lib.ctz 64 x < 64 := by obtain ⟨_, _, h⟩ := ctz_spec hx (by omega); exact h
   have htt : Lib.ctz 64 (x ||| y) < 64 := by obtain ⟨_, _, h⟩ := ctz_spec (x := x ||| y) (fun q => hx (Nat.or_eq_zero_iff.1 q).1) (Nat.or_lt_two_pow (n := 64) (by omega) (by omega)); exact h
   have HT2 := Lib.hid (And.intro ct cx)
   clear ct cx hz hx hy
   generalize Lib.ctz 64 (x ||| y) = t at *
   have HST := Lib.hid (And.intro hst (And.intro hmx (And.intro hle (And.intro hcx htt))))
   clear hst hmx hle hor hcx htt
   have HOR := Lib.hid (bits_or_nat x y (by omega) (by omega))
   generalize x ||| y = xy at *
   go_enter Tryz.func128, Tryz.ntmps128
   go_wp2_with fail
   refine (C.out.1 _).mono ?_
   rintro e w' ⟨rfl, rfl⟩
   have HX := Lib.hid (And.intro hx' (And.intro hy' (And.intro ha hb)))
   clear ha hb hx' hy'
   go_wp2_with fail
   refine (C.out.2 _).mono ?_
   rintro e w' ⟨rfl, rfl⟩
   clear C
   have hx' := HX.out.1
   have hy' := HX.out.2.1
   have hor := HOR.out
   go_wp2_with fail
   refine (HT2.out.1 _ HT.out).mono ?_
   rintro e w' ⟨rfl, rfl⟩
   clear hor hx' hy'
   go_wp2_with fail
   refine (HT2.out.2 _ HT.out).mono ?_
   rintro e w' ⟨rfl, rfl⟩
   clear HT2
   generalize Lib.ctz 64 x = cx at *
   go_wp2_with fail
   have hst := HST.out
   have hmin : min cx 64 = cx := by have := hst.2.2.2.1; omega
   have e0 : ((x : Int) / 2 ^ cx) = ((x / 2 ^ cx : Nat) : Int) := by simp
   rw [hmin, e0]
   clear e0 hmin
   have HT64 := Lib.hid hst.2.2.2.2
   clear HST
   generalize hz : x / 2 ^ cx = z at *
   have HG := Lib.hid hst.1
   obtain ⟨m, hm⟩ := hst.2.1
   have hzl := hst.2.2.1
   have hx := HX.out.2.2.1
   have hyl := HX.out.2.2.2
   clear hst hz HX
   have HZ := Lib.hid (show z % 2 = 1 ∧ z < 9223372036854775808 ∧ y < 9223372036854775808 by omega)
   clear hx hyl hzl hm m
   go_loop [5, 6] (fun u v => ∃ X Y : Nat, u = .int .u64 X ∧ v = .int .u64 Y ∧ Hid (X % 2 = 1 ∧ X < 9223372036854775808 ∧ Y < 9223372036854775808) ∧ Hid (Nat.gcd X Y = Nat.gcd z y)) (fun u v => (intOf u + intOf v).toNat)
   case atStart => exact ⟨z, y, rfl, rfl, HZ, rfl⟩
   case round =>
     obtain ⟨X, Y, rfl, rfl, hb, hg⟩ := hrel
     by_cases hY : Y = 0
     · have hY' : ((Y : Int) == 0) = true := by simp [hY]
       have hgg := hg.out
       rw [hY, Nat.gcd_zero_right] at hgg
       have hfin : X * 2 ^ t = Nat.gcd x y := by rw [HG.out, ← hgg]
       have hlt : X * 2 ^ t < 9223372036854775808 := by
         rw [hfin]; exact HGL.out
       have HF := Lib.hid (And.intro hfin hlt)
       clear hfin hlt hgg hY
       go_wp2
       go_ret
       refine ⟨ret_int ?_, rfl⟩
       have h1 := HF.out.1
       have h2 := HF.out.2
       have hm : min t 64 = t := by have := HT64.out; omega
       rw [hm, show ((X : Int) * 2 ^ t) = ((X * 2 ^ t : Nat) : Int) by simp, ← h1]
       generalize X * 2 ^ t = g at *
       rw [IntKind.wrap_u64]
       unfold wrap64
       omega
     · have hY' : ((Y : Int) == 0) = false := by simp [hY]
       have hr := bin_round hb.out.1 hY (by have := hb.out.2.2; omega)
       have ct := tz_any Y w hY (by have := hb.out.2.2; omega) HT.out
       have hc64 : Lib.ctz 64 Y < 64 := by obtain ⟨_, _, h⟩ := ctz_spec hY (by have := hb.out.2.2; omega); exact h
       have HR := Lib.hid (And.intro hr (And.intro ct hc64))
       clear hr ct hc64
       generalize Lib.ctz 64 Y = cy at *
       go_wp2_with fail
       refine HR.out.2.1.mono ?_
       rintro e w' ⟨rfl, rfl⟩
       obtain ⟨⟨r1, r2, r3, r4⟩, _, hc64⟩ := HR.out
       obtain ⟨Z, hZ⟩ : ∃ Z, Y / 2 ^ cy = Z := ⟨_, rfl⟩
       have e1 : (Y : Int) / 2 ^ min cy 64 = (Z : Int) := by rw [show min cy 64 = cy by omega, ← hZ]; simp
       rw [hZ] at r1 r2 r3 r4
       have hX1 := hb.out.2.1
       have hY1 := hb.out.2.2
       have hX0 := hb.out.1
       by_cases hxz : X ≤ Z
       · rw [Nat.min_eq_left hxz] at r1 r2 r3
         rw [Nat.max_eq_right hxz] at r1 r3
         have emin : min (X : Int) (Z : Int) = X := by omega
         have emax : max (X : Int) (Z : Int) = Z := by omega
         have HQ := Lib.hid (And.intro (r1.trans hg.out) r3)
         have HW := Lib.hid (show X % 2 = 1 ∧ X < 9223372036854775808 ∧ Z - X < 9223372036854775808 by omega)
         have esub : IntKind.u64.wrap ((Z : Int) - (X : Int)) = ((Z - X : Nat) : Int) := by rw [IntKind.wrap_u64]; omega
         have HS := Lib.hid hxz
         clear r1 r2 r3 r4 hZ HR hb hg hX0 hX1 hY1 hc64 hxz
         go_wp2
         go_round
         case rel => exact ⟨X, Z - X, rfl, by go_num, HW, HQ.out.1⟩
         case measure => have := HQ.out.2; have := HS.out; simp [intOf]; omega
       · have hxz : Z ≤ X := by omega
         rw [Nat.min_eq_right hxz] at r1 r2 r3
         rw [Nat.max_eq_left hxz] at r1 r3
         have emin : min (X : Int) (Z : Int) = Z := by omega
         have emax : max (X : Int) (Z : Int) = X := by omega
         have HQ := Lib.hid (And.intro (r1.trans hg.out) r3)
         have HW := Lib.hid (show Z % 2 = 1 ∧ Z < 9223372036854775808 ∧ X - Z < 9223372036854775808 by omega)
         have esub : IntKind.u64.wrap ((X : Int) - (Z : Int)) = ((X - Z : Nat) : Int) := by rw [IntKind.wrap_u64]; omega
         have HS := Lib.hid hxz
         clear r1 r2 r3 r4 hZ HR hb hg hX0 hX1 hY1 hc64 hxz
         go_wp2
         go_round
         case rel => exact ⟨Z, X - Z, rfl, by go_num, HW, HQ.out.1⟩
         case measure => have := HQ.out.2; have := HS.out; simp [intOf]; omega
end Go.Proofs.YtkjhaengllpaoaaGreatDoor
namespace Go.Proofs.YtkjhaengllpaoaaGreatDoor
open Go.Lib
def strQ (q : Rat) : ByteArray := ⟨(itoaQ q).toArray⟩
theorem strQ_data (q : Rat) : (strQ q).data.toList = itoaQ q := by unfold strQ; simp
theorem strQ_chk {q : Rat} (h : q.num.natAbs < lim) (h' : q.den < lim) : chkQ (strQ q).data.toList = 0 := by rw [strQ_data, chkQ_itoaQ, if_pos ⟨h, h'⟩]
theorem str_of_chkQ {s : ByteArray} (h : chkQ s.data.toList = 0) : s = strQ (ratOf s.data.toList) := by
 unfold strQ; rw [itoaQ_ratOf h]
def short (z : Int) : Prop := z.natAbs < lim
instance (z : Int) : Decidable (short z) := inferInstanceAs (Decidable (_ < _))
def lowB (n d : Int) : ByteArray := if short n ∧ short d then strQ (Rat.divInt n d) else ⟨#[]⟩
def lowE (n d : Int) : Int := if short n ∧ short d then 0 else 4
def crossOK (x y : Rat) : Prop := short (x.num * y.den) ∧ short (y.num * x.den)
instance (x y : Rat) : Decidable (crossOK x y) := inferInstanceAs (Decidable (_ ∧ _))
def qaddB (x y : Rat) : ByteArray := if crossOK x y then lowB (x.num * y.den + y.num * x.den) (x.den * y.den) else ⟨#[]⟩
def qaddE (x y : Rat) : Int := if crossOK x y then lowE (x.num * y.den + y.num * x.den) (x.den * y.den) else 4
def qsubB (x y : Rat) : ByteArray := if crossOK x y then lowB (x.num * y.den - y.num * x.den) (x.den * y.den) else ⟨#[]⟩
def qsubE (x y : Rat) : Int := if crossOK x y then lowE (x.num * y.den - y.num * x.den) (x.den * y.den) else 4
def qmulB (x y : Rat) : ByteArray := lowB (x.num * y.num) (x.den * y.den)
def qmulE (x y : Rat) : Int := lowE (x.num * y.num) (x.den * y.den)
def qdivB (x y : Rat) : ByteArray := lowB (x.num * y.den) (y.num * x.den)
def qdivE (x y : Rat) : Int := lowE (x.num * y.den) (y.num * x.den)
def cmpQ (x y : Rat) : Int := cmpZ (x.num * y.den) (y.num * x.den)
def qcmpR (x y : Rat) : Int := if crossOK x y then cmpQ x y else 0
def qcmpE (x y : Rat) : Int := if crossOK x y then 0 else 4
theorem add_int (x y : Rat) : Rat.divInt (x.num * y.den + y.num * x.den) (x.den * y.den) = x + y := by
 rw [Rat.add_def', ← Rat.divInt_ofNat, Int.natCast_mul]
theorem sub_int (x y : Rat) : Rat.divInt (x.num * y.den - y.num * x.den) (x.den * y.den) = x - y := by
 rw [Rat.sub_def', ← Rat.divInt_ofNat, Int.natCast_mul]
theorem mul_int (x y : Rat) : Rat.divInt (x.num * y.num) (x.den * y.den) = x * y := by
 rw [Rat.mul_def', ← Rat.divInt_ofNat, Int.natCast_mul]
theorem div_int (x y : Rat) : Rat.divInt (x.num * y.den) (y.num * x.den) = x / y := by
 rw [Rat.div_def, Rat.inv_def, Int.mul_comm y.num]
 conv => rhs; arg 1; rw [← Rat.num_divInt_den x]
 rw [Rat.divInt_mul_divInt]
def Bq (k : Nat) (q : Rat) : Prop := q.num.natAbs < tenTo k ∧ q.den < tenTo k
theorem Bq.lim {k : Nat} {q : Rat} (h : Bq k q) (hk : k ≤ 300) : q.num.natAbs < lim ∧ q.den < lim :=
 ⟨Nat.lt_of_lt_of_le h.1 (tenTo_mono hk), Nat.lt_of_lt_of_le h.2 (tenTo_mono hk)⟩
theorem Bq.up {j k : Nat} {q : Rat} (h : Bq j q) (hk : j ≤ k) : Bq k q :=
 ⟨Nat.lt_of_lt_of_le h.1 (tenTo_mono hk), Nat.lt_of_lt_of_le h.2 (tenTo_mono hk)⟩
theorem Bq.chk {k : Nat} {q : Rat} (h : Bq k q) (hk : k ≤ 300) : chkQ (strQ q).data.toList = 0 := strQ_chk (h.lim hk).1 (h.lim hk).2
theorem Bq.num {k : Nat} {q : Rat} (h : Bq k q) : Bd k q.num := h.1
theorem Bq.den {k : Nat} {q : Rat} (h : Bq k q) : Bd k (q.den : Int) := by show Int.natAbs _ < _; rw [Int.natAbs_natCast]; exact h.2
theorem Bq.of_int {k : Nat} {n d : Int} (hd : d ≠ 0) (h1 : Bd k n) (h2 : Bd k d) : Bq k (Rat.divInt n d) := by
 have h3 : (Rat.divInt n d).num.natAbs ≤ n.natAbs := by
   rw [Rat.num_divInt, Int.natAbs_ediv_of_dvd (by
     refine Int.dvd_trans ?_ (Int.dvd_mul_left _ _)
     exact Int.gcd_dvd_right _ _), Int.natAbs_mul]
   refine Nat.le_trans (Nat.div_le_self _ _) ?_
   have : d.sign.natAbs ≤ 1 := by rcases Int.lt_trichotomy d 0 with q | q | q
                                  · rw [Int.sign_eq_neg_one_of_neg q]; decide
                                  · exact absurd q hd
                                  · rw [Int.sign_eq_one_of_pos q]; decide
   calc _ ≤ 1 * n.natAbs := Nat.mul_le_mul_right _ this
     _ = n.natAbs := Nat.one_mul _
 have h4 : (Rat.divInt n d).den ≤ d.natAbs := by
   rw [Rat.den_divInt, if_neg hd]; exact Nat.div_le_self _ _
 exact ⟨Nat.lt_of_le_of_lt h3 h1, Nat.lt_of_le_of_lt h4 h2⟩
theorem den_ne (x y : Rat) : ((x.den : Int) * y.den) ≠ 0 := by
 have h1 := x.den_nz; have h2 := y.den_nz
 rw [← Int.natCast_mul]
 intro h
 have := Int.ofNat.inj (h : Int.ofNat _ = Int.ofNat 0)
 rcases Nat.mul_eq_zero.1 this with q | q
 · exact h1 q
 · exact h2 q
theorem lowB_ok {k : Nat} {n d : Int} (hk : k ≤ 300) (h1 : Bd k n) (h2 : Bd k d) : lowB n d = strQ (Rat.divInt n d) ∧ lowE n d = 0 := by
 have h : short n ∧ short d := ⟨h1.lt hk, h2.lt hk⟩
 exact ⟨if_pos h, if_pos h⟩
theorem qcross_ok {j k : Nat} {x y : Rat} (hx : Bq j x) (hy : Bq k y) (h : j + k ≤ 300) : crossOK x y :=
 ⟨(hx.num.mul hy.den).lt h, (hy.num.mul hx.den).lt (by omega)⟩
theorem qadd_ok {j k : Nat} {x y : Rat} (hx : Bq j x) (hy : Bq k y) (h : j + k + 1 ≤ 300) : qaddB x y = strQ (x + y) ∧ qaddE x y = 0 ∧ Bq (j + k + 1) (x + y) := by
 have h1 := hx.num.mul hy.den
 have h2 := hy.num.mul hx.den
 rw [Nat.add_comm] at h2
 have h3 := h1.add h2
 have h4 := (hx.den.mul hy.den).up (Nat.le_succ _)
 obtain ⟨l1, l2⟩ := lowB_ok h h3 h4
 have hc := qcross_ok hx hy (by omega)
 unfold qaddB qaddE
 rw [if_pos hc, if_pos hc, l1, l2, add_int]
 exact ⟨rfl, rfl, by rw [← add_int]; exact Bq.of_int (den_ne x y) h3 h4⟩
theorem qsub_ok {j k : Nat} {x y : Rat} (hx : Bq j x) (hy : Bq k y) (h : j + k + 1 ≤ 300) : qsubB x y = strQ (x - y) ∧ qsubE x y = 0 ∧ Bq (j + k + 1) (x - y) := by
 have h1 := hx.num.mul hy.den
 have h2 := hy.num.mul hx.den
 rw [Nat.add_comm] at h2
 have h3 := h1.sub h2
 have h4 := (hx.den.mul hy.den).up (Nat.le_succ _)
 obtain ⟨l1, l2⟩ := lowB_ok h h3 h4
 have hc := qcross_ok hx hy (by omega)
 unfold qsubB qsubE
 rw [if_pos hc, if_pos hc, l1, l2, sub_int]
 exact ⟨rfl, rfl, by rw [← sub_int]; exact Bq.of_int (den_ne x y) h3 h4⟩
theorem qmul_ok {j k : Nat} {x y : Rat} (hx : Bq j x) (hy : Bq k y) (h : j + k ≤ 300) : qmulB x y = strQ (x * y) ∧ qmulE x y = 0 ∧ Bq (j + k) (x * y) := by
 have h3 := hx.num.mul hy.num
 have h4 := hx.den.mul hy.den
 obtain ⟨l1, l2⟩ := lowB_ok h h3 h4
 unfold qmulB qmulE
 rw [l1, l2, mul_int]
 exact ⟨rfl, rfl, by rw [← mul_int]; exact Bq.of_int (den_ne x y) h3 h4⟩
theorem qdiv_ok {j k : Nat} {x y : Rat} (hx : Bq j x) (hy : Bq k y) (h : j + k ≤ 300) (h0 : y ≠ 0) : qdivB x y = strQ (x / y) ∧ qdivE x y = 0 ∧ Bq (j + k) (x / y) := by
 have h3 := hx.num.mul hy.den
 have h4 := hy.num.mul hx.den
 rw [Nat.add_comm] at h4
 obtain ⟨l1, l2⟩ := lowB_ok h h3 h4
 have hn : y.num * (x.den : Int) ≠ 0 := by
   intro q
   rcases Int.mul_eq_zero.1 q with q | q
   · exact h0 (Rat.num_eq_zero.1 q)
   · exact x.den_nz (Int.ofNat.inj q)
 unfold qdivB qdivE
 rw [l1, l2, div_int]
 exact ⟨rfl, rfl, by rw [← div_int]; exact Bq.of_int hn h3 h4⟩
theorem qcmp_ok {j k : Nat} {x y : Rat} (hx : Bq j x) (hy : Bq k y) (h : j + k ≤ 300) : qcmpR x y = cmpQ x y ∧ qcmpE x y = 0 := by
 have hc := qcross_ok hx hy h
 exact ⟨if_pos hc, if_pos hc⟩
theorem cmpQ_lt {x y : Rat} (h : x < y) : cmpQ x y = -1 := by unfold cmpQ cmpZ; rw [if_pos ((Rat.lt_iff x y).1 h)]
theorem cmpQ_gt {x y : Rat} (h : y < x) : cmpQ x y = 1 := by
 have := (Rat.lt_iff y x).1 h
 unfold cmpQ cmpZ; rw [if_neg (by omega), if_pos this]
theorem cmpQ_eq (x : Rat) : cmpQ x x = 0 := by unfold cmpQ cmpZ; rw [if_neg (by omega), if_neg (by omega)]
theorem ratTri (x y : Rat) : x < y ∨ x = y ∨ y < x := by
 rcases Rat.le_total (a := x) (b := y) with h | h
 · rcases Rat.le_iff_lt_or_eq.1 h with q | q
   · exact Or.inl q
   · exact Or.inr (Or.inl q)
 · rcases Rat.le_iff_lt_or_eq.1 h with q | q
   · exact Or.inr (Or.inr q)
   · exact Or.inr (Or.inl q.symm)
theorem short_num {s : ByteArray} (h : chkQ s.data.toList = 0) (k : Nat) (hs : s.size ≤ k) (hk : 1 ≤ k) : ∃ q : Rat, s = strQ q ∧ Bq k q := by
 refine ⟨_, str_of_chkQ h, ?_⟩
 obtain ⟨_, hn, hd, e1, e2, _⟩ := chkQ_parts h
 have hl : s.data.toList.length = s.size := size_len s
 have part : ∀ l : List UInt8, chk l = 0 → l.length ≤ k → (valOf l).natAbs < tenTo k := by
   intro l hc hlen
   have h1 := natOf_tenTo (szL l) (by
     intro c hc'
     unfold chk at hc
     by_cases h1 : (szL l).all isDig
     · exact List.all_eq_true.1 h1 c hc'
     · simp [h1] at hc)
   rw [valOf_abs]
   refine Nat.lt_of_lt_of_le h1 (tenTo_mono (Nat.le_trans ?_ hlen))
   unfold szL; split <;> simp
 have l1 : (cutN s.data.toList).length ≤ k := by
   rcases cut_eq s.data.toList with ⟨_, h2, _⟩ | ⟨_, h2⟩
   · rw [← h2]; omega
   · have := congrArg List.length h2
     simp only [List.length_append, List.length_cons] at this; omega
 have l2 : (cutD s.data.toList).length ≤ k := by
   rcases cut_eq s.data.toList with ⟨_, _, h2⟩ | ⟨_, h2⟩
   · rw [h2]; exact hk
   · have := congrArg List.length h2
     simp only [List.length_append, List.length_cons] at this; omega
 refine ⟨by rw [e1]; exact part _ hn l1, ?_⟩
 have := part _ hd l2
 rw [← e2, Int.natAbs_natCast] at this
 exact this
end Go.Proofs.YtkjhaengllpaoaaGreatDoor
namespace Go.Proofs.YtkjhaengllpaoaaGreatDoor
open Go.RowKit
theorem drop_cons {l : List Nat} {j : Nat} (h : j < l.length) : l.drop j = l.getD j 0 :: l.drop (j + 1) := by
 rw [List.drop_eq_getElem_cons h, List.getD_eq_getElem?_getD, List.getElem?_eq_getElem h]; rfl
theorem set_drop {l : List Nat} {j x : Nat} (h : j < l.length) : (l.set j x).drop j = x :: l.drop (j + 1) := by
 rw [drop_cons (by rw [List.length_set]; exact h), List.getD_eq_getElem?_getD, List.getElem?_set_self h, List.drop_set_of_lt (Nat.lt_succ_self j)]; rfl
theorem div_step {la o : List Nat} {b r j : Nat} (hj : j < la.length) (hl : o.length = la.length) (h : toN (la.drop (j + 1)) = b * toN (o.drop (j + 1)) + r) :
   toN (la.drop j) = b * toN ((o.set j ((r * 1000000000 + la.getD j 0) / b)).drop j) + (r * 1000000000 + la.getD j 0) % b := by
 rw [drop_cons hj, set_drop (by omega)]
 show la.getD j 0 + B * toN _ = b * ((r * 1000000000 + la.getD j 0) / b + B * toN _) + _
 rw [h]
 have e := Nat.div_add_mod (r * 1000000000 + la.getD j 0) b
 generalize (r * 1000000000 + la.getD j 0) / b = q at *
 generalize (r * 1000000000 + la.getD j 0) % b = s at *
 generalize toN (o.drop (j + 1)) = T at *
 have hB : B = 1000000000 := rfl
 rw [hB, Nat.mul_add b q, Nat.mul_add 1000000000 (b * T) r]
 have : b * (1000000000 * T) = 1000000000 * (b * T) := Nat.mul_left_comm _ _ _
 omega
theorem div_bd {b r d : Nat} (hb0 : 0 < b) (hb : b < 1000000000) (hr : r < b) (hd : d < 1000000000) :
   (r * 1000000000 + d) / b < 1000000000 ∧ (r * 1000000000 + d) % b < b ∧ r * 1000000000 + d < 1000000000000000000 := by
 refine ⟨?_, Nat.mod_lt _ hb0, by omega⟩
 rw [Nat.div_lt_iff_lt_mul hb0]
 have : (r + 1) * 1000000000 ≤ b * 1000000000 := Nat.mul_le_mul_right _ hr
 omega
theorem divideShort_any (v : Value) (la : List Nat) (b : Nat) (w : World) (ha : Nats w v la) (da : Dig la) (hla : la.length ≤ 1000000) (hb0 : 0 < b) (hb : b < 1000000000) :
   Calls Tryz.prog 172 #[v, .int .u64 b] w fun e W' => ∃ q, e = .returned (.tuple #[q, .int .u64 (toN la % b : Nat)]) ∧ IsNat W' q (toN la / b) ∧ Fresh w.heap.size q ∧ Below w.heap.size w W' := by
 obtain ⟨pa, capa, rfl, ha1, ha2, ha3⟩ := ha
 have HA := Lib.hid ha3; clear ha3
 obtain ⟨i0, hi, hz0, hz1, hz2⟩ := info_parts info_u64
 have HI := Lib.hid (And.intro hi (And.intro hz0 (And.intro hz1 hz2))); clear hi hz0 hz1 hz2
 have HD := Lib.hid da; clear da
 have hne : ((b : Int) == 0) = false := by rw [beq_eq_false_iff_ne]; omega
 have hne2 : ¬ (b : Int) = 0 := by omega
 go_enter Tryz.func172, Tryz.ntmps172
 go_wp2_with (at_make; refine wpList_make_full _ rfl _ _ 145 rfl w.heap.size 124 i0 (.int .u64 0) 1 Tryz.underlying145 HI.out.1 HI.out.2.1 HI.out.2.2.1 .i64 .i64 _ _ (la.length) rfl rfl (by omega) (by omega) (by rw [HI.out.2.2.2]; omega) (by unfold maxLen; omega) (Nat.le_refl _) ?_; intro w1 hown hgrow)
 have hrow := Row.of_made hown
 have hB1 : Below w.heap.size w w1 := (Below.refl _ w).grown hgrow (Nat.le_refl _) (fun k e => by cases e)
 have hgl := hrow.lt
 clear hown hgrow
 generalize hg : w.heap.size = g at *
 have HG := Lib.hid hg; clear hg
 go_loopw [7, 8] (fun y x wr => ∃ (r j : Nat) (o : List Nat), j ≤ la.length ∧ x = .int .i64 ((j : Int) - 1) ∧ y = .int .u64 r ∧ r < b ∧ Row wr g o ∧ o.length = la.length ∧ Hid (Dig o) ∧ Hid (toN (la.drop j) = b * toN (o.drop j) + r) ∧ Below g w wr)
   (fun _ x _ => (intOf x + 1).toNat)
 case atStart =>
   exact ⟨0, la.length, List.replicate la.length 0, Nat.le_refl _, by go_num, rfl, hb0, hrow, List.length_replicate, Dig.replicate _, by show toN _ = _; rw [List.drop_length, List.drop_eq_nil_of_le (by rw [List.length_replicate]; exact Nat.le_refl _)]; simp [toN], hB1⟩
 case round =>
   clear hrow hB1 hgl
   obtain ⟨r, j, o, hj, rfl, rfl, hr, hrow, hlen, hdig, hval, hbel⟩ := hrel
   cases j with
   | zero =>
     have hv : toN la = b * toN o + r := hval.out
     have hq : toN la / b = toN o := by rw [hv, Nat.mul_add_div hb0, Nat.div_eq_of_lt hr, Nat.add_zero]
     have hm : toN la % b = r := by rw [hv, Nat.mul_add_mod, Nat.mod_eq_of_lt hr]
     have hN0 : Nats wr (.slice (some ⟨g, 0, none⟩) o.length la.length) o := hrow.nats (by omega) (by omega)
     have ct := trimmed_at _ _ o wr hN0 hdig.out
     have hn := hN0.take (dg_prefix hdig.out)
     rw [hlen] at ct
     rw [← hq] at ct hn
     have HM := Lib.hid hm
     have CT := Lib.hid ct
     have HN := Lib.hid hn
     have HBL := Lib.hid hbel
     clear hval ct hn hv hN0 hm hq hbel hrow
     go_wp2_with fail
     refine CT.out.mono ?_
     clear CT
     rintro e w' ⟨rfl, rfl⟩
     go_wp2
     go_ret2
     refine ⟨.slice (some ⟨g, 0, none⟩) (dg (toN la / b)).length la.length, ?_, HN.out, fun k hk => by cases hk; exact Nat.le_of_eq HG.out, by rw [HG.out]; exact HBL.out⟩
     show Ending.returned (.tuple #[.slice (some ⟨g, 0, none⟩) (dg (toN la / b)).length la.length, .int .u64 (r : Nat)]) = _
     rw [HM.out]
   | succ j =>
     obtain ⟨ab, aoff, rfl, hca⟩ := HA.out (by intro e; subst e; simp at hj)
     have ca0 := hca j (by omega)
     have cax : wr.cell? ⟨ab, aoff + j, none⟩ = some (.int .u64 (la.getD j 0 : Nat)) := (hbel.cell (p := ⟨ab, aoff + j, none⟩) (by rw [← HG.out]; exact World.block_lt_of_cell? w _ ca0)).trans ca0
     clear ca0 hca
     have co := hrow.cell (i := j) (by omega)
     have fo := hrow.frozen j
     have hst := div_step (la := la) (o := o) (b := b) (r := r) (j := j) (by omega) hlen hval.out
     have hx := HD.out.getD j
     have hbd := div_bd hb0 hb hr hx
     have R3 := hrow.set j ((r * 1000000000 + la.getD j 0) / b)
     generalize la.getD j 0 = x at *
     have HS := Lib.hid (And.intro hst (And.intro hbd R3))
     clear hst hbd R3 hval
     have hr' : (r : Int) ≤ 999999998 := by omega
     go_wp2
     have ht : (r : Int) * 1000000000 + (x : Int) = ((r * 1000000000 + x : Nat) : Int) := by rw [Int.natCast_add, Int.natCast_mul]; rfl
     rw [ht]
     clear ht
     obtain ⟨t, ht⟩ : ∃ t, r * 1000000000 + x = t := ⟨_, rfl⟩
     rw [ht] at HS
     rw [ht]
     have q1 : ((t / b : Nat) : Int) = (t : Int) / (b : Int) := Int.natCast_ediv _ _
     have q2 : ((t % b : Nat) : Int) = (t : Int) % (b : Int) := Int.natCast_emod _ _
     have hq : t / b < 1000000000 := HS.out.2.1.1
     have hm : t % b < b := HS.out.2.1.2.1
     have ht1 : t < 1000000000000000000 := HS.out.2.1.2.2
     have w1 : 0 ≤ (t : Int) / (b : Int) := Int.ediv_nonneg (by omega) (by omega)
     have w2 : (t : Int) / (b : Int) ≤ 999999999 := by rw [← q1]; clear q1 q2; generalize t / b = qq at hq; omega
     have hb1 : ¬ b = 0 := by omega
     have Q := Lib.hid (And.intro q1 q2)
     clear q1 q2 ht hr' hq hm
     have hjl : (j : Int) < (la.length : Int) := by omega
     go_region_held3 (fun w' => w'.frozen? ⟨g, j, none⟩ = false) (go_keep) (fail)
     rw [← Q.out.1]
     go_wp2
     go_roundw
     case rel =>
       obtain ⟨s1, ⟨s2, s3, _⟩, s4⟩ := HS.out
       refine ⟨t % b, j, o.set j (t / b), by omega, by go_num, by rw [Q.out.2]; first | done | rfl | (rw [Int.tmod_eq_emod_of_nonneg (by omega)]), s3, s4, by rw [List.length_set]; exact hlen, hdig.out.set _ s2, s1, ?_⟩
       exact (hbel.setCell (p := ⟨g, j, none⟩) (Nat.le_refl _) _).drew
     case measure => simp [intOf]
end Go.Proofs.YtkjhaengllpaoaaGreatDoor
namespace Go.Proofs.YtkjhaengllpaoaaGreatDoor
theorem toN_cons (d : Nat) (l : List Nat) : toN (d :: l) = d + B * toN l := rfl
theorem toN_top2 {l : List Nat} {k : Nat} (hd : Dig l) (h : l.length = k + 2) :
   ∃ low, low < B ^ k ∧ toN l = low + B ^ k * (l.getD (k + 1) 0 * B + l.getD k 0) := by
 have h1 := toN_take_succ l k (by omega)
 have h2 := toN_take_succ l (k + 1) (by omega)
 rw [List.take_of_length_le (by omega)] at h2
 have h3 := toN_lt (hd.take k)
 rw [List.length_take, Nat.min_eq_left (by omega)] at h3
 refine ⟨_, h3, ?_⟩
 rw [h2, h1, Nat.pow_succ, Nat.mul_assoc, Nat.add_assoc, ← Nat.mul_add, Nat.mul_comm B, Nat.add_comm (l.getD k 0)]
theorem toN_top3 {l : List Nat} {k : Nat} (hd : Dig l) (h : l.length = k + 3) :
   ∃ low, low < B ^ k ∧ toN l = low + B ^ k * ((l.getD (k + 2) 0 * B + l.getD (k + 1) 0) * B + l.getD k 0) := by
 have h1 := toN_take_succ l k (by omega)
 have h2 := toN_take_succ l (k + 1) (by omega)
 have h4 := toN_take_succ l (k + 2) (by omega)
 rw [List.take_of_length_le (by omega)] at h4
 have h3 := toN_lt (hd.take k)
 rw [List.length_take, Nat.min_eq_left (by omega)] at h3
 refine ⟨_, h3, ?_⟩
 rw [h4, h2, h1, show B ^ (k + 2) = B ^ k * B * B by rw [Nat.pow_succ, Nat.pow_succ], Nat.pow_succ]
 generalize B ^ k = P
 generalize toN (l.take k) = z
 generalize l.getD (k + 2) 0 = a
 generalize l.getD (k + 1) 0 = b
 generalize l.getD k 0 = c
 rw [Nat.mul_add P]
 have e1 : P * B * b = P * (b * B) := by rw [Nat.mul_assoc, Nat.mul_comm B b]
 have e2 : P * B * B * a = P * (a * B * B) := by rw [Nat.mul_assoc P, Nat.mul_assoc P, Nat.mul_comm (B * B) a, ← Nat.mul_assoc a]
 have e3 : P * ((a * B + b) * B) = P * (a * B * B) + P * (b * B) := by rw [Nat.add_mul, Nat.mul_add]
 omega
theorem est_up {W Y lw ly P U V t : Nat} (hw : W = lw + P * U) (hy : Y = ly + P * V) (hlw : lw < P) (h : U < t * V) : W < t * Y := by
 have h1 : P * (U + 1) ≤ P * (t * V) := Nat.mul_le_mul_left _ h
 have h2 : t * Y = t * ly + P * (t * V) := by rw [hy, Nat.mul_add, Nat.mul_left_comm]
 rw [Nat.mul_add, Nat.mul_one] at h1
 omega
theorem est_dn {W Y lw ly P U V t : Nat} (hw : W = lw + P * U) (hy : Y = ly + P * V) (hly : ly < P) (hb : t ≤ V) (h : t * V ≤ U) : t * Y ≤ W + Y := by
 cases t with
 | zero => omega
 | succ t =>
   have h1 : t * ly ≤ t * P := Nat.mul_le_mul_left _ (by omega)
   have h2 : P * ((t + 1) * V) ≤ P * U := Nat.mul_le_mul_left _ h
   have h3 : P * t ≤ P * V := Nat.mul_le_mul_left _ (by omega)
   have h4 : (t + 1) * Y = t * ly + P * (t * V) + Y := by rw [Nat.succ_mul]; conv => lhs; lhs; rw [hy, Nat.mul_add, Nat.mul_left_comm]
   have h5 : P * ((t + 1) * V) = P * (t * V) + P * V := by rw [Nat.succ_mul, Nat.mul_add]
   rw [Nat.mul_comm t P] at h1
   omega
theorem est_div {W Y lw ly P top d f s : Nat} (hw : W = lw + P * (top * B + d)) (hy : Y = ly + P * (f * B + s)) (hlw : lw < P) (hd : d < B) (hf : 0 < f) (hlt : W < B * Y) :
   W < (min (top / f) (B - 1) + 1) * Y := by
 have h1 : W < (top / f + 1) * Y := by
   have h2 : top < (top / f + 1) * f := by rw [Nat.mul_comm]; exact Nat.lt_mul_div_succ top hf
   have h3 : P * (B * (top + 1)) ≤ P * (B * ((top / f + 1) * f)) := Nat.mul_le_mul_left _ (Nat.mul_le_mul_left _ h2)
   have h4 : (top / f + 1) * Y = (top / f + 1) * ly + (top / f + 1) * (P * s) + P * (B * ((top / f + 1) * f)) := by
     generalize top / f + 1 = t
     rw [hy, Nat.mul_add P, Nat.mul_add, Nat.mul_add]
     have : t * (P * (f * B)) = P * (B * (t * f)) := by
       rw [Nat.mul_left_comm, Nat.mul_comm f B, Nat.mul_left_comm t B]
     omega
   have h5 : P * (top * B + d + 1) ≤ P * (B * (top + 1)) := Nat.mul_le_mul_left _ (by rw [Nat.mul_add, Nat.mul_one, Nat.mul_comm B top]; omega)
   rw [Nat.mul_add P _ 1, Nat.mul_one] at h5
   omega
 by_cases hm : top / f ≤ B - 1
 · rwa [Nat.min_eq_left hm]
 · rw [Nat.min_eq_right (by omega), Nat.sub_add_cancel B_pos]; exact hlt
theorem est_more {W Y lw ly P top d f s t : Nat} (hw : W = lw + P * (top * B + d)) (hy : Y = ly + P * (f * B + s)) (hlw : lw < P) (hf : t * f ≤ top) (h : (top - t * f) * B + d < t * s) : W < t * Y := by
 refine est_up hw hy hlw ?_
 rw [Nat.mul_add, ← Nat.mul_assoc]
 have : top * B = t * f * B + (top - t * f) * B := by rw [← Nat.add_mul]; congr 1; omega
 omega
theorem est_done {W Y lw ly P top d f s t : Nat} (hw : W = lw + P * (top * B + d)) (hy : Y = ly + P * (f * B + s)) (hly : ly < P) (hf : t * f ≤ top) (ht : t < B) (hs : s < B) (hf0 : 0 < f) (h : t * s ≤ (top - t * f) * B + d ∨ B ≤ top - t * f) : t * Y ≤ W + Y := by
 refine est_dn hw hy hly ?_ ?_
 · have : 1 * B ≤ f * B := Nat.mul_le_mul_right _ hf0
   omega
 · rw [Nat.mul_add, ← Nat.mul_assoc]
   have h1 : top * B = t * f * B + (top - t * f) * B := by rw [← Nat.add_mul]; congr 1; omega
   rcases h with h | h
   · omega
   · have h2 : B * B ≤ (top - t * f) * B := Nat.mul_le_mul_right _ h
     have h3 : t * s ≤ B * B := Nat.mul_le_mul (Nat.le_of_lt ht) (Nat.le_of_lt hs)
     omega
theorem sub_step {p x y t c P Yp Xp : Nat} (hx : x < 1000000000) (hy : y < 1000000000) (ht : t < 1000000000) (hc : c < 1000000000) (h : p + t * Yp = Xp + P * c) :
   let u := t * y + c
   (x < u % 1000000000 → u / 1000000000 + 1 < 1000000000 ∧ x + 1000000000 - u % 1000000000 < 1000000000 ∧ p + P * (x + 1000000000 - u % 1000000000) + t * (Yp + P * y) = Xp + P * x + P * B * (u / 1000000000 + 1)) ∧
   (u % 1000000000 ≤ x → u / 1000000000 < 1000000000 ∧ x - u % 1000000000 < 1000000000 ∧ p + P * (x - u % 1000000000) + t * (Yp + P * y) = Xp + P * x + P * B * (u / 1000000000)) := by
 intro u
 have hu : u ≤ 999999998000000001 + 999999999 := by have := mul_bd ht hy; show t * y + c ≤ _; omega
 have e0 : t * (Yp + P * y) = t * Yp + P * (t * y) := by rw [Nat.mul_add, Nat.mul_left_comm]
 have e1 : P * u = P * (t * y) + P * c := Nat.mul_add _ _ _
 have e2 : P * u = P * B * (u / 1000000000) + P * (u % 1000000000) := by
   rw [Nat.mul_assoc, ← Nat.mul_add, B_eq]; congr 1; omega
 constructor
 · intro hlt
   refine ⟨by omega, by omega, ?_⟩
   have e3 : P * (x + 1000000000 - u % 1000000000) + P * (u % 1000000000) = P * x + P * B := by
     rw [← Nat.mul_add, B_eq, ← Nat.mul_add]; congr 1; omega
   rw [Nat.mul_add (P * B), Nat.mul_one]
   omega
 · intro hle
   refine ⟨by omega, by omega, ?_⟩
   have e3 : P * (x - u % 1000000000) + P * (u % 1000000000) = P * x := by rw [← Nat.mul_add]; congr 1; omega
   omega
theorem sub_carry {x' X Y t P c top : Nat} (h : x' + t * Y = X + P * c) (hx : x' < P) (hY : Y < P) (hb : t * Y ≤ X + P * top + Y) : c ≤ top + 1 := by
 apply Decidable.byContradiction
 intro hc
 have : P * (top + 2) ≤ P * c := Nat.mul_le_mul_left _ (by omega)
 rw [Nat.mul_add] at this
 omega
theorem take_ok {x' X Y t P c top : Nat} (h : x' + t * Y = X + P * c) (hY : Y < P) (hup : X + P * top < (t + 1) * Y) (hc : c ≤ top) :
   c = top ∧ t = (X + P * top) / Y ∧ x' = (X + P * top) % Y := by
 have h1 : P * c ≤ P * top := Nat.mul_le_mul_left _ hc
 rw [Nat.succ_mul] at hup
 have hct : c = top := by
   apply Decidable.byContradiction
   intro hne
   have : P * (c + 1) ≤ P * top := Nat.mul_le_mul_left _ (by omega)
   rw [Nat.mul_add, Nat.mul_one] at this
   omega
 subst hct
 refine ⟨rfl, ?_⟩
 rw [← h]
 have hlt : x' < Y := by omega
 constructor
 · rw [Nat.add_mul_div_right _ _ (by omega), Nat.div_eq_of_lt hlt, Nat.zero_add]
 · rw [Nat.add_mul_mod_self_right, Nat.mod_eq_of_lt hlt]
theorem take_back {x' X Y t P top : Nat} (h : x' + t * Y = X + P * (top + 1)) (hx : x' < P) (hb : t * Y ≤ X + P * top + Y) (ht : 0 < t) :
   P ≤ x' + Y ∧ t - 1 = (X + P * top) / Y ∧ x' + Y - P = (X + P * top) % Y := by
 rw [Nat.mul_add, Nat.mul_one] at h
 have h1 : P ≤ x' + Y := by omega
 refine ⟨h1, ?_⟩
 obtain ⟨s, rfl⟩ : ∃ s, t = s + 1 := ⟨t - 1, by omega⟩
 rw [Nat.succ_mul] at h
 have h2 : X + P * top = (x' + Y - P) + s * Y := by omega
 have hlt : x' + Y - P < Y := by omega
 rw [h2, Nat.add_sub_cancel]
 constructor
 · rw [Nat.add_mul_div_right _ _ (by omega), Nat.div_eq_of_lt hlt, Nat.zero_add]
 · rw [Nat.add_mul_mod_self_right, Nat.mod_eq_of_lt hlt]
theorem scale_pos {v : Nat} (hv : v < 1000000000) : 1 ≤ 1000000000 / (v + 1) := by
 rw [Nat.le_div_iff_mul_le (by omega)]; omega
theorem scale_lt {v : Nat} (h0 : 0 < v) : 1000000000 / (v + 1) < 1000000000 := Nat.div_lt_self (by decide) (by omega)
theorem scaled_len {b n : Nat} (hn : (dg b).length = n + 1) : (dg (b * (1000000000 / ((dg b).getD n 0 + 1)))).length = n + 1 := by
 have hb : b ≠ 0 := fun e => by rw [e, dg_zero] at hn; simp at hn
 obtain ⟨r, h1, h2, h3⟩ := dg_split b hb
 rw [hn, Nat.add_sub_cancel] at h1 h2 h3
 have hv := (dg_Dig b).getD n
 generalize (dg b).getD n 0 = v at *
 have hs := scale_pos hv
 have hm : (v + 1) * (1000000000 / (v + 1)) ≤ B := Nat.mul_div_le _ _
 generalize 1000000000 / (v + 1) = s at *
 have hup : b * s < B ^ (n + 1) := by
   have h4 : b < B ^ n * (v + 1) := by rw [Nat.mul_add, Nat.mul_one]; omega
   have h5 : b * s < B ^ n * (v + 1) * s := Nat.mul_lt_mul_of_pos_right h4 (by omega)
   rw [Nat.mul_assoc] at h5
   exact Nat.lt_of_lt_of_le h5 (by rw [Nat.pow_succ]; exact Nat.mul_le_mul_left _ hm)
 have hlo : B ^ n ≤ b * s := by
   have h4 : B ^ n * 1 ≤ B ^ n * v := Nat.mul_le_mul_left _ h2
   have h5 : b * 1 ≤ b * s := Nat.mul_le_mul_left _ hs
   omega
 have h6 := (dg_length_le (b * s) (n + 1)).2 hup
 have h7 : ¬ (dg (b * s)).length ≤ n := fun h => by have := (dg_length_le (b * s) n).1 h; omega
 omega
theorem top_pos {b n : Nat} (hn : (dg b).length = n + 1) : 0 < (dg b).getD n 0 := by
 have hb : b ≠ 0 := fun e => by rw [e, dg_zero] at hn; simp at hn
 obtain ⟨r, h1, h2, h3⟩ := dg_split b hb
 rwa [hn, Nat.add_sub_cancel] at h2
theorem long_step {S x A X Y Q P : Nat} (h : S = A + P * x + P * B * (X + Y * Q)) :
   S = A + P * ((x + B * X) % Y + Y * ((x + B * X) / Y + B * Q)) := by
 have e := Nat.mod_add_div (x + B * X) Y
 rw [h, Nat.add_assoc]
 congr 1
 rw [Nat.mul_assoc, ← Nat.mul_add]
 congr 1
 rw [Nat.mul_add Y, ← Nat.add_assoc, e, Nat.mul_add B, Nat.add_assoc, Nat.mul_left_comm B Y Q]
theorem long_start {a b s m n la : Nat} {l : List Nat} (ha : a < B ^ la) (hn : B ^ n ≤ b) (hs : 0 < s) (hl : toN l = a * s) (hll : l.length = la + 1) (hm : la ≤ m + 1 + n) (hml : m ≤ la) :
   toN (l.drop (m + 1)) < b * s := by
 have h1 : toN l = toN (l.take (m + 1)) + B ^ (m + 1) * toN (l.drop (m + 1)) := by
   conv => lhs; rw [← List.take_append_drop (m + 1) l]
   rw [toN_append, List.length_take, Nat.min_eq_left (by omega)]
 apply Decidable.byContradiction
 intro hc
 have h2 : b * s ≤ toN (l.drop (m + 1)) := by omega
 have h3 : B ^ n * s ≤ toN (l.drop (m + 1)) := Nat.le_trans (Nat.mul_le_mul_right _ hn) h2
 have h4 : B ^ (m + 1) * (B ^ n * s) ≤ a * s := by
   rw [← hl, h1]; exact Nat.le_trans (Nat.mul_le_mul_left _ h3) (Nat.le_add_left _ _)
 rw [← Nat.mul_assoc, ← Nat.pow_add] at h4
 have h5 := Nat.le_of_mul_le_mul_right h4 hs
 have h6 : B ^ la ≤ B ^ (m + 1 + n) := Nat.pow_le_pow_right B_pos (by omega)
 omega
theorem toN_cancel_scale (a b s : Nat) (hs : 0 < s) : a * s / (b * s) = a / b ∧ a * s % (b * s) = a % b * s := by
 refine ⟨Nat.mul_div_mul_right a b hs, ?_⟩
 rw [Nat.mul_mod_mul_right]
end Go.Proofs.YtkjhaengllpaoaaGreatDoor
