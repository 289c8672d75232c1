/- Parts of the proof of the text YtpkloolckbhdaaaGreatDoorQD31. -/
import Derived.WalkSmall
import Derived.Test.YtpkloolckbhdaaaGreatDoorRows
import Derived.Test.YtpkloolckbhdaaaGreatDoorCards
import Derived.Test.YtpkloolckbhdaaaGreatDoorTie
import Derived.ProofKit
import Derived.LaidMore
import Derived.OpenShut
import Derived.Stop.Joined
import Derived.Stop.LaidErr
import Derived.SevenTiedAt
import Derived.Below
import Derived.Lib.TrailingZeros
import Derived.Shelf.Spec.TrailingZeros
import Derived.Lib.MinMax
import Derived.Test.YtpkloolckbhdaaaGreatDoorQD1
import Derived.Test.YtpkloolckbhdaaaGreatDoorQD2
set_option linter.all false
set_option maxRecDepth 100000
set_option maxHeartbeats 8000000
namespace Go.Proofs.YtpkloolckbhdaaaGreatDoor
open Go.RowKit
def Tab (w : World) : Prop := Lib.TabIs Tryz.prog w "internal/strconv.uint64pow10" .u64 Lib.pow10Tab
theorem gTab : Tryz.prog.globalNamed "internal/strconv.uint64pow10" = some 0 := by kernel_rfl
theorem Tab.below {w w' : World} {B : Nat} (h : Tab w) (hb : Below B w w') (hB : 0 < B) : Tab w' :=
 var?_below hb gTab hB h
theorem Tab.lt {w : World} (h : Tab w) : 0 < w.heap.size := by
 unfold Tab Lib.TabIs World.var? at h
 simp only [gTab, Option.bind_some] at h
 by_cases hlt : 0 < w.heap.size
 · exact hlt
 · rw [Array.getElem?_eq_none (by omega)] at h; simp at h
theorem Tab.next {w w' : World} (h : Tab w) (hb : Below w.heap.size w w') : Tab w' := h.below hb h.lt
def chk2 (a b : List UInt8) : Int := if chk a = 0 then chk b else chk a
theorem checkBoth_any (a b : ByteArray) (w : World) (ha : a.size ≤ maxLen) (hb : b.size ≤ maxLen) :
   Calls Tryz.prog 162 #[.string a, .string b] w fun e w' => e = .returned (.int .i64 (chk2 a.data.toList b.data.toList)) ∧ w = w' := by
 generalize hx : chk a.data.toList = x
 have HX := Lib.hid hx; clear hx
 by_cases h0 : (x == 0) = true
 · have hn : (x != 0) = false := by simpa using h0
   go_enter Tryz.func162, Tryz.ntmps162
   go_wp2_with fail
   refine (check_any a _ ha).mono ?_
   rw [HX.out]; rintro e w' ⟨rfl, rfl⟩
   go_wp2_with fail
   refine (check_any b _ hb).mono ?_
   rintro e w' ⟨rfl, rfl⟩
   go_wp2
   go_ret
   exact ⟨ret_int (by unfold chk2; rw [HX.out, if_pos (by simpa using h0)]), rfl⟩
 · have hn : (x != 0) = true := by simpa using h0
   go_enter Tryz.func162, Tryz.ntmps162
   go_wp2_with fail
   refine (check_any a _ ha).mono ?_
   rw [HX.out]; rintro e w' ⟨rfl, rfl⟩
   go_wp2
   go_ret
   exact ⟨ret_int (by unfold chk2; rw [HX.out, if_neg (by simpa using h0)]), rfl⟩
theorem isShort_any (s : ByteArray) (w : World) (_hs : s.size ≤ maxLen) :
   Calls Tryz.prog 163 #[.string s] w fun e w' => e = .returned (.bool (decide ((s.size : Int) ≤ 18))) ∧ w = w' := by
 go_enter Tryz.func163, Tryz.ntmps163
 go_wp2
 go_ret
 exact ⟨rfl, rfl⟩
theorem chk_dig {l : List UInt8} (h : chk l = 0) : ∀ c ∈ szL l, isDig c = true := by
 by_cases h1 : (szL l).all isDig = true
 · exact List.all_eq_true.1 h1
 · rw [chk_bad (by simpa using h1)] at h; cases h
theorem natOf_18 (l : List UInt8) (h : ∀ c ∈ l, isDig c = true) (hl : l.length ≤ 18) : natOf l < 1000000000000000000 := by
 have := natOf_take_18 l h l.length hl
 rwa [List.take_length] at this
theorem valOf_szL (l : List UInt8) : valOf l = if isNeg l = true then -(natOf (szL l) : Int) else (natOf (szL l) : Int) := by
 unfold valOf szL; split <;> simp_all
theorem szL_length (l : List UInt8) : (szL l).length ≤ l.length := by
 unfold szL; split
 · rw [List.length_tail]; omega
 · exact Nat.le_refl _
theorem valOf_short {l : List UInt8} (h : chk l = 0) (hl : l.length ≤ 18) : -1000000000000000000 < valOf l ∧ valOf l < 1000000000000000000 := by
 have h1 := natOf_18 (szL l) (chk_dig h) (Nat.le_trans (szL_length l) hl)
 rw [valOf_szL]; split <;> omega
theorem machine_any (s : ByteArray) (w : World) (hs : s.size ≤ 18) (hc : chk s.data.toList = 0) :
   Calls Tryz.prog 165 #[.string s] w fun e w' => e = .returned (.int .i64 (valOf s.data.toList)) ∧ w = w' := by
 have hd := Lib.hid (chk_dig hc)
 clear hc
 have h1 := natOf_18 (szL s.data.toList) hd.out (Nat.le_trans (szL_length _) hs)
 have hv := Lib.hid (valOf_szL s.data.toList)
 by_cases h : isNeg s.data.toList = true
 · have h0 := isNeg_size h
   have hz : szB s = s.extract 1 s.size := by unfold szB; rw [if_pos h]
   have HZ := Lib.hid (szB_data s); have HZ2 := Lib.hid hz; clear hz
   have hz3 : (s.extract 1 s.size).size ≤ 18 := by rw [ByteArray.size_extract]; omega
   have c := value_any (s.extract 1 s.size) w hz3 (by rw [← HZ2.out, HZ.out]; exact hd.out)
   rw [← HZ2.out, HZ.out] at c
   rw [HZ2.out] at c
   generalize natOf (szL s.data.toList) = n at *
   go_enter Tryz.func165, Tryz.ntmps165
   go_wp2_with fail
   refine (isNegative_any s _).mono ?_; rw [h]; rintro e w' ⟨rfl, rfl⟩
   go_wp2_with fail
   refine c.mono ?_; clear c; rintro e w' ⟨rfl, rfl⟩
   go_wp2
   go_ret
   exact ⟨ret_int (by rw [hv.out, if_pos h]), rfl⟩
 · have h' : isNeg s.data.toList = false := by simpa using h
   have hz : szB s = s := by unfold szB; rw [if_neg h]
   have HZ := Lib.hid (szB_data s); have HZ2 := Lib.hid hz; clear hz
   have c := value_any s w hs (by rw [← HZ2.out, HZ.out]; exact hd.out)
   rw [← HZ2.out, HZ.out] at c
   rw [HZ2.out] at c
   generalize natOf (szL s.data.toList) = n at *
   go_enter Tryz.func165, Tryz.ntmps165
   go_wp2_with fail
   refine (isNegative_any s _).mono ?_; rw [h']; rintro e w' ⟨rfl, rfl⟩
   go_wp2_with fail
   refine c.mono ?_; clear c; rintro e w' ⟨rfl, rfl⟩
   go_wp2
   go_ret
   exact ⟨ret_int (by rw [hv.out, if_neg h]), rfl⟩
def strB (z : Int) : ByteArray := ⟨(Lib.itoa z).toArray⟩
theorem strB_data (z : Int) : (strB z).data.toList = Lib.itoa z := by unfold strB; simp
theorem ofMachine_any (z : Int) (w : World) (h0 : -9223372036854775808 ≤ z) (h1 : z ≤ 9223372036854775807) (ht : Tab w) :
   Calls Tryz.prog 166 #[.int .i64 z] w fun e w' => e = .returned (.string (strB z)) ∧ Below w.heap.size w w' := by
 have c := Tryz.strconv_FormatInt_10 z h0 h1 w ht
 clear h0 h1
 go_enter Tryz.func166, Tryz.ntmps166
 go_wp2_with fail
 refine c.mono ?_
 clear c
 rintro e w' ⟨rfl, k, os, rfl⟩
 go_wp2
 go_ret
 exact ⟨rfl, Lib.below_grow _ _ (Nat.le_refl _) _ _⟩
theorem ret_two {k1 k2 : IntKind} {a b c d : Int} (h : a = b) (h2 : c = d) : Ending.returned (.tuple #[.int k1 a, .int k2 c]) = .returned (.tuple #[.int k1 b, .int k2 d]) := by rw [h, h2]
theorem tdiv_bd (a b : Int) (ha : -1000000000000000000 < a) (ha' : a < 1000000000000000000) : -1000000000000000000 < a.tdiv b ∧ a.tdiv b < 1000000000000000000 := by
 have h := Int.natAbs_tdiv_le_natAbs a b
 omega
theorem tmod_bd (a b : Int) (ha : -1000000000000000000 < a) (ha' : a < 1000000000000000000) : -1000000000000000000 < a.tmod b ∧ a.tmod b < 1000000000000000000 := by
 have h := Int.natAbs_tmod a b
 have h2 := Nat.mod_le a.natAbs b.natAbs
 omega
theorem divideMachine_any (a b : Int) (w : World) (ha : -1000000000000000000 < a) (ha' : a < 1000000000000000000) (hb : -1000000000000000000 < b) (hb' : b < 1000000000000000000) (h0 : b ≠ 0) :
   Calls Tryz.prog 164 #[.int .i64 a, .int .i64 b] w fun e w' => e = .returned (.tuple #[.int .i64 (a.fdiv b), .int .i64 (a.fmod b)]) ∧ ∃ n, w' = w.drewN n := by
 have hq := tdiv_bd a b ha ha'
 have hr := tmod_bd a b ha ha'
 have hz : (b == 0) = false := by simpa using h0
 have e1 := Lib.hid (fun h => @fdiv_same a b h0 h)
 have e2 := Lib.hid (fun h h' => @fdiv_other a b h0 h h')
 go_enter Tryz.func164, Tryz.ntmps164
 go_wp2
 go_quiet (fail)
 generalize a.tdiv b = q at *
 generalize a.tmod b = r at *
 by_cases c0 : r = 0
 · have c1 : (r != 0) = false := by simpa using c0
   clear c0
   go_wp2
   go_returns
   obtain ⟨f1, f2⟩ := e1.out (.inl (by simpa using c1))
   exact ⟨ret_two f1.symm f2.symm, _, rfl⟩
 · have c1 : (r != 0) = true := by simpa using c0
   clear c0
   by_cases c2 : r < 0 <;> by_cases c3 : b < 0
   all_goals
     go_wp2
     go_returns
     first
     | (obtain ⟨f1, f2⟩ := e1.out (.inr (by omega))
        exact ⟨ret_two f1.symm f2.symm, _, rfl⟩)
     | (obtain ⟨f1, f2⟩ := e2.out (by simpa using c1) (by omega)
        exact ⟨ret_two f1.symm f2.symm, _, rfl⟩)
theorem gcdMachine_any (a b : Nat) (w : World) (ha : a < 18446744073709551616) (hb : b < 18446744073709551616) :
   Calls Tryz.prog 192 #[.int .u64 a, .int .u64 b] w fun e w' => e = .returned (.int .u64 (Nat.gcd a b : Nat)) ∧ ∃ n, w' = w.drewN n := by
 go_enter Tryz.func192, Tryz.ntmps192
 go_wp2
 go_loopw [0, 1] (fun x y wr => ∃ a' b' : Nat, a' < 18446744073709551616 ∧ b' < 18446744073709551616 ∧ x = .int .u64 a' ∧ y = .int .u64 b' ∧ Hid (Nat.gcd a' b' = Nat.gcd a b) ∧ ∃ n, wr = w.drewN n) (fun _ y _ => (intOf y).toNat)
 case atStart => exact ⟨a, b, ha, hb, rfl, rfl, rfl, 0, rfl⟩
 case round =>
   obtain ⟨a', b', ha', hb', rfl, rfl, hg, m, rfl⟩ := hrel
   clear ha hb
   by_cases h0 : b' = 0
   · subst h0
     go_wp2
     go_ret
     exact ⟨ret_int (by have := hg.out; rw [Nat.gcd_zero_right] at this; rw [this]), m, rfl⟩
   · have hne : ((b' : Int) != 0) = true := by simpa using h0
     have hne2 : ((b' : Int) == 0) = false := by simpa using h0
     have hlt : a' % b' < b' := Nat.mod_lt _ (by omega)
     have hcast : ((a' % b' : Nat) : Int) = (a' : Int) % (b' : Int) := Int.natCast_emod _ _
     have HC := Lib.hid hcast; clear hcast
     have hg2 : Hid (Nat.gcd b' (a' % b') = Nat.gcd a b) := by
       show Nat.gcd b' (a' % b') = Nat.gcd a b
       rw [← hg.out, Nat.gcd_comm a' b', Nat.gcd_rec b' a', Nat.gcd_comm]
     clear hg h0
     go_wp2
     go_quiet (fail)
     go_wp2
     go_roundw
     case rel => exact ⟨b', a' % b', hb', by omega, rfl, by rw [HC.out], hg2, _, World.drewN_drewN _ _ _⟩
     case measure => simp [intOf]; omega
theorem start_above (n : Nat) (hn : n < 1000000000000000000) (h0 : n ≠ 0) :
   Lib.bitLen n ≤ 60 ∧ rootN n < 2 ^ ((Lib.bitLen n + 1) / 2) := by
 have h1 : Lib.bitLen n ≤ 60 := Lib.bitLen_le n 60 (by decide) (by omega)
 refine ⟨h1, rootN_le _ _ ?_⟩
 obtain ⟨_, _, h4⟩ := Lib.bitLenAux_bounds 64 n (by omega) h0
 have h5 : n < 2 ^ Lib.bitLen n := h4
 refine Nat.lt_of_lt_of_le h5 ?_
 rw [← Nat.pow_add]
 exact Nat.pow_le_pow_right (by decide) (by omega)
theorem u64_pow (k : Nat) (h : k ≤ 30) : IntKind.u64.wrap ((2 : Int) ^ k) = ((2 ^ k : Nat) : Int) ∧ 0 < 2 ^ k ∧ 2 ^ k ≤ 1073741824 := by
 have h1 : 2 ^ k ≤ 2 ^ 30 := Nat.pow_le_pow_right (by decide) h
 have h2 : 0 < 2 ^ k := Nat.pow_pos (by decide)
 refine ⟨?_, h2, h1⟩
 have h3 : ((2 : Int) ^ k) = ((2 ^ k : Nat) : Int) := by rw [Int.natCast_pow]; rfl
 rw [h3]
 exact IntWalk.u64_in _ ⟨by omega, by omega⟩
theorem rootMachine_any (n : Nat) (w : World) (hn : n < 1000000000000000000) :
   Calls Tryz.prog 207 #[.int .u64 n] w fun e w' => e = .returned (.int .u64 (rootN n : Nat)) ∧ w = w' := by
 by_cases h0 : n = 0
 · subst h0
   have hr : rootN 0 = 0 := rootN_eq (by simp [IsRoot])
   have HR := Lib.hid hr; clear hr
   go_enter Tryz.func207, Tryz.ntmps207
   go_wp2
   go_ret
   exact ⟨ret_int (by rw [HR.out]; rfl), rfl⟩
 · have hne : ((n : Int) == 0) = false := by simpa using h0
   obtain ⟨hl, hg⟩ := start_above n hn h0
   obtain ⟨hw, hp, hle⟩ := u64_pow ((Lib.bitLen n + 1) / 2) (by omega)
   have HR := Lib.hid (rootN_is n)
   have hr1 : 0 < rootN n := by
     have h2 := (rootN_is n).2
     apply Decidable.byContradiction; intro hc
     have e : rootN n = 0 := by omega
     rw [e] at h2; simp at h2; omega
   generalize rootN n = r at *
   have HW := Lib.hid hw; clear hw
   go_enter Tryz.func207, Tryz.ntmps207
   go_wp2_with fail
   refine (Tryz.bits_Len64 n _ (by omega) (by omega)).mono ?_
   rw [Int.toNat_natCast]
   rintro e w' ⟨rfl, rfl⟩
   generalize Lib.bitLen n = L at *
   generalize 2 ^ ((L + 1) / 2) = g0 at *
   go_wp2
   rw [HW.out]
   clear HW
   go_loop [3] (fun x => ∃ g : Nat, 0 < g ∧ g ≤ 1073741824 ∧ r ≤ g ∧ x = .int .u64 g) (fun x => (intOf x).toNat)
   case atStart => exact ⟨g0, hp, hle, by omega, rfl⟩
   case round =>
     clear hg hle hp
     obtain ⟨g, hp, hle, hg, rfl⟩ := hrel
     have hgz : ((g : Int) == 0) = false := by rw [beq_eq_false_iff_ne]; omega
     have hd : n / g ≤ n := Nat.div_le_self _ _
     have H1 := newton_ge n g hp r HR.out
     have H2 := Lib.hid (newton_done n g r hp HR.out hg)
     have HC := Lib.hid (Int.natCast_ediv n g)
     generalize n / g = d at *
     rw [show Hid ((d : Int) = (n : Int) / (g : Int)) = ((d : Int) = (n : Int) / (g : Int)) from rfl] at HC
     have HD := Lib.hid HC; clear HC
     have hq0 : 0 ≤ (n : Int) / (g : Int) := by rw [← HD.out]; omega
     have hq1 : (n : Int) / (g : Int) ≤ n := by rw [← HD.out]; omega
     by_cases hc : g ≤ (g + d) / 2
     · have hc' : (g : Int) ≤ ((g : Int) + (n : Int) / (g : Int)) / 2 := by rw [← HD.out]; omega
       go_wp2
       go_ret
       exact ⟨ret_int (by rw [H2.out hc]), rfl⟩
     · have hc' : ((g : Int) + (n : Int) / (g : Int)) / 2 < (g : Int) := by rw [← HD.out]; omega
       go_wp2
       go_round
       case rel => exact ⟨(g + d) / 2, by omega, by omega, H1, by rw [← HD.out]; go_num⟩
       case measure => simp [intOf]; omega
end Go.Proofs.YtpkloolckbhdaaaGreatDoor
namespace Go.Proofs.YtpkloolckbhdaaaGreatDoor
open Go.ChangeShapes Go.WideShapes Go.ChangeAt Go.RowKit
theorem own : ownKnob Tryz.prog.godebug = none := by kernel_rfl
end Go.Proofs.YtpkloolckbhdaaaGreatDoor
namespace Go.Proofs.YtpkloolckbhdaaaGreatDoor
open Go.RowKit
def tooL : Int := -9223372036854775808
theorem mach_size (a : Int) (w : World) (h0 : -9223372036854775808 < a) (h1 : a ≤ 9223372036854775807) :
   Calls Tryz.prog 150 #[.int .i64 a] w fun e W' => e = .returned (.int .u64 (a.natAbs : Int)) ∧ w = W' := by
 by_cases hn : a < 0
 · go_enter Tryz.func150, Tryz.ntmps150
   go_wp2
   go_ret
   exact ⟨ret_int (by omega), rfl⟩
 · go_enter Tryz.func150, Tryz.ntmps150
   go_wp2
   go_ret
   exact ⟨ret_int (by omega), rfl⟩
theorem mach_neg (a : Int) (w : World) :
   Calls Tryz.prog 288 #[.int .i64 a] w fun e W' => e = .returned (.bool (decide (a < 0))) ∧ w = W' := by
 go_enter Tryz.func288, Tryz.ntmps288
 go_wp2
 go_ret
 exact ⟨rfl, rfl⟩
theorem mach_one (a : Int) (w : World) :
   Calls Tryz.prog 289 #[.int .i64 a] w fun e W' => e = .returned (.bool (a == 1)) ∧ w = W' := by
 go_enter Tryz.func289, Tryz.ntmps289
 go_wp2
 go_ret
 exact ⟨rfl, rfl⟩
theorem mach_opp (a : Int) (w : World) (h0 : -9223372036854775808 < a) (h1 : a ≤ 9223372036854775807) :
   Calls Tryz.prog 291 #[.int .i64 a] w fun e W' => e = .returned (.int .i64 (-a)) ∧ w = W' := by
 go_enter Tryz.func291, Tryz.ntmps291
 go_wp2
 go_ret
 exact ⟨ret_int (by omega), rfl⟩
theorem mach_err (a : Int) (w : World) :
   Calls Tryz.prog 287 #[.int .i64 a] w fun e W' => e = .returned (.int .i64 (if a = tooL then 4 else 0)) ∧ w = W' := by
 by_cases h : a = tooL
 · rw [if_pos h]
   unfold tooL at h; subst h
   go_enter Tryz.func287, Tryz.ntmps287
   go_wp2
   go_ret
   exact ⟨rfl, rfl⟩
 · rw [if_neg h]
   unfold tooL at h
   go_enter Tryz.func287, Tryz.ntmps287
   go_wp2
   go_ret
   exact ⟨rfl, rfl⟩
theorem mach_over (a b : Int) (w : World) (h0 : -9223372036854775808 < a) (h1 : a ≤ 9223372036854775807) (hb : 0 < b) (h2 : b ≤ 9223372036854775807) :
   Calls Tryz.prog 292 #[.int .i64 a, .int .i64 b] w fun e W' => e = .returned (.int .i64 (a.tdiv b)) ∧ w = W' := by
 have hb0 : ¬ b = 0 := by omega
 have hb1 : (b == 0) = false := by simpa using hb0
 go_enter Tryz.func292, Tryz.ntmps292
 go_wp2
 go_ret
 exact ⟨ret_int (by omega), rfl⟩
theorem mach_plus (a b : Int) (w : World) (h0 : -9223372036854775808 < a) (h1 : a ≤ 9223372036854775807) (h2 : -9223372036854775808 < b) (h3 : b ≤ 9223372036854775807)
   (h4 : -9223372036854775808 < a + b) (h5 : a + b ≤ 9223372036854775807) :
   Calls Tryz.prog 293 #[.int .i64 a, .int .i64 b] w fun e W' => e = .returned (.int .i64 (a + b)) ∧ w = W' := by
 have n1 : (a == -9223372036854775808) = false := by simp; omega
 have n2 : (b == -9223372036854775808) = false := by simp; omega
 go_enter Tryz.func293, Tryz.ntmps293
 go_wp2
 go_ret
 exact ⟨ret_int (by omega), rfl⟩
theorem mach_plus1 (b : Int) (w : World) :
   Calls Tryz.prog 293 #[.int .i64 tooL, .int .i64 b] w fun e W' => e = .returned (.int .i64 tooL) ∧ w = W' := by
 unfold tooL
 go_enter Tryz.func293, Tryz.ntmps293
 go_wp2
 go_ret
 exact ⟨rfl, rfl⟩
theorem mach_plus2 (a : Int) (w : World) :
   Calls Tryz.prog 293 #[.int .i64 a, .int .i64 tooL] w fun e W' => e = .returned (.int .i64 tooL) ∧ w = W' := by
 by_cases h : a = -9223372036854775808
 · subst h
   exact mach_plus1 _ w
 · unfold tooL
   go_enter Tryz.func293, Tryz.ntmps293
   go_wp2
   go_ret
   exact ⟨rfl, rfl⟩
def timesM (a b : Int) : Int := if (a * b).natAbs < 4611686018427387904 then a * b else tooL
theorem mach_times (a b : Int) (w : World) (h0 : -9223372036854775808 < a) (h1 : a ≤ 9223372036854775807) (h2 : -9223372036854775808 < b) (h3 : b ≤ 9223372036854775807) :
   Calls Tryz.prog 294 #[.int .i64 a, .int .i64 b] w fun e W' => e = .returned (.int .i64 (timesM a b)) ∧ w = W' := by
 have ca := fun W => mach_size a W h0 h1
 have cb := fun W => mach_size b W h2 h3
 have cm := fun W => Tryz.bits_Mul64 a.natAbs b.natAbs (by omega) (by omega) W
 have hab : (a * b).natAbs = a.natAbs * b.natAbs := Int.natAbs_mul a b
 have C := Lib.hid (And.intro ca (And.intro cb cm))
 clear ca cb cm
 generalize hx : a.natAbs * b.natAbs = x at *
 by_cases hb : 18446744073709551616 ≤ x
 · have e1 : timesM a b = tooL := if_neg (by omega)
   have d1 : ((x / 18446744073709551616 : Nat) : Int) ≠ 0 := by omega
   rw [e1]; unfold tooL
   have D := Lib.hid d1
   clear hx hab hb e1
   generalize x / 18446744073709551616 = hi at *
   generalize x % 18446744073709551616 = lo at *
   go_enter Tryz.func294, Tryz.ntmps294
   go_wp2_with fail
   refine (C.out.1 _).mono ?_
   rintro e w' ⟨rfl, rfl⟩
   go_wp2_with fail
   refine (C.out.2.1 _).mono ?_
   rintro e w' ⟨rfl, rfl⟩
   go_wp2_with fail
   refine (C.out.2.2 _).mono ?_
   rintro e w' ⟨rfl, rfl⟩
   go_wp2
   go_ret
   exact ⟨rfl, rfl⟩
 · have d1 : x / 18446744073709551616 = 0 := by omega
   have d2 : x % 18446744073709551616 = x := by omega
   rw [d1, d2] at C
   by_cases hs : 4611686018427387904 ≤ x
   · have e1 : timesM a b = tooL := if_neg (by omega)
     rw [e1]; unfold tooL
     have hs' : (4611686018427387904 : Int) ≤ (x : Int) := by omega
     clear hx hab hb e1 d1 d2
     go_enter Tryz.func294, Tryz.ntmps294
     go_wp2_with fail
     refine (C.out.1 _).mono ?_
     rintro e w' ⟨rfl, rfl⟩
     go_wp2_with fail
     refine (C.out.2.1 _).mono ?_
     rintro e w' ⟨rfl, rfl⟩
     go_wp2_with fail
     refine (C.out.2.2 _).mono ?_
     rintro e w' ⟨rfl, rfl⟩
     go_wp2
     go_ret
     exact ⟨rfl, rfl⟩
   · have e1 : timesM a b = a * b := if_pos (by omega)
     rw [e1]
     have hs' : ¬ (4611686018427387904 : Int) ≤ (x : Int) := by omega
     have l1 : -9223372036854775808 ≤ a * b := by omega
     have l2 : a * b ≤ 9223372036854775807 := by omega
     clear hx hab hb e1 d1 d2 hs
     generalize (x : Int) = X at *
     go_enter Tryz.func294, Tryz.ntmps294
     go_wp2_with fail
     refine (C.out.1 _).mono ?_
     rintro e w' ⟨rfl, rfl⟩
     go_wp2_with fail
     refine (C.out.2.1 _).mono ?_
     rintro e w' ⟨rfl, rfl⟩
     go_wp2_with fail
     refine (C.out.2.2 _).mono ?_
     rintro e w' ⟨rfl, rfl⟩
     go_wp2
     go_ret
     exact ⟨ret_int (by omega), rfl⟩
end Go.Proofs.YtpkloolckbhdaaaGreatDoor
namespace Go.Proofs.YtpkloolckbhdaaaGreatDoor
open Go.Lib
theorem ctz_spec {x : Nat} (h0 : x ≠ 0) (h : x < 18446744073709551616) : ∃ m, x = 2 ^ ctz 64 x * (2 * m + 1) ∧ ctz 64 x < 64 := by
 obtain ⟨m, h1, h2⟩ := ctzFrom_spec 64 x (by omega) (by simpa using h)
 exact ⟨m, by unfold ctz; rw [if_neg h0]; exact h1, by unfold ctz; rw [if_neg h0]; exact h2⟩
theorem odd_cop (k m : Nat) : Nat.Coprime (2 ^ k) (2 * m + 1) := by
 refine Nat.Coprime.pow_left k ?_
 unfold Nat.Coprime
 rw [Nat.gcd_rec, show (2 * m + 1) % 2 = 1 by omega]; rfl
theorem gcd_odd (m k n : Nat) : Nat.gcd (2 * m + 1) (2 ^ k * n) = Nat.gcd (2 * m + 1) n := by
 rw [Nat.gcd_comm, Nat.Coprime.gcd_mul_left_cancel n (odd_cop k m), Nat.gcd_comm]
theorem shr_odd {x : Nat} (h0 : x ≠ 0) (h : x < 18446744073709551616) : ∃ m, x / 2 ^ ctz 64 x = 2 * m + 1 ∧ x = 2 ^ ctz 64 x * (2 * m + 1) := by
 obtain ⟨m, h1, _⟩ := ctz_spec h0 h
 refine ⟨m, ?_, h1⟩
 have : x / 2 ^ ctz 64 x = (2 ^ ctz 64 x * (2 * m + 1)) / 2 ^ ctz 64 x := congrArg (· / 2 ^ ctz 64 x) h1
 rw [this, Nat.mul_div_cancel_left _ (Nat.pow_pos (by decide))]
theorem dvd_ctz {x k m c : Nat} (h : x = 2 ^ c * (2 * m + 1)) : 2 ^ k ∣ x ↔ k ≤ c := by
 constructor
 · intro hd
   rcases Nat.lt_or_ge c k with q | q
   · exfalso
     have h1 : 2 ^ (c + 1) ∣ 2 ^ c * (2 * m + 1) := by rw [← h]; exact Nat.dvd_trans (Nat.pow_dvd_pow 2 q) hd
     rw [Nat.pow_succ] at h1
     have := Nat.dvd_of_mul_dvd_mul_left (Nat.pow_pos (by decide)) h1
     omega
   · exact q
 · intro q
   rw [h]; exact Nat.dvd_trans (Nat.pow_dvd_pow 2 q) (Nat.dvd_mul_right _ _)
theorem dvd_or (x y k : Nat) : 2 ^ k ∣ (x ||| y) ↔ 2 ^ k ∣ x ∧ 2 ^ k ∣ y := by
 rw [Nat.dvd_iff_mod_eq_zero, Nat.dvd_iff_mod_eq_zero, Nat.dvd_iff_mod_eq_zero, Nat.or_mod_two_pow, Nat.or_eq_zero_iff]
theorem ctz_or {x y : Nat} (hx : x ≠ 0) (hy : y ≠ 0) (h : x < 18446744073709551616) (h' : y < 18446744073709551616) : ctz 64 (x ||| y) = min (ctz 64 x) (ctz 64 y) := by
 obtain ⟨m, h1, _⟩ := ctz_spec hx h
 obtain ⟨n, h2, _⟩ := ctz_spec hy h'
 have h3 : x ||| y ≠ 0 := fun q => hx (Nat.or_eq_zero_iff.1 q).1
 obtain ⟨l, h4, _⟩ := ctz_spec h3 (Nat.or_lt_two_pow (n := 64) h h')
 have hk : ∀ k, k ≤ ctz 64 (x ||| y) ↔ k ≤ ctz 64 x ∧ k ≤ ctz 64 y := fun k => by
   rw [← dvd_ctz h4, dvd_or, dvd_ctz h1, dvd_ctz h2]
 have a := (hk (ctz 64 (x ||| y))).1 (Nat.le_refl _)
 have b := (hk (min (ctz 64 x) (ctz 64 y))).2 ⟨Nat.min_le_left _ _, Nat.min_le_right _ _⟩
 omega
theorem bin_start {x y : Nat} (hx : x ≠ 0) (hy : y ≠ 0) (h : x < 18446744073709551616) (h' : y < 18446744073709551616) :
   Nat.gcd x y = Nat.gcd (x / 2 ^ ctz 64 x) y * 2 ^ ctz 64 (x ||| y) := by
 obtain ⟨m, h1, h2⟩ := shr_odd hx h
 obtain ⟨n, _, h4⟩ := shr_odd hy h'
 rw [ctz_or hx hy h h', h1]
 generalize ctz 64 x = a at *
 generalize ctz 64 y = b at *
 subst h2; subst h4
 rw [gcd_odd]
 rcases Nat.le_total a b with q | q
 · obtain ⟨c, rfl⟩ := Nat.exists_eq_add_of_le q
   rw [Nat.min_eq_left q, Nat.pow_add, Nat.mul_assoc, Nat.gcd_mul_left, gcd_odd, Nat.mul_comm]
 · obtain ⟨c, rfl⟩ := Nat.exists_eq_add_of_le q
   rw [Nat.min_eq_right q, Nat.pow_add, Nat.mul_assoc, Nat.gcd_mul_left, Nat.Coprime.gcd_mul_left_cancel _ (odd_cop c n), Nat.mul_comm]
theorem bin_round {x y : Nat} (hx : x % 2 = 1) (hy : y ≠ 0) (h' : y < 18446744073709551616) :
   Nat.gcd (min x (y / 2 ^ ctz 64 y)) (max x (y / 2 ^ ctz 64 y) - min x (y / 2 ^ ctz 64 y)) = Nat.gcd x y ∧ min x (y / 2 ^ ctz 64 y) % 2 = 1 ∧
     min x (y / 2 ^ ctz 64 y) + (max x (y / 2 ^ ctz 64 y) - min x (y / 2 ^ ctz 64 y)) < x + y ∧ y / 2 ^ ctz 64 y ≤ y := by
 obtain ⟨n, h3, h4⟩ := shr_odd hy h'
 have h5 : y / 2 ^ ctz 64 y ≤ y := Nat.div_le_self _ _
 have h6 : Nat.gcd x y = Nat.gcd x (y / 2 ^ ctz 64 y) := by
   rw [h3]
   conv => lhs; rw [h4]
   obtain ⟨m, rfl⟩ : ∃ m, x = 2 * m + 1 := ⟨x / 2, by omega⟩
   exact gcd_odd _ _ _
 rw [h6]
 generalize y / 2 ^ ctz 64 y = z at *
 rcases Nat.le_total x z with q | q
 · rw [Nat.min_eq_left q, Nat.max_eq_right q]
   exact ⟨Nat.gcd_sub_self_right q, hx, by omega, h5⟩
 · rw [Nat.min_eq_right q, Nat.max_eq_left q]
   exact ⟨by rw [Nat.gcd_sub_self_right q, Nat.gcd_comm], by omega, by omega, h5⟩
end Go.Proofs.YtpkloolckbhdaaaGreatDoor
namespace Go.Proofs.YtpkloolckbhdaaaGreatDoor
open Go.RowKit
def Tab64 (w : World) : Prop := TabAt 1 Lib.deBruijn64tab w
theorem tz_core (x k idx : Nat) (w : World) (hx0 : ((x : Int) == 0) = false)
   (key : IntKind.u64.wrap (bits BinOp.and IntKind.u64 (x : Int) (IntKind.u64.wrap (-(x : Int))) * 285870213051353865) / 288230376151711744 = (idx : Int))
   (hi : idx < 64) (hk : k < 64) (hcell : w.cell? ⟨1, idx, none⟩ = some (.int .u8 k)) :
   Calls Tryz.prog 151 #[.int .u64 x] w fun e w' => e = .returned (.int .i64 k) ∧ w = w' := by
 go_enter Tryz.func151, Tryz.ntmps151
 go_wp2_with (simp only [key])
 go_ret
 exact ⟨rfl, rfl⟩
theorem tz_any (x : Nat) (w : World) (h0 : x ≠ 0) (hx : x < 18446744073709551616) (ht : Tab64 w) :
   Calls Tryz.prog 151 #[.int .u64 x] w fun e w' => e = .returned (.int .i64 (Lib.ctz 64 x : Nat)) ∧ w = w' := by
 obtain ⟨hlow, hk⟩ := Lib.lowest_bit 64 x h0 hx
 obtain ⟨hi, htab⟩ := Lib.deBruijn64_at _ hk
 have hcell := ht _ hi
 rw [htab] at hcell
 exact tz_core x _ _ w (by simp; omega) (tz64_key x _ hx h0 hlow) hi hk hcell
theorem bits_or_nat (a b : Nat) (ha : a < 18446744073709551616) (hb : b < 18446744073709551616) : bits .or .u64 (a : Int) (b : Int) = ((a ||| b : Nat) : Int) := by
 have hx : a ||| b < 2 ^ 64 := Nat.or_lt_two_pow ha hb
 have h1 : (BitVec.ofInt 64 (a : Int)).toNat = a := by
   rw [BitVec.ofInt_natCast, BitVec.toNat_ofNat]; exact Nat.mod_eq_of_lt (by omega)
 have h2 : (BitVec.ofInt 64 (b : Int)).toNat = b := by
   rw [BitVec.ofInt_natCast, BitVec.toNat_ofNat]; exact Nat.mod_eq_of_lt (by omega)
 show IntKind.u64.wrap ((BitVec.ofInt 64 (a : Int) ||| BitVec.ofInt 64 (b : Int)).toNat : Int) = _
 rw [BitVec.toNat_or, h1, h2, IntKind.wrap_u64]
 omega
theorem mach_divisor (a b : Int) (w : World) (h0 : -9223372036854775808 < a) (h1 : a ≤ 9223372036854775807) (h2 : -9223372036854775808 < b) (h3 : b ≤ 9223372036854775807) (ht : Tab64 w) :
   Calls Tryz.prog 113 #[.int .i64 a, .int .i64 b] w fun e W' => e = .returned (.int .i64 (Nat.gcd a.natAbs b.natAbs : Nat)) ∧ w = W' := by
 have ca := fun W => mach_size a W h0 h1
 have cb := fun W => mach_size b W h2 h3
 have ha : a.natAbs < 9223372036854775808 := by omega
 have hb : b.natAbs < 9223372036854775808 := by omega
 have C := Lib.hid (And.intro ca cb)
 have HT := Lib.hid ht
 clear ca cb h0 h1 h2 h3 ht
 generalize a.natAbs = x at *
 generalize b.natAbs = y at *
 by_cases hz : x = 0 ∨ y = 0
 · have hg : ((Nat.gcd x y : Nat) : Int) = (x : Int) + (y : Int) := by
     rcases hz with h | h
     · subst h; rw [Nat.gcd_zero_left]; simp
     · subst h; rw [Nat.gcd_zero_right]; simp
   rw [hg]
   have hs1 : (x : Int) + (y : Int) ≤ 9223372036854775807 := by rcases hz with h | h <;> omega
   by_cases hx : x = 0
   · have hx' : ((x : Int) == 0) = true := by simp [hx]
     clear hg hz
     go_enter Tryz.func113, Tryz.ntmps113
     go_wp2_with fail
     refine (C.out.1 _).mono ?_
     rintro e w' ⟨rfl, rfl⟩
     go_wp2_with fail
     refine (C.out.2 _).mono ?_
     rintro e w' ⟨rfl, rfl⟩
     go_wp2
     go_ret
     exact ⟨ret_int (by omega), rfl⟩
   · have hx' : ((x : Int) == 0) = false := by simp [hx]
     have hy' : ((y : Int) == 0) = true := by have := hz.resolve_left hx; simp [this]
     clear hg hz
     go_enter Tryz.func113, Tryz.ntmps113
     go_wp2_with fail
     refine (C.out.1 _).mono ?_
     rintro e w' ⟨rfl, rfl⟩
     go_wp2_with fail
     refine (C.out.2 _).mono ?_
     rintro e w' ⟨rfl, rfl⟩
     go_wp2
     go_ret
     exact ⟨ret_int (by omega), rfl⟩
 · have hx : x ≠ 0 := fun h => hz (.inl h)
   have hy : y ≠ 0 := fun h => hz (.inr h)
   have hx' : ((x : Int) == 0) = false := by simp [hx]
   have hy' : ((y : Int) == 0) = false := by simp [hy]
   have hor : bits BinOp.or IntKind.u64 (x : Int) (y : Int) = ((x ||| y : Nat) : Int) := bits_or_nat x y (by omega) (by omega)
   have ct := fun W (h : Tab64 W) => tz_any (x ||| y) W (fun q => hx (Nat.or_eq_zero_iff.1 q).1) (Nat.or_lt_two_pow (n := 64) (by omega) (by omega)) h
   have cx := fun W (h : Tab64 W) => tz_any x W hx (by omega) h
   have hst := bin_start hx hy (by omega) (by omega)
   have hmx : ∃ m, x / 2 ^ Lib.ctz 64 x = 2 * m + 1 := by obtain ⟨m, h, _⟩ := shr_odd hx (by omega); exact ⟨m, h⟩
   have HGL := Lib.hid (show Nat.gcd x y < 9223372036854775808 from Nat.lt_of_le_of_lt (Nat.gcd_le_left _ (by omega)) ha)
   have hle : x / 2 ^ Lib.ctz 64 x ≤ x := Nat.div_le_self _ _
   have hcx : Lib.ctz 64 x < 64 := by obtain ⟨_, _, h⟩ := ctz_spec hx (by omega); exact h
   have htt : Lib.ctz 64 (x ||| y) < 64 := by obtain ⟨_, _, h⟩ := ctz_spec (x := x ||| y) (fun q => hx (Nat.or_eq_zero_iff.1 q).1) (Nat.or_lt_two_pow (n := 64) (by omega) (by omega)); exact h
   have HT2 := Lib.hid (And.intro ct cx)
   clear ct cx hz hx hy
   generalize Lib.ctz 64 (x ||| y) = t at *
   have HST := Lib.hid (And.intro hst (And.intro hmx (And.intro hle (And.intro hcx htt))))
   clear hst hmx hle hor hcx htt
   have HOR := Lib.hid (bits_or_nat x y (by omega) (by omega))
   generalize x ||| y = xy at *
   go_enter Tryz.func113, Tryz.ntmps113
   go_wp2_with fail
   refine (C.out.1 _).mono ?_
   rintro e w' ⟨rfl, rfl⟩
   have HX := Lib.hid (And.intro hx' (And.intro hy' (And.intro ha hb)))
   clear ha hb hx' hy'
   go_wp2_with fail
   refine (C.out.2 _).mono ?_
   rintro e w' ⟨rfl, rfl⟩
   clear C
   have hx' := HX.out.1
   have hy' := HX.out.2.1
   have hor := HOR.out
   go_wp2_with fail
   refine (HT2.out.1 _ HT.out).mono ?_
   rintro e w' ⟨rfl, rfl⟩
   clear hor hx' hy'
   go_wp2_with fail
   refine (HT2.out.2 _ HT.out).mono ?_
   rintro e w' ⟨rfl, rfl⟩
   clear HT2
   generalize Lib.ctz 64 x = cx at *
   go_wp2_with fail
   have hst := HST.out
   have hmin : min cx 64 = cx := by have := hst.2.2.2.1; omega
   have e0 : ((x : Int) / 2 ^ cx) = ((x / 2 ^ cx : Nat) : Int) := by simp
   rw [hmin, e0]
   clear e0 hmin
   have HT64 := Lib.hid hst.2.2.2.2
   clear HST
   generalize hz : x / 2 ^ cx = z at *
   have HG := Lib.hid hst.1
   obtain ⟨m, hm⟩ := hst.2.1
   have hzl := hst.2.2.1
   have hx := HX.out.2.2.1
   have hyl := HX.out.2.2.2
   clear hst hz HX
   have HZ := Lib.hid (show z % 2 = 1 ∧ z < 9223372036854775808 ∧ y < 9223372036854775808 by omega)
   clear hx hyl hzl hm m
   go_loop [5, 6] (fun u v => ∃ X Y : Nat, u = .int .u64 X ∧ v = .int .u64 Y ∧ Hid (X % 2 = 1 ∧ X < 9223372036854775808 ∧ Y < 9223372036854775808) ∧ Hid (Nat.gcd X Y = Nat.gcd z y)) (fun u v => (intOf u + intOf v).toNat)
   case atStart => exact ⟨z, y, rfl, rfl, HZ, rfl⟩
   case round =>
     obtain ⟨X, Y, rfl, rfl, hb, hg⟩ := hrel
     by_cases hY : Y = 0
     · have hY' : ((Y : Int) == 0) = true := by simp [hY]
       have hgg := hg.out
       rw [hY, Nat.gcd_zero_right] at hgg
       have hfin : X * 2 ^ t = Nat.gcd x y := by rw [HG.out, ← hgg]
       have hlt : X * 2 ^ t < 9223372036854775808 := by
         rw [hfin]; exact HGL.out
       have HF := Lib.hid (And.intro hfin hlt)
       clear hfin hlt hgg hY
       go_wp2
       go_ret
       refine ⟨ret_int ?_, rfl⟩
       have h1 := HF.out.1
       have h2 := HF.out.2
       have hm : min t 64 = t := by have := HT64.out; omega
       rw [hm, show ((X : Int) * 2 ^ t) = ((X * 2 ^ t : Nat) : Int) by simp, ← h1]
       generalize X * 2 ^ t = g at *
       rw [IntKind.wrap_u64]
       unfold wrap64
       omega
     · have hY' : ((Y : Int) == 0) = false := by simp [hY]
       have hr := bin_round hb.out.1 hY (by have := hb.out.2.2; omega)
       have ct := tz_any Y w hY (by have := hb.out.2.2; omega) HT.out
       have hc64 : Lib.ctz 64 Y < 64 := by obtain ⟨_, _, h⟩ := ctz_spec hY (by have := hb.out.2.2; omega); exact h
       have HR := Lib.hid (And.intro hr (And.intro ct hc64))
       clear hr ct hc64
       generalize Lib.ctz 64 Y = cy at *
       go_wp2_with fail
       refine HR.out.2.1.mono ?_
       rintro e w' ⟨rfl, rfl⟩
       obtain ⟨⟨r1, r2, r3, r4⟩, _, hc64⟩ := HR.out
       obtain ⟨Z, hZ⟩ : ∃ Z, Y / 2 ^ cy = Z := ⟨_, rfl⟩
       have e1 : (Y : Int) / 2 ^ min cy 64 = (Z : Int) := by rw [show min cy 64 = cy by omega, ← hZ]; simp
       rw [hZ] at r1 r2 r3 r4
       have hX1 := hb.out.2.1
       have hY1 := hb.out.2.2
       have hX0 := hb.out.1
       by_cases hxz : X ≤ Z
       · rw [Nat.min_eq_left hxz] at r1 r2 r3
         rw [Nat.max_eq_right hxz] at r1 r3
         have emin : min (X : Int) (Z : Int) = X := by omega
         have emax : max (X : Int) (Z : Int) = Z := by omega
         have HQ := Lib.hid (And.intro (r1.trans hg.out) r3)
         have HW := Lib.hid (show X % 2 = 1 ∧ X < 9223372036854775808 ∧ Z - X < 9223372036854775808 by omega)
         have esub : IntKind.u64.wrap ((Z : Int) - (X : Int)) = ((Z - X : Nat) : Int) := by rw [IntKind.wrap_u64]; omega
         have HS := Lib.hid hxz
         clear r1 r2 r3 r4 hZ HR hb hg hX0 hX1 hY1 hc64 hxz
         go_wp2
         go_round
         case rel => exact ⟨X, Z - X, rfl, by go_num, HW, HQ.out.1⟩
         case measure => have := HQ.out.2; have := HS.out; simp [intOf]; omega
       · have hxz : Z ≤ X := by omega
         rw [Nat.min_eq_right hxz] at r1 r2 r3
         rw [Nat.max_eq_left hxz] at r1 r3
         have emin : min (X : Int) (Z : Int) = Z := by omega
         have emax : max (X : Int) (Z : Int) = X := by omega
         have HQ := Lib.hid (And.intro (r1.trans hg.out) r3)
         have HW := Lib.hid (show Z % 2 = 1 ∧ Z < 9223372036854775808 ∧ X - Z < 9223372036854775808 by omega)
         have esub : IntKind.u64.wrap ((X : Int) - (Z : Int)) = ((X - Z : Nat) : Int) := by rw [IntKind.wrap_u64]; omega
         have HS := Lib.hid hxz
         clear r1 r2 r3 r4 hZ HR hb hg hX0 hX1 hY1 hc64 hxz
         go_wp2
         go_round
         case rel => exact ⟨Z, X - Z, rfl, by go_num, HW, HQ.out.1⟩
         case measure => have := HQ.out.2; have := HS.out; simp [intOf]; omega
end Go.Proofs.YtpkloolckbhdaaaGreatDoor
namespace Go.Proofs.YtpkloolckbhdaaaGreatDoor
open Go.ChangeShapes Go.WideShapes Go.ChangeAt Go.RowKit
theorem gTab64 : Tryz.prog.globalNamed "math/bits.deBruijn64tab" = some 1 := by kernel_rfl
theorem laid64_tab : (Rows.laid_math_bits_deBruijn64tab : DataW Unit) = Lib.tabData .u8 (Lib.deBruijn64tab.map fun n : Nat => (n : Int)) := rfl
theorem tab64_of {W : World} (h : Lib.TabIs Tryz.prog W "math/bits.deBruijn64tab" .u8 (Lib.deBruijn64tab.map fun n : Nat => (n : Int))) : Tab64 W := by
 intro j hj
 unfold Lib.TabIs World.var? at h
 rw [gTab64] at h
 unfold World.cell?
 cases hh : W.heap[1]? with
 | none => simp [hh] at h
 | some o =>
   cases o with
   | cells cs t f =>
     have h1 : some cs = some ((Lib.deBruijn64tab.map fun n : Nat => (n : Int)).map fun z => Value.int .u8 z).toArray := by
       rw [← h]; simp only [Option.bind_some, hh]
     have h2 := Option.some.inj h1
     subst h2
     have hj' : j < 64 := hj
     simp only [List.map_map, List.getElem?_toArray, List.getElem?_map]
     rw [List.getD_eq_getElem?_getD, List.getElem?_eq_getElem hj]
     rfl
   | _ => simp [hh] at h
section
variable {H : Type} {enc : TypeId × Value → H} {P : Program} {w : World} {base : Nat} {spare : Nat → Bool} {held : Bool}
end
end Go.Proofs.YtpkloolckbhdaaaGreatDoor
namespace Go.Proofs.YtpkloolckbhdaaaGreatDoor
def B : Nat := 1000000000
theorem B_eq : B = 1000000000 := rfl
theorem B_pos : 0 < B := by decide
def toN : List Nat → Nat
 | [] => 0
 | d :: r => d + B * toN r
def Dig (l : List Nat) : Prop := ∀ x ∈ l, x < 1000000000
theorem Dig.nil : Dig [] := fun _ h => by cases h
theorem Dig.cons {d : Nat} {l : List Nat} (h : d < 1000000000) (hl : Dig l) : Dig (d :: l) := fun x hx => by
 rcases List.mem_cons.1 hx with rfl | hx
 · exact h
 · exact hl x hx
theorem Dig.head {d : Nat} {l : List Nat} (h : Dig (d :: l)) : d < 1000000000 := h d (by simp)
theorem Dig.tail {d : Nat} {l : List Nat} (h : Dig (d :: l)) : Dig l := fun x hx => h x (by simp [hx])
theorem Dig.take {l : List Nat} (h : Dig l) (k : Nat) : Dig (l.take k) := fun x hx => h x (List.mem_of_mem_take hx)
theorem Dig.drop {l : List Nat} (h : Dig l) (k : Nat) : Dig (l.drop k) := fun x hx => h x (List.mem_of_mem_drop hx)
theorem Dig.append {l m : List Nat} (h : Dig l) (h' : Dig m) : Dig (l ++ m) := fun x hx => by
 rcases List.mem_append.1 hx with hx | hx
 · exact h x hx
 · exact h' x hx
theorem Dig.one {d : Nat} (h : d < 1000000000) : Dig [d] := Dig.cons h Dig.nil
theorem Dig.getD {l : List Nat} (h : Dig l) (i : Nat) : l.getD i 0 < 1000000000 := by
 by_cases hi : i < l.length
 · rw [List.getD_eq_getElem?_getD, List.getElem?_eq_getElem hi]; exact h _ (List.getElem_mem _)
 · rw [List.getD_eq_getElem?_getD, List.getElem?_eq_none (by omega)]; simp
theorem Dig.replicate (k : Nat) : Dig (List.replicate k 0) := fun x hx => by
 rw [(List.mem_replicate.1 hx).2]; decide
theorem toN_append (l m : List Nat) : toN (l ++ m) = toN l + B ^ l.length * toN m := by
 induction l with
 | nil => simp [toN]
 | cons d r ih =>
   simp only [List.cons_append, toN, ih, List.length_cons, Nat.pow_succ]
   rw [Nat.mul_add, Nat.add_assoc, ← Nat.mul_assoc, Nat.mul_comm B (B ^ r.length)]
theorem toN_snoc (l : List Nat) (d : Nat) : toN (l ++ [d]) = toN l + B ^ l.length * d := by
 rw [toN_append]; simp [toN]
theorem toN_replicate (k : Nat) : toN (List.replicate k 0) = 0 := by
 induction k with
 | zero => rfl
 | succ k ih => rw [List.replicate_succ]; simp [toN, ih]
theorem toN_lt {l : List Nat} (h : Dig l) : toN l < B ^ l.length := by
 induction l with
 | nil => simp [toN]
 | cons d r ih =>
   have h1 := ih h.tail
   have h2 := h.head
   rw [toN, List.length_cons, Nat.pow_succ, Nat.mul_comm (B ^ r.length) B]
   have h3 : B * toN r + B ≤ B * B ^ r.length := by
     rw [← Nat.mul_succ]; exact Nat.mul_le_mul_left B h1
   rw [B_eq] at *
   omega
theorem take_succ_getD (l : List Nat) (k : Nat) (h : k < l.length) : l.take (k + 1) = l.take k ++ [l.getD k 0] := by
 rw [List.take_succ_eq_append_getElem h, List.getD_eq_getElem?_getD, List.getElem?_eq_getElem h]; rfl
theorem toN_take_succ (l : List Nat) (k : Nat) (h : k < l.length) : toN (l.take (k + 1)) = toN (l.take k) + B ^ k * l.getD k 0 := by
 rw [take_succ_getD l k h, toN_snoc, List.length_take, Nat.min_eq_left (by omega)]
def dg (n : Nat) : List Nat := if _h : n = 0 then [] else n % B :: dg (n / B)
termination_by n
decreasing_by exact Nat.div_lt_self (by omega) (by decide)
theorem dg_zero : dg 0 = [] := by rw [dg]; rfl
theorem dg_pos {n : Nat} (h : n ≠ 0) : dg n = n % B :: dg (n / B) := by rw [dg, dif_neg h]
theorem toN_dg (n : Nat) : toN (dg n) = n := by
 induction n using Nat.strongRecOn with
 | _ n ih =>
   by_cases h : n = 0
   · subst h; rw [dg_zero]; rfl
   · rw [dg_pos h, toN, ih (n / B) (Nat.div_lt_self (by omega) (by decide))]
     exact Nat.mod_add_div n B
theorem dg_Dig (n : Nat) : Dig (dg n) := by
 induction n using Nat.strongRecOn with
 | _ n ih =>
   by_cases h : n = 0
   · subst h; rw [dg_zero]; exact Dig.nil
   · rw [dg_pos h]
     exact Dig.cons (Nat.mod_lt _ (by decide)) (ih (n / B) (Nat.div_lt_self (by omega) (by decide)))
theorem toN_pos_of_last {l : List Nat} (hne : l ≠ []) (hl : l.getLast? ≠ some 0) : 0 < toN l := by
 induction l with
 | nil => exact absurd rfl hne
 | cons d r ih =>
   rw [toN]
   by_cases hr : r = []
   · subst hr
     have : d ≠ 0 := fun e => hl (by rw [e]; rfl)
     omega
   · have h1 := ih hr (by rwa [List.getLast?_cons_of_ne_nil hr] at hl)
     have := Nat.mul_pos B_pos h1
     omega
theorem dg_toN {l : List Nat} (h : Dig l) (hl : l.getLast? ≠ some 0) : dg (toN l) = l := by
 induction l with
 | nil => exact dg_zero
 | cons d r ih =>
   have h0 := toN_pos_of_last (l := d :: r) (by simp) hl
   have hd : d < B := h.head
   rw [dg_pos (by omega)]
   simp only [toN]
   have e1 : (d + B * toN r) % B = d := by rw [Nat.add_mul_mod_self_left]; exact Nat.mod_eq_of_lt hd
   have e2 : (d + B * toN r) / B = toN r := by
     rw [Nat.add_mul_div_left _ _ B_pos, Nat.div_eq_of_lt hd]; omega
   rw [e1, e2]
   by_cases hr : r = []
   · subst hr; rw [show toN [] = 0 from rfl, dg_zero]
   · rw [ih h.tail (by rwa [List.getLast?_cons_of_ne_nil hr] at hl)]
theorem dg_last (n : Nat) : (dg n).getLast? ≠ some 0 := by
 induction n using Nat.strongRecOn with
 | _ n ih =>
   by_cases h : n = 0
   · subst h; rw [dg_zero]; simp
   · rw [dg_pos h]
     have h1 := ih (n / B) (Nat.div_lt_self (by omega) (by decide))
     by_cases hr : dg (n / B) = []
     · rw [hr]
       intro e
       have e : n % B = 0 := by simpa using e
       have e2 : n / B = 0 := by have := toN_dg (n / B); rw [hr] at this; exact this.symm
       have := Nat.mod_add_div n B
       rw [e, e2] at this; omega
     · rwa [List.getLast?_cons_of_ne_nil hr]
theorem dg_nil_iff (n : Nat) : dg n = [] ↔ n = 0 := by
 constructor
 · intro h; have := toN_dg n; rw [h] at this; exact this.symm
 · rintro rfl; exact dg_zero
theorem dg_length_le (n k : Nat) : (dg n).length ≤ k ↔ n < B ^ k := by
 constructor
 · intro h
   have h1 := toN_lt (dg_Dig n)
   rw [toN_dg] at h1
   exact Nat.lt_of_lt_of_le h1 (Nat.pow_le_pow_right B_pos h)
 · induction k generalizing n with
   | zero => intro h; have : n = 0 := by simpa using h
             subst this; rw [dg_zero]; exact Nat.le_refl _
   | succ k ih =>
     intro h
     by_cases h0 : n = 0
     · subst h0; rw [dg_zero]; simp
     · rw [dg_pos h0, List.length_cons]
       have := ih (n / B) (by rw [Nat.div_lt_iff_lt_mul B_pos]; rwa [Nat.pow_succ] at h)
       omega
theorem dg_of_take {l : List Nat} (h : Dig l) (k : Nat) (hk : k ≤ l.length) (hv : toN (l.take k) = toN l) (hl : k = 0 ∨ l.getD (k - 1) 0 ≠ 0) : dg (toN l) = l.take k := by
 rw [← hv]
 refine dg_toN (h.take k) ?_
 rcases hl with rfl | hl
 · simp
 · intro e
   by_cases h0 : k = 0
   · subst h0; simp at e
   · apply hl
     have h1 : k - 1 < l.length := by omega
     have h2 := take_succ_getD l (k - 1) h1
     rw [Nat.sub_add_cancel (by omega)] at h2
     rw [h2, List.getLast?_concat] at e
     exact Option.some.inj e
theorem dg_one {n : Nat} (h0 : n ≠ 0) (h : n < B) : dg n = [n] := by
 rw [dg_pos h0, Nat.mod_eq_of_lt h, Nat.div_eq_of_lt h, dg_zero]
end Go.Proofs.YtpkloolckbhdaaaGreatDoor
