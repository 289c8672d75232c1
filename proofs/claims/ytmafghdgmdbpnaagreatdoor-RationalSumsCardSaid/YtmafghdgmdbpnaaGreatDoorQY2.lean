/- Parts of the proof of the text YtmafghdgmdbpnaaGreatDoorQY30. -/
import Derived.WalkSmall
import Derived.Test.YtmafghdgmdbpnaaGreatDoorRows
import Derived.Test.YtmafghdgmdbpnaaGreatDoorCards
import Derived.Test.YtmafghdgmdbpnaaGreatDoorTie
import Derived.ProofKit
import Derived.LaidMore
import Derived.OpenShut
import Derived.Stop.Joined
import Derived.Stop.LaidErr
import Derived.SevenTiedAt
import Derived.Below
import Derived.Lib.TrailingZeros
import Derived.Shelf.Spec.TrailingZeros
import Derived.Lib.MinMax
import Derived.Test.YtmafghdgmdbpnaaGreatDoorQY1
set_option linter.all false
set_option maxRecDepth 100000
set_option maxHeartbeats 8000000
namespace Go.Proofs.YtmafghdgmdbpnaaGreatDoor
open Go.RowKit
def Tab (w : World) : Prop := Lib.TabIs Tryz.prog w "internal/strconv.uint64pow10" .u64 Lib.pow10Tab
theorem gTab : Tryz.prog.globalNamed "internal/strconv.uint64pow10" = some 3 := by kernel_rfl
theorem Tab.below {w w' : World} {B : Nat} (h : Tab w) (hb : Below B w w') (hB : 3 < B) : Tab w' :=
 var?_below hb gTab hB h
theorem Tab.lt {w : World} (h : Tab w) : 3 < w.heap.size := by
 unfold Tab Lib.TabIs World.var? at h
 simp only [gTab, Option.bind_some] at h
 by_cases hlt : 3 < w.heap.size
 · exact hlt
 · rw [Array.getElem?_eq_none (by omega)] at h; simp at h
theorem Tab.next {w w' : World} (h : Tab w) (hb : Below w.heap.size w w') : Tab w' := h.below hb h.lt
def chk2 (a b : List UInt8) : Int := if chk a = 0 then chk b else chk a
theorem checkBoth_any (a b : ByteArray) (w : World) (ha : a.size ≤ maxLen) (hb : b.size ≤ maxLen) :
   Calls Tryz.prog 113 #[.string a, .string b] w fun e w' => e = .returned (.int .i64 (chk2 a.data.toList b.data.toList)) ∧ w = w' := by
 generalize hx : chk a.data.toList = x
 have HX := Lib.hid hx; clear hx
 by_cases h0 : (x == 0) = true
 · have hn : (x != 0) = false := by simpa using h0
   go_enter Tryz.func113, Tryz.ntmps113
   go_wp2_with fail
   refine (check_any a _ ha).mono ?_
   rw [HX.out]; rintro e w' ⟨rfl, rfl⟩
   go_wp2_with fail
   refine (check_any b _ hb).mono ?_
   rintro e w' ⟨rfl, rfl⟩
   go_wp2
   go_ret
   exact ⟨ret_int (by unfold chk2; rw [HX.out, if_pos (by simpa using h0)]), rfl⟩
 · have hn : (x != 0) = true := by simpa using h0
   go_enter Tryz.func113, Tryz.ntmps113
   go_wp2_with fail
   refine (check_any a _ ha).mono ?_
   rw [HX.out]; rintro e w' ⟨rfl, rfl⟩
   go_wp2
   go_ret
   exact ⟨ret_int (by unfold chk2; rw [HX.out, if_neg (by simpa using h0)]), rfl⟩
theorem isShort_any (s : ByteArray) (w : World) (_hs : s.size ≤ maxLen) :
   Calls Tryz.prog 114 #[.string s] w fun e w' => e = .returned (.bool (decide ((s.size : Int) ≤ 18))) ∧ w = w' := by
 go_enter Tryz.func114, Tryz.ntmps114
 go_wp2
 go_ret
 exact ⟨rfl, rfl⟩
theorem chk_dig {l : List UInt8} (h : chk l = 0) : ∀ c ∈ szL l, isDig c = true := by
 by_cases h1 : (szL l).all isDig = true
 · exact List.all_eq_true.1 h1
 · rw [chk_bad (by simpa using h1)] at h; cases h
theorem natOf_18 (l : List UInt8) (h : ∀ c ∈ l, isDig c = true) (hl : l.length ≤ 18) : natOf l < 1000000000000000000 := by
 have := natOf_take_18 l h l.length hl
 rwa [List.take_length] at this
theorem valOf_szL (l : List UInt8) : valOf l = if isNeg l = true then -(natOf (szL l) : Int) else (natOf (szL l) : Int) := by
 unfold valOf szL; split <;> simp_all
theorem szL_length (l : List UInt8) : (szL l).length ≤ l.length := by
 unfold szL; split
 · rw [List.length_tail]; omega
 · exact Nat.le_refl _
theorem valOf_short {l : List UInt8} (h : chk l = 0) (hl : l.length ≤ 18) : -1000000000000000000 < valOf l ∧ valOf l < 1000000000000000000 := by
 have h1 := natOf_18 (szL l) (chk_dig h) (Nat.le_trans (szL_length l) hl)
 rw [valOf_szL]; split <;> omega
theorem machine_any (s : ByteArray) (w : World) (hs : s.size ≤ 18) (hc : chk s.data.toList = 0) :
   Calls Tryz.prog 116 #[.string s] w fun e w' => e = .returned (.int .i64 (valOf s.data.toList)) ∧ w = w' := by
 have hd := Lib.hid (chk_dig hc)
 clear hc
 have h1 := natOf_18 (szL s.data.toList) hd.out (Nat.le_trans (szL_length _) hs)
 have hv := Lib.hid (valOf_szL s.data.toList)
 by_cases h : isNeg s.data.toList = true
 · have h0 := isNeg_size h
   have hz : szB s = s.extract 1 s.size := by unfold szB; rw [if_pos h]
   have HZ := Lib.hid (szB_data s); have HZ2 := Lib.hid hz; clear hz
   have hz3 : (s.extract 1 s.size).size ≤ 18 := by rw [ByteArray.size_extract]; omega
   have c := value_any (s.extract 1 s.size) w hz3 (by rw [← HZ2.out, HZ.out]; exact hd.out)
   rw [← HZ2.out, HZ.out] at c
   rw [HZ2.out] at c
   generalize natOf (szL s.data.toList) = n at *
   go_enter Tryz.func116, Tryz.ntmps116
   go_wp2_with fail
   refine (isNegative_any s _).mono ?_; rw [h]; rintro e w' ⟨rfl, rfl⟩
   go_wp2_with fail
   refine c.mono ?_; clear c; rintro e w' ⟨rfl, rfl⟩
   go_wp2
   go_ret
   exact ⟨ret_int (by rw [hv.out, if_pos h]), rfl⟩
 · have h' : isNeg s.data.toList = false := by simpa using h
   have hz : szB s = s := by unfold szB; rw [if_neg h]
   have HZ := Lib.hid (szB_data s); have HZ2 := Lib.hid hz; clear hz
   have c := value_any s w hs (by rw [← HZ2.out, HZ.out]; exact hd.out)
   rw [← HZ2.out, HZ.out] at c
   rw [HZ2.out] at c
   generalize natOf (szL s.data.toList) = n at *
   go_enter Tryz.func116, Tryz.ntmps116
   go_wp2_with fail
   refine (isNegative_any s _).mono ?_; rw [h']; rintro e w' ⟨rfl, rfl⟩
   go_wp2_with fail
   refine c.mono ?_; clear c; rintro e w' ⟨rfl, rfl⟩
   go_wp2
   go_ret
   exact ⟨ret_int (by rw [hv.out, if_neg h]), rfl⟩
def strB (z : Int) : ByteArray := ⟨(Lib.itoa z).toArray⟩
theorem strB_data (z : Int) : (strB z).data.toList = Lib.itoa z := by unfold strB; simp
theorem ofMachine_any (z : Int) (w : World) (h0 : -9223372036854775808 ≤ z) (h1 : z ≤ 9223372036854775807) (ht : Tab w) :
   Calls Tryz.prog 117 #[.int .i64 z] w fun e w' => e = .returned (.string (strB z)) ∧ Below w.heap.size w w' := by
 have c := Tryz.strconv_FormatInt_10 z h0 h1 w ht
 clear h0 h1
 go_enter Tryz.func117, Tryz.ntmps117
 go_wp2_with fail
 refine c.mono ?_
 clear c
 rintro e w' ⟨rfl, k, os, rfl⟩
 go_wp2
 go_ret
 exact ⟨rfl, Lib.below_grow _ _ (Nat.le_refl _) _ _⟩
theorem ret_two {k1 k2 : IntKind} {a b c d : Int} (h : a = b) (h2 : c = d) : Ending.returned (.tuple #[.int k1 a, .int k2 c]) = .returned (.tuple #[.int k1 b, .int k2 d]) := by rw [h, h2]
theorem tdiv_bd (a b : Int) (ha : -1000000000000000000 < a) (ha' : a < 1000000000000000000) : -1000000000000000000 < a.tdiv b ∧ a.tdiv b < 1000000000000000000 := by
 have h := Int.natAbs_tdiv_le_natAbs a b
 omega
theorem tmod_bd (a b : Int) (ha : -1000000000000000000 < a) (ha' : a < 1000000000000000000) : -1000000000000000000 < a.tmod b ∧ a.tmod b < 1000000000000000000 := by
 have h := Int.natAbs_tmod a b
 have h2 := Nat.mod_le a.natAbs b.natAbs
 omega
theorem divideMachine_any (a b : Int) (w : World) (ha : -1000000000000000000 < a) (ha' : a < 1000000000000000000) (hb : -1000000000000000000 < b) (hb' : b < 1000000000000000000) (h0 : b ≠ 0) :
   Calls Tryz.prog 115 #[.int .i64 a, .int .i64 b] w fun e w' => e = .returned (.tuple #[.int .i64 (a.fdiv b), .int .i64 (a.fmod b)]) ∧ ∃ n, w' = w.drewN n := by
 have hq := tdiv_bd a b ha ha'
 have hr := tmod_bd a b ha ha'
 have hz : (b == 0) = false := by simpa using h0
 have e1 := Lib.hid (fun h => @fdiv_same a b h0 h)
 have e2 := Lib.hid (fun h h' => @fdiv_other a b h0 h h')
 go_enter Tryz.func115, Tryz.ntmps115
 go_wp2
 go_quiet (fail)
 generalize a.tdiv b = q at *
 generalize a.tmod b = r at *
 by_cases c0 : r = 0
 · have c1 : (r != 0) = false := by simpa using c0
   clear c0
   go_wp2
   go_returns
   obtain ⟨f1, f2⟩ := e1.out (.inl (by simpa using c1))
   exact ⟨ret_two f1.symm f2.symm, _, rfl⟩
 · have c1 : (r != 0) = true := by simpa using c0
   clear c0
   by_cases c2 : r < 0 <;> by_cases c3 : b < 0
   all_goals
     go_wp2
     go_returns
     first
     | (obtain ⟨f1, f2⟩ := e1.out (.inr (by omega))
        exact ⟨ret_two f1.symm f2.symm, _, rfl⟩)
     | (obtain ⟨f1, f2⟩ := e2.out (by simpa using c1) (by omega)
        exact ⟨ret_two f1.symm f2.symm, _, rfl⟩)
theorem gcdMachine_any (a b : Nat) (w : World) (ha : a < 18446744073709551616) (hb : b < 18446744073709551616) :
   Calls Tryz.prog 156 #[.int .u64 a, .int .u64 b] w fun e w' => e = .returned (.int .u64 (Nat.gcd a b : Nat)) ∧ ∃ n, w' = w.drewN n := by
 go_enter Tryz.func156, Tryz.ntmps156
 go_wp2
 go_loopw [0, 1] (fun x y wr => ∃ a' b' : Nat, a' < 18446744073709551616 ∧ b' < 18446744073709551616 ∧ x = .int .u64 a' ∧ y = .int .u64 b' ∧ Hid (Nat.gcd a' b' = Nat.gcd a b) ∧ ∃ n, wr = w.drewN n) (fun _ y _ => (intOf y).toNat)
 case atStart => exact ⟨a, b, ha, hb, rfl, rfl, rfl, 0, rfl⟩
 case round =>
   obtain ⟨a', b', ha', hb', rfl, rfl, hg, m, rfl⟩ := hrel
   clear ha hb
   by_cases h0 : b' = 0
   · subst h0
     go_wp2
     go_ret
     exact ⟨ret_int (by have := hg.out; rw [Nat.gcd_zero_right] at this; rw [this]), m, rfl⟩
   · have hne : ((b' : Int) != 0) = true := by simpa using h0
     have hne2 : ((b' : Int) == 0) = false := by simpa using h0
     have hlt : a' % b' < b' := Nat.mod_lt _ (by omega)
     have hcast : ((a' % b' : Nat) : Int) = (a' : Int) % (b' : Int) := Int.natCast_emod _ _
     have HC := Lib.hid hcast; clear hcast
     have hg2 : Hid (Nat.gcd b' (a' % b') = Nat.gcd a b) := by
       show Nat.gcd b' (a' % b') = Nat.gcd a b
       rw [← hg.out, Nat.gcd_comm a' b', Nat.gcd_rec b' a', Nat.gcd_comm]
     clear hg h0
     go_wp2
     go_quiet (fail)
     go_wp2
     go_roundw
     case rel => exact ⟨b', a' % b', hb', by omega, rfl, by rw [HC.out], hg2, _, World.drewN_drewN _ _ _⟩
     case measure => simp [intOf]; omega
end Go.Proofs.YtmafghdgmdbpnaaGreatDoor
namespace Go.Proofs.YtmafghdgmdbpnaaGreatDoor
open Go.ChangeShapes Go.WideShapes Go.ChangeAt Go.RowKit
theorem own : ownKnob Tryz.prog.godebug = none := by kernel_rfl
def laid3 : List (String × DataW Unit) := [("math/bits.deBruijn32tab", Rows.laid_math_bits_deBruijn32tab), ("math/bits.deBruijn64tab", Rows.laid_math_bits_deBruijn64tab), ("internal/strconv.uint64pow10", Rows.laid_internal_strconv_uint64pow10)]
theorem door_met (os : Os) (args : Array Value) : laidMetH Tryz.prog laid3 ((World.doorLaid Tryz.prog 400 os).forCall (fun _ _ => 0) ⟨#[], args, []⟩).memory :=
 laidMetH_of_parts3 (fuel := 8) (laidMet_of_run' 8 (by kernel_rfl) (by kernel_rfl)) (by kernel_rfl) (by kernel_rfl)
theorem tab_of_laid {W : World} (h : laidMetH Tryz.prog laid3 W) : Tab W := by
 rw [MakeChecks.laidMetH_plain _ _ _ (by kernel_rfl)] at h
 have h2 : laidMet Tryz.prog [("internal/strconv.uint64pow10", Lib.tabData .u64 Lib.pow10Tab)] W := laidMet.tail (laidMet.tail h)
 exact Lib.tabIs_of_head gTab (t := 215) (e := 162) (n := 20) (by kernel_rfl) (by kernel_rfl) (by kernel_rfl) (by kernel_rfl) (by kernel_rfl) h2
end Go.Proofs.YtmafghdgmdbpnaaGreatDoor
namespace Go.Proofs.YtmafghdgmdbpnaaGreatDoor
open Go.RowKit
def tooL : Int := -9223372036854775808
theorem mach_size (a : Int) (w : World) (h0 : -9223372036854775808 < a) (h1 : a ≤ 9223372036854775807) :
   Calls Tryz.prog 131 #[.int .i64 a] w fun e W' => e = .returned (.int .u64 (a.natAbs : Int)) ∧ w = W' := by
 by_cases hn : a < 0
 · go_enter Tryz.func131, Tryz.ntmps131
   go_wp2
   go_ret
   exact ⟨ret_int (by omega), rfl⟩
 · go_enter Tryz.func131, Tryz.ntmps131
   go_wp2
   go_ret
   exact ⟨ret_int (by omega), rfl⟩
theorem mach_neg (a : Int) (w : World) :
   Calls Tryz.prog 227 #[.int .i64 a] w fun e W' => e = .returned (.bool (decide (a < 0))) ∧ w = W' := by
 go_enter Tryz.func227, Tryz.ntmps227
 go_wp2
 go_ret
 exact ⟨rfl, rfl⟩
theorem mach_one (a : Int) (w : World) :
   Calls Tryz.prog 228 #[.int .i64 a] w fun e W' => e = .returned (.bool (a == 1)) ∧ w = W' := by
 go_enter Tryz.func228, Tryz.ntmps228
 go_wp2
 go_ret
 exact ⟨rfl, rfl⟩
theorem mach_opp (a : Int) (w : World) (h0 : -9223372036854775808 < a) (h1 : a ≤ 9223372036854775807) :
   Calls Tryz.prog 230 #[.int .i64 a] w fun e W' => e = .returned (.int .i64 (-a)) ∧ w = W' := by
 go_enter Tryz.func230, Tryz.ntmps230
 go_wp2
 go_ret
 exact ⟨ret_int (by omega), rfl⟩
theorem mach_err (a : Int) (w : World) :
   Calls Tryz.prog 226 #[.int .i64 a] w fun e W' => e = .returned (.int .i64 (if a = tooL then 4 else 0)) ∧ w = W' := by
 by_cases h : a = tooL
 · rw [if_pos h]
   unfold tooL at h; subst h
   go_enter Tryz.func226, Tryz.ntmps226
   go_wp2
   go_ret
   exact ⟨rfl, rfl⟩
 · rw [if_neg h]
   unfold tooL at h
   go_enter Tryz.func226, Tryz.ntmps226
   go_wp2
   go_ret
   exact ⟨rfl, rfl⟩
theorem mach_over (a b : Int) (w : World) (h0 : -9223372036854775808 < a) (h1 : a ≤ 9223372036854775807) (hb : 0 < b) (h2 : b ≤ 9223372036854775807) :
   Calls Tryz.prog 231 #[.int .i64 a, .int .i64 b] w fun e W' => e = .returned (.int .i64 (a.tdiv b)) ∧ w = W' := by
 have hb0 : ¬ b = 0 := by omega
 have hb1 : (b == 0) = false := by simpa using hb0
 go_enter Tryz.func231, Tryz.ntmps231
 go_wp2
 go_ret
 exact ⟨ret_int (by omega), rfl⟩
theorem mach_plus (a b : Int) (w : World) (h0 : -9223372036854775808 < a) (h1 : a ≤ 9223372036854775807) (h2 : -9223372036854775808 < b) (h3 : b ≤ 9223372036854775807)
   (h4 : -9223372036854775808 < a + b) (h5 : a + b ≤ 9223372036854775807) :
   Calls Tryz.prog 232 #[.int .i64 a, .int .i64 b] w fun e W' => e = .returned (.int .i64 (a + b)) ∧ w = W' := by
 have n1 : (a == -9223372036854775808) = false := by simp; omega
 have n2 : (b == -9223372036854775808) = false := by simp; omega
 go_enter Tryz.func232, Tryz.ntmps232
 go_wp2
 go_ret
 exact ⟨ret_int (by omega), rfl⟩
theorem mach_plus1 (b : Int) (w : World) :
   Calls Tryz.prog 232 #[.int .i64 tooL, .int .i64 b] w fun e W' => e = .returned (.int .i64 tooL) ∧ w = W' := by
 unfold tooL
 go_enter Tryz.func232, Tryz.ntmps232
 go_wp2
 go_ret
 exact ⟨rfl, rfl⟩
theorem mach_plus2 (a : Int) (w : World) :
   Calls Tryz.prog 232 #[.int .i64 a, .int .i64 tooL] w fun e W' => e = .returned (.int .i64 tooL) ∧ w = W' := by
 by_cases h : a = -9223372036854775808
 · subst h
   exact mach_plus1 _ w
 · unfold tooL
   go_enter Tryz.func232, Tryz.ntmps232
   go_wp2
   go_ret
   exact ⟨rfl, rfl⟩
def timesM (a b : Int) : Int := if (a * b).natAbs < 4611686018427387904 then a * b else tooL
theorem mach_times (a b : Int) (w : World) (h0 : -9223372036854775808 < a) (h1 : a ≤ 9223372036854775807) (h2 : -9223372036854775808 < b) (h3 : b ≤ 9223372036854775807) :
   Calls Tryz.prog 233 #[.int .i64 a, .int .i64 b] w fun e W' => e = .returned (.int .i64 (timesM a b)) ∧ w = W' := by
 have ca := fun W => mach_size a W h0 h1
 have cb := fun W => mach_size b W h2 h3
 have cm := fun W => Tryz.bits_Mul64 a.natAbs b.natAbs (by omega) (by omega) W
 have hab : (a * b).natAbs = a.natAbs * b.natAbs := Int.natAbs_mul a b
 have C := Lib.hid (And.intro ca (And.intro cb cm))
 clear ca cb cm
 generalize hx : a.natAbs * b.natAbs = x at *
 by_cases hb : 18446744073709551616 ≤ x
 · have e1 : timesM a b = tooL := if_neg (by omega)
   have d1 : ((x / 18446744073709551616 : Nat) : Int) ≠ 0 := by omega
   rw [e1]; unfold tooL
   have D := Lib.hid d1
   clear hx hab hb e1
   generalize x / 18446744073709551616 = hi at *
   generalize x % 18446744073709551616 = lo at *
   go_enter Tryz.func233, Tryz.ntmps233
   go_wp2_with fail
   refine (C.out.1 _).mono ?_
   rintro e w' ⟨rfl, rfl⟩
   go_wp2_with fail
   refine (C.out.2.1 _).mono ?_
   rintro e w' ⟨rfl, rfl⟩
   go_wp2_with fail
   refine (C.out.2.2 _).mono ?_
   rintro e w' ⟨rfl, rfl⟩
   go_wp2
   go_ret
   exact ⟨rfl, rfl⟩
 · have d1 : x / 18446744073709551616 = 0 := by omega
   have d2 : x % 18446744073709551616 = x := by omega
   rw [d1, d2] at C
   by_cases hs : 4611686018427387904 ≤ x
   · have e1 : timesM a b = tooL := if_neg (by omega)
     rw [e1]; unfold tooL
     have hs' : (4611686018427387904 : Int) ≤ (x : Int) := by omega
     clear hx hab hb e1 d1 d2
     go_enter Tryz.func233, Tryz.ntmps233
     go_wp2_with fail
     refine (C.out.1 _).mono ?_
     rintro e w' ⟨rfl, rfl⟩
     go_wp2_with fail
     refine (C.out.2.1 _).mono ?_
     rintro e w' ⟨rfl, rfl⟩
     go_wp2_with fail
     refine (C.out.2.2 _).mono ?_
     rintro e w' ⟨rfl, rfl⟩
     go_wp2
     go_ret
     exact ⟨rfl, rfl⟩
   · have e1 : timesM a b = a * b := if_pos (by omega)
     rw [e1]
     have hs' : ¬ (4611686018427387904 : Int) ≤ (x : Int) := by omega
     have l1 : -9223372036854775808 ≤ a * b := by omega
     have l2 : a * b ≤ 9223372036854775807 := by omega
     clear hx hab hb e1 d1 d2 hs
     generalize (x : Int) = X at *
     go_enter Tryz.func233, Tryz.ntmps233
     go_wp2_with fail
     refine (C.out.1 _).mono ?_
     rintro e w' ⟨rfl, rfl⟩
     go_wp2_with fail
     refine (C.out.2.1 _).mono ?_
     rintro e w' ⟨rfl, rfl⟩
     go_wp2_with fail
     refine (C.out.2.2 _).mono ?_
     rintro e w' ⟨rfl, rfl⟩
     go_wp2
     go_ret
     exact ⟨ret_int (by omega), rfl⟩
end Go.Proofs.YtmafghdgmdbpnaaGreatDoor
namespace Go.Proofs.YtmafghdgmdbpnaaGreatDoor
open Go.Lib
theorem ctz_spec {x : Nat} (h0 : x ≠ 0) (h : x < 18446744073709551616) : ∃ m, x = 2 ^ ctz 64 x * (2 * m + 1) ∧ ctz 64 x < 64 := by
 obtain ⟨m, h1, h2⟩ := ctzFrom_spec 64 x (by omega) (by simpa using h)
 exact ⟨m, by unfold ctz; rw [if_neg h0]; exact h1, by unfold ctz; rw [if_neg h0]; exact h2⟩
theorem odd_cop (k m : Nat) : Nat.Coprime (2 ^ k) (2 * m + 1) := by
 refine Nat.Coprime.pow_left k ?_
 unfold Nat.Coprime
 rw [Nat.gcd_rec, show (2 * m + 1) % 2 = 1 by omega]; rfl
theorem gcd_odd (m k n : Nat) : Nat.gcd (2 * m + 1) (2 ^ k * n) = Nat.gcd (2 * m + 1) n := by
 rw [Nat.gcd_comm, Nat.Coprime.gcd_mul_left_cancel n (odd_cop k m), Nat.gcd_comm]
theorem shr_odd {x : Nat} (h0 : x ≠ 0) (h : x < 18446744073709551616) : ∃ m, x / 2 ^ ctz 64 x = 2 * m + 1 ∧ x = 2 ^ ctz 64 x * (2 * m + 1) := by
 obtain ⟨m, h1, _⟩ := ctz_spec h0 h
 refine ⟨m, ?_, h1⟩
 have : x / 2 ^ ctz 64 x = (2 ^ ctz 64 x * (2 * m + 1)) / 2 ^ ctz 64 x := congrArg (· / 2 ^ ctz 64 x) h1
 rw [this, Nat.mul_div_cancel_left _ (Nat.pow_pos (by decide))]
theorem dvd_ctz {x k m c : Nat} (h : x = 2 ^ c * (2 * m + 1)) : 2 ^ k ∣ x ↔ k ≤ c := by
 constructor
 · intro hd
   rcases Nat.lt_or_ge c k with q | q
   · exfalso
     have h1 : 2 ^ (c + 1) ∣ 2 ^ c * (2 * m + 1) := by rw [← h]; exact Nat.dvd_trans (Nat.pow_dvd_pow 2 q) hd
     rw [Nat.pow_succ] at h1
     have := Nat.dvd_of_mul_dvd_mul_left (Nat.pow_pos (by decide)) h1
     omega
   · exact q
 · intro q
   rw [h]; exact Nat.dvd_trans (Nat.pow_dvd_pow 2 q) (Nat.dvd_mul_right _ _)
theorem dvd_or (x y k : Nat) : 2 ^ k ∣ (x ||| y) ↔ 2 ^ k ∣ x ∧ 2 ^ k ∣ y := by
 rw [Nat.dvd_iff_mod_eq_zero, Nat.dvd_iff_mod_eq_zero, Nat.dvd_iff_mod_eq_zero, Nat.or_mod_two_pow, Nat.or_eq_zero_iff]
theorem ctz_or {x y : Nat} (hx : x ≠ 0) (hy : y ≠ 0) (h : x < 18446744073709551616) (h' : y < 18446744073709551616) : ctz 64 (x ||| y) = min (ctz 64 x) (ctz 64 y) := by
 obtain ⟨m, h1, _⟩ := ctz_spec hx h
 obtain ⟨n, h2, _⟩ := ctz_spec hy h'
 have h3 : x ||| y ≠ 0 := fun q => hx (Nat.or_eq_zero_iff.1 q).1
 obtain ⟨l, h4, _⟩ := ctz_spec h3 (Nat.or_lt_two_pow (n := 64) h h')
 have hk : ∀ k, k ≤ ctz 64 (x ||| y) ↔ k ≤ ctz 64 x ∧ k ≤ ctz 64 y := fun k => by
   rw [← dvd_ctz h4, dvd_or, dvd_ctz h1, dvd_ctz h2]
 have a := (hk (ctz 64 (x ||| y))).1 (Nat.le_refl _)
 have b := (hk (min (ctz 64 x) (ctz 64 y))).2 ⟨Nat.min_le_left _ _, Nat.min_le_right _ _⟩
 omega
theorem bin_start {x y : Nat} (hx : x ≠ 0) (hy : y ≠ 0) (h : x < 18446744073709551616) (h' : y < 18446744073709551616) :
   Nat.gcd x y = Nat.gcd (x / 2 ^ ctz 64 x) y * 2 ^ ctz 64 (x ||| y) := by
 obtain ⟨m, h1, h2⟩ := shr_odd hx h
 obtain ⟨n, _, h4⟩ := shr_odd hy h'
 rw [ctz_or hx hy h h', h1]
 generalize ctz 64 x = a at *
 generalize ctz 64 y = b at *
 subst h2; subst h4
 rw [gcd_odd]
 rcases Nat.le_total a b with q | q
 · obtain ⟨c, rfl⟩ := Nat.exists_eq_add_of_le q
   rw [Nat.min_eq_left q, Nat.pow_add, Nat.mul_assoc, Nat.gcd_mul_left, gcd_odd, Nat.mul_comm]
 · obtain ⟨c, rfl⟩ := Nat.exists_eq_add_of_le q
   rw [Nat.min_eq_right q, Nat.pow_add, Nat.mul_assoc, Nat.gcd_mul_left, Nat.Coprime.gcd_mul_left_cancel _ (odd_cop c n), Nat.mul_comm]
theorem bin_round {x y : Nat} (hx : x % 2 = 1) (hy : y ≠ 0) (h' : y < 18446744073709551616) :
   Nat.gcd (min x (y / 2 ^ ctz 64 y)) (max x (y / 2 ^ ctz 64 y) - min x (y / 2 ^ ctz 64 y)) = Nat.gcd x y ∧ min x (y / 2 ^ ctz 64 y) % 2 = 1 ∧
     min x (y / 2 ^ ctz 64 y) + (max x (y / 2 ^ ctz 64 y) - min x (y / 2 ^ ctz 64 y)) < x + y ∧ y / 2 ^ ctz 64 y ≤ y := by
 obtain ⟨n, h3, h4⟩ := shr_odd hy h'
 have h5 : y / 2 ^ ctz 64 y ≤ y := Nat.div_le_self _ _
 have h6 : Nat.gcd x y = Nat.gcd x (y / 2 ^ ctz 64 y) := by
   rw [h3]
   conv => lhs; rw [h4]
   obtain ⟨m, rfl⟩ : ∃ m, x = 2 * m + 1 := ⟨x / 2, by omega⟩
   exact gcd_odd _ _ _
 rw [h6]
 generalize y / 2 ^ ctz 64 y = z at *
 rcases Nat.le_total x z with q | q
 · rw [Nat.min_eq_left q, Nat.max_eq_right q]
   exact ⟨Nat.gcd_sub_self_right q, hx, by omega, h5⟩
 · rw [Nat.min_eq_right q, Nat.max_eq_left q]
   exact ⟨by rw [Nat.gcd_sub_self_right q, Nat.gcd_comm], by omega, by omega, h5⟩
end Go.Proofs.YtmafghdgmdbpnaaGreatDoor
namespace Go.Proofs.YtmafghdgmdbpnaaGreatDoor
open Go.RowKit
def Tab64 (w : World) : Prop := TabAt 0 Lib.deBruijn64tab w
theorem tz_core (x k idx : Nat) (w : World) (hx0 : ((x : Int) == 0) = false)
   (key : IntKind.u64.wrap (bits BinOp.and IntKind.u64 (x : Int) (IntKind.u64.wrap (-(x : Int))) * 285870213051353865) / 288230376151711744 = (idx : Int))
   (hi : idx < 64) (hk : k < 64) (hcell : w.cell? ⟨0, idx, none⟩ = some (.int .u8 k)) :
   Calls Tryz.prog 132 #[.int .u64 x] w fun e w' => e = .returned (.int .i64 k) ∧ w = w' := by
 go_enter Tryz.func132, Tryz.ntmps132
 go_wp2_with (simp only [key])
 go_ret
 exact ⟨rfl, rfl⟩
theorem tz_any (x : Nat) (w : World) (h0 : x ≠ 0) (hx : x < 18446744073709551616) (ht : Tab64 w) :
   Calls Tryz.prog 132 #[.int .u64 x] w fun e w' => e = .returned (.int .i64 (Lib.ctz 64 x : Nat)) ∧ w = w' := by
 obtain ⟨hlow, hk⟩ := Lib.lowest_bit 64 x h0 hx
 obtain ⟨hi, htab⟩ := Lib.deBruijn64_at _ hk
 have hcell := ht _ hi
 rw [htab] at hcell
 exact tz_core x _ _ w (by simp; omega) (tz64_key x _ hx h0 hlow) hi hk hcell
theorem bits_or_nat (a b : Nat) (ha : a < 18446744073709551616) (hb : b < 18446744073709551616) : bits .or .u64 (a : Int) (b : Int) = ((a ||| b : Nat) : Int) := by
 have hx : a ||| b < 2 ^ 64 := Nat.or_lt_two_pow ha hb
 have h1 : (BitVec.ofInt 64 (a : Int)).toNat = a := by
   rw [BitVec.ofInt_natCast, BitVec.toNat_ofNat]; exact Nat.mod_eq_of_lt (by omega)
 have h2 : (BitVec.ofInt 64 (b : Int)).toNat = b := by
   rw [BitVec.ofInt_natCast, BitVec.toNat_ofNat]; exact Nat.mod_eq_of_lt (by omega)
 show IntKind.u64.wrap ((BitVec.ofInt 64 (a : Int) ||| BitVec.ofInt 64 (b : Int)).toNat : Int) = _
 rw [BitVec.toNat_or, h1, h2, IntKind.wrap_u64]
 omega
theorem mach_divisor (a b : Int) (w : World) (h0 : -9223372036854775808 < a) (h1 : a ≤ 9223372036854775807) (h2 : -9223372036854775808 < b) (h3 : b ≤ 9223372036854775807) (ht : Tab64 w) :
   Calls Tryz.prog 102 #[.int .i64 a, .int .i64 b] w fun e W' => e = .returned (.int .i64 (Nat.gcd a.natAbs b.natAbs : Nat)) ∧ w = W' := by
 have ca := fun W => mach_size a W h0 h1
 have cb := fun W => mach_size b W h2 h3
 have ha : a.natAbs < 9223372036854775808 := by omega
 have hb : b.natAbs < 9223372036854775808 := by omega
 have C := Lib.hid (And.intro ca cb)
 have HT := Lib.hid ht
 clear ca cb h0 h1 h2 h3 ht
 generalize a.natAbs = x at *
 generalize b.natAbs = y at *
 by_cases hz : x = 0 ∨ y = 0
 · have hg : ((Nat.gcd x y : Nat) : Int) = (x : Int) + (y : Int) := by
     rcases hz with h | h
     · subst h; rw [Nat.gcd_zero_left]; simp
     · subst h; rw [Nat.gcd_zero_right]; simp
   rw [hg]
   have hs1 : (x : Int) + (y : Int) ≤ 9223372036854775807 := by rcases hz with h | h <;> omega
   by_cases hx : x = 0
   · have hx' : ((x : Int) == 0) = true := by simp [hx]
     clear hg hz
     go_enter Tryz.func102, Tryz.ntmps102
     go_wp2_with fail
     refine (C.out.1 _).mono ?_
     rintro e w' ⟨rfl, rfl⟩
     go_wp2_with fail
     refine (C.out.2 _).mono ?_
     rintro e w' ⟨rfl, rfl⟩
     go_wp2
     go_ret
     exact ⟨ret_int (by omega), rfl⟩
   · have hx' : ((x : Int) == 0) = false := by simp [hx]
     have hy' : ((y : Int) == 0) = true := by have := hz.resolve_left hx; simp [this]
     clear hg hz
     go_enter Tryz.func102, Tryz.ntmps102
     go_wp2_with fail
     refine (C.out.1 _).mono ?_
     rintro e w' ⟨rfl, rfl⟩
     go_wp2_with fail
     refine (C.out.2 _).mono ?_
     rintro e w' ⟨rfl, rfl⟩
     go_wp2
     go_ret
     exact ⟨ret_int (by omega), rfl⟩
 · have hx : x ≠ 0 := fun h => hz (.inl h)
   have hy : y ≠ 0 := fun h => hz (.inr h)
   have hx' : ((x : Int) == 0) = false := by simp [hx]
   have hy' : ((y : Int) == 0) = false := by simp [hy]
   have hor : bits BinOp.or IntKind.u64 (x : Int) (y : Int) = ((x ||| y : Nat) : Int) := bits_or_nat x y (by omega) (by omega)
   have ct := fun W (h : Tab64 W) => tz_any (x ||| y) W (fun q => hx (Nat.or_eq_zero_iff.1 q).1) (Nat.or_lt_two_pow (n := 64) (by omega) (by omega)) h
   have cx := fun W (h : Tab64 W) => tz_any x W hx (by omega) h
   have hst := bin_start hx hy (by omega) (by omega)
   have hmx : ∃ m, x / 2 ^ Lib.ctz 64 x = 2 * m + 1 := by obtain ⟨m, h, _⟩ := shr_odd hx (by omega); exact ⟨m, h⟩
   have HGL := Lib.hid (show Nat.gcd x y < 9223372036854775808 from Nat.lt_of_le_of_lt (Nat.gcd_le_left _ (by omega)) ha)
   have hle : x / 2 ^ Lib.ctz 64 x ≤ x := Nat.div_le_self _ _
   have hcx : Lib.ctz 64 x < 64 := by obtain ⟨_, _, h⟩ := ctz_spec hx (by omega); exact h
   have htt : Lib.ctz 64 (x ||| y) < 64 := by obtain ⟨_, _, h⟩ := ctz_spec (x := x ||| y) (fun q => hx (Nat.or_eq_zero_iff.1 q).1) (Nat.or_lt_two_pow (n := 64) (by omega) (by omega)); exact h
   have HT2 := Lib.hid (And.intro ct cx)
   clear ct cx hz hx hy
   generalize Lib.ctz 64 (x ||| y) = t at *
   have HST := Lib.hid (And.intro hst (And.intro hmx (And.intro hle (And.intro hcx htt))))
   clear hst hmx hle hor hcx htt
   have HOR := Lib.hid (bits_or_nat x y (by omega) (by omega))
   generalize x ||| y = xy at *
   go_enter Tryz.func102, Tryz.ntmps102
   go_wp2_with fail
   refine (C.out.1 _).mono ?_
   rintro e w' ⟨rfl, rfl⟩
   have HX := Lib.hid (And.intro hx' (And.intro hy' (And.intro ha hb)))
   clear ha hb hx' hy'
   go_wp2_with fail
   refine (C.out.2 _).mono ?_
   rintro e w' ⟨rfl, rfl⟩
   clear C
   have hx' := HX.out.1
   have hy' := HX.out.2.1
   have hor := HOR.out
   go_wp2_with fail
   refine (HT2.out.1 _ HT.out).mono ?_
   rintro e w' ⟨rfl, rfl⟩
   clear hor hx' hy'
   go_wp2_with fail
   refine (HT2.out.2 _ HT.out).mono ?_
   rintro e w' ⟨rfl, rfl⟩
   clear HT2
   generalize Lib.ctz 64 x = cx at *
   go_wp2_with fail
   have hst := HST.out
   have hmin : min cx 64 = cx := by have := hst.2.2.2.1; omega
   have e0 : ((x : Int) / 2 ^ cx) = ((x / 2 ^ cx : Nat) : Int) := by simp
   rw [hmin, e0]
   clear e0 hmin
   have HT64 := Lib.hid hst.2.2.2.2
   clear HST
   generalize hz : x / 2 ^ cx = z at *
   have HG := Lib.hid hst.1
   obtain ⟨m, hm⟩ := hst.2.1
   have hzl := hst.2.2.1
   have hx := HX.out.2.2.1
   have hyl := HX.out.2.2.2
   clear hst hz HX
   have HZ := Lib.hid (show z % 2 = 1 ∧ z < 9223372036854775808 ∧ y < 9223372036854775808 by omega)
   clear hx hyl hzl hm m
   go_loop [5, 6] (fun u v => ∃ X Y : Nat, u = .int .u64 X ∧ v = .int .u64 Y ∧ Hid (X % 2 = 1 ∧ X < 9223372036854775808 ∧ Y < 9223372036854775808) ∧ Hid (Nat.gcd X Y = Nat.gcd z y)) (fun u v => (intOf u + intOf v).toNat)
   case atStart => exact ⟨z, y, rfl, rfl, HZ, rfl⟩
   case round =>
     obtain ⟨X, Y, rfl, rfl, hb, hg⟩ := hrel
     by_cases hY : Y = 0
     · have hY' : ((Y : Int) == 0) = true := by simp [hY]
       have hgg := hg.out
       rw [hY, Nat.gcd_zero_right] at hgg
       have hfin : X * 2 ^ t = Nat.gcd x y := by rw [HG.out, ← hgg]
       have hlt : X * 2 ^ t < 9223372036854775808 := by
         rw [hfin]; exact HGL.out
       have HF := Lib.hid (And.intro hfin hlt)
       clear hfin hlt hgg hY
       go_wp2
       go_ret
       refine ⟨ret_int ?_, rfl⟩
       have h1 := HF.out.1
       have h2 := HF.out.2
       have hm : min t 64 = t := by have := HT64.out; omega
       rw [hm, show ((X : Int) * 2 ^ t) = ((X * 2 ^ t : Nat) : Int) by simp, ← h1]
       generalize X * 2 ^ t = g at *
       rw [IntKind.wrap_u64]
       unfold wrap64
       omega
     · have hY' : ((Y : Int) == 0) = false := by simp [hY]
       have hr := bin_round hb.out.1 hY (by have := hb.out.2.2; omega)
       have ct := tz_any Y w hY (by have := hb.out.2.2; omega) HT.out
       have hc64 : Lib.ctz 64 Y < 64 := by obtain ⟨_, _, h⟩ := ctz_spec hY (by have := hb.out.2.2; omega); exact h
       have HR := Lib.hid (And.intro hr (And.intro ct hc64))
       clear hr ct hc64
       generalize Lib.ctz 64 Y = cy at *
       go_wp2_with fail
       refine HR.out.2.1.mono ?_
       rintro e w' ⟨rfl, rfl⟩
       obtain ⟨⟨r1, r2, r3, r4⟩, _, hc64⟩ := HR.out
       obtain ⟨Z, hZ⟩ : ∃ Z, Y / 2 ^ cy = Z := ⟨_, rfl⟩
       have e1 : (Y : Int) / 2 ^ min cy 64 = (Z : Int) := by rw [show min cy 64 = cy by omega, ← hZ]; simp
       rw [hZ] at r1 r2 r3 r4
       have hX1 := hb.out.2.1
       have hY1 := hb.out.2.2
       have hX0 := hb.out.1
       by_cases hxz : X ≤ Z
       · rw [Nat.min_eq_left hxz] at r1 r2 r3
         rw [Nat.max_eq_right hxz] at r1 r3
         have emin : min (X : Int) (Z : Int) = X := by omega
         have emax : max (X : Int) (Z : Int) = Z := by omega
         have HQ := Lib.hid (And.intro (r1.trans hg.out) r3)
         have HW := Lib.hid (show X % 2 = 1 ∧ X < 9223372036854775808 ∧ Z - X < 9223372036854775808 by omega)
         have esub : IntKind.u64.wrap ((Z : Int) - (X : Int)) = ((Z - X : Nat) : Int) := by rw [IntKind.wrap_u64]; omega
         have HS := Lib.hid hxz
         clear r1 r2 r3 r4 hZ HR hb hg hX0 hX1 hY1 hc64 hxz
         go_wp2
         go_round
         case rel => exact ⟨X, Z - X, rfl, by go_num, HW, HQ.out.1⟩
         case measure => have := HQ.out.2; have := HS.out; simp [intOf]; omega
       · have hxz : Z ≤ X := by omega
         rw [Nat.min_eq_right hxz] at r1 r2 r3
         rw [Nat.max_eq_left hxz] at r1 r3
         have emin : min (X : Int) (Z : Int) = Z := by omega
         have emax : max (X : Int) (Z : Int) = X := by omega
         have HQ := Lib.hid (And.intro (r1.trans hg.out) r3)
         have HW := Lib.hid (show Z % 2 = 1 ∧ Z < 9223372036854775808 ∧ X - Z < 9223372036854775808 by omega)
         have esub : IntKind.u64.wrap ((X : Int) - (Z : Int)) = ((X - Z : Nat) : Int) := by rw [IntKind.wrap_u64]; omega
         have HS := Lib.hid hxz
         clear r1 r2 r3 r4 hZ HR hb hg hX0 hX1 hY1 hc64 hxz
         go_wp2
         go_round
         case rel => exact ⟨Z, X - Z, rfl, by go_num, HW, HQ.out.1⟩
         case measure => have := HQ.out.2; have := HS.out; simp [intOf]; omega
end Go.Proofs.YtmafghdgmdbpnaaGreatDoor
namespace Go.Proofs.YtmafghdgmdbpnaaGreatDoor
open Go.ChangeShapes Go.WideShapes Go.ChangeAt Go.RowKit
theorem gTab64 : Tryz.prog.globalNamed "math/bits.deBruijn64tab" = some 0 := by kernel_rfl
theorem laid64_tab : (Rows.laid_math_bits_deBruijn64tab : DataW Unit) = Lib.tabData .u8 (Lib.deBruijn64tab.map fun n : Nat => (n : Int)) := rfl
theorem tab64_of {W : World} (h : Lib.TabIs Tryz.prog W "math/bits.deBruijn64tab" .u8 (Lib.deBruijn64tab.map fun n : Nat => (n : Int))) : Tab64 W := by
 intro j hj
 unfold Lib.TabIs World.var? at h
 rw [gTab64] at h
 unfold World.cell?
 cases hh : W.heap[0]? with
 | none => simp [hh] at h
 | some o =>
   cases o with
   | cells cs t f =>
     have h1 : some cs = some ((Lib.deBruijn64tab.map fun n : Nat => (n : Int)).map fun z => Value.int .u8 z).toArray := by
       rw [← h]; simp only [Option.bind_some, hh]
     have h2 := Option.some.inj h1
     subst h2
     have hj' : j < 64 := hj
     simp only [List.map_map, List.getElem?_toArray, List.getElem?_map]
     rw [List.getD_eq_getElem?_getD, List.getElem?_eq_getElem hj]
     rfl
   | _ => simp [hh] at h
theorem tab64_of_laid {W : World} (h : laidMetH Tryz.prog laid3 W) : Tab64 W := by
 rw [MakeChecks.laidMetH_plain _ _ _ (by kernel_rfl)] at h
 have h2 := laidMet.tail h
 rw [laid64_tab] at h2
 exact tab64_of (Lib.tabIs_of_head gTab64 (t := 186) (e := 5) (n := 64) (by kernel_rfl) (by kernel_rfl) (by kernel_rfl) (by kernel_rfl) (by kernel_rfl) h2)
section
variable {H : Type} {enc : TypeId × Value → H} {P : Program} {w : World} {base : Nat} {spare : Nat → Bool} {held : Bool}
end
end Go.Proofs.YtmafghdgmdbpnaaGreatDoor
namespace Go.Proofs.YtmafghdgmdbpnaaGreatDoor
open Go.Lib
def itoaQ (q : Rat) : List UInt8 := if q.den = 1 then itoa q.num else itoa q.num ++ 47 :: itoa q.den
def cutN (l : List UInt8) : List UInt8 := l.takeWhile (· != 47)
def hasS (l : List UInt8) : Bool := l.contains 47
def cutD (l : List UInt8) : List UInt8 := if hasS l then (l.dropWhile (· != 47)).tail else [49]
def formQ (l : List UInt8) : Bool := chk (cutN l) != 11 && chk (cutD l) != 11 && !isNeg (cutD l) && cutD l != [48] && !(hasS l && cutD l == [49])
def chkQ (l : List UInt8) : Int :=
 if formQ l = false then 11
 else if chk (cutN l) ≠ 0 ∨ chk (cutD l) ≠ 0 then 4
 else if (valOf (cutN l)).natAbs.gcd (natOf (cutD l)) = 1 then 0 else 11
def ratOf (l : List UInt8) : Rat := mkRat (valOf (cutN l)) (natOf (cutD l))
theorem decDigits_ns (u : Nat) : (47 : UInt8) ∉ decDigits u := fun h => by
 have := decDigits_dig u 47 h
 revert this; decide
theorem itoa_ns (z : Int) : (47 : UInt8) ∉ itoa z := by
 unfold itoa
 split
 · simp [decDigits_ns]
 · exact decDigits_ns _
theorem takeWhile_all {α : Type} (p : α → Bool) (l : List α) (h : ∀ x ∈ l, p x = true) : l.takeWhile p = l := by
 induction l with
 | nil => rfl
 | cons a t ih => rw [List.takeWhile_cons_of_pos (h a (by simp)), ih (fun x hx => h x (by simp [hx]))]
theorem takeWhile_app {α : Type} (p : α → Bool) (l : List α) (c : α) (m : List α) (h : ∀ x ∈ l, p x = true) (hc : p c = false) : (l ++ c :: m).takeWhile p = l ∧ (l ++ c :: m).dropWhile p = c :: m := by
 induction l with
 | nil => exact ⟨List.takeWhile_cons_of_neg (by simp [hc]), List.dropWhile_cons_of_neg (by simp [hc])⟩
 | cons a t ih =>
   obtain ⟨i1, i2⟩ := ih (fun x hx => h x (by simp [hx]))
   refine ⟨?_, ?_⟩
   · rw [List.cons_append, List.takeWhile_cons_of_pos (h a (by simp)), i1]
   · rw [List.cons_append, List.dropWhile_cons_of_pos (h a (by simp)), i2]
theorem ns_all {l : List UInt8} (h : (47 : UInt8) ∉ l) : ∀ x ∈ l, (x != 47) = true := fun x hx => by
 rw [bne_iff_ne]; rintro rfl; exact h hx
theorem cut_none {l : List UInt8} (h : (47 : UInt8) ∉ l) : cutN l = l ∧ hasS l = false ∧ cutD l = [49] := by
 have h1 : hasS l = false := by unfold hasS; simpa using h
 refine ⟨takeWhile_all _ _ (ns_all h), h1, ?_⟩
 unfold cutD; rw [h1]; rfl
theorem cut_some {n : List UInt8} (h : (47 : UInt8) ∉ n) (d : List UInt8) : cutN (n ++ 47 :: d) = n ∧ hasS (n ++ 47 :: d) = true ∧ cutD (n ++ 47 :: d) = d := by
 obtain ⟨h1, h2⟩ := takeWhile_app (· != 47) n 47 d (ns_all h) (by decide)
 have h3 : hasS (n ++ 47 :: d) = true := by unfold hasS; simp
 refine ⟨h1, h3, ?_⟩
 unfold cutD; rw [h3, if_pos rfl, h2]; rfl
theorem mem_first {l : List UInt8} (h : (47 : UInt8) ∈ l) : ∃ s t, l = s ++ 47 :: t ∧ (47 : UInt8) ∉ s := by
 induction l with
 | nil => cases h
 | cons a m ih =>
   by_cases ha : a = 47
   · subst ha; exact ⟨[], m, rfl, by simp⟩
   · have h' : (47 : UInt8) ∈ m := by
       rcases List.mem_cons.1 h with q | q
       · exact absurd q.symm ha
       · exact q
     obtain ⟨s, t, rfl, hs⟩ := ih h'
     refine ⟨a :: s, t, rfl, ?_⟩
     rw [List.mem_cons, not_or]
     exact ⟨fun q => ha q.symm, hs⟩
theorem cut_eq (l : List UInt8) : (hasS l = false ∧ l = cutN l ∧ cutD l = [49]) ∨ (hasS l = true ∧ l = cutN l ++ 47 :: cutD l) := by
 by_cases h : (47 : UInt8) ∈ l
 · right
   obtain ⟨s, t, rfl, hs⟩ := mem_first h
   obtain ⟨h1, h2, h3⟩ := cut_some hs t
   exact ⟨h2, by rw [h1, h3]⟩
 · left
   obtain ⟨h1, h2, h3⟩ := cut_none h
   exact ⟨h2, h1.symm, h3⟩
theorem valOf_abs (l : List UInt8) : (valOf l).natAbs = natOf (szL l) := by unfold valOf szL; split <;> simp
theorem itoa_one : itoa 1 = [49] := by decide +kernel
theorem valOf_one : valOf [49] = 1 := by rw [← itoa_one, valOf_itoa]
theorem natOf_one : natOf [49] = 1 := by decide
theorem natOf_val {l : List UInt8} (h : isNeg l = false) : (natOf l : Int) = valOf l := by unfold valOf; rw [h]; rfl
theorem itoaQ_cut (q : Rat) : cutN (itoaQ q) = itoa q.num ∧ cutD (itoaQ q) = itoa q.den ∧ hasS (itoaQ q) = decide (q.den ≠ 1) := by
 unfold itoaQ
 by_cases h : q.den = 1
 · rw [if_pos h]
   obtain ⟨h1, h2, h3⟩ := cut_none (itoa_ns q.num)
   exact ⟨h1, by rw [h3, h]; exact itoa_one.symm, by rw [h2, h]; rfl⟩
 · rw [if_neg h]
   obtain ⟨h1, h2, h3⟩ := cut_some (itoa_ns q.num) (itoa q.den)
   exact ⟨h1, h3, by rw [h2]; simp [h]⟩
theorem ratOf_itoaQ (q : Rat) : ratOf (itoaQ q) = q := by
 obtain ⟨h1, h2, _⟩ := itoaQ_cut q
 unfold ratOf
 rw [h1, h2, valOf_itoa]
 have h3 : (natOf (itoa (q.den : Int)) : Int) = (q.den : Int) := by
   rw [natOf_val (by rw [head_itoa_neg]; simp), valOf_itoa]
 rw [Int.ofNat.inj h3, Rat.mkRat_self]
theorem itoaQ_inj {x y : Rat} (h : itoaQ x = itoaQ y) : x = y := by rw [← ratOf_itoaQ x, ← ratOf_itoaQ y, h]
theorem formQ_itoaQ (q : Rat) : formQ (itoaQ q) = true := by
 obtain ⟨h1, h2, h3⟩ := itoaQ_cut q
 have hd := q.den_nz
 have c1 : chk (itoa q.num) ≠ 11 := by rw [chk_itoa]; split <;> decide
 have c2 : chk (itoa (q.den : Int)) ≠ 11 := by rw [chk_itoa]; split <;> decide
 have c3 : isNeg (itoa (q.den : Int)) = false := by rw [head_itoa_neg]; simp
 have c4 : itoa (q.den : Int) ≠ [48] := fun h => by
   rw [← itoa_zero] at h
   have := itoa_inj h
   omega
 have c5 : hasS (itoaQ q) = true → itoa (q.den : Int) ≠ [49] := fun h h' => by
   rw [← itoa_one] at h'
   have := itoa_inj h'
   rw [h3] at h
   have := of_decide_eq_true h
   omega
 unfold formQ
 rw [h1, h2]
 cases hs : hasS (itoaQ q)
 · simp [c1, c2, c3, c4]
 · simp [c1, c2, c3, c4, c5 hs]
theorem chkQ_itoaQ (q : Rat) : chkQ (itoaQ q) = if q.num.natAbs < lim ∧ q.den < lim then 0 else 4 := by
 obtain ⟨h1, h2, _⟩ := itoaQ_cut q
 have h3 : (natOf (itoa (q.den : Int)) : Int) = (q.den : Int) := by
   rw [natOf_val (by rw [head_itoa_neg]; simp), valOf_itoa]
 have h4 := Int.ofNat.inj h3
 unfold chkQ
 rw [formQ_itoaQ, if_neg (by decide), h1, h2, chk_itoa, chk_itoa, valOf_itoa, h4, Int.natAbs_natCast]
 by_cases a1 : q.num.natAbs < lim
 · by_cases a2 : q.den < lim
   · rw [if_pos a1, if_pos a2, if_neg (by simp), if_pos q.reduced, if_pos ⟨a1, a2⟩]
   · rw [if_pos a1, if_neg a2, if_pos (Or.inr (by decide)), if_neg (fun h => a2 h.2)]
 · rw [if_neg a1, if_pos (Or.inl (by decide)), if_neg (fun h => a1 h.1)]
theorem chkQ_parts {l : List UInt8} (h : chkQ l = 0) : formQ l = true ∧ chk (cutN l) = 0 ∧ chk (cutD l) = 0 ∧ (ratOf l).num = valOf (cutN l) ∧ ((ratOf l).den : Int) = valOf (cutD l) ∧ 0 < valOf (cutD l) := by
 unfold chkQ at h
 split at h
 · cases h
 · rename_i hf
   split at h
   · cases h
   · rename_i hc
     split at h
     · rename_i hg
       have hf' : formQ l = true := by simpa using hf
       have hn : chk (cutN l) = 0 := Decidable.byContradiction fun q => hc (Or.inl q)
       have hd : chk (cutD l) = 0 := Decidable.byContradiction fun q => hc (Or.inr q)
       have hx := hf'
       unfold formQ at hx
       simp only [Bool.and_eq_true, Bool.not_eq_true', bne_iff_ne, ne_eq] at hx
       have hneg := hx.1.1.2
       have h48 := hx.1.2
       have hv := natOf_val hneg
       have hpos : 0 < valOf (cutD l) := by
         rcases Int.lt_or_le 0 (valOf (cutD l)) with q | q
         · exact q
         · exfalso
           refine h48 ?_
           rw [← itoa_valOf _ hd, show valOf (cutD l) = 0 by omega, itoa_zero]
       have hne : natOf (cutD l) ≠ 0 := by omega
       have e : ratOf l = ⟨valOf (cutN l), natOf (cutD l), hne, hg⟩ := (Rat.mk_eq_mkRat _ _ hne hg).symm
       exact ⟨hf', hn, hd, by rw [e], by rw [e]; exact hv, hpos⟩
     · cases h
theorem itoaQ_ratOf {l : List UInt8} (h : chkQ l = 0) : itoaQ (ratOf l) = l := by
 obtain ⟨hf, hn, hd, e1, e2, _⟩ := chkQ_parts h
 unfold itoaQ
 rw [e1, e2, itoa_valOf _ hn, itoa_valOf _ hd]
 rcases cut_eq l with ⟨_, h2, h3⟩ | ⟨h1, h2⟩
 · rw [h3, valOf_one] at e2
   rw [if_pos (by omega)]; exact h2.symm
 · have h4 : (ratOf l).den ≠ 1 := fun q => by
     rw [q] at e2
     have : cutD l = [49] := by rw [← itoa_valOf _ hd, ← e2]; exact itoa_one
     unfold formQ at hf
     rw [h1, this] at hf
     simp at hf
   rw [if_neg h4]; exact h2.symm
theorem chkQ_lim {l : List UInt8} (h : chkQ l = 0) : (ratOf l).num.natAbs < lim ∧ (ratOf l).den < lim := by
 have h1 := chkQ_itoaQ (ratOf l)
 rw [itoaQ_ratOf h, h] at h1
 by_cases q : (ratOf l).num.natAbs < lim ∧ (ratOf l).den < lim
 · exact q
 · rw [if_neg q] at h1; cases h1
end Go.Proofs.YtmafghdgmdbpnaaGreatDoor
