/- The walks of what is computed by the machine alone: short texts, quotients, greatest common divisors, roots. -/
import Derived.Test.YtajonpcmgebbbaaDoorW2
import Derived.Test.YtajonpcmgebbbaaDoorShelf
import Derived.Test.YtajonpcmgebbbaaDoorDiv
import Derived.WalkSmall
namespace Go.Proofs.YtajonpcmgebbbaaDoor
open Go.RowKit

/-- the table of the powers of ten lies as the library's text lays it -/
def Tab (w : World) : Prop := Lib.TabIs Tryd.prog w "internal/strconv.uint64pow10" .u64 Lib.pow10Tab
theorem gTab : Tryd.prog.globalNamed "internal/strconv.uint64pow10" = some 1 := by kernel_rfl
theorem Tab.below {w w' : World} {B : Nat} (h : Tab w) (hb : Below B w w') (hB : 1 < B) : Tab w' :=
  var?_below hb gTab hB h
theorem Tab.lt {w : World} (h : Tab w) : 1 < w.heap.size := by
  unfold Tab Lib.TabIs World.var? at h
  simp only [gTab, Option.bind_some] at h
  by_cases hlt : 1 < w.heap.size
  · exact hlt
  · rw [Array.getElem?_eq_none (by omega)] at h; simp at h
theorem Tab.next {w w' : World} (h : Tab w) (hb : Below w.heap.size w w') : Tab w' := h.below hb h.lt

def chk2 (a b : List UInt8) : Int := if chk a = 0 then chk b else chk a

set_option maxHeartbeats 400000 in
theorem checkBoth_any (a b : ByteArray) (w : World) (ha : a.size ≤ maxLen) (hb : b.size ≤ maxLen) :
    Calls Tryd.prog 25 #[.string a, .string b] w fun e w' => e = .returned (.int .i64 (chk2 a.data.toList b.data.toList)) ∧ w = w' := by
  generalize hx : chk a.data.toList = x
  have HX := Lib.hid hx; clear hx
  by_cases h0 : (x == 0) = true
  · have hn : (x != 0) = false := by simpa using h0
    go_enter Tryd.func25, Tryd.ntmps25
    go_wp2_with fail
    refine (check_any a _ ha).mono ?_
    rw [HX.out]; rintro e w' ⟨rfl, rfl⟩
    go_wp2_with fail
    refine (check_any b _ hb).mono ?_
    rintro e w' ⟨rfl, rfl⟩
    go_wp2
    go_ret
    exact ⟨ret_int (by unfold chk2; rw [HX.out, if_pos (by simpa using h0)]), rfl⟩
  · have hn : (x != 0) = true := by simpa using h0
    go_enter Tryd.func25, Tryd.ntmps25
    go_wp2_with fail
    refine (check_any a _ ha).mono ?_
    rw [HX.out]; rintro e w' ⟨rfl, rfl⟩
    go_wp2
    go_ret
    exact ⟨ret_int (by unfold chk2; rw [HX.out, if_neg (by simpa using h0)]), rfl⟩

theorem isShort_any (s : ByteArray) (w : World) (_hs : s.size ≤ maxLen) :
    Calls Tryd.prog 37 #[.string s] w fun e w' => e = .returned (.bool (decide ((s.size : Int) ≤ 18))) ∧ w = w' := by
  go_enter Tryd.func37, Tryd.ntmps37
  go_wp2
  go_ret
  exact ⟨rfl, rfl⟩

theorem chk_dig {l : List UInt8} (h : chk l = 0) : ∀ c ∈ szL l, isDig c = true := by
  by_cases h1 : (szL l).all isDig = true
  · exact List.all_eq_true.1 h1
  · rw [chk_bad (by simpa using h1)] at h; cases h
theorem natOf_18 (l : List UInt8) (h : ∀ c ∈ l, isDig c = true) (hl : l.length ≤ 18) : natOf l < 1000000000000000000 := by
  have := natOf_take_18 l h l.length hl
  rwa [List.take_length] at this
theorem valOf_szL (l : List UInt8) : valOf l = if isNeg l = true then -(natOf (szL l) : Int) else (natOf (szL l) : Int) := by
  unfold valOf szL; split <;> simp_all
theorem szL_length (l : List UInt8) : (szL l).length ≤ l.length := by
  unfold szL; split
  · rw [List.length_tail]; omega
  · exact Nat.le_refl _

theorem valOf_short {l : List UInt8} (h : chk l = 0) (hl : l.length ≤ 18) : -1000000000000000000 < valOf l ∧ valOf l < 1000000000000000000 := by
  have h1 := natOf_18 (szL l) (chk_dig h) (Nat.le_trans (szL_length l) hl)
  rw [valOf_szL]; split <;> omega

theorem machine_any (s : ByteArray) (w : World) (hs : s.size ≤ 18) (hc : chk s.data.toList = 0) :
    Calls Tryd.prog 27 #[.string s] w fun e w' => e = .returned (.int .i64 (valOf s.data.toList)) ∧ w = w' := by
  have hd := Lib.hid (chk_dig hc)
  clear hc
  have h1 := natOf_18 (szL s.data.toList) hd.out (Nat.le_trans (szL_length _) hs)
  have hv := Lib.hid (valOf_szL s.data.toList)
  by_cases h : isNeg s.data.toList = true
  · have h0 := isNeg_size h
    have hz : szB s = s.extract 1 s.size := by unfold szB; rw [if_pos h]
    have HZ := Lib.hid (szB_data s); have HZ2 := Lib.hid hz; clear hz
    have hz3 : (s.extract 1 s.size).size ≤ 18 := by rw [ByteArray.size_extract]; omega
    have c := value_any (s.extract 1 s.size) w hz3 (by rw [← HZ2.out, HZ.out]; exact hd.out)
    rw [← HZ2.out, HZ.out] at c
    rw [HZ2.out] at c
    generalize natOf (szL s.data.toList) = n at *
    go_enter Tryd.func27, Tryd.ntmps27
    go_wp2_with fail
    refine (isNegative_any s _).mono ?_; rw [h]; rintro e w' ⟨rfl, rfl⟩
    go_wp2_with fail
    refine c.mono ?_; clear c; rintro e w' ⟨rfl, rfl⟩
    go_wp2
    go_ret
    exact ⟨ret_int (by rw [hv.out, if_pos h]), rfl⟩
  · have h' : isNeg s.data.toList = false := by simpa using h
    have hz : szB s = s := by unfold szB; rw [if_neg h]
    have HZ := Lib.hid (szB_data s); have HZ2 := Lib.hid hz; clear hz
    have c := value_any s w hs (by rw [← HZ2.out, HZ.out]; exact hd.out)
    rw [← HZ2.out, HZ.out] at c
    rw [HZ2.out] at c
    generalize natOf (szL s.data.toList) = n at *
    go_enter Tryd.func27, Tryd.ntmps27
    go_wp2_with fail
    refine (isNegative_any s _).mono ?_; rw [h']; rintro e w' ⟨rfl, rfl⟩
    go_wp2_with fail
    refine c.mono ?_; clear c; rintro e w' ⟨rfl, rfl⟩
    go_wp2
    go_ret
    exact ⟨ret_int (by rw [hv.out, if_neg h]), rfl⟩

def strB (z : Int) : ByteArray := ⟨(Lib.itoa z).toArray⟩
theorem strB_data (z : Int) : (strB z).data.toList = Lib.itoa z := by unfold strB; simp

theorem ofMachine_any (z : Int) (w : World) (h0 : -9223372036854775808 ≤ z) (h1 : z ≤ 9223372036854775807) (ht : Tab w) :
    Calls Tryd.prog 26 #[.int .i64 z] w fun e w' => e = .returned (.string (strB z)) ∧ Below w.heap.size w w' := by
  have c := Tryd.strconv_FormatInt_10 z h0 h1 w ht
  clear h0 h1
  go_enter Tryd.func26, Tryd.ntmps26
  go_wp2_with fail
  refine c.mono ?_
  clear c
  rintro e w' ⟨rfl, k, os, rfl⟩
  go_wp2
  go_ret
  exact ⟨rfl, Lib.below_grow _ _ (Nat.le_refl _) _ _⟩

theorem ret_two {k1 k2 : IntKind} {a b c d : Int} (h : a = b) (h2 : c = d) : Ending.returned (.tuple #[.int k1 a, .int k2 c]) = .returned (.tuple #[.int k1 b, .int k2 d]) := by rw [h, h2]

theorem tdiv_bd (a b : Int) (ha : -1000000000000000000 < a) (ha' : a < 1000000000000000000) : -1000000000000000000 < a.tdiv b ∧ a.tdiv b < 1000000000000000000 := by
  have h := Int.natAbs_tdiv_le_natAbs a b
  omega
theorem tmod_bd (a b : Int) (ha : -1000000000000000000 < a) (ha' : a < 1000000000000000000) : -1000000000000000000 < a.tmod b ∧ a.tmod b < 1000000000000000000 := by
  have h := Int.natAbs_tmod a b
  have h2 := Nat.mod_le a.natAbs b.natAbs
  omega

set_option maxHeartbeats 1000000 in
theorem divideMachine_any (a b : Int) (w : World) (ha : -1000000000000000000 < a) (ha' : a < 1000000000000000000) (hb : -1000000000000000000 < b) (hb' : b < 1000000000000000000) (h0 : b ≠ 0) :
    Calls Tryd.prog 38 #[.int .i64 a, .int .i64 b] w fun e w' => e = .returned (.tuple #[.int .i64 (a.fdiv b), .int .i64 (a.fmod b)]) ∧ ∃ n, w' = w.drewN n := by
  have hq := tdiv_bd a b ha ha'
  have hr := tmod_bd a b ha ha'
  have hz : (b == 0) = false := by simpa using h0
  have e1 := Lib.hid (fun h => @fdiv_same a b h0 h)
  have e2 := Lib.hid (fun h h' => @fdiv_other a b h0 h h')
  go_enter Tryd.func38, Tryd.ntmps38
  go_wp2
  go_quiet (fail)
  generalize a.tdiv b = q at *
  generalize a.tmod b = r at *
  by_cases c0 : r = 0
  · have c1 : (r != 0) = false := by simpa using c0
    clear c0
    go_wp2
    go_returns
    obtain ⟨f1, f2⟩ := e1.out (.inl (by simpa using c1))
    exact ⟨ret_two f1.symm f2.symm, _, rfl⟩
  · have c1 : (r != 0) = true := by simpa using c0
    clear c0
    by_cases c2 : r < 0 <;> by_cases c3 : b < 0
    all_goals
      go_wp2
      go_returns
      first
      | (obtain ⟨f1, f2⟩ := e1.out (.inr (by omega))
         exact ⟨ret_two f1.symm f2.symm, _, rfl⟩)
      | (obtain ⟨f1, f2⟩ := e2.out (by simpa using c1) (by omega)
         exact ⟨ret_two f1.symm f2.symm, _, rfl⟩)

set_option maxHeartbeats 400000 in
theorem gcdMachine_any (a b : Nat) (w : World) (ha : a < 18446744073709551616) (hb : b < 18446744073709551616) :
    Calls Tryd.prog 44 #[.int .u64 a, .int .u64 b] w fun e w' => e = .returned (.int .u64 (Nat.gcd a b : Nat)) ∧ ∃ n, w' = w.drewN n := by
  go_enter Tryd.func44, Tryd.ntmps44
  go_wp2
  go_loopw [0, 1] (fun x y wr => ∃ a' b' : Nat, a' < 18446744073709551616 ∧ b' < 18446744073709551616 ∧ x = .int .u64 a' ∧ y = .int .u64 b' ∧ Hid (Nat.gcd a' b' = Nat.gcd a b) ∧ ∃ n, wr = w.drewN n) (fun _ y _ => (intOf y).toNat)
  case atStart => exact ⟨a, b, ha, hb, rfl, rfl, rfl, 0, rfl⟩
  case round =>
    obtain ⟨a', b', ha', hb', rfl, rfl, hg, m, rfl⟩ := hrel
    clear ha hb
    by_cases h0 : b' = 0
    · subst h0
      go_wp2
      go_ret
      exact ⟨ret_int (by have := hg.out; rw [Nat.gcd_zero_right] at this; rw [this]), m, rfl⟩
    · have hne : ((b' : Int) != 0) = true := by simpa using h0
      have hne2 : ((b' : Int) == 0) = false := by simpa using h0
      have hlt : a' % b' < b' := Nat.mod_lt _ (by omega)
      have hcast : ((a' % b' : Nat) : Int) = (a' : Int) % (b' : Int) := Int.natCast_emod _ _
      have HC := Lib.hid hcast; clear hcast
      have hg2 : Hid (Nat.gcd b' (a' % b') = Nat.gcd a b) := by
        show Nat.gcd b' (a' % b') = Nat.gcd a b
        rw [← hg.out, Nat.gcd_comm a' b', Nat.gcd_rec b' a', Nat.gcd_comm]
      clear hg h0
      go_wp2
      go_quiet (fail)
      go_wp2
      go_roundw
      case rel => exact ⟨b', a' % b', hb', by omega, rfl, by rw [HC.out], hg2, _, World.drewN_drewN _ _ _⟩
      case measure => simp [intOf]; omega

theorem start_above (n : Nat) (hn : n < 1000000000000000000) (h0 : n ≠ 0) :
    Lib.bitLen n ≤ 60 ∧ rootN n < 2 ^ ((Lib.bitLen n + 1) / 2) := by
  have h1 : Lib.bitLen n ≤ 60 := Lib.bitLen_le n 60 (by decide) (by omega)
  refine ⟨h1, rootN_le _ _ ?_⟩
  obtain ⟨_, _, h4⟩ := Lib.bitLenAux_bounds 64 n (by omega) h0
  have h5 : n < 2 ^ Lib.bitLen n := h4
  refine Nat.lt_of_lt_of_le h5 ?_
  rw [← Nat.pow_add]
  exact Nat.pow_le_pow_right (by decide) (by omega)

theorem u64_pow (k : Nat) (h : k ≤ 30) : IntKind.u64.wrap ((2 : Int) ^ k) = ((2 ^ k : Nat) : Int) ∧ 0 < 2 ^ k ∧ 2 ^ k ≤ 1073741824 := by
  have h1 : 2 ^ k ≤ 2 ^ 30 := Nat.pow_le_pow_right (by decide) h
  have h2 : 0 < 2 ^ k := Nat.pow_pos (by decide)
  refine ⟨?_, h2, h1⟩
  have h3 : ((2 : Int) ^ k) = ((2 ^ k : Nat) : Int) := by rw [Int.natCast_pow]; rfl
  rw [h3]
  exact IntWalk.u64_in _ ⟨by omega, by omega⟩

set_option maxHeartbeats 400000 in
theorem rootMachine_any (n : Nat) (w : World) (hn : n < 1000000000000000000) :
    Calls Tryd.prog 79 #[.int .u64 n] w fun e w' => e = .returned (.int .u64 (rootN n : Nat)) ∧ w = w' := by
  by_cases h0 : n = 0
  · subst h0
    have hr : rootN 0 = 0 := rootN_eq (by simp [IsRoot])
    have HR := Lib.hid hr; clear hr
    go_enter Tryd.func79, Tryd.ntmps79
    go_wp2
    go_ret
    exact ⟨ret_int (by rw [HR.out]; rfl), rfl⟩
  · have hne : ((n : Int) == 0) = false := by simpa using h0
    obtain ⟨hl, hg⟩ := start_above n hn h0
    obtain ⟨hw, hp, hle⟩ := u64_pow ((Lib.bitLen n + 1) / 2) (by omega)
    have HR := Lib.hid (rootN_is n)
    have hr1 : 0 < rootN n := by
      have h2 := (rootN_is n).2
      apply Decidable.byContradiction; intro hc
      have e : rootN n = 0 := by omega
      rw [e] at h2; simp at h2; omega
    generalize rootN n = r at *
    have HW := Lib.hid hw; clear hw
    go_enter Tryd.func79, Tryd.ntmps79
    go_wp2_with fail
    refine (Tryd.bits_Len64 n _ (by omega) (by omega)).mono ?_
    rw [Int.toNat_natCast]
    rintro e w' ⟨rfl, rfl⟩
    generalize Lib.bitLen n = L at *
    generalize 2 ^ ((L + 1) / 2) = g0 at *
    go_wp2
    rw [HW.out]
    clear HW
    go_loop [3] (fun x => ∃ g : Nat, 0 < g ∧ g ≤ 1073741824 ∧ r ≤ g ∧ x = .int .u64 g) (fun x => (intOf x).toNat)
    case atStart => exact ⟨g0, hp, hle, by omega, rfl⟩
    case round =>
      clear hg hle hp
      obtain ⟨g, hp, hle, hg, rfl⟩ := hrel
      have hgz : ((g : Int) == 0) = false := by rw [beq_eq_false_iff_ne]; omega
      have hd : n / g ≤ n := Nat.div_le_self _ _
      have H1 := newton_ge n g hp r HR.out
      have H2 := Lib.hid (newton_done n g r hp HR.out hg)
      have HC := Lib.hid (Int.natCast_ediv n g)
      generalize n / g = d at *
      rw [show Hid ((d : Int) = (n : Int) / (g : Int)) = ((d : Int) = (n : Int) / (g : Int)) from rfl] at HC
      have HD := Lib.hid HC; clear HC
      have hq0 : 0 ≤ (n : Int) / (g : Int) := by rw [← HD.out]; omega
      have hq1 : (n : Int) / (g : Int) ≤ n := by rw [← HD.out]; omega
      by_cases hc : g ≤ (g + d) / 2
      · have hc' : (g : Int) ≤ ((g : Int) + (n : Int) / (g : Int)) / 2 := by rw [← HD.out]; omega
        go_wp2
        go_ret
        exact ⟨ret_int (by rw [H2.out hc]), rfl⟩
      · have hc' : ((g : Int) + (n : Int) / (g : Int)) / 2 < (g : Int) := by rw [← HD.out]; omega
        go_wp2
        go_round
        case rel => exact ⟨(g + d) / 2, by omega, by omega, H1, by rw [← HD.out]; go_num⟩
        case measure => simp [intOf]; omega
end Go.Proofs.YtajonpcmgebbbaaDoor
