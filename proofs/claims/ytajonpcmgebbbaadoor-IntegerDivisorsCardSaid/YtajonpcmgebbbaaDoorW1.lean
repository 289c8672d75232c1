/- The walks of the small functions of layer 1: the sign, the size and the check of a text, the value of a short one. -/
import Derived.Test.YtajonpcmgebbbaaDoorProg
import Derived.Test.YtajonpcmgebbbaaDoorDec
import Derived.Handy
import Derived.WalkSpells
import Derived.WalkLawsBesides
import Derived.BigQuiet
import Derived.Deep.QuietTactic
import Derived.Lib.Hide
import Derived.Lib.Strings
namespace Go.Proofs.YtajonpcmgebbbaaDoor
open Go.RowKit

theorem ret_bool {a b : Bool} (h : a = b) : Ending.returned (.bool a) = .returned (.bool b) := by rw [h]
theorem ret_int {k : IntKind} {a b : Int} (h : a = b) : Ending.returned (.int k a) = .returned (.int k b) := by rw [h]
theorem ret_str {a b : ByteArray} (h : a = b) : Ending.returned (.string a) = .returned (.string b) := by rw [h]

theorem size_len (s : ByteArray) : s.data.toList.length = s.size := rfl
theorem empty_true {s : ByteArray} (h : s.size = 0) : s.toList.isEmpty = true := by
  rw [ByteArray.toList_eq, List.isEmpty_iff]; exact List.eq_nil_of_length_eq_zero h
theorem empty_false {s : ByteArray} (h : 0 < s.size) : s.toList.isEmpty = false := by
  rw [ByteArray.toList_eq]
  cases hl : s.data.toList with
  | nil => have := size_len s; rw [hl] at this; simp at this; omega
  | cons a t => rfl
theorem data_nil {s : ByteArray} (h : s.size = 0) : s.data.toList = [] := List.eq_nil_of_length_eq_zero h
theorem data_cons {s : ByteArray} (h : 0 < s.size) : ∃ t, s.data.toList = s[0] :: t := by
  have h2 : s.data.toList[0]'(by rw [size_len]; exact h) = s[0] := rfl
  cases hl : s.data.toList with
  | nil => have := size_len s; rw [hl] at this; simp at this; omega
  | cons a t => simp only [hl] at h2; exact ⟨t, by rw [← h2]; rfl⟩
theorem u8_eq (c : UInt8) (k : Nat) (hk : k < 256) : (((c.toNat : Nat) : Int) == (k : Int)) = (c == UInt8.ofNat k) := by
  rw [Bool.eq_iff_iff, beq_iff_eq, beq_iff_eq]
  constructor
  · intro h
    have h2 : c.toNat = k := by omega
    rw [← h2]; exact UInt8.ofNat_toNat.symm
  · intro h; subst h
    rw [UInt8.toNat_ofNat']
    have : k % 2 ^ 8 = k := Nat.mod_eq_of_lt (by omega)
    rw [this]
theorem isNeg_pos {s : ByteArray} (h : 0 < s.size) : (((s[0].toNat : Nat) : Int) == 45) = isNeg s.data.toList := by
  obtain ⟨t, ht⟩ := data_cons h
  rw [ht]
  have := u8_eq s[0] 45 (by decide)
  exact this.trans (by unfold isNeg; rfl)

set_option maxHeartbeats 400000 in
theorem isNegative_any (s : ByteArray) (w : World) :
    Calls Tryd.prog 48 #[.string s] w fun e w' => e = .returned (.bool (isNeg s.data.toList)) ∧ w = w' := by
  by_cases h : 0 < s.size
  · have hE := empty_false h
    go_enter Tryd.func48, Tryd.ntmps48
    go_wp2
    go_ret
    exact ⟨ret_bool (isNeg_pos h), rfl⟩
  · have h0 : s.size = 0 := by omega
    have hE := empty_true h0
    go_enter Tryd.func48, Tryd.ntmps48
    go_wp2
    go_ret
    exact ⟨ret_bool (by rw [data_nil h0]; rfl), rfl⟩

/-- the text without its sign, as bytes -/
def szB (s : ByteArray) : ByteArray := if isNeg s.data.toList then s.extract 1 s.size else s
theorem szB_data (s : ByteArray) : (szB s).data.toList = szL s.data.toList := by
  unfold szB szL
  by_cases h : isNeg s.data.toList
  · rw [if_pos h, if_pos h, Lib.extract_data]
    rw [← List.drop_one]
    rw [List.take_of_length_le]
    rw [List.length_drop]; rw [size_len]; omega
  · rw [if_neg h, if_neg h]
theorem isNeg_size {s : ByteArray} (h : isNeg s.data.toList = true) : 0 < s.size := by
  rw [← size_len]
  cases hl : s.data.toList with
  | nil => rw [hl] at h; cases h
  | cons a t => simp
theorem szB_size (s : ByteArray) : (szB s).size ≤ s.size := by
  unfold szB; split
  · rw [ByteArray.size_extract]; omega
  · exact Nat.le_refl _

set_option maxHeartbeats 400000 in
theorem sizeText_any (s : ByteArray) (w : World) (hs : s.size ≤ maxLen) :
    Calls Tryd.prog 43 #[.string s] w fun e w' => e = .returned (.string (szB s)) ∧ w = w' := by
  unfold maxLen at hs
  by_cases h : isNeg s.data.toList = true
  · have h0 := isNeg_size h
    go_enter Tryd.func43, Tryd.ntmps43
    go_wp2_with (go_at_call 48; refine (isNegative_any s _).mono ?_; rw [h]; rintro e w' ⟨rfl, rfl⟩)
    go_ret
    exact ⟨ret_str (by unfold szB; rw [if_pos h]), rfl⟩
  · have h' : isNeg s.data.toList = false := by simpa using h
    go_enter Tryd.func43, Tryd.ntmps43
    go_wp2_with (go_at_call 48; refine (isNegative_any s _).mono ?_; rw [h']; rintro e w' ⟨rfl, rfl⟩)
    go_ret
    exact ⟨ret_str (by unfold szB; rw [h']; rfl), rfl⟩

/-! ### value: a short text of digits -/
theorem take_snoc (s : ByteArray) (k : Nat) (h : k < s.size) : s.data.toList.take (k + 1) = s.data.toList.take k ++ [s[k]] := by
  rw [List.take_succ_eq_append_getElem (by simpa using h)]; rfl
theorem mem_get (s : ByteArray) (k : Nat) (h : k < s.size) : s[k] ∈ s.data.toList := by
  have : s.data.toList[k]'(by rw [size_len]; exact h) = s[k] := rfl
  rw [← this]; exact List.getElem_mem _
theorem natOf_take_lt (l : List UInt8) (h : ∀ c ∈ l, isDig c = true) (k : Nat) : natOf (l.take k) < 10 ^ k := by
  have h1 := natOf_lt (l.take k) (fun c hc => h c (List.mem_of_mem_take hc))
  exact Nat.lt_of_lt_of_le h1 (Nat.pow_le_pow_right (by decide) (List.length_take_le _ _))
theorem natOf_take_18 (l : List UInt8) (h : ∀ c ∈ l, isDig c = true) (k : Nat) (hk : k ≤ 18) : natOf (l.take k) < 1000000000000000000 := 
  Nat.lt_of_lt_of_le (natOf_take_lt l h k) (Nat.le_trans (Nat.pow_le_pow_right (by decide) hk) (by decide))

set_option maxHeartbeats 400000 in
theorem value_any (s : ByteArray) (w : World) (hs : s.size ≤ 18) (hd : ∀ c ∈ s.data.toList, isDig c = true) :
    Calls Tryd.prog 45 #[.string s] w fun e w' => e = .returned (.int .u64 (natOf s.data.toList : Nat)) ∧ w = w' := by
  have HD := Lib.hid hd; clear hd
  go_enter Tryd.func45, Tryd.ntmps45
  go_wp2
  go_loop [3, 7] (fun n i => ∃ k : Nat, k ≤ s.size ∧ i = .int .i64 k ∧ n = .int .u64 (natOf (s.data.toList.take k) : Nat)) (fun _ i => s.size - (intOf i).toNat)
  case atStart => exact ⟨0, Nat.zero_le _, rfl, rfl⟩
  case round =>
    obtain ⟨k, hk, rfl, rfl⟩ := hrel
    by_cases hlt : k < s.size
    · have hn := natOf_take_18 s.data.toList HD.out k (by omega)
      have hc := (isDig_iff s[k]).1 (HD.out _ (mem_get s k hlt))
      have HS : Hid (natOf (s.data.toList.take (k + 1)) = natOf (s.data.toList.take k) * 10 + (s[k].toNat - 48)) := by rw [take_snoc s k hlt]; exact natOf_snoc _ _
      go_wp2
      go_round
      case rel => exact ⟨k + 1, by omega, by go_num, by rw [HS.out]; go_num⟩
      case measure => simp [intOf]; omega
    · go_wp2
      go_ret
      exact ⟨ret_int (by rw [List.take_of_length_le (by rw [size_len]; omega)]), rfl⟩
end Go.Proofs.YtajonpcmgebbbaaDoor
