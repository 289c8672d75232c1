/- The walks of Check and of what is computed by the machine alone. -/
import Derived.Test.YtajonpcmgebbbaaDoorW1
namespace Go.Proofs.YtajonpcmgebbbaaDoor
open Go.RowKit

theorem chk_bad {l : List UInt8} (h : (szL l).all isDig = false) : chk l = 11 := by unfold chk; rw [h]; rfl
theorem chk_good {l : List UInt8} (h : (szL l).all isDig = true) :
    chk l = if (szL l) = [] ∨ ((szL l).head? = some 48 ∧ l ≠ [48]) then 11 else if 300 < (szL l).length then 4 else 0 := by unfold chk; rw [h]; rfl

set_option maxHeartbeats 400000 in
theorem check_any (s : ByteArray) (w : World) (hs : s.size ≤ maxLen) :
    Calls Tryd.prog 24 #[.string s] w fun e w' => e = .returned (.int .i64 (chk s.data.toList)) ∧ w = w' := by
  have hm : s.size ≤ 9223372036854775807 := by unfold maxLen at hs; omega
  have hz := szB_size s
  have HD := Lib.hid (szB_data s)
  go_enter Tryd.func24, Tryd.ntmps24
  go_wp2_with (go_at_call 43; refine (sizeText_any s _ hs).mono ?_; rintro e w' ⟨rfl, rfl⟩)
  generalize szB s = t at *
  go_loop [9] (fun i => ∃ k : Nat, k ≤ t.size ∧ i = .int .i64 k ∧ Hid ((t.data.toList.take k).all isDig = true)) (fun i => t.size - (intOf i).toNat)
  case atStart => exact ⟨0, Nat.zero_le _, rfl, rfl⟩
  case round =>
    obtain ⟨k, hk, rfl, hd⟩ := hrel
    by_cases hlt : k < t.size
    · by_cases h1 : (t[k].toNat : Int) < 48
      · go_wp2
        go_ret
        refine ⟨ret_int (chk_bad ?_).symm, rfl⟩
        rw [← HD.out, List.all_eq_false]
        refine ⟨t[k], mem_get t k hlt, ?_⟩
        rw [isDig_iff]; omega
      · by_cases h2 : (57 : Int) < t[k].toNat
        · go_wp2
          go_ret
          refine ⟨ret_int (chk_bad ?_).symm, rfl⟩
          rw [← HD.out, List.all_eq_false]
          refine ⟨t[k], mem_get t k hlt, ?_⟩
          rw [isDig_iff]; omega
        · have hd' : Hid ((t.data.toList.take (k + 1)).all isDig = true) := by
            show (t.data.toList.take (k + 1)).all isDig = true
            rw [take_snoc t k hlt, List.all_append, hd.out]
            have : isDig t[k] = true := by rw [isDig_iff]; omega
            simp [this]
          clear hd
          go_wp2
          go_round
          case rel => exact ⟨k + 1, by omega, by go_num, hd'⟩
          case measure => simp [intOf]; omega
    · have ha : Hid ((szL s.data.toList).all isDig = true) := by
        show (szL s.data.toList).all isDig = true
        rw [← HD.out]; have := hd.out; rwa [List.take_of_length_le (by rw [size_len]; omega)] at this
      clear hd
      by_cases h0 : t.size = 0
      · have hE := empty_true h0
        go_wp2
        go_ret
        refine ⟨ret_int ?_, rfl⟩
        rw [chk_good ha.out, if_pos]
        left; rw [← HD.out]; exact data_nil h0
      · have h0' : 0 < t.size := by omega
        have hE := empty_false h0'
        obtain ⟨r, hr⟩ := data_cons h0'
        have HR := Lib.hid hr; clear hr
        by_cases hc : ((t[0].toNat : Int) == 48) = true
        · have h48 : (szL s.data.toList).head? = some 48 := by
            rw [← HD.out, HR.out, List.head?_cons]
            have := u8_eq t[0] 48 (by decide)
            rw [show ((48 : Nat) : Int) = 48 from rfl, hc] at this
            exact congrArg some (by simpa using this.symm)
          have H48 := Lib.hid h48; clear h48
          go_wp2
          · have hx : (!s.toList == [48]) = true := by assumption
            go_ret
            refine ⟨ret_int ?_, rfl⟩
            rw [chk_good ha.out, if_pos]
            rw [ByteArray.toList_eq] at hx
            exact Or.inr ⟨H48.out, by simpa using hx⟩
          · have hx : (!s.toList == [48]) = false := by assumption
            have hy : (300 : Int) < t.size := by assumption
            go_ret
            refine ⟨ret_int ?_, rfl⟩
            rw [ByteArray.toList_eq] at hx
            rw [chk_good ha.out, if_neg, if_pos]
            · rw [← HD.out, size_len]; omega
            · rintro (h | h)
              · rw [← HD.out, HR.out] at h; cases h
              · exact h.2 (by simpa using hx)
          · have hx : (!s.toList == [48]) = false := by assumption
            have hy : (t.size : Int) ≤ 300 := by assumption
            go_ret
            refine ⟨ret_int ?_, rfl⟩
            rw [ByteArray.toList_eq] at hx
            rw [chk_good ha.out, if_neg, if_neg]
            · rw [← HD.out, size_len]; omega
            · rintro (h | h)
              · rw [← HD.out, HR.out] at h; cases h
              · exact h.2 (by simpa using hx)
        · have hc' : ((t[0].toNat : Int) == 48) = false := by simpa using hc
          have h48 : (szL s.data.toList).head? ≠ some 48 := by
            rw [← HD.out, HR.out, List.head?_cons]
            intro e
            have e := Option.some.inj e
            rw [e] at hc'
            exact absurd hc' (by decide)
          have H48 := Lib.hid h48; clear h48
          go_wp2
          · have hy : (300 : Int) < t.size := by assumption
            go_ret
            refine ⟨ret_int ?_, rfl⟩
            rw [chk_good ha.out, if_neg, if_pos]
            · rw [← HD.out, size_len]; omega
            · rintro (h | h)
              · rw [← HD.out, HR.out] at h; cases h
              · exact H48.out h.1
          · have hy : (t.size : Int) ≤ 300 := by assumption
            go_ret
            refine ⟨ret_int ?_, rfl⟩
            rw [chk_good ha.out, if_neg, if_neg]
            · rw [← HD.out, size_len]; omega
            · rintro (h | h)
              · rw [← HD.out, HR.out] at h; cases h
              · exact H48.out h.1
end Go.Proofs.YtajonpcmgebbbaaDoor
