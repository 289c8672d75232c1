/- The walk of the test that all strings of a list are integers of up to 80 bytes. -/
import Derived.Test.YtajonpcmgebbbaaDoorLFine
namespace Go.Proofs.YtajonpcmgebbbaaDoor
open Go.RowKit

theorem fineS_long {s : ByteArray} (h : (80 : Int) < s.size) : fineS s = false := by
  unfold fineS; rw [show decide (s.size ≤ 80) = false by rw [decide_eq_false_iff_not]; omega]; rfl
theorem fineS_short {s : ByteArray} (h : (s.size : Int) ≤ 80) : fineS s = (chk s.data.toList == 0) := by
  unfold fineS; rw [show decide (s.size ≤ 80) = true by rw [decide_eq_true_iff]; omega]; rfl
theorem all_false {xs : List ByteArray} {s : ByteArray} (hm : s ∈ xs) (h : fineS s = false) : xs.all fineS = false := by
  rw [List.all_eq_false]; exact ⟨s, hm, by rw [h]; decide⟩
theorem all_next {xs : List ByteArray} {k : Nat} (h : (xs.take k).all fineS = true) (hk : k < xs.length) (hs : fineS xs[k] = true) : (xs.take (k + 1)).all fineS = true := by
  rw [List.take_succ_eq_append_getElem hk, List.all_append, h]; simp [hs]
set_option maxHeartbeats 1000000 in
theorem fine_any (xs : List ByteArray) (B : Nat) (w : World) (hl : xs.length ≤ 100) (hs : ∀ s ∈ xs, s.size ≤ maxLen) (hc : ∀ i (h : i < xs.length), w.cell? ⟨B, i, none⟩ = some (.string xs[i])) :
    Calls Tryd.prog 20 #[.slice (some ⟨B, 0, none⟩) xs.length xs.length] w fun e w' => e = .returned (.bool (xs.all fineS)) ∧ w = w' := by
  have HC := Lib.hid (And.intro hs hc); clear hs hc
  go_enter Tryd.func20, Tryd.ntmps20
  go_wp2
  go_loop [7] (fun i => ∃ k : Nat, i = .int .i64 k ∧ k ≤ xs.length ∧ Hid ((xs.take k).all fineS = true)) (fun i => xs.length - (intOf i).toNat)
  case atStart => exact ⟨0, rfl, by omega, rfl⟩
  case round =>
    obtain ⟨k, rfl, hk, hd⟩ := hrel
    by_cases hlt : k < xs.length
    · have hck := HC.out.2 k hlt
      have hsz := HC.out.1 xs[k] (List.getElem_mem hlt)
      have hm := Lib.hid (List.getElem_mem hlt)
      have hn := Lib.hid (fun h : fineS xs[k] = true => all_next hd.out hlt h)
      have hms : xs[k].size ≤ 9223372036854775807 := by unfold maxLen at hsz; omega
      generalize xs[k] = s at *
      by_cases h8 : (80 : Int) < s.size
      · go_wp2
        go_ret
        exact ⟨ret_bool (all_false hm.out (fineS_long h8)).symm, rfl⟩
      · have hf := Lib.hid (fineS_short (s := s) (by omega))
        have hr := Lib.hid (fun W => refCheck_any s W hsz)
        generalize chk s.data.toList = c at *
        by_cases h0 : c = 0
        · subst h0
          go_wp2_with fail
          refine (hr.out _).mono ?_
          rintro e w' ⟨rfl, rfl⟩
          go_wp2
          go_round
          case rel => exact ⟨k + 1, by go_num, by omega, hn.out (by rw [hf.out]; rfl)⟩
          case measure => simp [intOf]; omega
        · go_wp2_with fail
          refine (hr.out _).mono ?_
          rintro e w' ⟨rfl, rfl⟩
          go_wp2
          go_ret
          exact ⟨ret_bool (all_false hm.out (by rw [hf.out]; simpa using h0)).symm, rfl⟩
    · go_wp2
      go_ret
      refine ⟨ret_bool ?_, rfl⟩
      have := hd.out
      rw [List.take_of_length_le (by omega)] at this
      exact this.symm
end Go.Proofs.YtajonpcmgebbbaaDoor
