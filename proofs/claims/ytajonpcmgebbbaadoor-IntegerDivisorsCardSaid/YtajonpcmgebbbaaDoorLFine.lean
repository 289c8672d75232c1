/- The walks of the reference's check and of the test that strings are integers of up to 80 bytes. -/
import Derived.Test.YtajonpcmgebbbaaDoorLStr
namespace Go.Proofs.YtajonpcmgebbbaaDoor
open Go.RowKit

theorem chk_11 {l : List UInt8} (h : szL l = [] ∨ ((szL l).head? = some 48 ∧ l ≠ [48])) : chk l = 11 := by
  unfold chk; split
  · rfl
  · first | rfl | exact if_pos h
theorem chk_end {l : List UInt8} {f : Nat} (hz : szL l = l.drop f) (ha : (l.drop f).all isDig = true) (hne : f < l.length) (h48 : l[f]? = some 48 → l.length ≤ 1) :
    chk l = if 300 < l.length - f then 4 else 0 := by
  rw [chk_good (by rw [hz]; exact ha), hz, if_neg, List.length_drop]
  rintro (h | ⟨h, h'⟩)
  · have := congrArg List.length h; rw [List.length_drop] at this; simp at this; omega
  · rw [List.head?_drop] at h
    have h1 := h48 h
    have hf : f = 0 := by omega
    subst hf
    match l, h1, h, h' with
    | [c], _, h, h' => simp at h; exact h' (by rw [h])
theorem szL_neg {l : List UInt8} (h : isNeg l = true) : szL l = l.drop 1 := by unfold szL; rw [if_pos h, List.drop_one]
theorem szL_pos {l : List UInt8} (h : isNeg l = false) : szL l = l.drop 0 := by unfold szL; rw [h]; rfl
theorem get_some (s : ByteArray) (k : Nat) (h : k < s.size) : s.data.toList[k]? = some s[k] := by
  rw [List.getElem?_eq_getElem (by rw [size_len]; exact h)]; rfl
theorem all_snoc {s : ByteArray} {f k : Nat} (h : ((s.data.toList.take k).drop f).all isDig = true) (hf : f ≤ k) (hk : k < s.size) (hd : isDig s[k] = true) :
    ((s.data.toList.take (k + 1)).drop f).all isDig = true := by
  rw [take_snoc s k hk, List.drop_append_of_le_length (by rw [List.length_take, size_len]; omega), List.all_append, h]; simp [hd]

theorem tenTo_succ (k : Nat) : tenTo (k + 1) = 10 * tenTo k := by unfold tenTo; rw [Nat.pow_succ, Nat.mul_comm]
theorem tenTo_add (j k : Nat) : tenTo (j + k) = tenTo j * tenTo k := Nat.pow_add _ _ _
def Bd (k : Nat) (z : Int) : Prop := z.natAbs < tenTo k
theorem Bd.add {k : Nat} {x y : Int} (hx : Bd k x) (hy : Bd k y) : Bd (k + 1) (x + y) := by
  unfold Bd at *; rw [tenTo_succ]; omega
theorem Bd.sub {k : Nat} {x y : Int} (hx : Bd k x) (hy : Bd k y) : Bd (k + 1) (x - y) := by
  unfold Bd at *; rw [tenTo_succ]; omega
theorem Bd.mul {j k : Nat} {x y : Int} (hx : Bd j x) (hy : Bd k y) : Bd (j + k) (x * y) := by
  unfold Bd at *; rw [tenTo_add, Int.natAbs_mul]; exact Nat.mul_lt_mul'' hx hy
theorem Bd.lt {k : Nat} {z : Int} (h : Bd k z) (hk : k ≤ 300) : z.natAbs < lim := Nat.lt_of_lt_of_le h (tenTo_mono hk)
theorem Bd.up {j k : Nat} {z : Int} (h : Bd j z) (hk : j ≤ k) : Bd k z := Nat.lt_of_lt_of_le h (tenTo_mono hk)
def fineS (s : ByteArray) : Bool := decide (s.size ≤ 80) && (chk s.data.toList == 0)
theorem fine_str {s : ByteArray} (h : fineS s = true) : ∃ x : Int, s = strB x ∧ Bd 80 x := by
  unfold fineS at h
  simp only [Bool.and_eq_true, decide_eq_true_eq, beq_iff_eq] at h
  obtain ⟨h1, h2⟩ := h
  have e : strB (valOf s.data.toList) = s := by
    unfold strB; rw [itoa_valOf _ h2]
  refine ⟨valOf s.data.toList, e.symm, ?_⟩
  have h3 : (strB (valOf s.data.toList)).size ≤ 80 := by rw [e]; exact h1
  rw [strB_len] at h3
  generalize valOf s.data.toList = z at *
  show z.natAbs < tenTo 80
  rw [← nDigits_tenTo _ 80 (by decide)]
  unfold Lib.itoa at h3
  split at h3
  · rw [List.length_cons, Lib.decDigits_length] at h3; omega
  · rw [Lib.decDigits_length] at h3
    have : z.toNat = z.natAbs := by omega
    rw [this] at h3; exact h3

theorem mem_drop (s : ByteArray) (k f : Nat) (hf : f ≤ k) (h : k < s.size) : s[k] ∈ s.data.toList.drop f := by
  have h2 : (s.data.toList.drop f)[k - f]? = some s[k] := by
    rw [List.getElem?_drop, show f + (k - f) = k by omega]; exact get_some s k h
  exact List.mem_of_getElem? h2
theorem head_48 {s : ByteArray} {f : Nat} (hf : f < s.size) (h : ((s[f].toNat : Int) == 48) = true) : (s.data.toList.drop f).head? = some 48 := by
  rw [List.head?_drop, get_some s f hf]
  have := u8_eq s[f] 48 (by decide)
  rw [show ((48 : Nat) : Int) = 48 from rfl, h] at this
  exact congrArg some (by simpa using this.symm)
theorem not_48 {s : ByteArray} {f : Nat} (hf : f < s.size) (h : ((s[f].toNat : Int) == 48) = false) : s.data.toList[f]? ≠ some 48 := by
  rw [get_some s f hf]
  intro e
  have e := Option.some.inj e
  rw [e] at h
  exact absurd h (by decide)

set_option maxHeartbeats 1000000 in
theorem refCheck_any (s : ByteArray) (w : World) (hs : s.size ≤ maxLen) :
    Calls Tryd.prog 50 #[.string s] w fun e w' => e = .returned (.int .i64 (chk s.data.toList)) ∧ w = w' := by
  have hm : s.size ≤ 9223372036854775807 := by unfold maxLen at hs; omega
  clear hs
  by_cases hn : isNeg s.data.toList = true
  · have hz := Lib.hid (szL_neg hn)
    have h0 := isNeg_size hn
    have h45 : ((s[0].toNat : Int) == 45) = true := (isNeg_pos h0).trans hn
    clear hn
    by_cases h1 : s.size = 1
    · have h1' : ((1 : Int) == s.size) = true := by rw [h1]; rfl
      go_enter Tryd.func50, Tryd.ntmps50
      go_wp2
      go_ret
      refine ⟨ret_int (chk_11 (.inl ?_)).symm, rfl⟩
      rw [hz.out, List.drop_eq_nil_iff, size_len]; omega
    · have h2 : 1 < s.size := by omega
      have h1' : ((1 : Int) == s.size) = false := by rw [beq_eq_false_iff_ne]; omega
      by_cases hc : ((s[1].toNat : Int) == 48) = true
      · have hx := Lib.hid (head_48 h2 hc)
        go_enter Tryd.func50, Tryd.ntmps50
        go_wp2
        go_ret
        refine ⟨ret_int (chk_11 (.inr ⟨by rw [hz.out]; exact hx.out, fun e => ?_⟩)).symm, rfl⟩
        have := congrArg List.length e
        rw [size_len] at this; simp at this; omega
      · have hc' : ((s[1].toNat : Int) == 48) = false := by simpa using hc
        clear hc
        have H48 := Lib.hid (fun h : s.data.toList[1]? = some 48 => show s.size ≤ 1 from absurd h (not_48 h2 hc'))
        go_enter Tryd.func50, Tryd.ntmps50
        go_wp2
        go_loop [4] (fun i => ∃ k : Nat, 1 ≤ k ∧ k ≤ s.size ∧ i = .int .i64 k ∧ Hid (((s.data.toList.take k).drop 1).all isDig = true)) (fun i => s.size - (intOf i).toNat)
        case atStart => exact ⟨1, Nat.le_refl _, by omega, rfl, by show ((s.data.toList.take 1).drop 1).all isDig = true; rw [List.drop_eq_nil_of_le (List.length_take_le _ _)]; rfl⟩
        case round =>
          obtain ⟨k, hk0, hk, rfl, hd⟩ := hrel
          by_cases hlt : k < s.size
          · by_cases h3 : (s[k].toNat : Int) < 48
            · go_wp2
              go_ret
              refine ⟨ret_int (chk_bad ?_).symm, rfl⟩
              rw [hz.out, List.all_eq_false]
              exact ⟨s[k], mem_drop s k 1 hk0 hlt, by rw [isDig_iff]; omega⟩
            · by_cases h4 : (57 : Int) < s[k].toNat
              · go_wp2
                go_ret
                refine ⟨ret_int (chk_bad ?_).symm, rfl⟩
                rw [hz.out, List.all_eq_false]
                exact ⟨s[k], mem_drop s k 1 hk0 hlt, by rw [isDig_iff]; omega⟩
              · have hd' : Hid (((s.data.toList.take (k + 1)).drop 1).all isDig = true) := all_snoc hd.out hk0 hlt (by rw [isDig_iff]; omega)
                clear hd
                go_wp2
                go_round
                case rel => exact ⟨k + 1, by omega, by omega, by go_num, hd'⟩
                case measure => simp [intOf]; omega
          · have hE : Hid (chk s.data.toList = if 300 < s.data.toList.length - 1 then 4 else 0) := chk_end hz.out (by have := hd.out; rwa [List.take_of_length_le (by rw [size_len]; omega)] at this) (by rw [size_len]; omega) (fun h => by rw [size_len]; exact H48.out h)
            clear hd
            go_wp2
            · have hy : (300 : Int) < s.size - 1 := by omega
              go_ret
              exact ⟨ret_int (by rw [hE.out, if_pos (by rw [size_len]; omega)]), rfl⟩
            · have hy : (s.size : Int) - 1 ≤ 300 := by omega
              go_ret
              exact ⟨ret_int (by rw [hE.out, if_neg (by rw [size_len]; omega)]), rfl⟩
  · have hn' : isNeg s.data.toList = false := by simpa using hn
    clear hn
    have hz := Lib.hid (szL_pos hn')
    by_cases h0 : s.size = 0
    · go_enter Tryd.func50, Tryd.ntmps50
      go_wp2
      go_ret
      refine ⟨ret_int (chk_11 (.inl ?_)).symm, rfl⟩
      rw [hz.out, List.drop_eq_nil_iff, size_len]; omega
    · have h2 : 0 < s.size := by omega
      have h45 : ((s[0].toNat : Int) == 45) = false := (isNeg_pos h2).trans hn'
      have h1' : ((0 : Int) == s.size) = false := by rw [beq_eq_false_iff_ne]; omega
      clear hn'
      by_cases hc : ((s[0].toNat : Int) == 48) = true ∧ 1 < s.size
      · obtain ⟨hc, h3⟩ := hc
        have hx := Lib.hid (head_48 h2 hc)
        go_enter Tryd.func50, Tryd.ntmps50
        go_wp2
        go_ret
        refine ⟨ret_int (chk_11 (.inr ⟨by rw [hz.out]; exact hx.out, fun e => ?_⟩)).symm, rfl⟩
        have := congrArg List.length e
        rw [size_len] at this; simp at this; omega
      · by_cases hc1 : ((s[0].toNat : Int) == 48) = true
        · have h3 : s.size = 1 := by
            have : ¬ 1 < s.size := fun h => hc ⟨hc1, h⟩
            omega
          have h3' : ¬ (1 : Int) < s.size := by omega
          have H48 := Lib.hid (fun _ : s.data.toList[0]? = some 48 => show s.size ≤ 1 by omega)
          clear hc
          go_enter Tryd.func50, Tryd.ntmps50
          go_wp2
          go_loop [4] (fun i => ∃ k : Nat, 0 ≤ k ∧ k ≤ s.size ∧ i = .int .i64 k ∧ Hid (((s.data.toList.take k).drop 0).all isDig = true)) (fun i => s.size - (intOf i).toNat)
          case atStart => exact ⟨0, Nat.le_refl _, by omega, rfl, by show ((s.data.toList.take 0).drop 0).all isDig = true; rw [List.drop_eq_nil_of_le (List.length_take_le _ _)]; rfl⟩
          case round =>
            obtain ⟨k, hk0, hk, rfl, hd⟩ := hrel
            by_cases hlt : k < s.size
            · by_cases h3 : (s[k].toNat : Int) < 48
              · go_wp2
                go_ret
                refine ⟨ret_int (chk_bad ?_).symm, rfl⟩
                rw [hz.out, List.all_eq_false]
                exact ⟨s[k], mem_drop s k 0 hk0 hlt, by rw [isDig_iff]; omega⟩
              · by_cases h4 : (57 : Int) < s[k].toNat
                · go_wp2
                  go_ret
                  refine ⟨ret_int (chk_bad ?_).symm, rfl⟩
                  rw [hz.out, List.all_eq_false]
                  exact ⟨s[k], mem_drop s k 0 hk0 hlt, by rw [isDig_iff]; omega⟩
                · have hd' : Hid (((s.data.toList.take (k + 1)).drop 0).all isDig = true) := all_snoc hd.out hk0 hlt (by rw [isDig_iff]; omega)
                  clear hd
                  go_wp2
                  go_round
                  case rel => exact ⟨k + 1, by omega, by omega, by go_num, hd'⟩
                  case measure => simp [intOf]; omega
            · have hE : Hid (chk s.data.toList = if 300 < s.data.toList.length - 0 then 4 else 0) := chk_end hz.out (by have := hd.out; rwa [List.take_of_length_le (by rw [size_len]; omega)] at this) (by rw [size_len]; omega) (fun h => by rw [size_len]; exact H48.out h)
              clear hd
              go_wp2
              go_ret
              exact ⟨ret_int (by rw [hE.out, if_neg (by rw [size_len]; omega)]), rfl⟩
        · have hc' : ((s[0].toNat : Int) == 48) = false := by simpa using hc1
          clear hc hc1
          have H48 := Lib.hid (fun h : s.data.toList[0]? = some 48 => show s.size ≤ 1 from absurd h (not_48 h2 hc'))
          go_enter Tryd.func50, Tryd.ntmps50
          go_wp2
          go_loop [4] (fun i => ∃ k : Nat, 0 ≤ k ∧ k ≤ s.size ∧ i = .int .i64 k ∧ Hid (((s.data.toList.take k).drop 0).all isDig = true)) (fun i => s.size - (intOf i).toNat)
          case atStart => exact ⟨0, Nat.le_refl _, by omega, rfl, by show ((s.data.toList.take 0).drop 0).all isDig = true; rw [List.drop_eq_nil_of_le (List.length_take_le _ _)]; rfl⟩
          case round =>
            obtain ⟨k, hk0, hk, rfl, hd⟩ := hrel
            by_cases hlt : k < s.size
            · by_cases h3 : (s[k].toNat : Int) < 48
              · go_wp2
                go_ret
                refine ⟨ret_int (chk_bad ?_).symm, rfl⟩
                rw [hz.out, List.all_eq_false]
                exact ⟨s[k], mem_drop s k 0 hk0 hlt, by rw [isDig_iff]; omega⟩
              · by_cases h4 : (57 : Int) < s[k].toNat
                · go_wp2
                  go_ret
                  refine ⟨ret_int (chk_bad ?_).symm, rfl⟩
                  rw [hz.out, List.all_eq_false]
                  exact ⟨s[k], mem_drop s k 0 hk0 hlt, by rw [isDig_iff]; omega⟩
                · have hd' : Hid (((s.data.toList.take (k + 1)).drop 0).all isDig = true) := all_snoc hd.out hk0 hlt (by rw [isDig_iff]; omega)
                  clear hd
                  go_wp2
                  go_round
                  case rel => exact ⟨k + 1, by omega, by omega, by go_num, hd'⟩
                  case measure => simp [intOf]; omega
            · have hE : Hid (chk s.data.toList = if 300 < s.data.toList.length - 0 then 4 else 0) := chk_end hz.out (by have := hd.out; rwa [List.take_of_length_le (by rw [size_len]; omega)] at this) (by rw [size_len]; omega) (fun h => by rw [size_len]; exact H48.out h)
              clear hd
              go_wp2
              · have hy : (300 : Int) < s.size := by omega
                go_ret
                exact ⟨ret_int (by rw [hE.out, if_pos (by rw [size_len]; omega)]), rfl⟩
              · have hy : (s.size : Int) ≤ 300 := by omega
                go_ret
                exact ⟨ret_int (by rw [hE.out, if_neg (by rw [size_len]; omega)]), rfl⟩

end Go.Proofs.YtajonpcmgebbbaaDoor
