/- Parts of the proof of the text YtajonpcmgebbbaaDoorProducts23. -/
import Derived.Deep.RegionHeld3
import Derived.Test.YtajonpcmgebbbaaDoorProducts7
/- The walk of the law IntegerSmall: integers of 32 bits behave as those of the machine. -/
namespace Go.Proofs.YtajonpcmgebbbaaDoor
open Go.RowKit

theorem Itoa_any (z : Int) (w : World) (h0 : -9223372036854775808 ≤ z) (h1 : z ≤ 9223372036854775807) (ht : Tab w) :
    Calls Tryd.prog 33 #[.int .i64 z] w fun e w' => e = .returned (.string (strB z)) ∧ Below w.heap.size w w' :=
  (Tryd.strconv_Itoa z h0 h1 w ht).mono fun e w' ⟨he, k, os, hw⟩ => ⟨he, by rw [hw]; exact Lib.below_grow _ _ (Nat.le_refl _) _ _⟩

theorem strB_chk {z : Int} (h : z.natAbs < lim) : chk (strB z).data.toList = 0 := by rw [strB_data, chk_itoa, if_pos h]
theorem strB_val (z : Int) : valOf (strB z).data.toList = z := by rw [strB_data, valOf_itoa]
theorem strB_size {z : Int} (h : z.natAbs < lim) : (strB z).size ≤ 301 := chk_size (strB_chk h)
theorem strB_chk2 {x y : Int} (hx : x.natAbs < lim) (hy : y.natAbs < lim) : chk2 (strB x).data.toList (strB y).data.toList = 0 := by unfold chk2; rw [if_pos (strB_chk hx), strB_chk hy]
theorem small_lim {z : Int} (h : z.natAbs < 1000000000000000000000000000000000000000) : z.natAbs < lim := Nat.lt_of_lt_of_le h lim_big

theorem Add_str (x y : Int) (w : World) (hx : x.natAbs < lim) (hy : y.natAbs < lim) (hz : (x + y).natAbs < lim) (ht : Tab w) :
    Calls Tryd.prog 21 #[.string (strB x), .string (strB y)] w fun e W' => e = .returned (.tuple #[.string (strB (x + y)), .int .i64 0]) ∧ Below w.heap.size w W' := by
  have c := Add_any (strB x) (strB y) w (by have := strB_size hx; unfold maxLen; omega) (by have := strB_size hy; unfold maxLen; omega) ht
  rw [strB_chk2 hx hy, strB_val, strB_val, outB_ok, outE_ok] at c
  unfold resB resE at c
  rwa [if_pos hz, if_pos hz] at c
theorem Mul_str (x y : Int) (w : World) (hx : x.natAbs < lim) (hy : y.natAbs < lim) (hz : (x * y).natAbs < lim) (ht : Tab w) :
    Calls Tryd.prog 10 #[.string (strB x), .string (strB y)] w fun e W' => e = .returned (.tuple #[.string (strB (x * y)), .int .i64 0]) ∧ Below w.heap.size w W' := by
  have c := Mul_any (strB x) (strB y) w (by have := strB_size hx; unfold maxLen; omega) (by have := strB_size hy; unfold maxLen; omega) ht
  rw [strB_chk2 hx hy, strB_val, strB_val, outB_ok, outE_ok] at c
  unfold resB resE at c
  rwa [if_pos hz, if_pos hz] at c
theorem Compare_str (x y : Int) (w : World) (hx : x.natAbs < lim) (hy : y.natAbs < lim) :
    Calls Tryd.prog 22 #[.string (strB x), .string (strB y)] w fun e W' => e = .returned (.tuple #[.int .i64 (cmpZ x y), .int .i64 0]) ∧ w = W' := by
  have c := Compare_any (strB x) (strB y) w (by have := strB_size hx; unfold maxLen; omega) (by have := strB_size hy; unfold maxLen; omega)
  rwa [strB_chk2 hx hy, strB_val, strB_val, if_pos rfl] at c
theorem strB_len (z : Int) : (strB z).size = (Lib.itoa z).length := by rw [← size_len, strB_data]
theorem strB_short {z : Int} (h : z.natAbs < 10000000000) : (strB z).size ≤ 18 := by
  rw [strB_len]
  have h1 : Lib.nDigits z.natAbs ≤ 10 := (nDigits_le_iff _ 10 (by decide)).2 h
  unfold Lib.itoa
  split
  · rw [List.length_cons, Lib.decDigits_length]; omega
  · rw [Lib.decDigits_length]
    have : z.toNat = z.natAbs := by omega
    rw [this]; omega
theorem Divide_str (x y : Int) (w : World) (hx : x.natAbs < 10000000000) (hy : y.natAbs < 10000000000) (h0 : y ≠ 0) (ht : Tab w) :
    Calls Tryd.prog 12 #[.string (strB x), .string (strB y)] w fun e W' => e = .returned (.tuple #[.string (strB (x.fdiv y)), .string (strB (x.fmod y)), .int .i64 0]) ∧ Below w.heap.size w W' := by
  have c := Divide_small (strB x) (strB y) w (strB_chk (small_lim (by omega))) (strB_chk (small_lim (by omega))) (by rw [strB_val]; exact h0) (strB_short hx) (strB_short hy) ht
  rwa [strB_val, strB_val] at c

end Go.Proofs.YtajonpcmgebbbaaDoor

/- The walks of the reference's check and of the test that strings are integers of up to 80 bytes. -/
namespace Go.Proofs.YtajonpcmgebbbaaDoor
open Go.RowKit

theorem chk_11 {l : List UInt8} (h : szL l = [] ∨ ((szL l).head? = some 48 ∧ l ≠ [48])) : chk l = 11 := by
  unfold chk; split
  · rfl
  · first | rfl | exact if_pos h
theorem chk_end {l : List UInt8} {f : Nat} (hz : szL l = l.drop f) (ha : (l.drop f).all isDig = true) (hne : f < l.length) (h48 : l[f]? = some 48 → l.length ≤ 1) :
    chk l = if 300 < l.length - f then 4 else 0 := by
  rw [chk_good (by rw [hz]; exact ha), hz, if_neg, List.length_drop]
  rintro (h | ⟨h, h'⟩)
  · have := congrArg List.length h; rw [List.length_drop] at this; simp at this; omega
  · rw [List.head?_drop] at h
    have h1 := h48 h
    have hf : f = 0 := by omega
    subst hf
    match l, h1, h, h' with
    | [c], _, h, h' => simp at h; exact h' (by rw [h])
theorem szL_neg {l : List UInt8} (h : isNeg l = true) : szL l = l.drop 1 := by unfold szL; rw [if_pos h, List.drop_one]
theorem szL_pos {l : List UInt8} (h : isNeg l = false) : szL l = l.drop 0 := by unfold szL; rw [h]; rfl
theorem get_some (s : ByteArray) (k : Nat) (h : k < s.size) : s.data.toList[k]? = some s[k] := by
  rw [List.getElem?_eq_getElem (by rw [size_len]; exact h)]; rfl
theorem all_snoc {s : ByteArray} {f k : Nat} (h : ((s.data.toList.take k).drop f).all isDig = true) (hf : f ≤ k) (hk : k < s.size) (hd : isDig s[k] = true) :
    ((s.data.toList.take (k + 1)).drop f).all isDig = true := by
  rw [take_snoc s k hk, List.drop_append_of_le_length (by rw [List.length_take, size_len]; omega), List.all_append, h]; simp [hd]

theorem tenTo_succ (k : Nat) : tenTo (k + 1) = 10 * tenTo k := by unfold tenTo; rw [Nat.pow_succ, Nat.mul_comm]
theorem tenTo_add (j k : Nat) : tenTo (j + k) = tenTo j * tenTo k := Nat.pow_add _ _ _
def Bd (k : Nat) (z : Int) : Prop := z.natAbs < tenTo k
theorem Bd.add {k : Nat} {x y : Int} (hx : Bd k x) (hy : Bd k y) : Bd (k + 1) (x + y) := by
  unfold Bd at *; rw [tenTo_succ]; omega
theorem Bd.sub {k : Nat} {x y : Int} (hx : Bd k x) (hy : Bd k y) : Bd (k + 1) (x - y) := by
  unfold Bd at *; rw [tenTo_succ]; omega
theorem Bd.mul {j k : Nat} {x y : Int} (hx : Bd j x) (hy : Bd k y) : Bd (j + k) (x * y) := by
  unfold Bd at *; rw [tenTo_add, Int.natAbs_mul]; exact Nat.mul_lt_mul'' hx hy
theorem Bd.lt {k : Nat} {z : Int} (h : Bd k z) (hk : k ≤ 300) : z.natAbs < lim := Nat.lt_of_lt_of_le h (tenTo_mono hk)
theorem Bd.up {j k : Nat} {z : Int} (h : Bd j z) (hk : j ≤ k) : Bd k z := Nat.lt_of_lt_of_le h (tenTo_mono hk)
def fineS (s : ByteArray) : Bool := decide (s.size ≤ 80) && (chk s.data.toList == 0)
theorem fine_str {s : ByteArray} (h : fineS s = true) : ∃ x : Int, s = strB x ∧ Bd 80 x := by
  unfold fineS at h
  simp only [Bool.and_eq_true, decide_eq_true_eq, beq_iff_eq] at h
  obtain ⟨h1, h2⟩ := h
  have e : strB (valOf s.data.toList) = s := by
    unfold strB; rw [itoa_valOf _ h2]
  refine ⟨valOf s.data.toList, e.symm, ?_⟩
  have h3 : (strB (valOf s.data.toList)).size ≤ 80 := by rw [e]; exact h1
  rw [strB_len] at h3
  generalize valOf s.data.toList = z at *
  show z.natAbs < tenTo 80
  rw [← nDigits_tenTo _ 80 (by decide)]
  unfold Lib.itoa at h3
  split at h3
  · rw [List.length_cons, Lib.decDigits_length] at h3; omega
  · rw [Lib.decDigits_length] at h3
    have : z.toNat = z.natAbs := by omega
    rw [this] at h3; exact h3

theorem mem_drop (s : ByteArray) (k f : Nat) (hf : f ≤ k) (h : k < s.size) : s[k] ∈ s.data.toList.drop f := by
  have h2 : (s.data.toList.drop f)[k - f]? = some s[k] := by
    rw [List.getElem?_drop, show f + (k - f) = k by omega]; exact get_some s k h
  exact List.mem_of_getElem? h2
theorem head_48 {s : ByteArray} {f : Nat} (hf : f < s.size) (h : ((s[f].toNat : Int) == 48) = true) : (s.data.toList.drop f).head? = some 48 := by
  rw [List.head?_drop, get_some s f hf]
  have := u8_eq s[f] 48 (by decide)
  rw [show ((48 : Nat) : Int) = 48 from rfl, h] at this
  exact congrArg some (by simpa using this.symm)
theorem not_48 {s : ByteArray} {f : Nat} (hf : f < s.size) (h : ((s[f].toNat : Int) == 48) = false) : s.data.toList[f]? ≠ some 48 := by
  rw [get_some s f hf]
  intro e
  have e := Option.some.inj e
  rw [e] at h
  exact absurd h (by decide)

set_option maxHeartbeats 1000000 in
theorem refCheck_any (s : ByteArray) (w : World) (hs : s.size ≤ maxLen) :
    Calls Tryd.prog 50 #[.string s] w fun e w' => e = .returned (.int .i64 (chk s.data.toList)) ∧ w = w' := by
  have hm : s.size ≤ 9223372036854775807 := by unfold maxLen at hs; omega
  clear hs
  by_cases hn : isNeg s.data.toList = true
  · have hz := Lib.hid (szL_neg hn)
    have h0 := isNeg_size hn
    have h45 : ((s[0].toNat : Int) == 45) = true := (isNeg_pos h0).trans hn
    clear hn
    by_cases h1 : s.size = 1
    · have h1' : ((1 : Int) == s.size) = true := by rw [h1]; rfl
      go_enter Tryd.func50, Tryd.ntmps50
      go_wp2
      go_ret
      refine ⟨ret_int (chk_11 (.inl ?_)).symm, rfl⟩
      rw [hz.out, List.drop_eq_nil_iff, size_len]; omega
    · have h2 : 1 < s.size := by omega
      have h1' : ((1 : Int) == s.size) = false := by rw [beq_eq_false_iff_ne]; omega
      by_cases hc : ((s[1].toNat : Int) == 48) = true
      · have hx := Lib.hid (head_48 h2 hc)
        go_enter Tryd.func50, Tryd.ntmps50
        go_wp2
        go_ret
        refine ⟨ret_int (chk_11 (.inr ⟨by rw [hz.out]; exact hx.out, fun e => ?_⟩)).symm, rfl⟩
        have := congrArg List.length e
        rw [size_len] at this; simp at this; omega
      · have hc' : ((s[1].toNat : Int) == 48) = false := by simpa using hc
        clear hc
        have H48 := Lib.hid (fun h : s.data.toList[1]? = some 48 => show s.size ≤ 1 from absurd h (not_48 h2 hc'))
        go_enter Tryd.func50, Tryd.ntmps50
        go_wp2
        go_loop [4] (fun i => ∃ k : Nat, 1 ≤ k ∧ k ≤ s.size ∧ i = .int .i64 k ∧ Hid (((s.data.toList.take k).drop 1).all isDig = true)) (fun i => s.size - (intOf i).toNat)
        case atStart => exact ⟨1, Nat.le_refl _, by omega, rfl, by show ((s.data.toList.take 1).drop 1).all isDig = true; rw [List.drop_eq_nil_of_le (List.length_take_le _ _)]; rfl⟩
        case round =>
          obtain ⟨k, hk0, hk, rfl, hd⟩ := hrel
          by_cases hlt : k < s.size
          · by_cases h3 : (s[k].toNat : Int) < 48
            · go_wp2
              go_ret
              refine ⟨ret_int (chk_bad ?_).symm, rfl⟩
              rw [hz.out, List.all_eq_false]
              exact ⟨s[k], mem_drop s k 1 hk0 hlt, by rw [isDig_iff]; omega⟩
            · by_cases h4 : (57 : Int) < s[k].toNat
              · go_wp2
                go_ret
                refine ⟨ret_int (chk_bad ?_).symm, rfl⟩
                rw [hz.out, List.all_eq_false]
                exact ⟨s[k], mem_drop s k 1 hk0 hlt, by rw [isDig_iff]; omega⟩
              · have hd' : Hid (((s.data.toList.take (k + 1)).drop 1).all isDig = true) := all_snoc hd.out hk0 hlt (by rw [isDig_iff]; omega)
                clear hd
                go_wp2
                go_round
                case rel => exact ⟨k + 1, by omega, by omega, by go_num, hd'⟩
                case measure => simp [intOf]; omega
          · have hE : Hid (chk s.data.toList = if 300 < s.data.toList.length - 1 then 4 else 0) := chk_end hz.out (by have := hd.out; rwa [List.take_of_length_le (by rw [size_len]; omega)] at this) (by rw [size_len]; omega) (fun h => by rw [size_len]; exact H48.out h)
            clear hd
            go_wp2
            · have hy : (300 : Int) < s.size - 1 := by omega
              go_ret
              exact ⟨ret_int (by rw [hE.out, if_pos (by rw [size_len]; omega)]), rfl⟩
            · have hy : (s.size : Int) - 1 ≤ 300 := by omega
              go_ret
              exact ⟨ret_int (by rw [hE.out, if_neg (by rw [size_len]; omega)]), rfl⟩
  · have hn' : isNeg s.data.toList = false := by simpa using hn
    clear hn
    have hz := Lib.hid (szL_pos hn')
    by_cases h0 : s.size = 0
    · go_enter Tryd.func50, Tryd.ntmps50
      go_wp2
      go_ret
      refine ⟨ret_int (chk_11 (.inl ?_)).symm, rfl⟩
      rw [hz.out, List.drop_eq_nil_iff, size_len]; omega
    · have h2 : 0 < s.size := by omega
      have h45 : ((s[0].toNat : Int) == 45) = false := (isNeg_pos h2).trans hn'
      have h1' : ((0 : Int) == s.size) = false := by rw [beq_eq_false_iff_ne]; omega
      clear hn'
      by_cases hc : ((s[0].toNat : Int) == 48) = true ∧ 1 < s.size
      · obtain ⟨hc, h3⟩ := hc
        have hx := Lib.hid (head_48 h2 hc)
        go_enter Tryd.func50, Tryd.ntmps50
        go_wp2
        go_ret
        refine ⟨ret_int (chk_11 (.inr ⟨by rw [hz.out]; exact hx.out, fun e => ?_⟩)).symm, rfl⟩
        have := congrArg List.length e
        rw [size_len] at this; simp at this; omega
      · by_cases hc1 : ((s[0].toNat : Int) == 48) = true
        · have h3 : s.size = 1 := by
            have : ¬ 1 < s.size := fun h => hc ⟨hc1, h⟩
            omega
          have h3' : ¬ (1 : Int) < s.size := by omega
          have H48 := Lib.hid (fun _ : s.data.toList[0]? = some 48 => show s.size ≤ 1 by omega)
          clear hc
          go_enter Tryd.func50, Tryd.ntmps50
          go_wp2
          go_loop [4] (fun i => ∃ k : Nat, 0 ≤ k ∧ k ≤ s.size ∧ i = .int .i64 k ∧ Hid (((s.data.toList.take k).drop 0).all isDig = true)) (fun i => s.size - (intOf i).toNat)
          case atStart => exact ⟨0, Nat.le_refl _, by omega, rfl, by show ((s.data.toList.take 0).drop 0).all isDig = true; rw [List.drop_eq_nil_of_le (List.length_take_le _ _)]; rfl⟩
          case round =>
            obtain ⟨k, hk0, hk, rfl, hd⟩ := hrel
            by_cases hlt : k < s.size
            · by_cases h3 : (s[k].toNat : Int) < 48
              · go_wp2
                go_ret
                refine ⟨ret_int (chk_bad ?_).symm, rfl⟩
                rw [hz.out, List.all_eq_false]
                exact ⟨s[k], mem_drop s k 0 hk0 hlt, by rw [isDig_iff]; omega⟩
              · by_cases h4 : (57 : Int) < s[k].toNat
                · go_wp2
                  go_ret
                  refine ⟨ret_int (chk_bad ?_).symm, rfl⟩
                  rw [hz.out, List.all_eq_false]
                  exact ⟨s[k], mem_drop s k 0 hk0 hlt, by rw [isDig_iff]; omega⟩
                · have hd' : Hid (((s.data.toList.take (k + 1)).drop 0).all isDig = true) := all_snoc hd.out hk0 hlt (by rw [isDig_iff]; omega)
                  clear hd
                  go_wp2
                  go_round
                  case rel => exact ⟨k + 1, by omega, by omega, by go_num, hd'⟩
                  case measure => simp [intOf]; omega
            · have hE : Hid (chk s.data.toList = if 300 < s.data.toList.length - 0 then 4 else 0) := chk_end hz.out (by have := hd.out; rwa [List.take_of_length_le (by rw [size_len]; omega)] at this) (by rw [size_len]; omega) (fun h => by rw [size_len]; exact H48.out h)
              clear hd
              go_wp2
              go_ret
              exact ⟨ret_int (by rw [hE.out, if_neg (by rw [size_len]; omega)]), rfl⟩
        · have hc' : ((s[0].toNat : Int) == 48) = false := by simpa using hc1
          clear hc hc1
          have H48 := Lib.hid (fun h : s.data.toList[0]? = some 48 => show s.size ≤ 1 from absurd h (not_48 h2 hc'))
          go_enter Tryd.func50, Tryd.ntmps50
          go_wp2
          go_loop [4] (fun i => ∃ k : Nat, 0 ≤ k ∧ k ≤ s.size ∧ i = .int .i64 k ∧ Hid (((s.data.toList.take k).drop 0).all isDig = true)) (fun i => s.size - (intOf i).toNat)
          case atStart => exact ⟨0, Nat.le_refl _, by omega, rfl, by show ((s.data.toList.take 0).drop 0).all isDig = true; rw [List.drop_eq_nil_of_le (List.length_take_le _ _)]; rfl⟩
          case round =>
            obtain ⟨k, hk0, hk, rfl, hd⟩ := hrel
            by_cases hlt : k < s.size
            · by_cases h3 : (s[k].toNat : Int) < 48
              · go_wp2
                go_ret
                refine ⟨ret_int (chk_bad ?_).symm, rfl⟩
                rw [hz.out, List.all_eq_false]
                exact ⟨s[k], mem_drop s k 0 hk0 hlt, by rw [isDig_iff]; omega⟩
              · by_cases h4 : (57 : Int) < s[k].toNat
                · go_wp2
                  go_ret
                  refine ⟨ret_int (chk_bad ?_).symm, rfl⟩
                  rw [hz.out, List.all_eq_false]
                  exact ⟨s[k], mem_drop s k 0 hk0 hlt, by rw [isDig_iff]; omega⟩
                · have hd' : Hid (((s.data.toList.take (k + 1)).drop 0).all isDig = true) := all_snoc hd.out hk0 hlt (by rw [isDig_iff]; omega)
                  clear hd
                  go_wp2
                  go_round
                  case rel => exact ⟨k + 1, by omega, by omega, by go_num, hd'⟩
                  case measure => simp [intOf]; omega
            · have hE : Hid (chk s.data.toList = if 300 < s.data.toList.length - 0 then 4 else 0) := chk_end hz.out (by have := hd.out; rwa [List.take_of_length_le (by rw [size_len]; omega)] at this) (by rw [size_len]; omega) (fun h => by rw [size_len]; exact H48.out h)
              clear hd
              go_wp2
              · have hy : (300 : Int) < s.size := by omega
                go_ret
                exact ⟨ret_int (by rw [hE.out, if_pos (by rw [size_len]; omega)]), rfl⟩
              · have hy : (s.size : Int) ≤ 300 := by omega
                go_ret
                exact ⟨ret_int (by rw [hE.out, if_neg (by rw [size_len]; omega)]), rfl⟩

end Go.Proofs.YtajonpcmgebbbaaDoor

/- The walk of the test that all strings of a list are integers of up to 80 bytes. -/
namespace Go.Proofs.YtajonpcmgebbbaaDoor
open Go.RowKit

theorem fineS_long {s : ByteArray} (h : (80 : Int) < s.size) : fineS s = false := by
  unfold fineS; rw [show decide (s.size ≤ 80) = false by rw [decide_eq_false_iff_not]; omega]; rfl
theorem fineS_short {s : ByteArray} (h : (s.size : Int) ≤ 80) : fineS s = (chk s.data.toList == 0) := by
  unfold fineS; rw [show decide (s.size ≤ 80) = true by rw [decide_eq_true_iff]; omega]; rfl
theorem all_false {xs : List ByteArray} {s : ByteArray} (hm : s ∈ xs) (h : fineS s = false) : xs.all fineS = false := by
  rw [List.all_eq_false]; exact ⟨s, hm, by rw [h]; decide⟩
theorem all_next {xs : List ByteArray} {k : Nat} (h : (xs.take k).all fineS = true) (hk : k < xs.length) (hs : fineS xs[k] = true) : (xs.take (k + 1)).all fineS = true := by
  rw [List.take_succ_eq_append_getElem hk, List.all_append, h]; simp [hs]
set_option maxHeartbeats 1000000 in
theorem fine_any (xs : List ByteArray) (B : Nat) (w : World) (hl : xs.length ≤ 100) (hs : ∀ s ∈ xs, s.size ≤ maxLen) (hc : ∀ i (h : i < xs.length), w.cell? ⟨B, i, none⟩ = some (.string xs[i])) :
    Calls Tryd.prog 20 #[.slice (some ⟨B, 0, none⟩) xs.length xs.length] w fun e w' => e = .returned (.bool (xs.all fineS)) ∧ w = w' := by
  have HC := Lib.hid (And.intro hs hc); clear hs hc
  go_enter Tryd.func20, Tryd.ntmps20
  go_wp2
  go_loop [7] (fun i => ∃ k : Nat, i = .int .i64 k ∧ k ≤ xs.length ∧ Hid ((xs.take k).all fineS = true)) (fun i => xs.length - (intOf i).toNat)
  case atStart => exact ⟨0, rfl, by omega, rfl⟩
  case round =>
    obtain ⟨k, rfl, hk, hd⟩ := hrel
    by_cases hlt : k < xs.length
    · have hck := HC.out.2 k hlt
      have hsz := HC.out.1 xs[k] (List.getElem_mem hlt)
      have hm := Lib.hid (List.getElem_mem hlt)
      have hn := Lib.hid (fun h : fineS xs[k] = true => all_next hd.out hlt h)
      have hms : xs[k].size ≤ 9223372036854775807 := by unfold maxLen at hsz; omega
      generalize xs[k] = s at *
      by_cases h8 : (80 : Int) < s.size
      · go_wp2
        go_ret
        exact ⟨ret_bool (all_false hm.out (fineS_long h8)).symm, rfl⟩
      · have hf := Lib.hid (fineS_short (s := s) (by omega))
        have hr := Lib.hid (fun W => refCheck_any s W hsz)
        generalize chk s.data.toList = c at *
        by_cases h0 : c = 0
        · subst h0
          go_wp2_with fail
          refine (hr.out _).mono ?_
          rintro e w' ⟨rfl, rfl⟩
          go_wp2
          go_round
          case rel => exact ⟨k + 1, by go_num, by omega, hn.out (by rw [hf.out]; rfl)⟩
          case measure => simp [intOf]; omega
        · go_wp2_with fail
          refine (hr.out _).mono ?_
          rintro e w' ⟨rfl, rfl⟩
          go_wp2
          go_ret
          exact ⟨ret_bool (all_false hm.out (by rw [hf.out]; simpa using h0)).symm, rfl⟩
    · go_wp2
      go_ret
      refine ⟨ret_bool ?_, rfl⟩
      have := hd.out
      rw [List.take_of_length_le (by omega)] at this
      exact this.symm
end Go.Proofs.YtajonpcmgebbbaaDoor

/- Plain mathematics: naturals by their limbs of the base 10^6, the last one first. -/
namespace Go.Proofs.YtajonpcmgebbbaaDoor.R

/-- the base of the digits: 10^6 -/
def B : Nat := 1000000
theorem B_eq : B = 1000000 := rfl
theorem B_pos : 0 < B := by decide

def toN : List Nat → Nat
  | [] => 0
  | d :: r => d + B * toN r
def Dig (l : List Nat) : Prop := ∀ x ∈ l, x < 1000000
theorem Dig.nil : Dig [] := fun _ h => by cases h
theorem Dig.cons {d : Nat} {l : List Nat} (h : d < 1000000) (hl : Dig l) : Dig (d :: l) := fun x hx => by
  rcases List.mem_cons.1 hx with rfl | hx
  · exact h
  · exact hl x hx
theorem Dig.head {d : Nat} {l : List Nat} (h : Dig (d :: l)) : d < 1000000 := h d (by simp)
theorem Dig.tail {d : Nat} {l : List Nat} (h : Dig (d :: l)) : Dig l := fun x hx => h x (by simp [hx])
theorem Dig.take {l : List Nat} (h : Dig l) (k : Nat) : Dig (l.take k) := fun x hx => h x (List.mem_of_mem_take hx)
theorem Dig.drop {l : List Nat} (h : Dig l) (k : Nat) : Dig (l.drop k) := fun x hx => h x (List.mem_of_mem_drop hx)
theorem Dig.append {l m : List Nat} (h : Dig l) (h' : Dig m) : Dig (l ++ m) := fun x hx => by
  rcases List.mem_append.1 hx with hx | hx
  · exact h x hx
  · exact h' x hx
theorem Dig.one {d : Nat} (h : d < 1000000) : Dig [d] := Dig.cons h Dig.nil
theorem Dig.getD {l : List Nat} (h : Dig l) (i : Nat) : l.getD i 0 < 1000000 := by
  by_cases hi : i < l.length
  · rw [List.getD_eq_getElem?_getD, List.getElem?_eq_getElem hi]; exact h _ (List.getElem_mem _)
  · rw [List.getD_eq_getElem?_getD, List.getElem?_eq_none (by omega)]; simp
theorem Dig.replicate (k : Nat) : Dig (List.replicate k 0) := fun x hx => by
  rw [(List.mem_replicate.1 hx).2]; decide

theorem toN_append (l m : List Nat) : toN (l ++ m) = toN l + B ^ l.length * toN m := by
  induction l with
  | nil => simp [toN]
  | cons d r ih =>
    simp only [List.cons_append, toN, ih, List.length_cons, Nat.pow_succ]
    rw [Nat.mul_add, Nat.add_assoc, ← Nat.mul_assoc, Nat.mul_comm B (B ^ r.length)]
theorem toN_snoc (l : List Nat) (d : Nat) : toN (l ++ [d]) = toN l + B ^ l.length * d := by
  rw [toN_append]; simp [toN]
theorem toN_replicate (k : Nat) : toN (List.replicate k 0) = 0 := by
  induction k with
  | zero => rfl
  | succ k ih => rw [List.replicate_succ]; simp [toN, ih]
theorem toN_lt {l : List Nat} (h : Dig l) : toN l < B ^ l.length := by
  induction l with
  | nil => simp [toN]
  | cons d r ih =>
    have h1 := ih h.tail
    have h2 := h.head
    rw [toN, List.length_cons, Nat.pow_succ, Nat.mul_comm (B ^ r.length) B]
    have h3 : B * toN r + B ≤ B * B ^ r.length := by
      rw [← Nat.mul_succ]; exact Nat.mul_le_mul_left B h1
    rw [B_eq] at *
    omega
theorem take_succ_getD (l : List Nat) (k : Nat) (h : k < l.length) : l.take (k + 1) = l.take k ++ [l.getD k 0] := by
  rw [List.take_succ_eq_append_getElem h, List.getD_eq_getElem?_getD, List.getElem?_eq_getElem h]; rfl
theorem toN_take_succ (l : List Nat) (k : Nat) (h : k < l.length) : toN (l.take (k + 1)) = toN (l.take k) + B ^ k * l.getD k 0 := by
  rw [take_succ_getD l k h, toN_snoc, List.length_take, Nat.min_eq_left (by omega)]

/-- the digits of a number -/
def dg (n : Nat) : List Nat := if _h : n = 0 then [] else n % B :: dg (n / B)
termination_by n
decreasing_by exact Nat.div_lt_self (by omega) (by decide)
theorem dg_zero : dg 0 = [] := by rw [dg]; rfl
theorem dg_pos {n : Nat} (h : n ≠ 0) : dg n = n % B :: dg (n / B) := by rw [dg, dif_neg h]
theorem toN_dg (n : Nat) : toN (dg n) = n := by
  induction n using Nat.strongRecOn with
  | _ n ih =>
    by_cases h : n = 0
    · subst h; rw [dg_zero]; rfl
    · rw [dg_pos h, toN, ih (n / B) (Nat.div_lt_self (by omega) (by decide))]
      exact Nat.mod_add_div n B
theorem dg_Dig (n : Nat) : Dig (dg n) := by
  induction n using Nat.strongRecOn with
  | _ n ih =>
    by_cases h : n = 0
    · subst h; rw [dg_zero]; exact Dig.nil
    · rw [dg_pos h]
      exact Dig.cons (Nat.mod_lt _ (by decide)) (ih (n / B) (Nat.div_lt_self (by omega) (by decide)))
theorem toN_pos_of_last {l : List Nat} (hne : l ≠ []) (hl : l.getLast? ≠ some 0) : 0 < toN l := by
  induction l with
  | nil => exact absurd rfl hne
  | cons d r ih =>
    rw [toN]
    by_cases hr : r = []
    · subst hr
      have : d ≠ 0 := fun e => hl (by rw [e]; rfl)
      omega
    · have h1 := ih hr (by rwa [List.getLast?_cons_of_ne_nil hr] at hl)
      have := Nat.mul_pos B_pos h1
      omega
theorem dg_toN {l : List Nat} (h : Dig l) (hl : l.getLast? ≠ some 0) : dg (toN l) = l := by
  induction l with
  | nil => exact dg_zero
  | cons d r ih =>
    have h0 := toN_pos_of_last (l := d :: r) (by simp) hl
    have hd : d < B := h.head
    rw [dg_pos (by omega)]
    simp only [toN]
    have e1 : (d + B * toN r) % B = d := by rw [Nat.add_mul_mod_self_left]; exact Nat.mod_eq_of_lt hd
    have e2 : (d + B * toN r) / B = toN r := by
      rw [Nat.add_mul_div_left _ _ B_pos, Nat.div_eq_of_lt hd]; omega
    rw [e1, e2]
    by_cases hr : r = []
    · subst hr; rw [show toN [] = 0 from rfl, dg_zero]
    · rw [ih h.tail (by rwa [List.getLast?_cons_of_ne_nil hr] at hl)]
theorem dg_last (n : Nat) : (dg n).getLast? ≠ some 0 := by
  induction n using Nat.strongRecOn with
  | _ n ih =>
    by_cases h : n = 0
    · subst h; rw [dg_zero]; simp
    · rw [dg_pos h]
      have h1 := ih (n / B) (Nat.div_lt_self (by omega) (by decide))
      by_cases hr : dg (n / B) = []
      · rw [hr]
        intro e
        have e : n % B = 0 := by simpa using e
        have e2 : n / B = 0 := by have := toN_dg (n / B); rw [hr] at this; exact this.symm
        have := Nat.mod_add_div n B
        rw [e, e2] at this; omega
      · rwa [List.getLast?_cons_of_ne_nil hr]
theorem dg_nil_iff (n : Nat) : dg n = [] ↔ n = 0 := by
  constructor
  · intro h; have := toN_dg n; rw [h] at this; exact this.symm
  · rintro rfl; exact dg_zero
theorem dg_length_le (n k : Nat) : (dg n).length ≤ k ↔ n < B ^ k := by
  constructor
  · intro h
    have h1 := toN_lt (dg_Dig n)
    rw [toN_dg] at h1
    exact Nat.lt_of_lt_of_le h1 (Nat.pow_le_pow_right B_pos h)
  · induction k generalizing n with
    | zero => intro h; have : n = 0 := by simpa using h
              subst this; rw [dg_zero]; exact Nat.le_refl _
    | succ k ih =>
      intro h
      by_cases h0 : n = 0
      · subst h0; rw [dg_zero]; simp
      · rw [dg_pos h0, List.length_cons]
        have := ih (n / B) (by rw [Nat.div_lt_iff_lt_mul B_pos]; rwa [Nat.pow_succ] at h)
        omega
/-- the digits, from whatever list with the same value -/
theorem dg_of_take {l : List Nat} (h : Dig l) (k : Nat) (hk : k ≤ l.length) (hv : toN (l.take k) = toN l) (hl : k = 0 ∨ l.getD (k - 1) 0 ≠ 0) : dg (toN l) = l.take k := by
  rw [← hv]
  refine dg_toN (h.take k) ?_
  rcases hl with rfl | hl
  · simp
  · intro e
    by_cases h0 : k = 0
    · subst h0; simp at e
    · apply hl
      have h1 : k - 1 < l.length := by omega
      have h2 := take_succ_getD l (k - 1) h1
      rw [Nat.sub_add_cancel (by omega)] at h2
      rw [h2, List.getLast?_concat] at e
      exact Option.some.inj e
theorem dg_one {n : Nat} (h0 : n ≠ 0) (h : n < B) : dg n = [n] := by
  rw [dg_pos h0, Nat.mod_eq_of_lt h, Nat.div_eq_of_lt h, dg_zero]
end Go.Proofs.YtajonpcmgebbbaaDoor.R

/- Plain mathematics: products by hand, limb by limb. -/
namespace Go.Proofs.YtajonpcmgebbbaaDoor.R

theorem getD_lt {l : List Nat} {k : Nat} (h : k < l.length) : l.getD k 0 = l[k] := by
  rw [List.getD_eq_getElem?_getD, List.getElem?_eq_getElem h]; rfl
theorem toN_set (l : List Nat) (k d : Nat) (h : k < l.length) : toN (l.set k d) + B ^ k * l.getD k 0 = toN l + B ^ k * d := by
  induction l generalizing k with
  | nil => simp at h
  | cons a r ih =>
    cases k with
    | zero => simp [toN]; omega
    | succ k =>
      have h1 := ih k (by simpa using h)
      simp only [List.set_cons_succ, toN, List.getD_cons_succ, Nat.pow_succ]
      have h2 : B * toN (r.set k d) + B * (B ^ k * r.getD k 0) = B * toN r + B * (B ^ k * d) := by rw [← Nat.mul_add, ← Nat.mul_add, h1]
      rw [Nat.mul_comm (B ^ k) B, Nat.mul_assoc, Nat.mul_assoc]
      omega
theorem Dig.set {l : List Nat} (h : Dig l) (k : Nat) {d : Nat} (hd : d < 1000000) : Dig (l.set k d) := fun x hx => by
  rcases List.mem_or_eq_of_mem_set hx with hx | rfl
  · exact h x hx
  · exact hd
theorem getD_set_ne (l : List Nat) (k m d : Nat) (h : k ≠ m) : (l.set k d).getD m 0 = l.getD m 0 := by
  rw [List.getD_eq_getElem?_getD, List.getD_eq_getElem?_getD, List.getElem?_set_ne h]

theorem mul_bd {x y : Nat} (hx : x < 1000000) (hy : y < 1000000) : x * y ≤ 999998000001 := by
  have := Nat.mul_le_mul (show x ≤ 999999 by omega) (show y ≤ 999999 by omega)
  omega

/-- a step of the inner loop -/
theorem mul_step {o : List Nat} {k x y c : Nat} (hk : k < o.length) (ho : Dig o) (hx : x < 1000000) (hy : y < 1000000) (hc : c < 1000000) :
    let t := o.getD k 0 + x * y + c
    t / 1000000 < 1000000 ∧ t % 1000000 < 1000000 ∧ toN (o.set k (t % 1000000)) + B ^ (k + 1) * (t / 1000000) = toN o + B ^ k * (x * y + c) := by
  intro t
  have h1 := mul_bd hx hy
  have h2 := ho.getD k
  have h3 : t < 1000000 * 1000000 := by show o.getD k 0 + x * y + c < _; omega
  refine ⟨by omega, by omega, ?_⟩
  have h4 := toN_set o k (t % 1000000) hk
  have h5 : B ^ k * t = B ^ k * (t % 1000000) + B ^ (k + 1) * (t / 1000000) := by
    rw [Nat.pow_succ, Nat.mul_assoc, ← Nat.mul_add, B_eq]
    congr 1
    omega
  have h6 : B ^ k * t = B ^ k * o.getD k 0 + B ^ k * (x * y + c) := by
    rw [← Nat.mul_add]; congr 1; show o.getD k 0 + x * y + c = _; omega
  omega

/-- the invariant of the inner loop, a step on -/
theorem mul_inner {o : List Nat} {i j x c S : Nat} {b : List Nat} (hk : i + j < o.length) (hj : j < b.length) (ho : Dig o) (hb : Dig b) (hx : x < 1000000) (hc : c < 1000000)
    (h : toN o + B ^ (i + j) * c = S + B ^ i * (x * toN (b.take j))) :
    let t := o.getD (i + j) 0 + x * b.getD j 0 + c
    toN (o.set (i + j) (t % 1000000)) + B ^ (i + (j + 1)) * (t / 1000000) = S + B ^ i * (x * toN (b.take (j + 1))) := by
  intro t
  obtain ⟨_, _, h3⟩ := mul_step hk ho hx (hb.getD j) hc
  rw [← Nat.add_assoc i j 1]
  refine h3.trans ?_
  rw [toN_take_succ b j hj, Nat.mul_add x, Nat.mul_add (B ^ i), Nat.mul_add (B ^ (i + j))]
  have h4 : B ^ i * (x * (B ^ j * b.getD j 0)) = B ^ (i + j) * (x * b.getD j 0) := by
    rw [Nat.pow_add, Nat.mul_assoc]; congr 1
    rw [← Nat.mul_assoc, ← Nat.mul_assoc, Nat.mul_comm x]
  omega
/-- the invariant of the outer loop, a step on -/
theorem mul_outer {o : List Nat} {i c : Nat} {a b : List Nat} (hi : i < a.length) (hk : i + b.length < o.length)
    (h : toN o + B ^ (i + b.length) * c = toN (a.take i) * toN b + B ^ i * (a.getD i 0 * toN (b.take b.length))) (hz : o.getD (i + b.length) 0 = 0) :
    toN (o.set (i + b.length) c) = toN (a.take (i + 1)) * toN b := by
  have h1 := toN_set o (i + b.length) c hk
  rw [hz, Nat.mul_zero, Nat.add_zero] at h1
  rw [List.take_length] at h
  rw [h1, h, toN_take_succ a i hi, Nat.add_mul, Nat.mul_assoc (B ^ i)]
end Go.Proofs.YtajonpcmgebbbaaDoor.R

/- The walk of the division by a single digit. -/
namespace Go.Proofs.YtajonpcmgebbbaaDoor
open Go.RowKit

theorem drop_cons {l : List Nat} {j : Nat} (h : j < l.length) : l.drop j = l.getD j 0 :: l.drop (j + 1) := by
  rw [List.drop_eq_getElem_cons h, List.getD_eq_getElem?_getD, List.getElem?_eq_getElem h]; rfl
theorem set_drop {l : List Nat} {j x : Nat} (h : j < l.length) : (l.set j x).drop j = x :: l.drop (j + 1) := by
  rw [drop_cons (by rw [List.length_set]; exact h), List.getD_eq_getElem?_getD, List.getElem?_set_self h, List.drop_set_of_lt (Nat.lt_succ_self j)]; rfl
theorem div_step {la o : List Nat} {b r j : Nat} (hj : j < la.length) (hl : o.length = la.length) (h : toN (la.drop (j + 1)) = b * toN (o.drop (j + 1)) + r) :
    toN (la.drop j) = b * toN ((o.set j ((r * 1000000000 + la.getD j 0) / b)).drop j) + (r * 1000000000 + la.getD j 0) % b := by
  rw [drop_cons hj, set_drop (by omega)]
  show la.getD j 0 + B * toN _ = b * ((r * 1000000000 + la.getD j 0) / b + B * toN _) + _
  rw [h]
  have e := Nat.div_add_mod (r * 1000000000 + la.getD j 0) b
  generalize (r * 1000000000 + la.getD j 0) / b = q at *
  generalize (r * 1000000000 + la.getD j 0) % b = s at *
  generalize toN (o.drop (j + 1)) = T at *
  have hB : B = 1000000000 := rfl
  rw [hB, Nat.mul_add b q, Nat.mul_add 1000000000 (b * T) r]
  have : b * (1000000000 * T) = 1000000000 * (b * T) := Nat.mul_left_comm _ _ _
  omega
theorem div_bd {b r d : Nat} (hb0 : 0 < b) (hb : b < 1000000000) (hr : r < b) (hd : d < 1000000000) :
    (r * 1000000000 + d) / b < 1000000000 ∧ (r * 1000000000 + d) % b < b ∧ r * 1000000000 + d < 1000000000000000000 := by
  refine ⟨?_, Nat.mod_lt _ hb0, by omega⟩
  rw [Nat.div_lt_iff_lt_mul hb0]
  have : (r + 1) * 1000000000 ≤ b * 1000000000 := Nat.mul_le_mul_right _ hr
  omega

set_option maxRecDepth 100000 in
set_option maxHeartbeats 2000000 in
theorem divideShort_any (v : Value) (la : List Nat) (b : Nat) (w : World) (ha : Nats w v la) (da : Dig la) (hla : la.length ≤ 1000000) (hb0 : 0 < b) (hb : b < 1000000000) :
    Calls Tryd.prog 81 #[v, .int .u64 b] w fun e W' => ∃ q, e = .returned (.tuple #[q, .int .u64 (toN la % b : Nat)]) ∧ IsNat W' q (toN la / b) ∧ Fresh w.heap.size q ∧ Below w.heap.size w W' := by
  obtain ⟨pa, capa, rfl, ha1, ha2, ha3⟩ := ha
  have HA := Lib.hid ha3; clear ha3
  obtain ⟨i0, hi, hz0, hz1, hz2⟩ := info_parts info_u64
  have HI := Lib.hid (And.intro hi (And.intro hz0 (And.intro hz1 hz2))); clear hi hz0 hz1 hz2
  have HD := Lib.hid da; clear da
  have hne : ((b : Int) == 0) = false := by rw [beq_eq_false_iff_ne]; omega
  have hne2 : ¬ (b : Int) = 0 := by omega
  go_enter Tryd.func81, Tryd.ntmps81
  go_wp2_with (at_make; refine wpList_make_full _ rfl _ _ 44 rfl w.heap.size 67 i0 (.int .u64 0) 1 Tryd.underlying44 HI.out.1 HI.out.2.1 HI.out.2.2.1 .i64 .i64 _ _ (la.length) rfl rfl (by omega) (by omega) (by rw [HI.out.2.2.2]; omega) (by unfold maxLen; omega) (Nat.le_refl _) ?_; intro w1 hown hgrow)
  have hrow := Row.of_made hown
  have hB1 : Below w.heap.size w w1 := (Below.refl _ w).grown hgrow (Nat.le_refl _) (fun k e => by cases e)
  have hgl := hrow.lt
  clear hown hgrow
  generalize hg : w.heap.size = g at *
  have HG := Lib.hid hg; clear hg
  go_loopw [7, 8] (fun y x wr => ∃ (r j : Nat) (o : List Nat), j ≤ la.length ∧ x = .int .i64 ((j : Int) - 1) ∧ y = .int .u64 r ∧ r < b ∧ Row wr g o ∧ o.length = la.length ∧ Hid (Dig o) ∧ Hid (toN (la.drop j) = b * toN (o.drop j) + r) ∧ Below g w wr)
    (fun _ x _ => (intOf x + 1).toNat)
  case atStart =>
    exact ⟨0, la.length, List.replicate la.length 0, Nat.le_refl _, by go_num, rfl, hb0, hrow, List.length_replicate, Dig.replicate _, by show toN _ = _; rw [List.drop_length, List.drop_eq_nil_of_le (by rw [List.length_replicate]; exact Nat.le_refl _)]; simp [toN], hB1⟩
  case round =>
    clear hrow hB1 hgl
    obtain ⟨r, j, o, hj, rfl, rfl, hr, hrow, hlen, hdig, hval, hbel⟩ := hrel
    cases j with
    | zero =>
      have hv : toN la = b * toN o + r := hval.out
      have hq : toN la / b = toN o := by rw [hv, Nat.mul_add_div hb0, Nat.div_eq_of_lt hr, Nat.add_zero]
      have hm : toN la % b = r := by rw [hv, Nat.mul_add_mod, Nat.mod_eq_of_lt hr]
      have hN0 : Nats wr (.slice (some ⟨g, 0, none⟩) o.length la.length) o := hrow.nats (by omega) (by omega)
      have ct := trimmed_at _ _ o wr hN0 hdig.out
      have hn := hN0.take (dg_prefix hdig.out)
      rw [hlen] at ct
      rw [← hq] at ct hn
      have HM := Lib.hid hm
      have CT := Lib.hid ct
      have HN := Lib.hid hn
      have HBL := Lib.hid hbel
      clear hval ct hn hv hN0 hm hq hbel hrow
      go_wp2_with fail
      refine CT.out.mono ?_
      clear CT
      rintro e w' ⟨rfl, rfl⟩
      go_wp2
      go_ret2
      refine ⟨.slice (some ⟨g, 0, none⟩) (dg (toN la / b)).length la.length, ?_, HN.out, fun k hk => by cases hk; exact Nat.le_of_eq HG.out, by rw [HG.out]; exact HBL.out⟩
      show Ending.returned (.tuple #[.slice (some ⟨g, 0, none⟩) (dg (toN la / b)).length la.length, .int .u64 (r : Nat)]) = _
      rw [HM.out]
    | succ j =>
      obtain ⟨ab, aoff, rfl, hca⟩ := HA.out (by intro e; subst e; simp at hj)
      have ca0 := hca j (by omega)
      have cax : wr.cell? ⟨ab, aoff + j, none⟩ = some (.int .u64 (la.getD j 0 : Nat)) := (hbel.cell (p := ⟨ab, aoff + j, none⟩) (by rw [← HG.out]; exact World.block_lt_of_cell? w _ ca0)).trans ca0
      clear ca0 hca
      have co := hrow.cell (i := j) (by omega)
      have fo := hrow.frozen j
      have hst := div_step (la := la) (o := o) (b := b) (r := r) (j := j) (by omega) hlen hval.out
      have hx := HD.out.getD j
      have hbd := div_bd hb0 hb hr hx
      have R3 := hrow.set j ((r * 1000000000 + la.getD j 0) / b)
      generalize la.getD j 0 = x at *
      have HS := Lib.hid (And.intro hst (And.intro hbd R3))
      clear hst hbd R3 hval
      have hr' : (r : Int) ≤ 999999998 := by omega
      go_wp2
      have ht : (r : Int) * 1000000000 + (x : Int) = ((r * 1000000000 + x : Nat) : Int) := by rw [Int.natCast_add, Int.natCast_mul]; rfl
      rw [ht]
      clear ht
      obtain ⟨t, ht⟩ : ∃ t, r * 1000000000 + x = t := ⟨_, rfl⟩
      rw [ht] at HS
      rw [ht]
      have q1 : ((t / b : Nat) : Int) = (t : Int) / (b : Int) := Int.natCast_ediv _ _
      have q2 : ((t % b : Nat) : Int) = (t : Int) % (b : Int) := Int.natCast_emod _ _
      have hq : t / b < 1000000000 := HS.out.2.1.1
      have hm : t % b < b := HS.out.2.1.2.1
      have ht1 : t < 1000000000000000000 := HS.out.2.1.2.2
      have w1 : 0 ≤ (t : Int) / (b : Int) := Int.ediv_nonneg (by omega) (by omega)
      have w2 : (t : Int) / (b : Int) ≤ 999999999 := by rw [← q1]; clear q1 q2; generalize t / b = qq at hq; omega
      have hb1 : ¬ b = 0 := by omega
      have Q := Lib.hid (And.intro q1 q2)
      clear q1 q2 ht hr' hq hm
      have hjl : (j : Int) < (la.length : Int) := by omega
      go_region_held3 (fun w' => w'.frozen? ⟨g, j, none⟩ = false) (go_keep) (fail)
      rw [← Q.out.1]
      go_wp2
      go_roundw
      case rel =>
        obtain ⟨s1, ⟨s2, s3, _⟩, s4⟩ := HS.out
        refine ⟨t % b, j, o.set j (t / b), by omega, by go_num, by rw [Q.out.2]; first | done | rfl | (rw [Int.tmod_eq_emod_of_nonneg (by omega)]), s3, s4, by rw [List.length_set]; exact hlen, hdig.out.set _ s2, s1, ?_⟩
        exact (hbel.setCell (p := ⟨g, j, none⟩) (Nat.le_refl _) _).drew
      case measure => simp [intOf]
end Go.Proofs.YtajonpcmgebbbaaDoor

