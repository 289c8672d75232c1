/- The walk of the law IntegerSmall: integers of 32 bits behave as those of the machine. -/
import Derived.Test.YtajonpcmgebbbaaDoorW17
namespace Go.Proofs.YtajonpcmgebbbaaDoor
open Go.RowKit

theorem Itoa_any (z : Int) (w : World) (h0 : -9223372036854775808 ≤ z) (h1 : z ≤ 9223372036854775807) (ht : Tab w) :
    Calls Tryd.prog 33 #[.int .i64 z] w fun e w' => e = .returned (.string (strB z)) ∧ Below w.heap.size w w' :=
  (Tryd.strconv_Itoa z h0 h1 w ht).mono fun e w' ⟨he, k, os, hw⟩ => ⟨he, by rw [hw]; exact Lib.below_grow _ _ (Nat.le_refl _) _ _⟩

theorem strB_chk {z : Int} (h : z.natAbs < lim) : chk (strB z).data.toList = 0 := by rw [strB_data, chk_itoa, if_pos h]
theorem strB_val (z : Int) : valOf (strB z).data.toList = z := by rw [strB_data, valOf_itoa]
theorem strB_size {z : Int} (h : z.natAbs < lim) : (strB z).size ≤ 301 := chk_size (strB_chk h)
theorem strB_chk2 {x y : Int} (hx : x.natAbs < lim) (hy : y.natAbs < lim) : chk2 (strB x).data.toList (strB y).data.toList = 0 := by unfold chk2; rw [if_pos (strB_chk hx), strB_chk hy]
theorem small_lim {z : Int} (h : z.natAbs < 1000000000000000000000000000000000000000) : z.natAbs < lim := Nat.lt_of_lt_of_le h lim_big

theorem Add_str (x y : Int) (w : World) (hx : x.natAbs < lim) (hy : y.natAbs < lim) (hz : (x + y).natAbs < lim) (ht : Tab w) :
    Calls Tryd.prog 21 #[.string (strB x), .string (strB y)] w fun e W' => e = .returned (.tuple #[.string (strB (x + y)), .int .i64 0]) ∧ Below w.heap.size w W' := by
  have c := Add_any (strB x) (strB y) w (by have := strB_size hx; unfold maxLen; omega) (by have := strB_size hy; unfold maxLen; omega) ht
  rw [strB_chk2 hx hy, strB_val, strB_val, outB_ok, outE_ok] at c
  unfold resB resE at c
  rwa [if_pos hz, if_pos hz] at c
theorem Mul_str (x y : Int) (w : World) (hx : x.natAbs < lim) (hy : y.natAbs < lim) (hz : (x * y).natAbs < lim) (ht : Tab w) :
    Calls Tryd.prog 10 #[.string (strB x), .string (strB y)] w fun e W' => e = .returned (.tuple #[.string (strB (x * y)), .int .i64 0]) ∧ Below w.heap.size w W' := by
  have c := Mul_any (strB x) (strB y) w (by have := strB_size hx; unfold maxLen; omega) (by have := strB_size hy; unfold maxLen; omega) ht
  rw [strB_chk2 hx hy, strB_val, strB_val, outB_ok, outE_ok] at c
  unfold resB resE at c
  rwa [if_pos hz, if_pos hz] at c
theorem Compare_str (x y : Int) (w : World) (hx : x.natAbs < lim) (hy : y.natAbs < lim) :
    Calls Tryd.prog 22 #[.string (strB x), .string (strB y)] w fun e W' => e = .returned (.tuple #[.int .i64 (cmpZ x y), .int .i64 0]) ∧ w = W' := by
  have c := Compare_any (strB x) (strB y) w (by have := strB_size hx; unfold maxLen; omega) (by have := strB_size hy; unfold maxLen; omega)
  rwa [strB_chk2 hx hy, strB_val, strB_val, if_pos rfl] at c
theorem strB_len (z : Int) : (strB z).size = (Lib.itoa z).length := by rw [← size_len, strB_data]
theorem strB_short {z : Int} (h : z.natAbs < 10000000000) : (strB z).size ≤ 18 := by
  rw [strB_len]
  have h1 : Lib.nDigits z.natAbs ≤ 10 := (nDigits_le_iff _ 10 (by decide)).2 h
  unfold Lib.itoa
  split
  · rw [List.length_cons, Lib.decDigits_length]; omega
  · rw [Lib.decDigits_length]
    have : z.toNat = z.natAbs := by omega
    rw [this]; omega
theorem Divide_str (x y : Int) (w : World) (hx : x.natAbs < 10000000000) (hy : y.natAbs < 10000000000) (h0 : y ≠ 0) (ht : Tab w) :
    Calls Tryd.prog 12 #[.string (strB x), .string (strB y)] w fun e W' => e = .returned (.tuple #[.string (strB (x.fdiv y)), .string (strB (x.fmod y)), .int .i64 0]) ∧ Below w.heap.size w W' := by
  have c := Divide_small (strB x) (strB y) w (strB_chk (small_lim (by omega))) (strB_chk (small_lim (by omega))) (by rw [strB_val]; exact h0) (strB_short hx) (strB_short hy) ht
  rwa [strB_val, strB_val] at c

end Go.Proofs.YtajonpcmgebbbaaDoor
