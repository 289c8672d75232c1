/- What the walk of IntegerSquares needs: Root, and Gcd with 0, on texts of numbers. -/
import Derived.Test.YtajonpcmgebbbaaDoorLKit
import Derived.Test.YtajonpcmgebbbaaDoorGcd1
namespace Go.Proofs.YtajonpcmgebbbaaDoor
open Go.RowKit

theorem strB_size_pos (x : Int) : 0 < (strB x).size := by
  rw [strB_len]
  refine List.length_pos_iff.2 ?_
  unfold Lib.itoa
  split
  · simp
  · exact decDigits_ne _
theorem strB_neg (x : Int) : isNeg (strB x).data.toList = decide (x < 0) := by
  rw [strB_data]; exact head_itoa_neg x
theorem strB_nat {x : Int} (hx : x.natAbs < lim) : natOf (szL (strB x).data.toList) = x.natAbs := by
  rw [← szL_valAbs, strB_val]
theorem strB_natN {x : Int} (hx : x.natAbs < lim) (h : 0 ≤ x) : natOf (strB x).data.toList = x.natAbs := by
  have h1 := strB_nat hx
  have h2 : szL (strB x).data.toList = (strB x).data.toList := by
    unfold szL; rw [strB_neg, decide_eq_false (by omega)]; rfl
  rwa [h2] at h1

set_option maxHeartbeats 1000000 in
theorem Root_str (x : Int) (w : World) (h0 : 0 ≤ x) (hx : x.natAbs < lim) (ht : Tab w) :
    Calls Tryd.prog 16 #[.string (strB x)] w fun e W' => e = .returned (.tuple #[.string (strB (rootN x.natAbs : Nat)), .int .i64 0]) ∧ Below w.heap.size w W' := by
  have hs := strB_size hx
  have hd := chk_dig (strB_chk hx)
  have hneg : isNeg (strB x).data.toList = false := by rw [strB_neg]; exact decide_eq_false (by omega)
  have hz : szL (strB x).data.toList = (strB x).data.toList := by unfold szL; rw [hneg]; rfl
  rw [hz] at hd
  have c0 := check_any (strB x) w (by unfold maxLen; omega)
  rw [strB_chk hx] at c0
  have c1 := fun W => isNegative_any (strB x) W
  rw [hneg] at c1
  have c2 := fun W => readNatural_any (strB x) W (by omega) hd
  have hn := strB_natN hx h0
  rw [hn] at c2
  have hr : rootN x.natAbs < lim := Nat.lt_of_le_of_lt rootN_pos_le hx
  have hl : (dg x.natAbs).length ≤ 1000 := Nat.le_trans (dg_lim hx) (by decide)
  generalize x.natAbs = n at *
  have c3 := fun v W (h : IsNat W v n) => root_any 1000 v n W h hl (Nat.le_refl _)
  have e1 : resB (sgnZ false (rootN n)) = strB (rootN n : Nat) := by unfold sgnZ; exact if_pos (by simpa using hr)
  have e2 : resE (sgnZ false (rootN n)) = 0 := by unfold sgnZ; exact if_pos (by simpa using hr)
  have tx := fun v W (h : IsNat W v (rootN n)) (hb : Below w.heap.size w W) => text_any false v (rootN n) W h (Nat.le_trans (dg_lim hr) (by decide)) (ht.next hb)
  rw [e1, e2] at tx
  have C := Lib.hid (And.intro c0 (And.intro c1 (And.intro c2 (And.intro c3 tx))))
  clear c0 c1 c2 c3 tx e1 e2 hr hl hn hd hz hneg hx h0 ht
  generalize strB x = sx at *
  generalize rootN n = r at *
  go_enter Tryd.func16, Tryd.ntmps16
  go_wp2_with fail
  refine C.out.1.mono ?_
  rintro e w' ⟨rfl, rfl⟩
  go_wp2_with fail
  refine (C.out.2.1 _).mono ?_
  rintro e w' ⟨rfl, rfl⟩
  go_wp2_with fail
  refine (C.out.2.2.1 _).mono ?_
  rintro e w1 ⟨v1, rfl, h1, _, b1⟩
  have H1 := Lib.hid (And.intro h1 b1); clear h1 b1
  go_wp2_with fail
  refine (C.out.2.2.2.1 _ _ H1.out.1).mono ?_
  rintro e w2 ⟨v2, rfl, h2, _, b2⟩
  obtain ⟨p2, cap2, rfl⟩ := h2.shape
  have H2 := Lib.hid (And.intro h2 (H1.out.2.trans (b2.mono H1.out.2.size))); clear h2 b2 H1
  go_wp2_with fail
  refine (C.out.2.2.2.2 _ _ H2.out.1 H2.out.2).mono ?_
  rintro e w3 ⟨rfl, b3⟩
  have H3 := Lib.hid (H2.out.2.trans (b3.mono H2.out.2.size)); clear b3 H2 C
  go_wp2
  go_ret2
  exact ⟨rfl, H3.out⟩

set_option maxHeartbeats 1000000 in
theorem Root_neg (x : Int) (w : World) (h0 : x < 0) (hx : x.natAbs < lim) :
    Calls Tryd.prog 16 #[.string (strB x)] w fun e W' => e = .returned (.tuple #[.string ⟨#[]⟩, .int .i64 2]) ∧ Below w.heap.size w W' := by
  have hs := strB_size hx
  have hneg : isNeg (strB x).data.toList = true := by rw [strB_neg]; exact decide_eq_true h0
  have c0 := check_any (strB x) w (by unfold maxLen; omega)
  rw [strB_chk hx] at c0
  have c1 := fun W => isNegative_any (strB x) W
  rw [hneg] at c1
  have C := Lib.hid (And.intro c0 c1)
  clear c0 c1 hneg hx h0
  generalize strB x = sx at *
  go_enter Tryd.func16, Tryd.ntmps16
  go_wp2_with fail
  refine C.out.1.mono ?_
  rintro e w' ⟨rfl, rfl⟩
  go_wp2_with fail
  refine (C.out.2 _).mono ?_
  rintro e w' ⟨rfl, rfl⟩
  go_wp2
  go_ret2
  exact ⟨rfl, Below.refl _ _⟩

/-- Gcd on texts of numbers, where gcd keeps its contract at their sizes -/
theorem Gcd_strs (x y : Int) (w : World) (hx : x.natAbs < lim) (hy : y.natAbs < lim) (hg : GcdOK x.natAbs y.natAbs) (ht : Tab w) :
    Calls Tryd.prog 14 #[.string (strB x), .string (strB y)] w fun e W' => e = .returned (.tuple #[.string (strB (Nat.gcd x.natAbs y.natAbs : Nat)), .int .i64 0]) ∧ Below w.heap.size w W' := by
  have e1 := strB_nat hx
  have e2 := strB_nat hy
  by_cases hs : (szB (strB x)).size ≤ 18 ∧ (szB (strB y)).size ≤ 18
  · have hss : True := trivial
    by_cases hb : (strB x).size ≤ 18 ∧ (strB y).size ≤ 18
    · have c := Gcd_small (strB x) (strB y) w (strB_chk hx) (strB_chk hy) hb.1 hb.2 ht
      rwa [e1, e2] at c
    · have c := Gcd_mid (strB x) (strB y) w (strB_chk hx) (strB_chk hy) hs.1 hs.2 ht
      rwa [e1, e2] at c
  · have c := Gcd_long (strB x) (strB y) w (strB_chk hx) (strB_chk hy) hs (by rw [e1, e2]; exact hg) ht
    rwa [e1, e2] at c
end Go.Proofs.YtajonpcmgebbbaaDoor
