/- Proved here: Check, Add, Sub and Compare return the results of the reference implementation for any strings of the examined lengths. The law IntegerSums returns true for every input, and its arguments read behind the call as before. Conditions: the row's own, the listed tables hold their numbers. -/
import Derived.Test.YtajonpcmgebbbaaGreatDoorSums16
/- The walks of the reference's Add, Sub and Compare. -/
-- needs kingpost/kingpostref01.Add
namespace Go.Proofs.YtajonpcmgebbbaaGreatDoor.R
open Go.RowKit

set_option maxHeartbeats 1000000 in
theorem negative_any (neg : Bool) (v : Value) (n : Nat) (w : World) (h : IsNat w v n) :
    Calls Tryz.prog 32 #[.agg #[.bool neg, v]] w fun e W' => ∃ ng, e = .returned (.agg #[.bool ng, v]) ∧ sgnZ ng n = -sgnZ neg n ∧ Below w.heap.size w W' := by
  have h0 := IsNat.len0 h
  obtain ⟨p, cap, rfl⟩ := h.shape
  clear h
  generalize (dg n).length = l at *
  by_cases hz : n = 0
  · obtain rfl : l = 0 := h0.2 hz
    subst hz
    clear h0
    go_enter Tryz.func32, Tryz.ntmps32
    go_wp2
    refine bodyPost_ret (v := .agg #[.bool neg, .slice p 0 cap]) (by simp [results, Tryz.results32, go_sem]) rfl ?_
    exact ⟨_, rfl, by rw [sgn_zero]; rfl, by go_grown⟩
  · have hl : ((l : Int) == 0) = false := by rw [beq_eq_false_iff_ne]; intro e; exact hz (h0.1 (by omega))
    clear h0 hz
    go_enter Tryz.func32, Tryz.ntmps32
    go_wp2
    refine bodyPost_ret (v := .agg #[.bool (!neg), .slice p l cap]) (by simp [results, Tryz.results32, go_sem]) rfl ?_
    exact ⟨_, rfl, sgn_not neg n, by go_grown⟩

theorem add_small {x y : Int} (h0 : -100000000000000000 < x) (h1 : x < 100000000000000000) (h2 : -100000000000000000 < y) (h3 : y < 100000000000000000) :
    (resB (x + y) = strB (x + y) ∧ resE (x + y) = 0) ∧ (resB (x - y) = strB (x - y) ∧ resE (x - y) = 0) := ⟨res_small (by omega) (by omega), res_small (by omega) (by omega)⟩

set_option maxRecDepth 100000 in
set_option maxHeartbeats 2000000 in
theorem Add_any (a b : ByteArray) (w : World) (ha : a.size ≤ 1000) (hb : b.size ≤ 1000) (ht : Tab w) :
    Calls Tryz.prog 7 #[.string a, .string b] w fun e W' => e = .returned (.tuple #[.string (outB (chk2 a.data.toList b.data.toList) (valOf a.data.toList + valOf b.data.toList)), .int .i64 (outE (chk2 a.data.toList b.data.toList) (valOf a.data.toList + valOf b.data.toList))]) ∧ Below w.heap.size w W' := by
  have cb := both_any a b w (by unfold maxLen; omega) (by unfold maxLen; omega)
  by_cases hc : chk2 a.data.toList b.data.toList = 0
  · obtain ⟨k1, k2⟩ := chk2_zero hc
    rw [hc] at cb
    rw [hc, (out_ok _).1, (out_ok _).2]
    have CB := Lib.hid cb
    clear cb hc
    by_cases hs : a.size ≤ 17 ∧ b.size ≤ 17
    · have ct := two_yes a b w hs.1 hs.2 k1 k2
      have b1 := valOf_17 k1 (by rw [size_len]; omega)
      have b2 := valOf_17 k2 (by rw [size_len]; omega)
      obtain ⟨e1, e2⟩ := (add_small b1.1 b1.2 b2.1 b2.2).1
      rw [e1, e2]
      clear e1 e2 k1 k2
      generalize valOf a.data.toList = x at *
      generalize valOf b.data.toList = y at *
      obtain ⟨x0, x1⟩ := b1
      obtain ⟨y0, y1⟩ := b2
      have ci := fun W (h : Below w.heap.size w W) => Itoa_any (x + y) W (by omega) (by omega) (ht.next h)
      have C := Lib.hid (And.intro ct ci)
      clear ct ci ht
      go_enter Tryz.func7, Tryz.ntmps7
      go_wp2_with fail
      refine CB.out.mono ?_
      rintro e w' ⟨rfl, rfl⟩
      go_wp2_with fail
      refine C.out.1.mono ?_
      rintro e w' ⟨rfl, rfl⟩
      go_wp2_with fail
      refine (C.out.2 _ (Below.refl _ _)).mono ?_
      rintro e w1 ⟨rfl, hb1⟩
      have HB := Lib.hid hb1
      clear hb1
      go_wp2
      go_ret2
      exact ⟨rfl, HB.out⟩
    · have n1 := dg_lim' (nat_lim k1)
      have n2 := dg_lim' (nat_lim k2)
      have r1 := fun W => read_any a W (by omega) k1
      have r2 := fun W => read_any b W (by omega) k2
      rw [val_agg, val_agg]
      have t2 := two_no a b w hs k1 (by unfold maxLen; omega) (by unfold maxLen; omega)
      generalize isNeg a.data.toList = na at *
      generalize isNeg b.data.toList = nb at *
      generalize natOf (szL a.data.toList) = x at *
      generalize natOf (szL b.data.toList) = y at *
      have HN := Lib.hid (And.intro n1 n2)
      have cneg := True.intro
      have C := Lib.hid (And.intro r1 (And.intro r2 (And.intro cneg t2)))
      clear r1 r2 t2 cneg k1 k2 n1 n2
      go_enter Tryz.func7, Tryz.ntmps7
      go_wp2_with fail
      refine CB.out.mono ?_
      rintro e w' ⟨rfl, rfl⟩
      go_wp2_with fail
      refine C.out.2.2.2.mono ?_
      rintro e w' ⟨tx, ty, rfl, rfl⟩
      go_wp2_with fail
      refine (C.out.1 _).mono ?_
      rintro e w1 ⟨va, rfl, hva, _, hb1⟩
      have H1 := Lib.hid (And.intro hva hb1)
      clear hva hb1
      go_wp2_with fail
      refine (C.out.2.1 _).mono ?_
      rintro e w2 ⟨vb, rfl, hvb, _, hb2⟩
      have H2 := Lib.hid (And.intro (H1.out.1.next hb2) (And.intro hvb (H1.out.2.trans (hb2.mono H1.out.2.size))))
      clear hvb hb2 H1
      have H3 := Lib.hid (And.intro H2.out.1 (And.intro H2.out.2.1 (And.intro H2.out.2.2 (rfl : sgnZ nb y = sgnZ nb y))))
      clear H2
      go_wp2_with fail
      refine (add_any na nb va vb x y _ H3.out.1 H3.out.2.1 (by have := HN.out.1; omega) (by have := HN.out.2; omega)).mono ?_
      rintro e w4 ⟨ng4, n4, v4, rfl, hv4, ⟨hz, hl4⟩, _, hb4⟩
      skip
      have hn4 : (dg n4).length ≤ 10000 := Nat.le_trans (dg_len_le hl4) (Nat.le_trans (add_len2 x y) (by have := HN.out; omega))
      have H4 := Lib.hid (And.intro hv4 (And.intro hz (And.intro (H3.out.2.2.1.trans (hb4.mono H3.out.2.2.1.size)) hn4)))
      clear hv4 hz hl4 hb4 hn4 H3
      go_wp2_with fail
      refine (result_any ng4 v4 n4 _ H4.out.1 H4.out.2.2.2).mono ?_
      rw [H4.out.2.1]
      rintro e w5 ⟨rfl, hb5⟩
      have H5 := Lib.hid (H4.out.2.2.1.trans (hb5.mono H4.out.2.2.1.size))
      clear hb5 H4 C
      go_wp2
      go_ret2
      exact ⟨rfl, H5.out⟩
  · have CB := Lib.hid cb
    obtain ⟨o1, o2⟩ := out_bad hc (valOf a.data.toList + valOf b.data.toList)
    rw [o1, o2]
    clear o1 o2 cb
    generalize chk2 a.data.toList b.data.toList = c at *
    have hn : (c != 0) = true := by rw [bne_iff_ne]; exact hc
    clear hc
    go_enter Tryz.func7, Tryz.ntmps7
    go_wp2_with fail
    refine CB.out.mono ?_
    rintro e w' ⟨rfl, rfl⟩
    go_wp2
    go_ret2
    exact ⟨rfl, Below.refl _ _⟩

set_option maxRecDepth 100000 in
set_option maxHeartbeats 2000000 in
theorem Sub_any (a b : ByteArray) (w : World) (ha : a.size ≤ 1000) (hb : b.size ≤ 1000) (ht : Tab w) :
    Calls Tryz.prog 9 #[.string a, .string b] w fun e W' => e = .returned (.tuple #[.string (outB (chk2 a.data.toList b.data.toList) (valOf a.data.toList - valOf b.data.toList)), .int .i64 (outE (chk2 a.data.toList b.data.toList) (valOf a.data.toList - valOf b.data.toList))]) ∧ Below w.heap.size w W' := by
  have cb := both_any a b w (by unfold maxLen; omega) (by unfold maxLen; omega)
  by_cases hc : chk2 a.data.toList b.data.toList = 0
  · obtain ⟨k1, k2⟩ := chk2_zero hc
    rw [hc] at cb
    rw [hc, (out_ok _).1, (out_ok _).2]
    have CB := Lib.hid cb
    clear cb hc
    by_cases hs : a.size ≤ 17 ∧ b.size ≤ 17
    · have ct := two_yes a b w hs.1 hs.2 k1 k2
      have b1 := valOf_17 k1 (by rw [size_len]; omega)
      have b2 := valOf_17 k2 (by rw [size_len]; omega)
      obtain ⟨e1, e2⟩ := (add_small b1.1 b1.2 b2.1 b2.2).2
      rw [e1, e2]
      clear e1 e2 k1 k2
      generalize valOf a.data.toList = x at *
      generalize valOf b.data.toList = y at *
      obtain ⟨x0, x1⟩ := b1
      obtain ⟨y0, y1⟩ := b2
      have ci := fun W (h : Below w.heap.size w W) => Itoa_any (x - y) W (by omega) (by omega) (ht.next h)
      have C := Lib.hid (And.intro ct ci)
      clear ct ci ht
      go_enter Tryz.func9, Tryz.ntmps9
      go_wp2_with fail
      refine CB.out.mono ?_
      rintro e w' ⟨rfl, rfl⟩
      go_wp2_with fail
      refine C.out.1.mono ?_
      rintro e w' ⟨rfl, rfl⟩
      go_wp2_with fail
      refine (C.out.2 _ (Below.refl _ _)).mono ?_
      rintro e w1 ⟨rfl, hb1⟩
      have HB := Lib.hid hb1
      clear hb1
      go_wp2
      go_ret2
      exact ⟨rfl, HB.out⟩
    · have n1 := dg_lim' (nat_lim k1)
      have n2 := dg_lim' (nat_lim k2)
      have r1 := fun W => read_any a W (by omega) k1
      have r2 := fun W => read_any b W (by omega) k2
      rw [val_agg, val_agg]
      have t2 := two_no a b w hs k1 (by unfold maxLen; omega) (by unfold maxLen; omega)
      generalize isNeg a.data.toList = na at *
      generalize isNeg b.data.toList = nb at *
      generalize natOf (szL a.data.toList) = x at *
      generalize natOf (szL b.data.toList) = y at *
      have HN := Lib.hid (And.intro n1 n2)
      have cneg := fun (v : Value) W (h : IsNat W v y) => negative_any nb v y W h
      have C := Lib.hid (And.intro r1 (And.intro r2 (And.intro cneg t2)))
      clear r1 r2 t2 cneg k1 k2 n1 n2
      go_enter Tryz.func9, Tryz.ntmps9
      go_wp2_with fail
      refine CB.out.mono ?_
      rintro e w' ⟨rfl, rfl⟩
      go_wp2_with fail
      refine C.out.2.2.2.mono ?_
      rintro e w' ⟨tx, ty, rfl, rfl⟩
      go_wp2_with fail
      refine (C.out.1 _).mono ?_
      rintro e w1 ⟨va, rfl, hva, _, hb1⟩
      have H1 := Lib.hid (And.intro hva hb1)
      clear hva hb1
      go_wp2_with fail
      refine (C.out.2.1 _).mono ?_
      rintro e w2 ⟨vb, rfl, hvb, _, hb2⟩
      have H2 := Lib.hid (And.intro (H1.out.1.next hb2) (And.intro hvb (H1.out.2.trans (hb2.mono H1.out.2.size))))
      clear hvb hb2 H1
      go_wp2_with fail
      refine (C.out.2.2.1 _ _ H2.out.2.1).mono ?_
      rintro e w3 ⟨ng, rfl, hz3, hb3⟩
      have H3 := Lib.hid (And.intro (H2.out.1.next hb3) (And.intro (H2.out.2.1.next hb3) (And.intro (H2.out.2.2.trans (hb3.mono H2.out.2.2.size)) hz3)))
      clear hz3 hb3 H2
      go_wp2_with fail
      refine (add_any na ng va vb x y _ H3.out.1 H3.out.2.1 (by have := HN.out.1; omega) (by have := HN.out.2; omega)).mono ?_
      rintro e w4 ⟨ng4, n4, v4, rfl, hv4, ⟨hz, hl4⟩, _, hb4⟩
      rw [H3.out.2.2.2, ← Int.sub_eq_add_neg] at hz
      have hn4 : (dg n4).length ≤ 10000 := Nat.le_trans (dg_len_le hl4) (Nat.le_trans (add_len2 x y) (by have := HN.out; omega))
      have H4 := Lib.hid (And.intro hv4 (And.intro hz (And.intro (H3.out.2.2.1.trans (hb4.mono H3.out.2.2.1.size)) hn4)))
      clear hv4 hz hl4 hb4 hn4 H3
      go_wp2_with fail
      refine (result_any ng4 v4 n4 _ H4.out.1 H4.out.2.2.2).mono ?_
      rw [H4.out.2.1]
      rintro e w5 ⟨rfl, hb5⟩
      have H5 := Lib.hid (H4.out.2.2.1.trans (hb5.mono H4.out.2.2.1.size))
      clear hb5 H4 C
      go_wp2
      go_ret2
      exact ⟨rfl, H5.out⟩
  · have CB := Lib.hid cb
    obtain ⟨o1, o2⟩ := out_bad hc (valOf a.data.toList - valOf b.data.toList)
    rw [o1, o2]
    clear o1 o2 cb
    generalize chk2 a.data.toList b.data.toList = c at *
    have hn : (c != 0) = true := by rw [bne_iff_ne]; exact hc
    clear hc
    go_enter Tryz.func9, Tryz.ntmps9
    go_wp2_with fail
    refine CB.out.mono ?_
    rintro e w' ⟨rfl, rfl⟩
    go_wp2
    go_ret2
    exact ⟨rfl, Below.refl _ _⟩

theorem cmpZ_sub (x y : Int) : cmpZ x y = if x - y = 0 then 0 else if x - y < 0 then -1 else 1 := by
  unfold cmpZ
  by_cases h1 : x < y
  · rw [if_pos h1, if_neg (by omega), if_pos (by omega)]
  · rw [if_neg h1]
    by_cases h2 : y < x
    · rw [if_pos h2, if_neg (by omega), if_neg (by omega)]
    · rw [if_neg h2, if_pos (by omega)]
set_option maxRecDepth 100000 in
set_option maxHeartbeats 2000000 in
theorem Compare_any (a b : ByteArray) (w : World) (ha : a.size ≤ 1000) (hb : b.size ≤ 1000) :
    Calls Tryz.prog 11 #[.string a, .string b] w fun e W' => e = .returned (.tuple #[.int .i64 (if chk2 a.data.toList b.data.toList = 0 then cmpZ (valOf a.data.toList) (valOf b.data.toList) else 0), .int .i64 (chk2 a.data.toList b.data.toList)]) ∧ Below w.heap.size w W' := by
  have cb := both_any a b w (by unfold maxLen; omega) (by unfold maxLen; omega)
  by_cases hc : chk2 a.data.toList b.data.toList = 0
  · obtain ⟨k1, k2⟩ := chk2_zero hc
    rw [hc] at cb
    rw [hc, if_pos rfl]
    have CB := Lib.hid cb
    clear cb hc
    by_cases hs : a.size ≤ 17 ∧ b.size ≤ 17
    · have ct := two_yes a b w hs.1 hs.2 k1 k2
      clear k1 k2
      generalize valOf a.data.toList = x at *
      generalize valOf b.data.toList = y at *
      have C := Lib.hid ct
      clear ct
      rcases Int.lt_trichotomy x y with h | h | h
      · have hz := Lib.hid (show cmpZ x y = -1 by unfold cmpZ; rw [if_pos h])
        go_enter Tryz.func11, Tryz.ntmps11
        go_wp2_with fail
        refine CB.out.mono ?_
        rintro e w' ⟨rfl, rfl⟩
        go_wp2_with fail
        refine C.out.mono ?_
        rintro e w' ⟨rfl, rfl⟩
        go_wp2
        go_ret2
        exact ⟨by rw [hz.out]; rfl, Below.refl _ _⟩
      · have hz := Lib.hid (show cmpZ x y = 0 by unfold cmpZ; rw [if_neg (by omega), if_neg (by omega)])
        have h1 : ¬ x < y := by omega
        have h2 : ¬ y < x := by omega
        clear h
        go_enter Tryz.func11, Tryz.ntmps11
        go_wp2_with fail
        refine CB.out.mono ?_
        rintro e w' ⟨rfl, rfl⟩
        go_wp2_with fail
        refine C.out.mono ?_
        rintro e w' ⟨rfl, rfl⟩
        go_wp2
        go_ret2
        exact ⟨by rw [hz.out]; rfl, Below.refl _ _⟩
      · have hz := Lib.hid (show cmpZ x y = 1 by unfold cmpZ; rw [if_neg (by omega), if_pos h])
        have h1 : ¬ x < y := by omega
        go_enter Tryz.func11, Tryz.ntmps11
        go_wp2_with fail
        refine CB.out.mono ?_
        rintro e w' ⟨rfl, rfl⟩
        go_wp2_with fail
        refine C.out.mono ?_
        rintro e w' ⟨rfl, rfl⟩
        go_wp2
        go_ret2
        exact ⟨by rw [hz.out]; rfl, Below.refl _ _⟩
    · have n1 := dg_lim' (nat_lim k1)
      have n2 := dg_lim' (nat_lim k2)
      have r1 := fun W => read_any a W (by omega) k1
      have r2 := fun W => read_any b W (by omega) k2
      rw [val_agg, val_agg]
      have t2 := two_no a b w hs k1 (by unfold maxLen; omega) (by unfold maxLen; omega)
      generalize isNeg a.data.toList = na at *
      generalize isNeg b.data.toList = nb at *
      generalize natOf (szL a.data.toList) = x at *
      generalize natOf (szL b.data.toList) = y at *
      have HN := Lib.hid (And.intro n1 n2)
      have cneg := fun (v : Value) W (h : IsNat W v y) => negative_any nb v y W h
      have C := Lib.hid (And.intro r1 (And.intro r2 (And.intro cneg t2)))
      have HCZ := Lib.hid (cmpZ_sub (sgnZ na x) (sgnZ nb y))
      clear r1 r2 t2 cneg k1 k2 n1 n2
      go_enter Tryz.func11, Tryz.ntmps11
      go_wp2_with fail
      refine CB.out.mono ?_
      rintro e w' ⟨rfl, rfl⟩
      go_wp2_with fail
      refine C.out.2.2.2.mono ?_
      rintro e w' ⟨tx, ty, rfl, rfl⟩
      go_wp2_with fail
      refine (C.out.1 _).mono ?_
      rintro e w1 ⟨va, rfl, hva, _, hb1⟩
      have H1 := Lib.hid (And.intro hva hb1)
      clear hva hb1
      go_wp2_with fail
      refine (C.out.2.1 _).mono ?_
      rintro e w2 ⟨vb, rfl, hvb, _, hb2⟩
      have H2 := Lib.hid (And.intro (H1.out.1.next hb2) (And.intro hvb (H1.out.2.trans (hb2.mono H1.out.2.size))))
      clear hvb hb2 H1
      go_wp2_with fail
      refine (C.out.2.2.1 _ _ H2.out.2.1).mono ?_
      rintro e w3 ⟨ng, rfl, hz3, hb3⟩
      have H3 := Lib.hid (And.intro (H2.out.1.next hb3) (And.intro (H2.out.2.1.next hb3) (And.intro (H2.out.2.2.trans (hb3.mono H2.out.2.2.size)) hz3)))
      clear hz3 hb3 H2
      go_wp2_with fail
      refine (add_any na ng va vb x y _ H3.out.1 H3.out.2.1 (by have := HN.out.1; omega) (by have := HN.out.2; omega)).mono ?_
      rintro e w4 ⟨ng4, n4, v4, rfl, hv4, ⟨hz, hl4⟩, _, hb4⟩
      rw [H3.out.2.2.2, ← Int.sub_eq_add_neg] at hz
      have h0 := IsNat.len0 hv4
      obtain ⟨p4, c4, rfl⟩ := hv4.shape
      have H4 := Lib.hid (H3.out.2.2.1.trans (hb4.mono H3.out.2.2.1.size))
      have HZ := Lib.hid hz
      clear hv4 hz hl4 hb4 H3 C
      generalize (dg n4).length = l4 at *
      by_cases hn : n4 = 0
      · obtain rfl : l4 = 0 := h0.2 hn
        subst hn
        have HR := Lib.hid (show cmpZ (sgnZ na x) (sgnZ nb y) = 0 by rw [HCZ.out, ← HZ.out, sgn_zero, if_pos rfl])
        clear h0
        go_wp2
        go_ret2
        exact ⟨by rw [HR.out]; rfl, H4.out.trans (((Below.refl _ w4).alloc (Nat.le_refl _) _).mono H4.out.size)⟩
      · have hl : ((l4 : Int) == 0) = false := by rw [beq_eq_false_iff_ne]; intro e; exact hn (h0.1 (by omega))
        cases ng4
        · have HR := Lib.hid (show cmpZ (sgnZ na x) (sgnZ nb y) = 1 by
            rw [HCZ.out, ← HZ.out]
            show (if (n4 : Int) = 0 then (0 : Int) else if (n4 : Int) < 0 then -1 else 1) = 1
            rw [if_neg (by omega), if_neg (by omega)])
          clear h0 hn
          go_wp2
          go_ret2
          exact ⟨by rw [HR.out]; rfl, H4.out.trans (((Below.refl _ w4).alloc (Nat.le_refl _) _).mono H4.out.size)⟩
        · have HR := Lib.hid (show cmpZ (sgnZ na x) (sgnZ nb y) = -1 by
            rw [HCZ.out, ← HZ.out]
            show (if -(n4 : Int) = 0 then (0 : Int) else if -(n4 : Int) < 0 then -1 else 1) = -1
            rw [if_neg (by omega), if_pos (by omega)])
          clear h0 hn
          go_wp2
          go_ret2
          exact ⟨by rw [HR.out]; rfl, H4.out.trans (((Below.refl _ w4).alloc (Nat.le_refl _) _).mono H4.out.size)⟩
  · have CB := Lib.hid cb
    rw [if_neg hc]
    clear cb
    generalize chk2 a.data.toList b.data.toList = c at *
    have hn : (c != 0) = true := by rw [bne_iff_ne]; exact hc
    clear hc
    go_enter Tryz.func11, Tryz.ntmps11
    go_wp2_with fail
    refine CB.out.mono ?_
    rintro e w' ⟨rfl, rfl⟩
    go_wp2
    go_ret2
    exact ⟨rfl, Below.refl _ _⟩
end Go.Proofs.YtajonpcmgebbbaaGreatDoor.R

/- The walks of the test that a string of a list is longer than the statements examine. -/
-- needs kingpost/kingpostlaw01.great
namespace Go.Proofs.YtajonpcmgebbbaaGreatDoor.R
open Go.RowKit

def greatS (s : ByteArray) : Bool := decide ((80 < s.size ∧ s.size < 299) ∨ 304 < s.size)
theorem great_yes {s : ByteArray} (h : (80 < s.size ∧ s.size < 299) ∨ 304 < s.size) : greatS s = true := decide_eq_true h
theorem great_no {s : ByteArray} (h : ¬ ((80 < s.size ∧ s.size < 299) ∨ 304 < s.size)) : greatS s = false := decide_eq_false h
theorem great_le {s : ByteArray} (h : greatS s = false) : s.size ≤ 304 := by have := of_decide_eq_false h; omega
theorem any_true {xs : List ByteArray} {s : ByteArray} (hm : s ∈ xs) (h : greatS s = true) : xs.any greatS = true := List.any_eq_true.2 ⟨s, hm, h⟩
theorem any_next {xs : List ByteArray} {k : Nat} (h : (xs.take k).any greatS = false) (hk : k < xs.length) (hs : greatS xs[k] = false) : (xs.take (k + 1)).any greatS = false := by
  rw [List.take_succ_eq_append_getElem hk, List.any_append, h]; simp [hs]
set_option maxHeartbeats 1000000 in
theorem Great_any (xs : List ByteArray) (B : Nat) (w : World) (hl : xs.length ≤ 100) (hs : ∀ s ∈ xs, s.size ≤ maxLen) (hc : ∀ i (h : i < xs.length), w.cell? ⟨B, i, none⟩ = some (.string xs[i])) :
    Calls Tryz.prog 14 #[.slice (some ⟨B, 0, none⟩) xs.length xs.length] w fun e w' => e = .returned (.bool (xs.any greatS)) ∧ w = w' := by
  have HC := Lib.hid (And.intro hs hc); clear hs hc
  go_enter Tryz.func14, Tryz.ntmps14
  go_wp2
  go_loop [3] (fun i => ∃ k : Nat, i = .int .i64 k ∧ k ≤ xs.length ∧ Hid ((xs.take k).any greatS = false)) (fun i => xs.length - (intOf i).toNat)
  case atStart => exact ⟨0, rfl, by omega, rfl⟩
  case round =>
    obtain ⟨k, rfl, hk, hd⟩ := hrel
    by_cases hlt : k < xs.length
    · have hck := HC.out.2 k hlt
      have hsz := HC.out.1 xs[k] (List.getElem_mem hlt)
      have hm := Lib.hid (List.getElem_mem hlt)
      have hn := Lib.hid (fun h : greatS xs[k] = false => any_next hd.out hlt h)
      have hms : xs[k].size ≤ 9223372036854775807 := by unfold maxLen at hsz; omega
      generalize xs[k] = s at *
      by_cases h8 : (80 : Int) < s.size
      · by_cases h9 : (s.size : Int) < 299
        · have hg := Lib.hid (any_true hm.out (great_yes (s := s) (by omega)))
          clear hn
          go_wp2
          go_ret
          exact ⟨ret_bool hg.out.symm, rfl⟩
        · by_cases h3 : (304 : Int) < s.size
          · have hg := Lib.hid (any_true hm.out (great_yes (s := s) (by omega)))
            clear hn
            go_wp2
            go_ret
            exact ⟨ret_bool hg.out.symm, rfl⟩
          · have hg := Lib.hid (hn.out (great_no (s := s) (by omega)))
            clear hn
            go_wp2
            go_round
            case rel => exact ⟨k + 1, by go_num, by omega, hg.out⟩
            case measure => simp [intOf]; omega
      · have h3 : ¬ (304 : Int) < s.size := by omega
        have hg := Lib.hid (hn.out (great_no (s := s) (by omega)))
        clear hn
        go_wp2
        go_round
        case rel => exact ⟨k + 1, by go_num, by omega, hg.out⟩
        case measure => simp [intOf]; omega
    · go_wp2
      go_ret
      refine ⟨ret_bool ?_, rfl⟩
      have := hd.out
      rw [List.take_of_length_le (by omega)] at this
      exact this.symm
theorem great_any (xs : List ByteArray) (B : Nat) (w : World) (hl : xs.length ≤ 100) (hs : ∀ s ∈ xs, s.size ≤ maxLen) (hc : ∀ i (h : i < xs.length), w.cell? ⟨B, i, none⟩ = some (.string xs[i])) :
    Calls Tryz.prog 4 #[.slice (some ⟨B, 0, none⟩) xs.length xs.length] w fun e w' => e = .returned (.bool (xs.any greatS)) ∧ w = w' := by
  have C := Lib.hid (Great_any xs B w hl hs hc)
  clear hs hc
  generalize xs.any greatS = g at *
  generalize xs.length = n at *
  go_enter Tryz.func4, Tryz.ntmps4
  go_wp2_with fail
  refine C.out.mono ?_
  rintro e w' ⟨rfl, rfl⟩
  go_wp2
  go_ret
  exact ⟨rfl, rfl⟩
theorem great1s (a : ByteArray) (B : Nat) (W : World) (ha : a.size ≤ maxLen) (h0 : W.cell? ⟨B, 0, none⟩ = some (.string a)) :
    Calls Tryz.prog 4 #[.slice (some ⟨B, 0, none⟩) 1 1] W fun e w' => e = .returned (.bool (greatS a)) ∧ W = w' := by
  have h := great_any [a] B W (by show 1 ≤ 100; decide) (by
    intro s hs
    simp only [List.mem_cons, List.not_mem_nil, or_false] at hs
    subst hs; exact ha) (by
    intro i hi
    match i, hi with
    | 0, _ => exact h0)
  simpa using h
theorem great2s (a b : ByteArray) (B : Nat) (W : World) (ha : a.size ≤ maxLen) (hb : b.size ≤ maxLen) (h0 : W.cell? ⟨B, 0, none⟩ = some (.string a)) (h1 : W.cell? ⟨B, 1, none⟩ = some (.string b)) :
    Calls Tryz.prog 4 #[.slice (some ⟨B, 0, none⟩) 2 2] W fun e w' => e = .returned (.bool (greatS a || greatS b)) ∧ W = w' := by
  have h := great_any [a, b] B W (by show 2 ≤ 100; decide) (by
    intro s hs
    simp only [List.mem_cons, List.not_mem_nil, or_false] at hs
    rcases hs with rfl | rfl <;> assumption) (by
    intro i hi
    match i, hi with
    | 0, _ => exact h0
    | 1, _ => exact h1)
  simpa using h
end Go.Proofs.YtajonpcmgebbbaaGreatDoor.R

/- The walk of the law IntegerSums: Check, Add, Sub and Compare return the results of the reference. -/
-- needs kingpost/kingpostlaw01.IntegerSums
namespace Go.Proofs.YtajonpcmgebbbaaGreatDoor.R
open Go.RowKit

set_option maxRecDepth 100000 in
set_option maxHeartbeats 2000000 in
theorem IntegerSums_any (a b : ByteArray) (w : World) (ha : a.size ≤ maxLen) (hb : b.size ≤ maxLen) (ht : Tab w) :
    Calls Tryz.prog 3 #[.string a, .string b] w fun e W' => e = .returned (.bool true) ∧ Below w.heap.size w W' := by
  have hg := Lib.hid (fun B W => great2s a b B W ha hb)
  have oA := fun W (h : Below w.heap.size w W) => awake_any W (ht.next h)
  by_cases hf : (greatS a || greatS b) = true
  · rw [hf] at hg
    have O := Lib.hid oA
    clear oA ht hf
    go_enter Tryz.func3, Tryz.ntmps3
    go_wp2_with fail
    refine (hg.out _ _ (by go_cell) (by go_cell)).mono ?_
    rintro e w' ⟨rfl, rfl⟩
    have B0 := Lib.hid ((Below.refl w.heap.size w).alloc (Nat.le_refl _) (.cells #[.string a, .string b] 9))
    generalize w.alloc (.cells #[.string a, .string b] 9) = v0 at *
    go_wp2_with fail
    refine (O.out _ B0.out).mono ?_
    rintro e v1 ⟨rfl, b1⟩
    have B1 := Lib.hid (B0.out.trans (b1.mono B0.out.size)); clear b1 B0
    go_wp2
    go_ret
    exact ⟨rfl, B1.out⟩
  · have hf' : (greatS a || greatS b) = false := by simpa using hf
    rw [hf'] at hg
    have la := great_le (Bool.or_eq_false_iff.1 hf').1
    have lb := great_le (Bool.or_eq_false_iff.1 hf').2
    have o1 := fun W (h : Below w.heap.size w W) => Go.Proofs.YtajonpcmgebbbaaGreatDoor.Add_any a b W ha hb (ht.next h)
    have o2 := fun W (h : Below w.heap.size w W) => R.Add_any a b W (by omega) (by omega) (ht.next h)
    have o3 := fun W (h : Below w.heap.size w W) => Go.Proofs.YtajonpcmgebbbaaGreatDoor.Sub_any a b W ha hb (ht.next h)
    have o4 := fun W (h : Below w.heap.size w W) => R.Sub_any a b W (by omega) (by omega) (ht.next h)
    have o5 := fun W => Go.Proofs.YtajonpcmgebbbaaGreatDoor.Compare_any a b W ha hb
    have o6 := fun W (h : Below w.heap.size w W) => R.Compare_any a b W (by omega) (by omega)
    have o7 := fun W => check_any a W ha
    have o8 := fun W => refCheck_any a W ha
    generalize outB (chk2 a.data.toList b.data.toList) (valOf a.data.toList + valOf b.data.toList) = s1 at *
    generalize outE (chk2 a.data.toList b.data.toList) (valOf a.data.toList + valOf b.data.toList) = n1 at *
    generalize outB (chk2 a.data.toList b.data.toList) (valOf a.data.toList - valOf b.data.toList) = s2 at *
    generalize outE (chk2 a.data.toList b.data.toList) (valOf a.data.toList - valOf b.data.toList) = n2 at *
    generalize (if chk2 a.data.toList b.data.toList = 0 then cmpZ (valOf a.data.toList) (valOf b.data.toList) else 0) = n3 at *
    generalize chk2 a.data.toList b.data.toList = n4 at *
    generalize chk a.data.toList = n5 at *
    have O := Lib.hid (And.intro o1 (And.intro o2 (And.intro o3 (And.intro o4 (And.intro o5 (And.intro o6 (And.intro o7 (And.intro o8 oA))))))))
    clear o1 o2 o3 o4 o5 o6 o7 o8 oA ht hf hf'
    go_enter Tryz.func3, Tryz.ntmps3
    go_wp2_with fail
    refine (hg.out _ _ (by go_cell) (by go_cell)).mono ?_
    rintro e w' ⟨rfl, rfl⟩
    have B0 := Lib.hid ((Below.refl w.heap.size w).alloc (Nat.le_refl _) (.cells #[.string a, .string b] 9))
    generalize w.alloc (.cells #[.string a, .string b] 9) = v0 at *
    go_wp2_with fail
    refine (O.out.1 _ B0.out).mono ?_
    rintro e v1 ⟨rfl, b1⟩
    have B1 := Lib.hid (B0.out.trans (b1.mono B0.out.size)); clear b1 B0
    go_wp2_with fail
    refine (O.out.2.1 _ B1.out).mono ?_
    rintro e v2 ⟨rfl, b2⟩
    have B2 := Lib.hid (B1.out.trans (b2.mono B1.out.size)); clear b2 B1
    go_wp2_with fail
    refine (O.out.2.2.1 _ B2.out).mono ?_
    rintro e v3 ⟨rfl, b3⟩
    have B3 := Lib.hid (B2.out.trans (b3.mono B2.out.size)); clear b3 B2
    go_wp2_with fail
    refine (O.out.2.2.2.1 _ B3.out).mono ?_
    rintro e v4 ⟨rfl, b4⟩
    have B4 := Lib.hid (B3.out.trans (b4.mono B3.out.size)); clear b4 B3
    go_wp2_with fail
    refine (O.out.2.2.2.2.1 _).mono ?_
    rintro e w' ⟨rfl, rfl⟩
    go_wp2_with fail
    refine (O.out.2.2.2.2.2.1 _ B4.out).mono ?_
    rintro e v5 ⟨rfl, b5⟩
    have B5 := Lib.hid (B4.out.trans (b5.mono B4.out.size)); clear b5 B4
    go_wp2_with fail
    refine (O.out.2.2.2.2.2.2.1 _).mono ?_
    rintro e w' ⟨rfl, rfl⟩
    go_wp2_with fail
    refine (O.out.2.2.2.2.2.2.2.1 _).mono ?_
    rintro e w' ⟨rfl, rfl⟩
    go_wp2_with fail
    refine (O.out.2.2.2.2.2.2.2.2 _ B5.out).mono ?_
    rintro e v6 ⟨rfl, b6⟩
    have B6 := Lib.hid (B5.out.trans (b6.mono B5.out.size)); clear b6 B5
    go_wp2
    go_ret
    exact ⟨rfl, B6.out⟩
end Go.Proofs.YtajonpcmgebbbaaGreatDoor.R

/- Proved here: Check, Add, Sub and Compare return the results of the reference implementation for any strings of the examined lengths. The law IntegerSums returns true for every input, and its arguments read behind the call as before. Conditions: the row's own, the listed tables hold their numbers. -/
-- needs kingpost/kingpostlaw01.IntegerSums
namespace Go.Proofs.YtajonpcmgebbbaaGreatDoor
open Go.ChangeShapes Go.WideShapes Go.ChangeAt Go.RowKit
open Go.ChangeMaps (open_string shut_string)

set_option maxRecDepth 100000 in
theorem integerSums_lifted (os : Os) (started : os.Started) (H : Type) (enc : TypeId × Value → H) :
    ReturnsInHanded {} Tryz.checked os 3 .any (fun w args => (Rows.integerSumsSpec.pre enc Tryz.prog Tryz.f3 [] false w args ∧ laidMetH Tryz.prog laid3 w) ∧ sizedMet enc Tryz.prog Tryz.f3 (OpenSpec.ofChange Rows.integerSumsSpec) false w args)
      (Rows.integerSumsSpec.post enc Tryz.prog Tryz.f3 false true false false) := by
  refine returnsInHanded_of_change_and (C := Tryz.checked) (X := fun w _ => laidMetH Tryz.prog laid3 w) (fun _ _ _ hh h => h.of_heap hh) own started (by kernel_rfl) Tryz.func3
    (ChangeSpec.witness_shaped (enc := enc) (C := Tryz.checked) (os := os) (X := fun w _ => laidMetH Tryz.prog laid3 w) false (World.doorLaid Tryz.prog 400 os) #[.string ⟨#[]⟩, .string ⟨#[]⟩] 8 rfl (World.shaped_of_RefB (by kernel_rfl) (by kernel_rfl)) (by kernel_rfl) (by kernel_rfl) (by kernel_rfl) (door_met os _)) ?_
  intro W base args ds gs before hval0 hW _ _ hL _
  have hval : ∀ (j : Nat) t v, Tryz.f3.params[j]? = some t → args[j]? = some v → Value.okWide Tryz.prog W .any base t v := hval0
  have hW' := hW
  obtain ⟨p, q, hA0, hV, rfl, hfz, hnd⟩ := hW
  have hA : DataW.TrodAll enc Tryz.prog W 0 (fun _ => true) true Tryz.f3.params.toList args.toList ds p := hA0
  rw [Tryz.params3] at hA hval
  obtain ⟨v0, v1, d0, d1, p0, p1, rfl, rfl, rfl, h0, h1⟩ := trodAll_two hA
  obtain ⟨rfl, rfl⟩ := trodVars_none hV
  obtain ⟨s0, rfl, rfl, rfl, z0⟩ := open_string Tryz.underlying9 (hval 0 9 v0 rfl rfl) h0
  obtain ⟨s1, rfl, rfl, rfl, z1⟩ := open_string Tryz.underlying9 (hval 1 9 v1 rfl rfl) h1
  clear hA0 hval0
  refine (R.IntegerSums_any s0 s1 W z0 z1 (tab_of_laid hL)).mono fun e W' ⟨he, bel⟩ => ?_
  subst he
  exact ⟨_, rfl, _, _, _, [], _, [], hW', trodAll_mk1 (shut_bool Tryz.underlying4 _), trodAll_mk2 (shut_string Tryz.underlying9 z0) (shut_string Tryz.underlying9 z1), rfl, bel.frame _, fun h => by cases h⟩

theorem integerSums_over : Rows.IntegerSumsSaid :=
  OpenClaim.holds_of_wide 3 Tryz.f3 rfl rfl rfl rfl rfl rfl rfl ⟨rfl, rfl, rfl, rfl, rfl⟩ rfl rfl rfl rfl rfl (by kernel_rfl) Tryz.func3 (by kernel_rfl)
    (of_decide_eq_true (by kernel_rfl)) (by unfold Func.isWrapper; first | (rw [if_pos (by decide +kernel)]; kernel_rfl) | (rw [if_neg (by decide +kernel)]; exact ⟨rfl, rfl⟩))
    (fun os started H enc _ => integerSums_lifted os started H enc)

theorem integerSums_proved : Rows.IntegerSumsCardSaid :=
  Claim7.holds_tied_plain_at .later [] [.data, .data, .data] true (true, "91905a36c32b47b6c8c3e2a7cfbda120a1d27bdd775bd2f701c4f738a358eecc") false
    integerSums_over (fun _ h => by cases h) (by kernel_rfl) (fun _ h => by cases h) integerSums_row_tie rfl ⟨rfl, rfl⟩ (by kernel_rfl) rfl
    (fun f fn hf hfn => by
      obtain rfl : f = 3 := Option.some.inj ((show Tryz.prog.funcNamed "kingpost/kingpostlaw01.IntegerSums" = some 3 by kernel_rfl).symm.trans hf) |>.symm
      obtain rfl : fn = Tryz.f3 := (Option.some.inj (Tryz.func3.symm.trans hfn)).symm
      exact ⟨by kernel_rfl, fun j t ht => by
        rw [Tryz.params3] at ht
        have hm : t ∈ [9, 9] := by simpa using Array.mem_of_getElem? ht
        have hall : ([9, 9].all fun u => !Tryz.prog.wantsStandIn u) = true := by kernel_rfl
        exact (show Tryz.prog.wantsStandIn t = false by simpa using List.all_eq_true.1 hall t hm)⟩)
    (by kernel_rfl)
#print axioms integerSums_proved
end Go.Proofs.YtajonpcmgebbbaaGreatDoor

