/- Parts of the proof of the text YtmafghdgmdbpnaaGreatDoorQY30. -/
import Derived.Test.YtmafghdgmdbpnaaGreatDoorQY1
import Derived.Test.YtmafghdgmdbpnaaGreatDoorQY21
set_option linter.all false
set_option maxRecDepth 100000
set_option maxHeartbeats 8000000
namespace Go.Proofs.YtmafghdgmdbpnaaGreatDoor.R
open Go.RowKit
theorem val_agg (l : List UInt8) : valOf l = sgnZ (isNeg l) (natOf (szL l)) := (val_sgn l).symm
theorem valOf_17 {l : List UInt8} (h : chk l = 0) (hl : l.length ≤ 17) : -100000000000000000 < valOf l ∧ valOf l < 100000000000000000 := by
 have h1 := natOf_take_17 (szL l) (chk_dig h) (szL l).length (Nat.le_trans (szL_length l) hl)
 rw [List.take_length] at h1
 rw [valOf_szL]; split <;> omega
theorem natOf_pow {l : List UInt8} (h : chk l = 0) : (valOf l).natAbs < 10 ^ l.length := by
 rw [szL_valAbs]
 exact Nat.lt_of_lt_of_le (natOf_lt _ (chk_dig h)) (Nat.pow_le_pow_right (by decide) (szL_length l))
theorem mul_18 {a b : List UInt8} (ha : chk a = 0) (hb : chk b = 0) (h : a.length + b.length ≤ 18) : -1000000000000000000 < valOf a * valOf b ∧ valOf a * valOf b < 1000000000000000000 := by
 have h1 := natOf_pow ha
 have h2 := natOf_pow hb
 have h3 : (valOf a).natAbs * (valOf b).natAbs ≤ 10 ^ a.length * 10 ^ b.length := Nat.mul_le_mul (Nat.le_of_lt h1) (Nat.le_of_lt h2)
 have h4 : (valOf a).natAbs * (valOf b).natAbs < 10 ^ a.length * 10 ^ b.length := by
   rcases Nat.eq_zero_or_pos (valOf a).natAbs with h | h
   · rw [h, Nat.zero_mul]; exact Nat.mul_pos (Nat.pow_pos (by decide)) (Nat.pow_pos (by decide))
   · exact Nat.lt_of_lt_of_le (Nat.mul_lt_mul_of_pos_left h2 h) (Nat.mul_le_mul_right _ (Nat.le_of_lt h1))
 rw [← Nat.pow_add, ← Int.natAbs_mul] at h4
 have h5 : 10 ^ (a.length + b.length) ≤ 10 ^ 18 := Nat.pow_le_pow_right (by decide) h
 have h6 : (10 : Nat) ^ 18 = 1000000000000000000 := by decide
 omega
theorem res_small {z : Int} (h0 : -1000000000000000000 < z) (h1 : z < 1000000000000000000) : resB z = strB z ∧ resE z = 0 := by
 have h : z.natAbs < lim := small_lim (by omega)
 exact ⟨if_pos h, if_pos h⟩
theorem out_bad {e : Int} (h : e ≠ 0) (z : Int) : outB e z = ⟨#[]⟩ ∧ outE e z = e := ⟨if_neg h, if_neg h⟩
theorem out_ok (z : Int) : outB 0 z = resB z ∧ outE 0 z = resE z := ⟨if_pos rfl, if_pos rfl⟩
theorem Mul_any (a b : ByteArray) (w : World) (ha : a.size ≤ 1000) (hb : b.size ≤ 1000) (ht : Tab w) :
   Calls Tryz.prog 95 #[.string a, .string b] w fun e W' => e = .returned (.tuple #[.string (outB (chk2 a.data.toList b.data.toList) (valOf a.data.toList * valOf b.data.toList)), .int .i64 (outE (chk2 a.data.toList b.data.toList) (valOf a.data.toList * valOf b.data.toList))]) ∧ Below w.heap.size w W' := by
 have cb := both_any a b w (by unfold maxLen; omega) (by unfold maxLen; omega)
 by_cases hc : chk2 a.data.toList b.data.toList = 0
 · obtain ⟨k1, k2⟩ := chk2_zero hc
   rw [hc] at cb
   rw [hc, (out_ok _).1, (out_ok _).2]
   have CB := Lib.hid cb
   clear cb hc
   by_cases hs : a.size + b.size ≤ 18 ∧ a.size ≤ 17 ∧ b.size ≤ 17
   · obtain ⟨hs, hs1, hs2⟩ := hs
     have ct := two_yes a b w hs1 hs2 k1 k2
     have hm := mul_18 k1 k2 (by rw [size_len, size_len]; exact hs)
     obtain ⟨e1, e2⟩ := res_small hm.1 hm.2
     have b1 := valOf_17 k1 (by rw [size_len]; omega)
     have b2 := valOf_17 k2 (by rw [size_len]; omega)
     rw [e1, e2]
     clear e1 e2 k1 k2
     generalize valOf a.data.toList = x at *
     generalize valOf b.data.toList = y at *
     have ci := fun W (h : Below w.heap.size w W) => Itoa_any (x * y) W (by omega) (by omega) (ht.next h)
     have C := Lib.hid (And.intro ct ci)
     obtain ⟨m1, m2⟩ := hm
     clear ct ci ht
     go_enter Tryz.func95, Tryz.ntmps95
     go_wp2_with fail
     refine CB.out.mono ?_
     rintro e w' ⟨rfl, rfl⟩
     go_wp2_with fail
     refine C.out.1.mono ?_
     rintro e w' ⟨rfl, rfl⟩
     go_wp2_with fail
     refine (C.out.2 _ (Below.refl _ _)).mono ?_
     rintro e w1 ⟨rfl, hb1⟩
     have HB := Lib.hid hb1
     clear hb1
     go_wp2
     go_ret2
     exact ⟨rfl, HB.out⟩
   · have n1 := dg_lim' (nat_lim k1)
     have n2 := dg_lim' (nat_lim k2)
     have r1 := fun W => read_any a W (by omega) k1
     have r2 := fun W => read_any b W (by omega) k2
     rw [val_agg, val_agg]
     have HT := Lib.hid (show (a.size ≤ 17 ∧ b.size ≤ 17) ∨ ¬ (a.size ≤ 17 ∧ b.size ≤ 17) from Classical.em _)
     have t1 := fun h : a.size ≤ 17 ∧ b.size ≤ 17 => two_yes a b w h.1 h.2 k1 k2
     have t2 := fun h : ¬ (a.size ≤ 17 ∧ b.size ≤ 17) => two_no a b w h k1 (by unfold maxLen; omega) (by unfold maxLen; omega)
     have CT := Lib.hid (And.intro t1 t2)
     clear t1 t2
     generalize isNeg a.data.toList = na at *
     generalize isNeg b.data.toList = nb at *
     generalize natOf (szL a.data.toList) = x at *
     generalize natOf (szL b.data.toList) = y at *
     have cm := fun va vb W (h1 : IsNat W va x) (h2 : IsNat W vb y) => mul_any na nb va vb x y W h1 h2 (by omega) (by omega)
     have hxy : (dg (x * y)).length ≤ 10000 := by
       refine (dg_length_le _ _).2 ?_
       have q1 := (dg_length_le x 50).1 n1
       have q2 := (dg_length_le y 50).1 n2
       refine Nat.lt_of_lt_of_le (Nat.mul_lt_mul'' q1 q2) ?_
       rw [← Nat.pow_add]
       exact B_le (50 + 50) 10000 (by decide)
     have cr := fun ng v W (h : IsNat W v (x * y)) => result_any ng v (x * y) W h hxy
     have C := Lib.hid (And.intro r1 (And.intro r2 (And.intro cm cr)))
     clear r1 r2 cm cr k1 k2 n1 n2 hxy
     rcases HT.out with hs1 | hs1
     · have hsum : ¬ ((a.size : Int) + b.size ≤ 18) := by omega
       have CT2 := Lib.hid (CT.out.1 hs1)
       clear CT
       generalize valOf a.data.toList = zx at *
       generalize valOf b.data.toList = zy at *
       go_enter Tryz.func95, Tryz.ntmps95
       go_wp2_with fail
       refine CB.out.mono ?_
       rintro e w' ⟨rfl, rfl⟩
       go_wp2_with fail
       refine CT2.out.mono ?_
       rintro e w' ⟨rfl, rfl⟩
       go_wp2_with fail
       refine (C.out.1 _).mono ?_
       rintro e w1 ⟨va, rfl, hva, _, hb1⟩
       have H1 := Lib.hid (And.intro hva hb1)
       clear hva hb1
       go_wp2_with fail
       refine (C.out.2.1 _).mono ?_
       rintro e w2 ⟨vb, rfl, hvb, _, hb2⟩
       have H2 := Lib.hid (And.intro (H1.out.1.next hb2) (And.intro hvb (H1.out.2.trans (hb2.mono H1.out.2.size))))
       clear hvb hb2 H1
       go_wp2_with fail
       refine (C.out.2.2.1 _ _ _ H2.out.1 H2.out.2.1).mono ?_
       rintro e w3 ⟨ng, v, rfl, hv, hz, _, hb3⟩
       have H3 := Lib.hid (And.intro hv (And.intro hz (H2.out.2.2.trans (hb3.mono H2.out.2.2.size))))
       clear hv hz hb3 H2
       go_wp2_with fail
       refine (C.out.2.2.2 _ _ _ H3.out.1).mono ?_
       rw [H3.out.2.1]
       rintro e w4 ⟨rfl, hb4⟩
       have H4 := Lib.hid (H3.out.2.2.trans (hb4.mono H3.out.2.2.size))
       clear hb4 H3 C
       go_wp2
       go_ret2
       exact ⟨rfl, H4.out⟩
     · have CT2 := Lib.hid (CT.out.2 hs1)
       clear CT
       go_enter Tryz.func95, Tryz.ntmps95
       go_wp2_with fail
       refine CB.out.mono ?_
       rintro e w' ⟨rfl, rfl⟩
       go_wp2_with fail
       refine CT2.out.mono ?_
       rintro e w' ⟨tx, ty, rfl, rfl⟩
       go_wp2_with fail
       refine (C.out.1 _).mono ?_
       rintro e w1 ⟨va, rfl, hva, _, hb1⟩
       have H1 := Lib.hid (And.intro hva hb1)
       clear hva hb1
       go_wp2_with fail
       refine (C.out.2.1 _).mono ?_
       rintro e w2 ⟨vb, rfl, hvb, _, hb2⟩
       have H2 := Lib.hid (And.intro (H1.out.1.next hb2) (And.intro hvb (H1.out.2.trans (hb2.mono H1.out.2.size))))
       clear hvb hb2 H1
       go_wp2_with fail
       refine (C.out.2.2.1 _ _ _ H2.out.1 H2.out.2.1).mono ?_
       rintro e w3 ⟨ng, v, rfl, hv, hz, _, hb3⟩
       have H3 := Lib.hid (And.intro hv (And.intro hz (H2.out.2.2.trans (hb3.mono H2.out.2.2.size))))
       clear hv hz hb3 H2
       go_wp2_with fail
       refine (C.out.2.2.2 _ _ _ H3.out.1).mono ?_
       rw [H3.out.2.1]
       rintro e w4 ⟨rfl, hb4⟩
       have H4 := Lib.hid (H3.out.2.2.trans (hb4.mono H3.out.2.2.size))
       clear hb4 H3 C
       go_wp2
       go_ret2
       exact ⟨rfl, H4.out⟩
 · have CB := Lib.hid cb
   obtain ⟨o1, o2⟩ := out_bad hc (valOf a.data.toList * valOf b.data.toList)
   rw [o1, o2]
   clear o1 o2 cb
   generalize chk2 a.data.toList b.data.toList = c at *
   have hn : (c != 0) = true := by rw [bne_iff_ne]; exact hc
   clear hc
   go_enter Tryz.func95, Tryz.ntmps95
   go_wp2_with fail
   refine CB.out.mono ?_
   rintro e w' ⟨rfl, rfl⟩
   go_wp2
   go_ret2
   exact ⟨rfl, Below.refl _ _⟩
end Go.Proofs.YtmafghdgmdbpnaaGreatDoor.R
namespace Go.Proofs.YtmafghdgmdbpnaaGreatDoor.R
open Go.RowKit
theorem Divide_short (a b : ByteArray) (w : World) (hs1 : a.size ≤ 17) (hs2 : b.size ≤ 17) (k1 : chk a.data.toList = 0) (k2 : chk b.data.toList = 0) (h0 : valOf b.data.toList ≠ 0) (ht : Tab w) :
   Calls Tryz.prog 83 #[.string a, .string b] w fun e W' => e = .returned (.tuple #[.string (strB ((valOf a.data.toList).fdiv (valOf b.data.toList))), .string (strB ((valOf a.data.toList).fmod (valOf b.data.toList))), .int .i64 0]) ∧ Below w.heap.size w W' := by
 have cb := both_any a b w (by unfold maxLen; omega) (by unfold maxLen; omega)
 have hc2 : chk2 a.data.toList b.data.toList = 0 := by unfold chk2; rw [if_pos k1]; exact k2
 rw [hc2] at cb
 have hb48 : (b.toList == [48]) = false := by
   rw [ByteArray.toList_eq, beq_eq_false_iff_ne]
   intro e; rw [e] at h0; exact h0 rfl
 have ct := two_yes a b w hs1 hs2 k1 k2
 have b1 := valOf_17 k1 (by rw [size_len]; omega)
 have b2 := valOf_17 k2 (by rw [size_len]; omega)
 have C := Lib.hid (And.intro cb ct)
 have HT := Lib.hid ht
 clear cb ct k1 k2 hc2 ht
 generalize valOf a.data.toList = x at *
 generalize valOf b.data.toList = y at *
 obtain ⟨x0, x1⟩ := b1
 obtain ⟨y0, y1⟩ := b2
 have hq := tdiv_bd x y (by omega) (by omega)
 have hr := tmod_bd x y (by omega) (by omega)
 have hz : (y == 0) = false := by rw [beq_eq_false_iff_ne]; exact h0
 have e1 := Lib.hid (fun h => @fdiv_same x y h0 h)
 have e2 := Lib.hid (fun h h' => @fdiv_other x y h0 h h')
 have ci := Lib.hid (fun (z : Int) W (h1 : -1000000000000000001 < z) (h2 : z < 1000000000000000001) (h : Below w.heap.size w W) => Itoa_any z W (by omega) (by omega) (HT.out.next h))
 obtain ⟨q0, q1⟩ := hq
 obtain ⟨r0, r1⟩ := hr
 go_enter Tryz.func83, Tryz.ntmps83
 go_wp2_with fail
 refine C.out.1.mono ?_
 rintro e w' ⟨rfl, rfl⟩
 go_wp2_with fail
 refine C.out.2.mono ?_
 rintro e w' ⟨rfl, rfl⟩
 go_wp2
 go_quiet (fail)
 have HB0 := Lib.hid (Below.drewK w.heap.size w nq)
 clear hb48 hz h0
 generalize x.tdiv y = q at *
 generalize x.tmod y = r at *
 generalize w.drewN nq = w0 at *
 by_cases c0 : r = 0
 · have c1 : (r != 0) = false := by simpa using c0
   obtain ⟨f1, f2⟩ := e1.out (.inl c0)
   have F := Lib.hid (And.intro f1 f2)
   clear f1 f2 c0 e1 e2
   go_wp2_with fail
   refine (ci.out q _ (by omega) (by omega) HB0.out).mono ?_
   rintro e w1 ⟨rfl, hb1⟩
   have HB1 := Lib.hid (HB0.out.trans (hb1.mono HB0.out.size))
   clear hb1
   go_wp2_with fail
   refine (ci.out r _ (by omega) (by omega) HB1.out).mono ?_
   rintro e w2 ⟨rfl, hb2⟩
   have HB2 := Lib.hid (HB1.out.trans (hb2.mono HB1.out.size))
   clear hb2
   go_wp2
   go_ret3
   exact ⟨by rw [F.out.1, F.out.2]; rfl, HB2.out⟩
 · have c1 : (r != 0) = true := by simpa using c0
   by_cases c2 : r < 0 <;> by_cases c3 : y < 0
   all_goals
     first
     | (obtain ⟨f1, f2⟩ := e1.out (.inr (by omega))
        have F := Lib.hid (And.intro f1 f2)
        clear f1 f2 c0 e1 e2
        go_wp2_with fail
        refine (ci.out q _ (by omega) (by omega) HB0.out).mono ?_
        rintro e w1 ⟨rfl, hb1⟩
        have HB1 := Lib.hid (HB0.out.trans (hb1.mono HB0.out.size))
        clear hb1
        go_wp2_with fail
        refine (ci.out r _ (by omega) (by omega) HB1.out).mono ?_
        rintro e w2 ⟨rfl, hb2⟩
        have HB2 := Lib.hid (HB1.out.trans (hb2.mono HB1.out.size))
        clear hb2
        go_wp2
        go_ret3
        exact ⟨by rw [F.out.1, F.out.2]; rfl, HB2.out⟩)
     | (obtain ⟨f1, f2⟩ := e2.out c0 (by omega)
        have F := Lib.hid (And.intro f1 f2)
        clear f1 f2 c0 e1 e2
        go_wp2_with fail
        refine (ci.out (q - 1) _ (by omega) (by omega) HB0.out).mono ?_
        rintro e w1 ⟨rfl, hb1⟩
        have HB1 := Lib.hid (HB0.out.trans (hb1.mono HB0.out.size))
        clear hb1
        go_wp2_with fail
        refine (ci.out (r + y) _ (by omega) (by omega) HB1.out).mono ?_
        rintro e w2 ⟨rfl, hb2⟩
        have HB2 := Lib.hid (HB1.out.trans (hb2.mono HB1.out.size))
        clear hb2
        go_wp2
        go_ret3
        exact ⟨by rw [F.out.1, F.out.2]; rfl, HB2.out⟩)
end Go.Proofs.YtmafghdgmdbpnaaGreatDoor.R
