/- Parts of the proof of the text YtkjhaengllpaoaaGreatDoorZB27. -/
import Derived.Lib.TrailingZeros
import Derived.Test.YtkjhaengllpaoaaGreatDoorZB1
import Derived.Test.YtkjhaengllpaoaaGreatDoorZB2
import Derived.Test.YtkjhaengllpaoaaGreatDoorZB6
set_option linter.all false
set_option maxRecDepth 100000
set_option maxHeartbeats 8000000
namespace Go.Proofs.YtkjhaengllpaoaaGreatDoor
open Go.RowKit
theorem Below.drewN' {w : World} (n : Nat) : Below w.heap.size w (w.drewN n) := ⟨rfl, rfl, rfl, Nat.le_refl _, fun _ _ => rfl⟩
theorem fdiv_bd (a b : Int) (hb : b ≠ 0) (ha : -1000000000000000000 < a) (ha' : a < 1000000000000000000) : -1000000000000000001 < a.fdiv b ∧ a.fdiv b < 1000000000000000001 := by
 have h := tdiv_bd a b ha ha'
 by_cases h0 : a.tmod b = 0 ∨ ((a.tmod b < 0) ↔ (b < 0))
 · rw [(fdiv_same hb h0).1]; omega
 · rw [not_or] at h0; rw [(fdiv_other hb h0.1 h0.2).1]; omega
theorem fmod_bd (a b : Int) (hb : b ≠ 0) (h1 : -1000000000000000000 < b) (h2 : b < 1000000000000000000) : -1000000000000000000 < a.fmod b ∧ a.fmod b < 1000000000000000000 := by
 have h := tmod_lt a b hb
 by_cases h0 : a.tmod b = 0 ∨ ((a.tmod b < 0) ↔ (b < 0))
 · rw [(fdiv_same hb h0).2]; omega
 · rw [not_or] at h0; rw [(fdiv_other hb h0.1 h0.2).2]; omega
theorem Divide_small (a b : ByteArray) (w : World) (k1 : chk a.data.toList = 0) (k2 : chk b.data.toList = 0) (h0 : valOf b.data.toList ≠ 0) (s1 : a.size ≤ 18) (s2 : b.size ≤ 18) (ht : Tab w) :
   Calls Tryz.prog 62 #[.string a, .string b] w fun e W' => e = .returned (.tuple #[.string (strB ((valOf a.data.toList).fdiv (valOf b.data.toList))), .string (strB ((valOf a.data.toList).fmod (valOf b.data.toList))), .int .i64 0]) ∧ Below w.heap.size w W' := by
 have cb := checkBoth_any a b w (by unfold maxLen; omega) (by unfold maxLen; omega)
 have hc2 : chk2 a.data.toList b.data.toList = 0 := by unfold chk2; rw [if_pos k1]; exact k2
 rw [hc2] at cb
 have hb48 : (b.toList == [48]) = false := by
   rw [ByteArray.toList_eq, beq_eq_false_iff_ne]
   intro e; rw [e] at h0; exact h0 rfl
 have i1 := fun W => isShort_any a W (by unfold maxLen; omega)
 have i2 := fun W => isShort_any b W (by unfold maxLen; omega)
 have t1 : decide ((a.size : Int) ≤ 18) = true := by simp; omega
 have t2 : decide ((b.size : Int) ≤ 18) = true := by simp; omega
 rw [t1] at i1; rw [t2] at i2
 have m1 := fun W => machine_any a W s1 k1
 have m2 := fun W => machine_any b W s2 k2
 have v1 := valOf_short k1 (by rw [size_len]; exact s1)
 have v2 := valOf_short k2 (by rw [size_len]; exact s2)
 generalize valOf a.data.toList = x at *
 generalize valOf b.data.toList = y at *
 have dm := fun W => divideMachine_any x y W v1.1 v1.2 v2.1 v2.2 h0
 have q := fdiv_bd x y h0 v1.1 v1.2
 have r := fmod_bd x y h0 v2.1 v2.2
 generalize x.fdiv y = d at *
 generalize x.fmod y = m at *
 have o1 := fun W (h : Below w.heap.size w W) => ofMachine_any d W (by omega) (by omega) (ht.next h)
 have o2 := fun W (h : Below w.heap.size w W) => ofMachine_any m W (by omega) (by omega) (ht.next h)
 have C := Lib.hid (And.intro cb (And.intro i1 (And.intro i2 (And.intro m1 (And.intro m2 (And.intro dm (And.intro o1 o2)))))))
 clear cb i1 i2 m1 m2 dm o1 o2 v1 v2 q r t1 t2 hc2 h0 ht k1 k2
 go_enter Tryz.func62, Tryz.ntmps62
 go_wp2_with fail
 refine C.out.1.mono ?_
 rintro e w' ⟨rfl, rfl⟩
 go_wp2_with fail
 refine (C.out.2.1 _).mono ?_
 rintro e w' ⟨rfl, rfl⟩
 go_wp2_with fail
 refine (C.out.2.2.1 _).mono ?_
 rintro e w' ⟨rfl, rfl⟩
 go_wp2_with fail
 refine (C.out.2.2.2.1 _).mono ?_
 rintro e w' ⟨rfl, rfl⟩
 go_wp2_with fail
 refine (C.out.2.2.2.2.1 _).mono ?_
 rintro e w' ⟨rfl, rfl⟩
 go_wp2_with fail
 refine (C.out.2.2.2.2.2.1 _).mono ?_
 rintro e w' ⟨rfl, nn, rfl⟩
 go_wp2_with fail
 refine (C.out.2.2.2.2.2.2.1 _ (Below.drewN' nn)).mono ?_
 rintro e w1 ⟨rfl, b1⟩
 have H1 := Lib.hid ((Below.drewN' nn).trans (show Below w.heap.size (w.drewN nn) w1 from b1)); clear b1
 go_wp2_with fail
 refine (C.out.2.2.2.2.2.2.2 _ H1.out).mono ?_
 rintro e w2 ⟨rfl, b2⟩
 have H2 := Lib.hid (H1.out.trans (b2.mono H1.out.size)); clear b2 H1 C
 go_wp2
 go_ret3
 exact ⟨rfl, H2.out⟩
theorem str_of (z : Int) (l : List UInt8) (h : Lib.itoa z = l) : strB z = ⟨l.toArray⟩ := by unfold strB; rw [h]
theorem strB_chk {z : Int} (h : z.natAbs < lim) : chk (strB z).data.toList = 0 := by rw [strB_data, chk_itoa, if_pos h]
theorem strB_val (z : Int) : valOf (strB z).data.toList = z := by rw [strB_data, valOf_itoa]
theorem strB_size {z : Int} (h : z.natAbs < lim) : (strB z).size ≤ 301 := chk_size (strB_chk h)
theorem strB_chk2 {x y : Int} (hx : x.natAbs < lim) (hy : y.natAbs < lim) : chk2 (strB x).data.toList (strB y).data.toList = 0 := by unfold chk2; rw [if_pos (strB_chk hx), strB_chk hy]
theorem small_lim {z : Int} (h : z.natAbs < 1000000000000000000000000000000000000000) : z.natAbs < lim := Nat.lt_of_lt_of_le h lim_big
theorem Add_str (x y : Int) (w : World) (hx : x.natAbs < lim) (hy : y.natAbs < lim) (hz : (x + y).natAbs < lim) (ht : Tab w) :
   Calls Tryz.prog 98 #[.string (strB x), .string (strB y)] w fun e W' => e = .returned (.tuple #[.string (strB (x + y)), .int .i64 0]) ∧ Below w.heap.size w W' := by
 have c := Add_any (strB x) (strB y) w (by have := strB_size hx; unfold maxLen; omega) (by have := strB_size hy; unfold maxLen; omega) ht
 rw [strB_chk2 hx hy, strB_val, strB_val, outB_ok, outE_ok] at c
 unfold resB resE at c
 rwa [if_pos hz, if_pos hz] at c
theorem Mul_str (x y : Int) (w : World) (hx : x.natAbs < lim) (hy : y.natAbs < lim) (hz : (x * y).natAbs < lim) (ht : Tab w) :
   Calls Tryz.prog 97 #[.string (strB x), .string (strB y)] w fun e W' => e = .returned (.tuple #[.string (strB (x * y)), .int .i64 0]) ∧ Below w.heap.size w W' := by
 have c := Mul_any (strB x) (strB y) w (by have := strB_size hx; unfold maxLen; omega) (by have := strB_size hy; unfold maxLen; omega) ht
 rw [strB_chk2 hx hy, strB_val, strB_val, outB_ok, outE_ok] at c
 unfold resB resE at c
 rwa [if_pos hz, if_pos hz] at c
theorem Compare_str (x y : Int) (w : World) (hx : x.natAbs < lim) (hy : y.natAbs < lim) :
   Calls Tryz.prog 254 #[.string (strB x), .string (strB y)] w fun e W' => e = .returned (.tuple #[.int .i64 (cmpZ x y), .int .i64 0]) ∧ w = W' := by
 have c := Compare_any (strB x) (strB y) w (by have := strB_size hx; unfold maxLen; omega) (by have := strB_size hy; unfold maxLen; omega)
 rwa [strB_chk2 hx hy, strB_val, strB_val, if_pos rfl] at c
theorem strB_len (z : Int) : (strB z).size = (Lib.itoa z).length := by rw [← size_len, strB_data]
theorem chk_11 {l : List UInt8} (h : szL l = [] ∨ ((szL l).head? = some 48 ∧ l ≠ [48])) : chk l = 11 := by
 unfold chk; split
 · rfl
 · first | rfl | exact if_pos h
theorem tenTo_succ (k : Nat) : tenTo (k + 1) = 10 * tenTo k := by unfold tenTo; rw [Nat.pow_succ, Nat.mul_comm]
theorem tenTo_add (j k : Nat) : tenTo (j + k) = tenTo j * tenTo k := Nat.pow_add _ _ _
def Bd (k : Nat) (z : Int) : Prop := z.natAbs < tenTo k
theorem Bd.add {k : Nat} {x y : Int} (hx : Bd k x) (hy : Bd k y) : Bd (k + 1) (x + y) := by
 unfold Bd at *; rw [tenTo_succ]; omega
theorem Bd.sub {k : Nat} {x y : Int} (hx : Bd k x) (hy : Bd k y) : Bd (k + 1) (x - y) := by
 unfold Bd at *; rw [tenTo_succ]; omega
theorem Bd.mul {j k : Nat} {x y : Int} (hx : Bd j x) (hy : Bd k y) : Bd (j + k) (x * y) := by
 unfold Bd at *; rw [tenTo_add, Int.natAbs_mul]; exact Nat.mul_lt_mul'' hx hy
theorem Bd.lt {k : Nat} {z : Int} (h : Bd k z) (hk : k ≤ 300) : z.natAbs < lim := Nat.lt_of_lt_of_le h (tenTo_mono hk)
theorem Bd.up {j k : Nat} {z : Int} (h : Bd j z) (hk : j ≤ k) : Bd k z := Nat.lt_of_lt_of_le h (tenTo_mono hk)
def dOK (l : List UInt8) : Bool := chk l == 0 && decide ((szL l).length ≤ 18)
theorem dOK_bad {l : List UInt8} (h : chk l ≠ 0 ∨ 18 < (szL l).length) : dOK l = false := by
 unfold dOK
 rcases h with h | h
 · rw [show (chk l == 0) = false by simpa using h]; rfl
 · rw [decide_eq_false (by omega), Bool.and_false]
theorem dOK_good {l : List UInt8} (ha : (szL l).all isDig = true) (hne : szL l ≠ []) (h48 : ¬ ((szL l).head? = some 48 ∧ l ≠ [48])) (hl : (szL l).length ≤ 18) : dOK l = true := by
 unfold dOK
 have : chk l = 0 := by
   rw [chk_good ha, if_neg (by rintro (h | h); exact hne h; exact h48 h), if_neg (by omega)]
 rw [this, decide_eq_true hl]; rfl
def dVal (l : List UInt8) : Int := if dOK l then valOf l else 0
theorem dVal_ok {l : List UInt8} (h : dOK l = true) : dVal l = valOf l := if_pos h
theorem ret_no {l : List UInt8} (h : dOK l = false) : Ending.returned (.tuple #[.int .i64 0, .bool false]) = .returned (.tuple #[.int .i64 (dVal l), .bool (dOK l)]) := by unfold dVal; rw [h]; rfl
theorem ret_yes {l : List UInt8} {v : Int} (h : dOK l = true) (hv : v = valOf l) : Ending.returned (.tuple #[.int .i64 v, .bool true]) = .returned (.tuple #[.int .i64 (dVal l), .bool (dOK l)]) := by unfold dVal; rw [h, hv]; rfl
theorem head_size {s : ByteArray} (h : 0 < s.size) : s.data.toList.head? = some s[0] := by obtain ⟨t, ht⟩ := data_cons h; rw [ht]; rfl
theorem ext_size (s : ByteArray) : (s.extract 1 s.size).size = s.size - 1 := by rw [ByteArray.size_extract]; omega
theorem readDigits_neg (s : ByteArray) (w : World) (hs : s.size ≤ maxLen) (hn : isNeg s.data.toList = true) (h1 : 1 < s.size) :
   Calls Tryz.prog 127 #[.string s] w fun e W' => e = .returned (.tuple #[.int .i64 (dVal s.data.toList), .bool (dOK s.data.toList)]) ∧ w = W' := by
 unfold maxLen at hs
 have hsz := ext_size s
 obtain ⟨t, ht⟩ : ∃ t, s.extract 1 s.size = t := ⟨_, rfl⟩
 have htl : t.data.toList = szL s.data.toList := by rw [← ht, ← szB_data]; unfold szB; rw [if_pos hn]
 rw [ht] at hsz
 have h45 : ((s[0].toNat : Int) == 45) = true := (isNeg_pos (by omega)).trans hn
 have hE : (s.toList == [48]) = false := by
   rw [ByteArray.toList_eq, beq_eq_false_iff_ne]; intro e; have := congrArg List.length e; rw [size_len] at this; simp at this; omega
 have hg1 : (1 : Int) < s.size := by omega
 have hte := empty_false (s := t) (by omega)
 have HN := Lib.hid hn
 have HT := Lib.hid htl
 clear hn htl
 have h0t : 0 < t.size := by omega
 have hl : (szL s.data.toList).length = t.size := by rw [← HT.out, size_len]
 by_cases h18 : 18 < t.size
 · have h18' : (18 : Int) < t.size := by omega
   have hr := Lib.hid (dOK_bad (l := s.data.toList) (.inr (by omega)))
   clear hl
   go_enter Tryz.func127, Tryz.ntmps127
   go_wp2
   go_ret2
   exact ⟨ret_no hr.out, rfl⟩
 have h18' : ¬ (18 : Int) < t.size := by omega
 by_cases h48 : ((t[0].toNat : Int) == 48) = true
 · have hc : chk s.data.toList = 11 := chk_11 (.inr ⟨by
     rw [← HT.out, head_size (by omega)]
     have := u8_eq t[0] 48 (by decide)
     rw [show ((48 : Nat) : Int) = 48 from rfl, h48] at this
     exact congrArg some (by simpa using this.symm), fun e => by have := congrArg List.length e; rw [size_len] at this; simp at this; omega⟩)
   have hr := Lib.hid (dOK_bad (l := s.data.toList) (.inl (by rw [hc]; decide)))
   clear hl hc
   go_enter Tryz.func127, Tryz.ntmps127
   go_wp2
   go_ret2
   exact ⟨ret_no hr.out, rfl⟩
 · have h48' : ((t[0].toNat : Int) == 48) = false := by simpa using h48
   have HF := Lib.hid (show szL s.data.toList ≠ [] ∧ ¬ ((szL s.data.toList).head? = some 48 ∧ s.data.toList ≠ [48]) ∧ (szL s.data.toList).length ≤ 18 from ⟨fun e => by rw [e] at hl; simp at hl; omega, fun ⟨e, _⟩ => by
     rw [← HT.out, head_size (by omega)] at e
     have e := Option.some.inj e
     rw [e] at h48'; exact absurd h48' (by decide), by omega⟩)
   clear hl h48
   go_enter Tryz.func127, Tryz.ntmps127
   go_wp2
   go_loop [6, 38] (fun n i => ∃ k : Nat, k ≤ t.size ∧ i = .int .i64 k ∧ n = .int .i64 (natOf (t.data.toList.take k) : Nat) ∧ Hid ((t.data.toList.take k).all isDig = true)) (fun _ i => t.size - (intOf i).toNat)
   case atStart => exact ⟨0, Nat.zero_le _, rfl, rfl, rfl⟩
   case round =>
     obtain ⟨k, hk, rfl, rfl, hd⟩ := hrel
     by_cases hlt : k < t.size
     · by_cases h3 : (t[k].toNat : Int) < 48
       · go_wp2
         go_ret2
         refine ⟨ret_no (dOK_bad (.inl ?_)), rfl⟩
         rw [chk_bad]
         · decide
         · rw [← HT.out, List.all_eq_false]; exact ⟨t[k], mem_get t k hlt, by rw [isDig_iff]; omega⟩
       · by_cases h4 : (57 : Int) < t[k].toNat
         · go_wp2
           go_ret2
           refine ⟨ret_no (dOK_bad (.inl ?_)), rfl⟩
           rw [chk_bad]
           · decide
           · rw [← HT.out, List.all_eq_false]; exact ⟨t[k], mem_get t k hlt, by rw [isDig_iff]; omega⟩
         · have hdk : isDig t[k] = true := by rw [isDig_iff]; omega
           have hd' : Hid ((t.data.toList.take (k + 1)).all isDig = true) := by
             show (t.data.toList.take (k + 1)).all isDig = true
             rw [take_snoc t k hlt, List.all_append, hd.out]; simp [hdk]
           have hn : natOf (t.data.toList.take k) < 1000000000000000000 := by
             refine Nat.lt_of_lt_of_le (natOf_lt _ (fun c hc => List.all_eq_true.1 hd.out c hc)) ?_
             exact Nat.le_trans (Nat.pow_le_pow_right (by decide) (Nat.le_trans (List.length_take_le _ _) (by omega : k ≤ 18))) (by decide)
           have HS : Hid (natOf (t.data.toList.take (k + 1)) = natOf (t.data.toList.take k) * 10 + (t[k].toNat - 48)) := by rw [take_snoc t k hlt]; exact natOf_snoc _ _
           have hn17 : natOf (t.data.toList.take (k + 1)) < 1000000000000000000 := by
             refine Nat.lt_of_lt_of_le (natOf_lt _ (fun c hc => List.all_eq_true.1 hd'.out c hc)) ?_
             exact Nat.le_trans (Nat.pow_le_pow_right (by decide) (Nat.le_trans (List.length_take_le _ _) (by omega : k + 1 ≤ 18))) (by decide)
           rw [HS.out] at hn17
           clear hd hdk
           go_wp2
           go_round
           case rel => exact ⟨k + 1, by omega, by go_num, by rw [HS.out]; go_num, hd'⟩
           case measure => simp [intOf]; omega
     · have hk2 : t.data.toList.take k = t.data.toList := List.take_of_length_le (by rw [size_len]; omega)
       have hda := hd.out
       rw [hk2, HT.out] at hda
       rw [hk2]
       have hok := dOK_good hda HF.out.1 HF.out.2.1 HF.out.2.2
       have hn : natOf t.data.toList < 1000000000000000000 := by
         refine Nat.lt_of_lt_of_le (natOf_lt _ (fun c hc => List.all_eq_true.1 (by rw [HT.out]; exact hda) c hc)) ?_
         exact Nat.le_trans (Nat.pow_le_pow_right (by decide) (show t.data.toList.length ≤ 18 by rw [size_len]; omega)) (by decide)
       have HO := Lib.hid (And.intro hok (show -(natOf t.data.toList : Int) = valOf s.data.toList by rw [valOf_szL, HN.out, HT.out]; rfl))
       clear hok hda hk2 hd
       go_wp2
       go_ret2
       exact ⟨ret_yes HO.out.1 HO.out.2, rfl⟩
theorem readDigits_pos (t : ByteArray) (w : World) (hs : t.size ≤ maxLen) (hn : isNeg t.data.toList = false) (h1 : 1 < t.size) :
   Calls Tryz.prog 127 #[.string t] w fun e W' => e = .returned (.tuple #[.int .i64 (dVal t.data.toList), .bool (dOK t.data.toList)]) ∧ w = W' := by
 unfold maxLen at hs
 have htl : t.data.toList = szL t.data.toList := (szL_same hn).symm
 have h45 : ((t[0].toNat : Int) == 45) = false := (isNeg_pos (by omega)).trans hn
 have hg1 : (1 : Int) < t.size := by omega
 have hte := empty_false (s := t) (by omega)
 have HN := Lib.hid hn
 have HT := Lib.hid htl
 clear hn htl
 have h0t : 0 < t.size := by omega
 have hl : (szL t.data.toList).length = t.size := by rw [← HT.out, size_len]
 by_cases h18 : 18 < t.size
 · have h18' : (18 : Int) < t.size := by omega
   have hr := Lib.hid (dOK_bad (l := t.data.toList) (.inr (by omega)))
   clear hl
   go_enter Tryz.func127, Tryz.ntmps127
   go_wp2
   all_goals (go_ret2; exact ⟨ret_no hr.out, rfl⟩)
 have h18' : ¬ (18 : Int) < t.size := by omega
 by_cases h48 : ((t[0].toNat : Int) == 48) = true ∧ (t.toList == [48]) = false
 · obtain ⟨h48, hE⟩ := h48
   have hc : chk t.data.toList = 11 := chk_11 (.inr ⟨by
     rw [← HT.out, head_size (by omega)]
     have := u8_eq t[0] 48 (by decide)
     rw [show ((48 : Nat) : Int) = 48 from rfl, h48] at this
     exact congrArg some (by simpa using this.symm), fun e => by rw [ByteArray.toList_eq, e] at hE; cases hE⟩)
   have hr := Lib.hid (dOK_bad (l := t.data.toList) (.inl (by rw [hc]; decide)))
   clear hl hc
   go_enter Tryz.func127, Tryz.ntmps127
   go_wp2
   all_goals (go_ret2; exact ⟨ret_no hr.out, rfl⟩)
 · have h48' : (((t[0].toNat : Int) == 48) && !(t.toList == [48])) = false := by
     cases h5 : ((t[0].toNat : Int) == 48)
     · rfl
     · cases h6 : (t.toList == [48])
       · exact absurd ⟨h5, h6⟩ h48
       · rfl
   have HF := Lib.hid (show szL t.data.toList ≠ [] ∧ ¬ ((szL t.data.toList).head? = some 48 ∧ t.data.toList ≠ [48]) ∧ (szL t.data.toList).length ≤ 18 from ⟨fun e => by rw [e] at hl; simp at hl; omega, fun ⟨e, e2⟩ => by
     rw [← HT.out, head_size (by omega)] at e
     have e := Option.some.inj e
     apply h48
     refine ⟨by rw [e]; decide, ?_⟩
     rw [ByteArray.toList_eq, beq_eq_false_iff_ne]; exact e2, by omega⟩)
   clear hl h48
   by_cases h48a : ((t[0].toNat : Int) == 48) = true
   · have hE : (t.toList == [48]) = true := by rw [h48a] at h48'; simpa using h48'
     clear h48'
     go_enter Tryz.func127, Tryz.ntmps127
     go_wp2
     go_loop [6, 38] (fun n i => ∃ k : Nat, k ≤ t.size ∧ i = .int .i64 k ∧ n = .int .i64 (natOf (t.data.toList.take k) : Nat) ∧ Hid ((t.data.toList.take k).all isDig = true)) (fun _ i => t.size - (intOf i).toNat)
     case atStart => exact ⟨0, Nat.zero_le _, rfl, rfl, rfl⟩
     case round =>
       obtain ⟨k, hk, rfl, rfl, hd⟩ := hrel
       by_cases hlt : k < t.size
       · by_cases h3 : (t[k].toNat : Int) < 48
         · go_wp2
           go_ret2
           refine ⟨ret_no (dOK_bad (.inl ?_)), rfl⟩
           rw [chk_bad]
           · decide
           · rw [← HT.out, List.all_eq_false]; exact ⟨t[k], mem_get t k hlt, by rw [isDig_iff]; omega⟩
         · by_cases h4 : (57 : Int) < t[k].toNat
           · go_wp2
             go_ret2
             refine ⟨ret_no (dOK_bad (.inl ?_)), rfl⟩
             rw [chk_bad]
             · decide
             · rw [← HT.out, List.all_eq_false]; exact ⟨t[k], mem_get t k hlt, by rw [isDig_iff]; omega⟩
           · have hdk : isDig t[k] = true := by rw [isDig_iff]; omega
             have hd' : Hid ((t.data.toList.take (k + 1)).all isDig = true) := by
               show (t.data.toList.take (k + 1)).all isDig = true
               rw [take_snoc t k hlt, List.all_append, hd.out]; simp [hdk]
             have hn : natOf (t.data.toList.take k) < 1000000000000000000 := by
               refine Nat.lt_of_lt_of_le (natOf_lt _ (fun c hc => List.all_eq_true.1 hd.out c hc)) ?_
               exact Nat.le_trans (Nat.pow_le_pow_right (by decide) (Nat.le_trans (List.length_take_le _ _) (by omega : k ≤ 18))) (by decide)
             have HS : Hid (natOf (t.data.toList.take (k + 1)) = natOf (t.data.toList.take k) * 10 + (t[k].toNat - 48)) := by rw [take_snoc t k hlt]; exact natOf_snoc _ _
             have hn17 : natOf (t.data.toList.take (k + 1)) < 1000000000000000000 := by
               refine Nat.lt_of_lt_of_le (natOf_lt _ (fun c hc => List.all_eq_true.1 hd'.out c hc)) ?_
               exact Nat.le_trans (Nat.pow_le_pow_right (by decide) (Nat.le_trans (List.length_take_le _ _) (by omega : k + 1 ≤ 18))) (by decide)
             rw [HS.out] at hn17
             clear hd hdk
             go_wp2
             go_round
             case rel => exact ⟨k + 1, by omega, by go_num, by rw [HS.out]; go_num, hd'⟩
             case measure => simp [intOf]; omega
       · have hk2 : t.data.toList.take k = t.data.toList := List.take_of_length_le (by rw [size_len]; omega)
         have hda := hd.out
         rw [hk2, HT.out] at hda
         rw [hk2]
         have hok := dOK_good hda HF.out.1 HF.out.2.1 HF.out.2.2
         have hn : natOf t.data.toList < 1000000000000000000 := by
           refine Nat.lt_of_lt_of_le (natOf_lt _ (fun c hc => List.all_eq_true.1 (by rw [HT.out]; exact hda) c hc)) ?_
           exact Nat.le_trans (Nat.pow_le_pow_right (by decide) (show t.data.toList.length ≤ 18 by rw [size_len]; omega)) (by decide)
         have HO := Lib.hid (And.intro hok (show (natOf t.data.toList : Int) = valOf t.data.toList by rw [valOf_szL, HN.out, if_neg (by decide), szL_same HN.out]))
         clear hok hda hk2 hd
         go_wp2
         go_ret2
         exact ⟨ret_yes HO.out.1 HO.out.2, rfl⟩
   · have h48b : ((t[0].toNat : Int) == 48) = false := by simpa using h48a
     clear h48' h48a
     go_enter Tryz.func127, Tryz.ntmps127
     go_wp2
     go_loop [6, 38] (fun n i => ∃ k : Nat, k ≤ t.size ∧ i = .int .i64 k ∧ n = .int .i64 (natOf (t.data.toList.take k) : Nat) ∧ Hid ((t.data.toList.take k).all isDig = true)) (fun _ i => t.size - (intOf i).toNat)
     case atStart => exact ⟨0, Nat.zero_le _, rfl, rfl, rfl⟩
     case round =>
       obtain ⟨k, hk, rfl, rfl, hd⟩ := hrel
       by_cases hlt : k < t.size
       · by_cases h3 : (t[k].toNat : Int) < 48
         · go_wp2
           go_ret2
           refine ⟨ret_no (dOK_bad (.inl ?_)), rfl⟩
           rw [chk_bad]
           · decide
           · rw [← HT.out, List.all_eq_false]; exact ⟨t[k], mem_get t k hlt, by rw [isDig_iff]; omega⟩
         · by_cases h4 : (57 : Int) < t[k].toNat
           · go_wp2
             go_ret2
             refine ⟨ret_no (dOK_bad (.inl ?_)), rfl⟩
             rw [chk_bad]
             · decide
             · rw [← HT.out, List.all_eq_false]; exact ⟨t[k], mem_get t k hlt, by rw [isDig_iff]; omega⟩
           · have hdk : isDig t[k] = true := by rw [isDig_iff]; omega
             have hd' : Hid ((t.data.toList.take (k + 1)).all isDig = true) := by
               show (t.data.toList.take (k + 1)).all isDig = true
               rw [take_snoc t k hlt, List.all_append, hd.out]; simp [hdk]
             have hn : natOf (t.data.toList.take k) < 1000000000000000000 := by
               refine Nat.lt_of_lt_of_le (natOf_lt _ (fun c hc => List.all_eq_true.1 hd.out c hc)) ?_
               exact Nat.le_trans (Nat.pow_le_pow_right (by decide) (Nat.le_trans (List.length_take_le _ _) (by omega : k ≤ 18))) (by decide)
             have HS : Hid (natOf (t.data.toList.take (k + 1)) = natOf (t.data.toList.take k) * 10 + (t[k].toNat - 48)) := by rw [take_snoc t k hlt]; exact natOf_snoc _ _
             have hn17 : natOf (t.data.toList.take (k + 1)) < 1000000000000000000 := by
               refine Nat.lt_of_lt_of_le (natOf_lt _ (fun c hc => List.all_eq_true.1 hd'.out c hc)) ?_
               exact Nat.le_trans (Nat.pow_le_pow_right (by decide) (Nat.le_trans (List.length_take_le _ _) (by omega : k + 1 ≤ 18))) (by decide)
             rw [HS.out] at hn17
             clear hd hdk
             go_wp2
             go_round
             case rel => exact ⟨k + 1, by omega, by go_num, by rw [HS.out]; go_num, hd'⟩
             case measure => simp [intOf]; omega
       · have hk2 : t.data.toList.take k = t.data.toList := List.take_of_length_le (by rw [size_len]; omega)
         have hda := hd.out
         rw [hk2, HT.out] at hda
         rw [hk2]
         have hok := dOK_good hda HF.out.1 HF.out.2.1 HF.out.2.2
         have hn : natOf t.data.toList < 1000000000000000000 := by
           refine Nat.lt_of_lt_of_le (natOf_lt _ (fun c hc => List.all_eq_true.1 (by rw [HT.out]; exact hda) c hc)) ?_
           exact Nat.le_trans (Nat.pow_le_pow_right (by decide) (show t.data.toList.length ≤ 18 by rw [size_len]; omega)) (by decide)
         have HO := Lib.hid (And.intro hok (show (natOf t.data.toList : Int) = valOf t.data.toList by rw [valOf_szL, HN.out, if_neg (by decide), szL_same HN.out]))
         clear hok hda hk2 hd
         go_wp2
         go_ret2
         exact ⟨ret_yes HO.out.1 HO.out.2, rfl⟩
theorem readDigits_one (t : ByteArray) (w : World) (h : t.size = 1) :
   Calls Tryz.prog 127 #[.string t] w fun e W' => e = .returned (.tuple #[.int .i64 (dVal t.data.toList), .bool (dOK t.data.toList)]) ∧ w = W' := by
 have h0t : 0 < t.size := by omega
 obtain ⟨u, hu⟩ := data_cons h0t
 have hl := size_len t
 rw [hu, h] at hl
 have hu0 : u = [] := List.eq_nil_of_length_eq_zero (by simpa using hl)
 rw [hu0] at hu
 have hte := empty_false h0t
 have hs1 : (t.size : Int) = 1 := by omega
 clear hl hu0
 by_cases hd : isDig t[0] = true
 · have hq := (isDig_iff t[0]).1 hd
   have h45 : ((t[0].toNat : Int) == 45) = false := by rw [beq_eq_false_iff_ne]; omega
   have hok : dOK t.data.toList = true ∧ ((t[0].toNat - 48 : Nat) : Int) = valOf t.data.toList := by
     rw [hu]
     have hng : isNeg [t[0]] = false := by
       unfold isNeg
       rw [List.head?_cons, beq_eq_false_iff_ne]
       intro e
       have e := Option.some.inj e
       rw [e] at hq; exact absurd hq.1 (by decide)
     refine ⟨dOK_good (by rw [szL_same hng]; simp [hd]) (by rw [szL_same hng]; simp) (by
       rw [szL_same hng]
       rintro ⟨e, e2⟩
       have e := Option.some.inj e
       exact e2 (by rw [e])) (by rw [szL_same hng]; simp), ?_⟩
     rw [valOf_szL, hng, szL_same hng, if_neg (by decide)]
     show _ = (((0 * 10 + (t[0].toNat - 48) : Nat)) : Int)
     omega
   have HO := Lib.hid hok
   have hE : (((t[0].toNat : Int) == 48) && !(t.toList == [48])) = false := by
     rw [ByteArray.toList_eq, hu]
     by_cases h8 : t[0] = 48
     · rw [h8]; rfl
     · have := u8_eq t[0] 48 (by decide)
       rw [show ((48 : Nat) : Int) = 48 from rfl] at this
       rw [this, show (t[0] == UInt8.ofNat 48) = false by rw [beq_eq_false_iff_ne]; exact h8]; rfl
   have HE := Lib.hid hE
   clear hok hu hd hE u
   by_cases h8 : ((t[0].toNat : Int) == 48) = true
   · have hE2 : (t.toList == [48]) = true := by have := HE.out; rw [h8] at this; simpa using this
     go_enter Tryz.func127, Tryz.ntmps127
     go_wp2
     go_loop [6, 38] (fun n i => (i = .int .i64 0 ∧ n = .int .i64 0) ∨ (i = .int .i64 1 ∧ n = .int .i64 (t[0].toNat - 48 : Nat))) (fun _ i => 1 - (intOf i).toNat)
     case atStart => exact .inl ⟨rfl, rfl⟩
     case round =>
       rcases hrel with ⟨rfl, rfl⟩ | ⟨rfl, rfl⟩
       · go_wp2
         go_round
         case rel => exact .inr ⟨by go_num, by go_num⟩
         case measure => simp [intOf]
       · go_wp2
         go_ret2
         exact ⟨ret_yes HO.out.1 HO.out.2, rfl⟩
   · have h8' : ((t[0].toNat : Int) == 48) = false := by simpa using h8
     clear h8
     go_enter Tryz.func127, Tryz.ntmps127
     go_wp2
     go_loop [6, 38] (fun n i => (i = .int .i64 0 ∧ n = .int .i64 0) ∨ (i = .int .i64 1 ∧ n = .int .i64 (t[0].toNat - 48 : Nat))) (fun _ i => 1 - (intOf i).toNat)
     case atStart => exact .inl ⟨rfl, rfl⟩
     case round =>
       rcases hrel with ⟨rfl, rfl⟩ | ⟨rfl, rfl⟩
       · go_wp2
         go_round
         case rel => exact .inr ⟨by go_num, by go_num⟩
         case measure => simp [intOf]
       · go_wp2
         go_ret2
         exact ⟨ret_yes HO.out.1 HO.out.2, rfl⟩
 · have hr : dOK t.data.toList = false := dOK_bad (.inl (by
     rw [hu]
     cases hn : isNeg [t[0]]
     · rw [chk_bad]
       · decide
       · rw [szL_same hn]; simpa using hd
     · rw [chk_11]
       · decide
       · left; unfold szL; rw [hn]; rfl))
   have h8 : ((t[0].toNat : Int) == 48) = false := by
     rw [beq_eq_false_iff_ne]; intro e; apply hd; rw [isDig_iff]; omega
   have hq : (t[0].toNat : Int) < 48 ∨ (57 : Int) < t[0].toNat := by
     by_cases h1 : (t[0].toNat : Int) < 48
     · exact .inl h1
     · right
       have : ¬ (48 ≤ t[0].toNat ∧ t[0].toNat ≤ 57) := fun q => hd ((isDig_iff _).2 q)
       omega
   have HR := Lib.hid hr
   clear hr hu hd u
   rcases hq with h1 | h1
   · go_enter Tryz.func127, Tryz.ntmps127
     go_wp2
     go_loop [6, 38] (fun n i => i = .int .i64 0 ∧ n = .int .i64 0) (fun _ i => 1 - (intOf i).toNat)
     case atStart => exact ⟨rfl, rfl⟩
     case round =>
       obtain ⟨rfl, rfl⟩ := hrel
       go_wp2
       go_ret2
       exact ⟨ret_no HR.out, rfl⟩
   · have h2 : ¬ (t[0].toNat : Int) < 48 := by omega
     go_enter Tryz.func127, Tryz.ntmps127
     go_wp2
     go_loop [6, 38] (fun n i => i = .int .i64 0 ∧ n = .int .i64 0) (fun _ i => 1 - (intOf i).toNat)
     case atStart => exact ⟨rfl, rfl⟩
     case round =>
       obtain ⟨rfl, rfl⟩ := hrel
       go_wp2
       go_ret2
       exact ⟨ret_no HR.out, rfl⟩
theorem readDigits_any (s : ByteArray) (w : World) (hs : s.size ≤ maxLen) :
   Calls Tryz.prog 127 #[.string s] w fun e W' => e = .returned (.tuple #[.int .i64 (dVal s.data.toList), .bool (dOK s.data.toList)]) ∧ w = W' := by
 by_cases h0 : s.size = 0
 · have hE := empty_true h0
   have hr := Lib.hid (dOK_bad (l := s.data.toList) (.inl (by rw [data_nil h0]; decide)))
   go_enter Tryz.func127, Tryz.ntmps127
   go_wp2
   all_goals (go_ret2; exact ⟨ret_no hr.out, rfl⟩)
 · by_cases h1 : s.size = 1
   · exact readDigits_one s w h1
   · cases hn : isNeg s.data.toList
     · exact readDigits_pos s w hs hn (by omega)
     · exact readDigits_neg s w hs hn (by omega)
def tooL : Int := -9223372036854775808
theorem mach_size (a : Int) (w : World) (h0 : -9223372036854775808 < a) (h1 : a ≤ 9223372036854775807) :
   Calls Tryz.prog 161 #[.int .i64 a] w fun e W' => e = .returned (.int .u64 (a.natAbs : Int)) ∧ w = W' := by
 by_cases hn : a < 0
 · go_enter Tryz.func161, Tryz.ntmps161
   go_wp2
   go_ret
   exact ⟨ret_int (by omega), rfl⟩
 · go_enter Tryz.func161, Tryz.ntmps161
   go_wp2
   go_ret
   exact ⟨ret_int (by omega), rfl⟩
theorem mach_neg (a : Int) (w : World) :
   Calls Tryz.prog 234 #[.int .i64 a] w fun e W' => e = .returned (.bool (decide (a < 0))) ∧ w = W' := by
 go_enter Tryz.func234, Tryz.ntmps234
 go_wp2
 go_ret
 exact ⟨rfl, rfl⟩
theorem mach_one (a : Int) (w : World) :
   Calls Tryz.prog 235 #[.int .i64 a] w fun e W' => e = .returned (.bool (a == 1)) ∧ w = W' := by
 go_enter Tryz.func235, Tryz.ntmps235
 go_wp2
 go_ret
 exact ⟨rfl, rfl⟩
theorem mach_opp (a : Int) (w : World) (h0 : -9223372036854775808 < a) (h1 : a ≤ 9223372036854775807) :
   Calls Tryz.prog 237 #[.int .i64 a] w fun e W' => e = .returned (.int .i64 (-a)) ∧ w = W' := by
 go_enter Tryz.func237, Tryz.ntmps237
 go_wp2
 go_ret
 exact ⟨ret_int (by omega), rfl⟩
theorem mach_err (a : Int) (w : World) :
   Calls Tryz.prog 233 #[.int .i64 a] w fun e W' => e = .returned (.int .i64 (if a = tooL then 4 else 0)) ∧ w = W' := by
 by_cases h : a = tooL
 · rw [if_pos h]
   unfold tooL at h; subst h
   go_enter Tryz.func233, Tryz.ntmps233
   go_wp2
   go_ret
   exact ⟨rfl, rfl⟩
 · rw [if_neg h]
   unfold tooL at h
   go_enter Tryz.func233, Tryz.ntmps233
   go_wp2
   go_ret
   exact ⟨rfl, rfl⟩
theorem mach_over (a b : Int) (w : World) (h0 : -9223372036854775808 < a) (h1 : a ≤ 9223372036854775807) (hb : 0 < b) (h2 : b ≤ 9223372036854775807) :
   Calls Tryz.prog 238 #[.int .i64 a, .int .i64 b] w fun e W' => e = .returned (.int .i64 (a.tdiv b)) ∧ w = W' := by
 have hb0 : ¬ b = 0 := by omega
 have hb1 : (b == 0) = false := by simpa using hb0
 go_enter Tryz.func238, Tryz.ntmps238
 go_wp2
 go_ret
 exact ⟨ret_int (by omega), rfl⟩
theorem mach_plus (a b : Int) (w : World) (h0 : -9223372036854775808 < a) (h1 : a ≤ 9223372036854775807) (h2 : -9223372036854775808 < b) (h3 : b ≤ 9223372036854775807)
   (h4 : -9223372036854775808 < a + b) (h5 : a + b ≤ 9223372036854775807) :
   Calls Tryz.prog 239 #[.int .i64 a, .int .i64 b] w fun e W' => e = .returned (.int .i64 (a + b)) ∧ w = W' := by
 have n1 : (a == -9223372036854775808) = false := by simp; omega
 have n2 : (b == -9223372036854775808) = false := by simp; omega
 go_enter Tryz.func239, Tryz.ntmps239
 go_wp2
 go_ret
 exact ⟨ret_int (by omega), rfl⟩
theorem mach_plus1 (b : Int) (w : World) :
   Calls Tryz.prog 239 #[.int .i64 tooL, .int .i64 b] w fun e W' => e = .returned (.int .i64 tooL) ∧ w = W' := by
 unfold tooL
 go_enter Tryz.func239, Tryz.ntmps239
 go_wp2
 go_ret
 exact ⟨rfl, rfl⟩
theorem mach_plus2 (a : Int) (w : World) :
   Calls Tryz.prog 239 #[.int .i64 a, .int .i64 tooL] w fun e W' => e = .returned (.int .i64 tooL) ∧ w = W' := by
 by_cases h : a = -9223372036854775808
 · subst h
   exact mach_plus1 _ w
 · unfold tooL
   go_enter Tryz.func239, Tryz.ntmps239
   go_wp2
   go_ret
   exact ⟨rfl, rfl⟩
def timesM (a b : Int) : Int := if (a * b).natAbs < 4611686018427387904 then a * b else tooL
theorem mach_times (a b : Int) (w : World) (h0 : -9223372036854775808 < a) (h1 : a ≤ 9223372036854775807) (h2 : -9223372036854775808 < b) (h3 : b ≤ 9223372036854775807) :
   Calls Tryz.prog 240 #[.int .i64 a, .int .i64 b] w fun e W' => e = .returned (.int .i64 (timesM a b)) ∧ w = W' := by
 have ca := fun W => mach_size a W h0 h1
 have cb := fun W => mach_size b W h2 h3
 have cm := fun W => Tryz.bits_Mul64 a.natAbs b.natAbs (by omega) (by omega) W
 have hab : (a * b).natAbs = a.natAbs * b.natAbs := Int.natAbs_mul a b
 have C := Lib.hid (And.intro ca (And.intro cb cm))
 clear ca cb cm
 generalize hx : a.natAbs * b.natAbs = x at *
 by_cases hb : 18446744073709551616 ≤ x
 · have e1 : timesM a b = tooL := if_neg (by omega)
   have d1 : ((x / 18446744073709551616 : Nat) : Int) ≠ 0 := by omega
   rw [e1]; unfold tooL
   have D := Lib.hid d1
   clear hx hab hb e1
   generalize x / 18446744073709551616 = hi at *
   generalize x % 18446744073709551616 = lo at *
   go_enter Tryz.func240, Tryz.ntmps240
   go_wp2_with fail
   refine (C.out.1 _).mono ?_
   rintro e w' ⟨rfl, rfl⟩
   go_wp2_with fail
   refine (C.out.2.1 _).mono ?_
   rintro e w' ⟨rfl, rfl⟩
   go_wp2_with fail
   refine (C.out.2.2 _).mono ?_
   rintro e w' ⟨rfl, rfl⟩
   go_wp2
   go_ret
   exact ⟨rfl, rfl⟩
 · have d1 : x / 18446744073709551616 = 0 := by omega
   have d2 : x % 18446744073709551616 = x := by omega
   rw [d1, d2] at C
   by_cases hs : 4611686018427387904 ≤ x
   · have e1 : timesM a b = tooL := if_neg (by omega)
     rw [e1]; unfold tooL
     have hs' : (4611686018427387904 : Int) ≤ (x : Int) := by omega
     clear hx hab hb e1 d1 d2
     go_enter Tryz.func240, Tryz.ntmps240
     go_wp2_with fail
     refine (C.out.1 _).mono ?_
     rintro e w' ⟨rfl, rfl⟩
     go_wp2_with fail
     refine (C.out.2.1 _).mono ?_
     rintro e w' ⟨rfl, rfl⟩
     go_wp2_with fail
     refine (C.out.2.2 _).mono ?_
     rintro e w' ⟨rfl, rfl⟩
     go_wp2
     go_ret
     exact ⟨rfl, rfl⟩
   · have e1 : timesM a b = a * b := if_pos (by omega)
     rw [e1]
     have hs' : ¬ (4611686018427387904 : Int) ≤ (x : Int) := by omega
     have l1 : -9223372036854775808 ≤ a * b := by omega
     have l2 : a * b ≤ 9223372036854775807 := by omega
     clear hx hab hb e1 d1 d2 hs
     generalize (x : Int) = X at *
     go_enter Tryz.func240, Tryz.ntmps240
     go_wp2_with fail
     refine (C.out.1 _).mono ?_
     rintro e w' ⟨rfl, rfl⟩
     go_wp2_with fail
     refine (C.out.2.1 _).mono ?_
     rintro e w' ⟨rfl, rfl⟩
     go_wp2_with fail
     refine (C.out.2.2 _).mono ?_
     rintro e w' ⟨rfl, rfl⟩
     go_wp2
     go_ret
     exact ⟨ret_int (by omega), rfl⟩
end Go.Proofs.YtkjhaengllpaoaaGreatDoor
namespace Go.Proofs.YtkjhaengllpaoaaGreatDoor
open Go.Lib
theorem ctz_spec {x : Nat} (h0 : x ≠ 0) (h : x < 18446744073709551616) : ∃ m, x = 2 ^ ctz 64 x * (2 * m + 1) ∧ ctz 64 x < 64 := by
 obtain ⟨m, h1, h2⟩ := ctzFrom_spec 64 x (by omega) (by simpa using h)
 exact ⟨m, by unfold ctz; rw [if_neg h0]; exact h1, by unfold ctz; rw [if_neg h0]; exact h2⟩
theorem odd_cop (k m : Nat) : Nat.Coprime (2 ^ k) (2 * m + 1) := by
 refine Nat.Coprime.pow_left k ?_
 unfold Nat.Coprime
 rw [Nat.gcd_rec, show (2 * m + 1) % 2 = 1 by omega]; rfl
theorem gcd_odd (m k n : Nat) : Nat.gcd (2 * m + 1) (2 ^ k * n) = Nat.gcd (2 * m + 1) n := by
 rw [Nat.gcd_comm, Nat.Coprime.gcd_mul_left_cancel n (odd_cop k m), Nat.gcd_comm]
theorem shr_odd {x : Nat} (h0 : x ≠ 0) (h : x < 18446744073709551616) : ∃ m, x / 2 ^ ctz 64 x = 2 * m + 1 ∧ x = 2 ^ ctz 64 x * (2 * m + 1) := by
 obtain ⟨m, h1, _⟩ := ctz_spec h0 h
 refine ⟨m, ?_, h1⟩
 have : x / 2 ^ ctz 64 x = (2 ^ ctz 64 x * (2 * m + 1)) / 2 ^ ctz 64 x := congrArg (· / 2 ^ ctz 64 x) h1
 rw [this, Nat.mul_div_cancel_left _ (Nat.pow_pos (by decide))]
theorem dvd_ctz {x k m c : Nat} (h : x = 2 ^ c * (2 * m + 1)) : 2 ^ k ∣ x ↔ k ≤ c := by
 constructor
 · intro hd
   rcases Nat.lt_or_ge c k with q | q
   · exfalso
     have h1 : 2 ^ (c + 1) ∣ 2 ^ c * (2 * m + 1) := by rw [← h]; exact Nat.dvd_trans (Nat.pow_dvd_pow 2 q) hd
     rw [Nat.pow_succ] at h1
     have := Nat.dvd_of_mul_dvd_mul_left (Nat.pow_pos (by decide)) h1
     omega
   · exact q
 · intro q
   rw [h]; exact Nat.dvd_trans (Nat.pow_dvd_pow 2 q) (Nat.dvd_mul_right _ _)
theorem dvd_or (x y k : Nat) : 2 ^ k ∣ (x ||| y) ↔ 2 ^ k ∣ x ∧ 2 ^ k ∣ y := by
 rw [Nat.dvd_iff_mod_eq_zero, Nat.dvd_iff_mod_eq_zero, Nat.dvd_iff_mod_eq_zero, Nat.or_mod_two_pow, Nat.or_eq_zero_iff]
theorem ctz_or {x y : Nat} (hx : x ≠ 0) (hy : y ≠ 0) (h : x < 18446744073709551616) (h' : y < 18446744073709551616) : ctz 64 (x ||| y) = min (ctz 64 x) (ctz 64 y) := by
 obtain ⟨m, h1, _⟩ := ctz_spec hx h
 obtain ⟨n, h2, _⟩ := ctz_spec hy h'
 have h3 : x ||| y ≠ 0 := fun q => hx (Nat.or_eq_zero_iff.1 q).1
 obtain ⟨l, h4, _⟩ := ctz_spec h3 (Nat.or_lt_two_pow (n := 64) h h')
 have hk : ∀ k, k ≤ ctz 64 (x ||| y) ↔ k ≤ ctz 64 x ∧ k ≤ ctz 64 y := fun k => by
   rw [← dvd_ctz h4, dvd_or, dvd_ctz h1, dvd_ctz h2]
 have a := (hk (ctz 64 (x ||| y))).1 (Nat.le_refl _)
 have b := (hk (min (ctz 64 x) (ctz 64 y))).2 ⟨Nat.min_le_left _ _, Nat.min_le_right _ _⟩
 omega
theorem bin_start {x y : Nat} (hx : x ≠ 0) (hy : y ≠ 0) (h : x < 18446744073709551616) (h' : y < 18446744073709551616) :
   Nat.gcd x y = Nat.gcd (x / 2 ^ ctz 64 x) y * 2 ^ ctz 64 (x ||| y) := by
 obtain ⟨m, h1, h2⟩ := shr_odd hx h
 obtain ⟨n, _, h4⟩ := shr_odd hy h'
 rw [ctz_or hx hy h h', h1]
 generalize ctz 64 x = a at *
 generalize ctz 64 y = b at *
 subst h2; subst h4
 rw [gcd_odd]
 rcases Nat.le_total a b with q | q
 · obtain ⟨c, rfl⟩ := Nat.exists_eq_add_of_le q
   rw [Nat.min_eq_left q, Nat.pow_add, Nat.mul_assoc, Nat.gcd_mul_left, gcd_odd, Nat.mul_comm]
 · obtain ⟨c, rfl⟩ := Nat.exists_eq_add_of_le q
   rw [Nat.min_eq_right q, Nat.pow_add, Nat.mul_assoc, Nat.gcd_mul_left, Nat.Coprime.gcd_mul_left_cancel _ (odd_cop c n), Nat.mul_comm]
theorem bin_round {x y : Nat} (hx : x % 2 = 1) (hy : y ≠ 0) (h' : y < 18446744073709551616) :
   Nat.gcd (min x (y / 2 ^ ctz 64 y)) (max x (y / 2 ^ ctz 64 y) - min x (y / 2 ^ ctz 64 y)) = Nat.gcd x y ∧ min x (y / 2 ^ ctz 64 y) % 2 = 1 ∧
     min x (y / 2 ^ ctz 64 y) + (max x (y / 2 ^ ctz 64 y) - min x (y / 2 ^ ctz 64 y)) < x + y ∧ y / 2 ^ ctz 64 y ≤ y := by
 obtain ⟨n, h3, h4⟩ := shr_odd hy h'
 have h5 : y / 2 ^ ctz 64 y ≤ y := Nat.div_le_self _ _
 have h6 : Nat.gcd x y = Nat.gcd x (y / 2 ^ ctz 64 y) := by
   rw [h3]
   conv => lhs; rw [h4]
   obtain ⟨m, rfl⟩ : ∃ m, x = 2 * m + 1 := ⟨x / 2, by omega⟩
   exact gcd_odd _ _ _
 rw [h6]
 generalize y / 2 ^ ctz 64 y = z at *
 rcases Nat.le_total x z with q | q
 · rw [Nat.min_eq_left q, Nat.max_eq_right q]
   exact ⟨Nat.gcd_sub_self_right q, hx, by omega, h5⟩
 · rw [Nat.min_eq_right q, Nat.max_eq_left q]
   exact ⟨by rw [Nat.gcd_sub_self_right q, Nat.gcd_comm], by omega, by omega, h5⟩
end Go.Proofs.YtkjhaengllpaoaaGreatDoor
