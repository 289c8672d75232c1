/- Parts of the proof of the text YtkjhaengllpaoaaGreatDoorZB27. -/
import Derived.Test.YtkjhaengllpaoaaGreatDoorZB1
import Derived.Test.YtkjhaengllpaoaaGreatDoorZB10
import Derived.Test.YtkjhaengllpaoaaGreatDoorZB4
import Derived.Test.YtkjhaengllpaoaaGreatDoorZB8
set_option linter.all false
set_option maxRecDepth 100000
set_option maxHeartbeats 8000000
namespace Go.Proofs.YtkjhaengllpaoaaGreatDoor
open Go.RowKit
theorem over_any (na nb : Bool) (va vb : Value) (a b : Nat) (w : World) (ha : IsNat w va a) (hb : IsNat w vb b) (h0 : b ≠ 0) (hla : (dg a).length ≤ 900000) (hlb : (dg b).length ≤ 900000) :
   Calls Tryz.prog 113 #[.agg #[.bool na, va], .agg #[.bool nb, vb]] w fun e W' => ∃ s x y q r, e = .returned (.tuple #[.agg #[.bool s, x], .agg #[.bool nb, y]]) ∧ IsNat W' x q ∧ IsNat W' y r ∧ sgnZ s q = (sgnZ na a).fdiv (sgnZ nb b) ∧ sgnZ nb r = (sgnZ na a).fmod (sgnZ nb b) ∧ q ≤ a ∧ r ≤ b ∧ Below w.heap.size w W' := by
 have hf := floor_sgn na nb a b h0
 have hm := Nat.mod_lt a (show 0 < b by omega)
 by_cases hn : na = nb
 · subst hn
   refine (over_same na va vb a b w ha hb h0 hla).mono ?_
   rintro e W' ⟨x, y, rfl, hx, hy, hB⟩
   have h1 := hf.1 (.inl rfl)
   rw [bne_self_eq_false] at h1
   exact ⟨false, x, y, _, _, rfl, hx, hy, h1.1.symm, h1.2.symm, Nat.div_le_self a b, by omega, hB⟩
 · have hn2 : (na == nb) = false := by simpa using hn
   have hn3 : (na != nb) = true := by simpa using hn
   rw [hn3] at hf
   refine (over_diff na nb va vb a b w ha hb h0 hla hlb hn2).mono ?_
   rintro e W' ⟨x, y, q, r, rfl, hx, hy, h, hB⟩
   rcases h with ⟨hz, rfl, rfl⟩ | ⟨hz, rfl, rfl⟩
   · have h1 := hf.1 (.inr hz)
     exact ⟨true, x, y, _, _, rfl, hx, hy, h1.1.symm, h1.2.symm, Nat.div_le_self a b, by omega, hB⟩
   · have h1 := hf.2 ⟨hn, hz⟩
     refine ⟨true, x, y, _, _, rfl, hx, hy, h1.1.symm, h1.2.symm, ?_, by omega, hB⟩
     have hb2 : 2 ≤ b := by
       rcases Nat.lt_or_ge b 2 with h | h
       · have : b = 1 := by omega
         subst this; rw [Nat.mod_one] at hz; exact absurd rfl hz
       · exact h
     have ha1 : a ≠ 0 := fun e => by rw [e, Nat.zero_mod] at hz; exact hz rfl
     exact Nat.div_lt_self (by omega) hb2
theorem Divide_long (a b : ByteArray) (w : World) (k1 : chk a.data.toList = 0) (k2 : chk b.data.toList = 0) (h0 : valOf b.data.toList ≠ 0) (hs : ¬ (a.size ≤ 18 ∧ b.size ≤ 18)) (ht : Tab w) :
   Calls Tryz.prog 62 #[.string a, .string b] w fun e W' => e = .returned (.tuple #[.string (strB ((valOf a.data.toList).fdiv (valOf b.data.toList))), .string (strB ((valOf a.data.toList).fmod (valOf b.data.toList))), .int .i64 0]) ∧ Below w.heap.size w W' := by
 have s1 := chk_size k1
 have s2 := chk_size k2
 have cb := checkBoth_any a b w (by unfold maxLen; omega) (by unfold maxLen; omega)
 have hc2 : chk2 a.data.toList b.data.toList = 0 := by unfold chk2; rw [if_pos k1]; exact k2
 rw [hc2] at cb
 have hb48 : (b.toList == [48]) = false := by
   rw [ByteArray.toList_eq, beq_eq_false_iff_ne]
   intro e; rw [e] at h0; exact h0 rfl
 have i1 := fun W => isShort_any a W (by unfold maxLen; omega)
 have i2 := fun W => isShort_any b W (by unfold maxLen; omega)
 have rr1 := fun W => read_any a W (by omega) k1
 have rr2 := fun W => read_any b W (by omega) k2
 have HV := Lib.hid (And.intro (val_sgn a.data.toList) (val_sgn b.data.toList))
 have NL := Lib.hid (And.intro (nat_lim k1) (nat_lim k2))
 have hb0 : natOf (szL b.data.toList) ≠ 0 := by
   intro e
   apply h0
   rw [← val_sgn, e, sgn_zero]
 have H0 := Lib.hid hb0
 have C := Lib.hid (And.intro cb (And.intro i1 (And.intro i2 (And.intro rr1 rr2))))
 have HT := Lib.hid ht
 clear cb i1 i2 rr1 rr2 hc2 h0 ht k1 k2 hb0
 generalize valOf a.data.toList = x at *
 generalize valOf b.data.toList = y at *
 generalize isNeg a.data.toList = na at *
 generalize isNeg b.data.toList = nb at *
 generalize natOf (szL a.data.toList) = ax at *
 generalize natOf (szL b.data.toList) = bx at *
 have rest : ∀ W, Below w.heap.size w W → ∀ va vb, IsNat W va ax → IsNat W vb bx → Calls Tryz.prog 113 #[.agg #[.bool na, va], .agg #[.bool nb, vb]] W fun e W' => ∃ s u v q r, e = .returned (.tuple #[.agg #[.bool s, u], .agg #[.bool nb, v]]) ∧ IsNat W' u q ∧ IsNat W' v r ∧ sgnZ s q = x.fdiv y ∧ sgnZ nb r = x.fmod y ∧ q ≤ ax ∧ r ≤ bx ∧ Below W.heap.size W W' := fun W _ va vb h1 h2 => by
   have := over_any na nb va vb ax bx W h1 h2 H0.out (Nat.le_trans (dg_lim NL.out.1) (by decide)) (Nat.le_trans (dg_lim NL.out.2) (by decide))
   rwa [HV.out.1, HV.out.2] at this
 have tx := fun s q v W (h : IsNat W v q) (hl : q < lim) (hb : Below w.heap.size w W) => text_any s v q W h (Nat.le_trans (dg_lim hl) (by decide)) (HT.out.next hb)
 have RS := Lib.hid rest
 have TX := Lib.hid tx
 clear rest tx
 by_cases g1 : a.size ≤ 18
 · have t1 : decide ((a.size : Int) ≤ 18) = true := by simp; omega
   have t2 : decide ((b.size : Int) ≤ 18) = false := by simp; omega
   go_enter Tryz.func62, Tryz.ntmps62
   go_wp2_with fail
   refine C.out.1.mono ?_
   rintro e w' ⟨rfl, rfl⟩
   go_wp2_with fail
   refine (C.out.2.1 _).mono ?_
   rintro e w' ⟨rfl, rfl⟩
   rw [t1]
   go_wp2_with fail
   refine (C.out.2.2.1 _).mono ?_
   rintro e w' ⟨rfl, rfl⟩
   rw [t2]
   go_wp2_with fail
   refine (C.out.2.2.2.1 _).mono ?_
   rintro e w1 ⟨va, rfl, hva, _, hb1⟩
   have H1 := Lib.hid (And.intro hva hb1); clear hva hb1
   go_wp2_with fail
   refine (C.out.2.2.2.2 _).mono ?_
   rintro e w2 ⟨vb, rfl, hvb, _, hb2⟩
   have H2 := Lib.hid (And.intro (H1.out.1.next hb2) (And.intro hvb (H1.out.2.trans (hb2.mono H1.out.2.size)))); clear hvb hb2 H1
   go_wp2_with fail
   refine (RS.out _ H2.out.2.2 _ _ H2.out.1 H2.out.2.1).mono ?_
   rintro e w3 ⟨s, u, v, q, r, rfl, hu, hv, e1, e2, l1, l2, hb3⟩
   have hB3 := H2.out.2.2.trans (hb3.mono H2.out.2.2.size)
   have r1 : (x.fdiv y).natAbs < lim := by rw [← e1, sgn_abs]; exact Nat.lt_of_le_of_lt l1 NL.out.1
   have r2 : (x.fmod y).natAbs < lim := by rw [← e2, sgn_abs]; exact Nat.lt_of_le_of_lt l2 NL.out.2
   have f1 : resB (x.fdiv y) = strB (x.fdiv y) := if_pos r1
   have f2 : resB (x.fmod y) = strB (x.fmod y) := if_pos r2
   have f3 : resE (x.fdiv y) = 0 := if_pos r1
   have f4 : resE (x.fmod y) = 0 := if_pos r2
   have T1 := Lib.hid (fun W h hB => by have := TX.out s q u W h (Nat.lt_of_le_of_lt l1 NL.out.1) hB; rwa [e1, f1, f3] at this)
   have T2 := Lib.hid (fun W h hB => by have := TX.out nb r v W h (Nat.lt_of_le_of_lt l2 NL.out.2) hB; rwa [e2, f2, f4] at this)
   have H3 := Lib.hid (And.intro hu (And.intro hv hB3))
   obtain ⟨pu, cu, rfl⟩ := hu.shape
   obtain ⟨pv, cv, rfl⟩ := hv.shape
   clear hu hv e1 e2 l1 l2 hb3 hB3 r1 r2 f1 f2 f3 f4 H2 TX RS
   generalize (dg q).length = lq at *
   generalize (dg r).length = lr at *
   go_wp2_with fail
   have d0 : ((w3.alloc (.cells #[.bool s, .slice pu lq cu] 147)).alloc (.cells #[.bool nb, .slice pv lr cv] 147)).cell? ⟨w3.heap.size + 1, 0, none⟩ = some (.bool nb) := by go_cell
   have d1 : ((w3.alloc (.cells #[.bool s, .slice pu lq cu] 147)).alloc (.cells #[.bool nb, .slice pv lr cv] 147)).cell? ⟨w3.heap.size + 1, 1, none⟩ = some (.slice pv lr cv) := by go_cell
   have dz : w3.heap.size + 1 < ((w3.alloc (.cells #[.bool s, .slice pu lq cu] 147)).alloc (.cells #[.bool nb, .slice pv lr cv] 147)).heap.size := by simp
   have db : Below w3.heap.size w3 ((w3.alloc (.cells #[.bool s, .slice pu lq cu] 147)).alloc (.cells #[.bool nb, .slice pv lr cv] 147)) := ((Below.refl _ w3).alloc (Nat.le_refl _) _).alloc (by simp) _
   generalize (w3.alloc (.cells #[.bool s, .slice pu lq cu] 147)).alloc (.cells #[.bool nb, .slice pv lr cv] 147) = W3 at *
   have H3' := Lib.hid (And.intro (H3.out.1.next db) (And.intro (H3.out.2.1.next db) (H3.out.2.2.trans (db.mono H3.out.2.2.size))))
   clear H3 db
   refine (T1.out _ H3'.out.1 H3'.out.2.2).mono ?_
   rintro e w4 ⟨rfl, hb4⟩
   have H4 := Lib.hid (And.intro (H3'.out.2.1.next hb4) (H3'.out.2.2.trans (hb4.mono H3'.out.2.2.size)))
   have d0' := (hb4.cell (p := ⟨w3.heap.size + 1, 0, none⟩) dz).trans d0
   have d1' := (hb4.cell (p := ⟨w3.heap.size + 1, 1, none⟩) dz).trans d1
   clear hb4 T1 H3' d0 d1 dz
   go_wp2_with fail
   refine (T2.out _ H4.out.1 H4.out.2).mono ?_
   rintro e w5 ⟨rfl, hb5⟩
   have H5 := Lib.hid (H4.out.2.trans (hb5.mono H4.out.2.size))
   clear hb5 T2 H4
   go_wp2
   go_ret3
   exact ⟨rfl, H5.out⟩
 · have t1 : decide ((a.size : Int) ≤ 18) = false := by simp; omega
   go_enter Tryz.func62, Tryz.ntmps62
   go_wp2_with fail
   refine C.out.1.mono ?_
   rintro e w' ⟨rfl, rfl⟩
   go_wp2_with fail
   refine (C.out.2.1 _).mono ?_
   rintro e w' ⟨rfl, rfl⟩
   rw [t1]
   go_wp2_with fail
   refine (C.out.2.2.2.1 _).mono ?_
   rintro e w1 ⟨va, rfl, hva, _, hb1⟩
   have H1 := Lib.hid (And.intro hva hb1); clear hva hb1
   go_wp2_with fail
   refine (C.out.2.2.2.2 _).mono ?_
   rintro e w2 ⟨vb, rfl, hvb, _, hb2⟩
   have H2 := Lib.hid (And.intro (H1.out.1.next hb2) (And.intro hvb (H1.out.2.trans (hb2.mono H1.out.2.size)))); clear hvb hb2 H1
   go_wp2_with fail
   refine (RS.out _ H2.out.2.2 _ _ H2.out.1 H2.out.2.1).mono ?_
   rintro e w3 ⟨s, u, v, q, r, rfl, hu, hv, e1, e2, l1, l2, hb3⟩
   have hB3 := H2.out.2.2.trans (hb3.mono H2.out.2.2.size)
   have r1 : (x.fdiv y).natAbs < lim := by rw [← e1, sgn_abs]; exact Nat.lt_of_le_of_lt l1 NL.out.1
   have r2 : (x.fmod y).natAbs < lim := by rw [← e2, sgn_abs]; exact Nat.lt_of_le_of_lt l2 NL.out.2
   have f1 : resB (x.fdiv y) = strB (x.fdiv y) := if_pos r1
   have f2 : resB (x.fmod y) = strB (x.fmod y) := if_pos r2
   have f3 : resE (x.fdiv y) = 0 := if_pos r1
   have f4 : resE (x.fmod y) = 0 := if_pos r2
   have T1 := Lib.hid (fun W h hB => by have := TX.out s q u W h (Nat.lt_of_le_of_lt l1 NL.out.1) hB; rwa [e1, f1, f3] at this)
   have T2 := Lib.hid (fun W h hB => by have := TX.out nb r v W h (Nat.lt_of_le_of_lt l2 NL.out.2) hB; rwa [e2, f2, f4] at this)
   have H3 := Lib.hid (And.intro hu (And.intro hv hB3))
   obtain ⟨pu, cu, rfl⟩ := hu.shape
   obtain ⟨pv, cv, rfl⟩ := hv.shape
   clear hu hv e1 e2 l1 l2 hb3 hB3 r1 r2 f1 f2 f3 f4 H2 TX RS
   generalize (dg q).length = lq at *
   generalize (dg r).length = lr at *
   go_wp2_with fail
   have d0 : ((w3.alloc (.cells #[.bool s, .slice pu lq cu] 147)).alloc (.cells #[.bool nb, .slice pv lr cv] 147)).cell? ⟨w3.heap.size + 1, 0, none⟩ = some (.bool nb) := by go_cell
   have d1 : ((w3.alloc (.cells #[.bool s, .slice pu lq cu] 147)).alloc (.cells #[.bool nb, .slice pv lr cv] 147)).cell? ⟨w3.heap.size + 1, 1, none⟩ = some (.slice pv lr cv) := by go_cell
   have dz : w3.heap.size + 1 < ((w3.alloc (.cells #[.bool s, .slice pu lq cu] 147)).alloc (.cells #[.bool nb, .slice pv lr cv] 147)).heap.size := by simp
   have db : Below w3.heap.size w3 ((w3.alloc (.cells #[.bool s, .slice pu lq cu] 147)).alloc (.cells #[.bool nb, .slice pv lr cv] 147)) := ((Below.refl _ w3).alloc (Nat.le_refl _) _).alloc (by simp) _
   generalize (w3.alloc (.cells #[.bool s, .slice pu lq cu] 147)).alloc (.cells #[.bool nb, .slice pv lr cv] 147) = W3 at *
   have H3' := Lib.hid (And.intro (H3.out.1.next db) (And.intro (H3.out.2.1.next db) (H3.out.2.2.trans (db.mono H3.out.2.2.size))))
   clear H3 db
   refine (T1.out _ H3'.out.1 H3'.out.2.2).mono ?_
   rintro e w4 ⟨rfl, hb4⟩
   have H4 := Lib.hid (And.intro (H3'.out.2.1.next hb4) (H3'.out.2.2.trans (hb4.mono H3'.out.2.2.size)))
   have d0' := (hb4.cell (p := ⟨w3.heap.size + 1, 0, none⟩) dz).trans d0
   have d1' := (hb4.cell (p := ⟨w3.heap.size + 1, 1, none⟩) dz).trans d1
   clear hb4 T1 H3' d0 d1 dz
   go_wp2_with fail
   refine (T2.out _ H4.out.1 H4.out.2).mono ?_
   rintro e w5 ⟨rfl, hb5⟩
   have H5 := Lib.hid (H4.out.2.trans (hb5.mono H4.out.2.size))
   clear hb5 T2 H4
   go_wp2
   go_ret3
   exact ⟨rfl, H5.out⟩
theorem Divide_ok (a b : ByteArray) (w : World) (k1 : chk a.data.toList = 0) (k2 : chk b.data.toList = 0) (h0 : valOf b.data.toList ≠ 0) (ht : Tab w) :
   Calls Tryz.prog 62 #[.string a, .string b] w fun e W' => e = .returned (.tuple #[.string (strB ((valOf a.data.toList).fdiv (valOf b.data.toList))), .string (strB ((valOf a.data.toList).fmod (valOf b.data.toList))), .int .i64 0]) ∧ Below w.heap.size w W' := by
 by_cases hs : a.size ≤ 18 ∧ b.size ≤ 18
 · exact Divide_small a b w k1 k2 h0 hs.1 hs.2 ht
 · exact Divide_long a b w k1 k2 h0 hs ht
theorem str_zero : strB 0 = ⟨#[48]⟩ := str_of 0 [48] (by decide +kernel)
theorem Divide_strs (x y : Int) (w : World) (hx : x.natAbs < lim) (hy : y.natAbs < lim) (h0 : y ≠ 0) (ht : Tab w) :
   Calls Tryz.prog 62 #[.string (strB x), .string (strB y)] w fun e W' => e = .returned (.tuple #[.string (strB (x.fdiv y)), .string (strB (x.fmod y)), .int .i64 0]) ∧ Below w.heap.size w W' := by
 have c := Divide_ok (strB x) (strB y) w (strB_chk hx) (strB_chk hy) (by rw [strB_val]; exact h0) ht
 rwa [strB_val, strB_val] at c
theorem fmod_sign {x y : Int} (h : y ≠ 0) : (0 < y ∧ 0 ≤ x.fmod y ∧ x.fmod y < y) ∨ (y < 0 ∧ y < x.fmod y ∧ x.fmod y ≤ 0) := by
 have h1 := tmod_lt x y h
 by_cases h0 : x.tmod y = 0 ∨ ((x.tmod y < 0) ↔ (y < 0))
 · rw [(fdiv_same h h0).2]; omega
 · rw [not_or] at h0; rw [(fdiv_other h h0.1 h0.2).2]; omega
theorem fdiv_abs {x y : Int} (h : y ≠ 0) : (x.fdiv y).natAbs ≤ x.natAbs ∧ (x.fmod y).natAbs ≤ y.natAbs := by
 constructor
 · have h1 : (x.tdiv y).natAbs ≤ x.natAbs := Int.natAbs_tdiv_le_natAbs x y
   by_cases h0 : x.tmod y = 0 ∨ ((x.tmod y < 0) ↔ (y < 0))
   · rw [(fdiv_same h h0).1]; exact h1
   · rw [not_or] at h0
     rw [(fdiv_other h h0.1 h0.2).1]
     have h2 : 2 ≤ y.natAbs := by
       rcases Nat.lt_or_ge y.natAbs 2 with h3 | h3
       · exfalso; have := tmod_lt x y h; apply h0.1; omega
       · exact h3
     have h3 : (x.tdiv y).natAbs = x.natAbs / y.natAbs := Int.natAbs_tdiv x y
     have hx : x.natAbs ≠ 0 := fun e => h0.1 (by have : x = 0 := by omega
                                                 rw [this]; exact Int.zero_tmod y)
     have h4 : x.natAbs / y.natAbs < x.natAbs := Nat.div_lt_self (by omega) h2
     omega
 · rcases fmod_sign (x := x) h with h1 | h1 <;> omega
theorem Nats.drop {w : World} {b off cap k : Nat} {l : List Nat} (h : Nats w (.slice (some ⟨b, off, none⟩) l.length cap) l) (hk : k < l.length) : Nats w (.slice (some ⟨b, off + k, none⟩) (l.length - k) (cap - k)) (l.drop k) := by
 obtain ⟨p, cap', he, h1, h2, h3⟩ := h
 simp only [Value.slice.injEq, true_and] at he
 obtain ⟨rfl, rfl⟩ := he
 obtain ⟨b', off', e, hc⟩ := h3 (by intro e; subst e; simp at hk)
 simp only [Option.some.injEq, Addr.mk.injEq, and_true] at e
 obtain ⟨rfl, rfl⟩ := e
 refine ⟨_, cap - k, by rw [List.length_drop], by rw [List.length_drop]; omega, by omega, fun _ => ⟨b, off + k, rfl, fun i hi => ?_⟩⟩
 rw [List.length_drop] at hi
 rw [Nat.add_assoc, hc (k + i) (by omega)]
 congr 3
 rw [List.getD_eq_getElem?_getD, List.getD_eq_getElem?_getD, List.getElem?_drop]
theorem IsNat.unique {w : World} {v : Value} {m n : Nat} (h : IsNat w v m) (h' : IsNat w v n) : m = n := by
 obtain ⟨p, cap, rfl, a1, a2, a3⟩ := h
 obtain ⟨p', cap', he, b1, b2, b3⟩ := h'
 simp only [Value.slice.injEq] at he
 obtain ⟨rfl, hl, rfl⟩ := he
 have e : dg m = dg n := by
   refine List.ext_getElem hl (fun i h1 h2 => ?_)
   obtain ⟨b, off, e1, c1⟩ := a3 (by intro e; rw [e] at h1; simp at h1)
   obtain ⟨b', off', e2, c2⟩ := b3 (by intro e; rw [e] at h2; simp at h2)
   rw [e1] at e2
   simp only [Option.some.injEq, Addr.mk.injEq, and_true] at e2
   obtain ⟨rfl, rfl⟩ := e2
   have := (c1 i h1).symm.trans (c2 i h2)
   simp only [Option.some.injEq, Value.int.injEq, true_and] at this
   rw [getD_lt h1, getD_lt h2] at this
   exact Int.ofNat.inj this
 have := congrArg toN e
 rwa [toN_dg, toN_dg] at this
open Classical in
noncomputable def natVal (w : World) (v : Value) : Nat := if h : ∃ n, IsNat w v n then Classical.choose h else 0
theorem natVal_eq {w : World} {v : Value} {n : Nat} (h : IsNat w v n) : natVal w v = n := by
 unfold natVal
 have hx : ∃ n, IsNat w v n := ⟨n, h⟩
 rw [dif_pos hx]
 exact (Classical.choose_spec hx).unique h
theorem Gcd_mid (a b : ByteArray) (w : World) (k1 : chk a.data.toList = 0) (k2 : chk b.data.toList = 0) (s1 : (szB a).size ≤ 18) (s2 : (szB b).size ≤ 18) (ht : Tab w) :
   Calls Tryz.prog 164 #[.string a, .string b] w fun e W' => e = .returned (.tuple #[.string (strB (Nat.gcd (natOf (szL a.data.toList)) (natOf (szL b.data.toList)) : Nat)), .int .i64 0]) ∧ Below w.heap.size w W' := by
 have q1 := chk_size k1
 have q2 := chk_size k2
 have cb := checkBoth_any a b w (by unfold maxLen; omega) (by unfold maxLen; omega)
 have hc2 : chk2 a.data.toList b.data.toList = 0 := by unfold chk2; rw [if_pos k1]; exact k2
 rw [hc2] at cb
 have z1 := szB_size a
 have z2 := szB_size b
 have i1 := fun W => isShort_any (szB a) W (by unfold maxLen; omega)
 have i2 := fun W => isShort_any (szB b) W (by unfold maxLen; omega)
 have t1 : decide (((szB a).size : Int) ≤ 18) = true := by simp; omega
 have t2 : decide (((szB b).size : Int) ≤ 18) = true := by simp; omega
 rw [t1] at i1; rw [t2] at i2
 have m1 := fun W => value_any (szB a) W (by omega) (by rw [szB_data]; exact chk_dig k1)
 have m2 := fun W => value_any (szB b) W (by omega) (by rw [szB_data]; exact chk_dig k2)
 rw [szB_data] at m1 m2
 have v1 := natOf_18 _ (chk_dig k1) (by have := s1; rw [← size_len, szB_data] at this; exact this)
 have v2 := natOf_18 _ (chk_dig k2) (by have := s2; rw [← size_len, szB_data] at this; exact this)
 have y1 := fun W => sizeText_any a W (by unfold maxLen; omega)
 have y2 := fun W => sizeText_any b W (by unfold maxLen; omega)
 generalize natOf (szL a.data.toList) = x at *
 generalize natOf (szL b.data.toList) = y at *
 have dm := fun W => gcdMachine_any x y W (by omega) (by omega)
 have hg : Nat.gcd x y < 1000000000000000000 := by
   by_cases h0 : x = 0
   · subst h0; rw [Nat.gcd_zero_left]; exact v2
   · exact Nat.lt_of_le_of_lt (Nat.gcd_le_left _ (by omega)) v1
 generalize Nat.gcd x y = g at *
 have o1 := fun W (h : Below w.heap.size w W) => ofMachine_any (g : Nat) W (by omega) (by omega) (ht.next h)
 clear s1 s2
 generalize szB a = sa at *
 generalize szB b = sb at *
 have C := Lib.hid (And.intro cb (And.intro y1 (And.intro y2 (And.intro i1 (And.intro i2 (And.intro m1 (And.intro m2 (And.intro dm o1))))))))
 clear cb i1 i2 m1 m2 dm o1 y1 y2 v1 v2 t1 t2 hc2 ht k1 k2 z1 z2
 go_enter Tryz.func164, Tryz.ntmps164
 go_wp2_with fail
 refine C.out.1.mono ?_
 rintro e w' ⟨rfl, rfl⟩
 go_wp2_with fail
 refine (C.out.2.1 _).mono ?_
 rintro e w' ⟨rfl, rfl⟩
 go_wp2_with fail
 refine (C.out.2.2.1 _).mono ?_
 rintro e w' ⟨rfl, rfl⟩
 go_wp2_with fail
 refine (C.out.2.2.2.1 _).mono ?_
 rintro e w' ⟨rfl, rfl⟩
 go_wp2_with fail
 refine (C.out.2.2.2.2.1 _).mono ?_
 rintro e w' ⟨rfl, rfl⟩
 go_wp2_with fail
 refine (C.out.2.2.2.2.2.1 _).mono ?_
 rintro e w' ⟨rfl, rfl⟩
 go_wp2_with fail
 refine (C.out.2.2.2.2.2.2.1 _).mono ?_
 rintro e w' ⟨rfl, rfl⟩
 go_wp2_with fail
 refine (C.out.2.2.2.2.2.2.2.1 _).mono ?_
 rintro e w' ⟨rfl, nn, rfl⟩
 go_wp2_with fail
 refine (C.out.2.2.2.2.2.2.2.2 _ (Below.drewN' nn)).mono ?_
 rintro e w1 ⟨rfl, b1⟩
 have H1 := Lib.hid ((Below.drewN' nn).trans (show Below w.heap.size (w.drewN nn) w1 from b1)); clear b1 C
 go_wp2
 go_ret2
 exact ⟨rfl, H1.out⟩
theorem szL_valAbs (l : List UInt8) : (valOf l).natAbs = natOf (szL l) := by rw [← val_sgn, sgn_abs]
theorem strB_neg (x : Int) : isNeg (strB x).data.toList = decide (x < 0) := by
 rw [strB_data]; exact head_itoa_neg x
theorem strB_nat {x : Int} (hx : x.natAbs < lim) : natOf (szL (strB x).data.toList) = x.natAbs := by
 rw [← szL_valAbs, strB_val]
end Go.Proofs.YtkjhaengllpaoaaGreatDoor
namespace Go.Proofs.YtkjhaengllpaoaaGreatDoor
theorem gcd_unimod {a b c d : Nat} {x1 y1 x2 y2 s : Int} (h1 : x1 * a + y1 * b = c) (h2 : x2 * a + y2 * b = d) (hs : s = 1 ∨ s = -1) (hd : x1 * y2 - x2 * y1 = s) : Nat.gcd c d = Nat.gcd a b := by
 refine Nat.dvd_antisymm (Nat.dvd_gcd ?_ ?_) (Nat.dvd_gcd ?_ ?_)
 · have hc : ((Nat.gcd c d : Nat) : Int) ∣ c := Int.natCast_dvd_natCast.2 (Nat.gcd_dvd_left c d)
   have hd' : ((Nat.gcd c d : Nat) : Int) ∣ d := Int.natCast_dvd_natCast.2 (Nat.gcd_dvd_right c d)
   have e : (a : Int) = s * (y2 * c - y1 * d) := by rcases hs with rfl | rfl <;> grind
   refine Int.natCast_dvd_natCast.1 ?_
   rw [e]
   exact Int.dvd_mul_of_dvd_right (Int.dvd_sub (Int.dvd_mul_of_dvd_right hc) (Int.dvd_mul_of_dvd_right hd'))
 · have hc : ((Nat.gcd c d : Nat) : Int) ∣ c := Int.natCast_dvd_natCast.2 (Nat.gcd_dvd_left c d)
   have hd' : ((Nat.gcd c d : Nat) : Int) ∣ d := Int.natCast_dvd_natCast.2 (Nat.gcd_dvd_right c d)
   have e : (b : Int) = s * (x1 * d - x2 * c) := by rcases hs with rfl | rfl <;> grind
   refine Int.natCast_dvd_natCast.1 ?_
   rw [e]
   exact Int.dvd_mul_of_dvd_right (Int.dvd_sub (Int.dvd_mul_of_dvd_right hd') (Int.dvd_mul_of_dvd_right hc))
 · refine Int.natCast_dvd_natCast.1 ?_
   rw [← h1]
   exact Int.dvd_add (Int.dvd_mul_of_dvd_right (Int.natCast_dvd_natCast.2 (Nat.gcd_dvd_left a b))) (Int.dvd_mul_of_dvd_right (Int.natCast_dvd_natCast.2 (Nat.gcd_dvd_right a b)))
 · refine Int.natCast_dvd_natCast.1 ?_
   rw [← h2]
   exact Int.dvd_add (Int.dvd_mul_of_dvd_right (Int.natCast_dvd_natCast.2 (Nat.gcd_dvd_left a b))) (Int.dvd_mul_of_dvd_right (Int.natCast_dvd_natCast.2 (Nat.gcd_dvd_right a b)))
def Good (a b : Nat) (x1 y1 x2 y2 : Int) : Prop :=
 ∃ c d : Nat, x1 * a + y1 * b = c ∧ x2 * a + y2 * b = d ∧ d < c ∧ c < a ∧ Nat.gcd c d = Nat.gcd a b ∧
   ((0 ≤ x1 ∧ y1 ≤ 0 ∧ x2 ≤ 0 ∧ 0 ≤ y2) ∨ (x1 ≤ 0 ∧ 0 ≤ y1 ∧ 0 ≤ x2 ∧ y2 ≤ 0)) ∧
   x1.natAbs < 1000000000 ∧ y1.natAbs < 1000000000 ∧ x2.natAbs < 1000000000 ∧ y2.natAbs < 1000000000
theorem lehmer_fin {a b sc D P Q al bl p q x0 x1 y0 y1 : Nat} {s : Int} (ha : a * sc = P * D + al) (hb : b * sc = Q * D + bl) (hal : al < D) (hbl : bl < D)
   (hP : P = y1 * p + y0 * q) (hQ : Q = x1 * p + x0 * q) (hs : s = 1 ∨ s = -1) (hdet : (x0 : Int) * y1 - (x1 : Int) * y0 = s) (hq : y1 ≤ q) (hpq : q + (y0 + y1) ≤ p)
   (hx0 : x0 ≤ y0) (hx1 : x1 ≤ y1) (hy : y0 ≤ y1) (hy0 : 1 ≤ y0) (hP18 : P < 1000000000000000000) :
   Good a b (s * x0) (-s * y0) (-s * x1) (s * y1) := by
 have hD : 0 < D := by omega
 have hy9 : y1 < 1000000000 := by
   apply Decidable.byContradiction
   intro hc
   have h1 : y1 * y1 ≤ y1 * p := Nat.mul_le_mul_left _ (by omega)
   have h2 : 1000000000 * 1000000000 ≤ y1 * y1 := Nat.mul_le_mul (by omega) (by omega)
   omega
 have b1 : x0 * al ≤ y0 * al := Nat.mul_le_mul_right _ hx0
 have b2 : x1 * al ≤ y1 * al := Nat.mul_le_mul_right _ hx1
 have b3 : y0 * al + y0 ≤ y0 * D := by rw [← Nat.mul_succ]; exact Nat.mul_le_mul_left _ hal
 have b4 : y1 * al + y1 ≤ y1 * D := by rw [← Nat.mul_succ]; exact Nat.mul_le_mul_left _ hal
 have b5 : y0 * bl + y0 ≤ y0 * D := by rw [← Nat.mul_succ]; exact Nat.mul_le_mul_left _ hbl
 have b6 : y1 * bl + y1 ≤ y1 * D := by rw [← Nat.mul_succ]; exact Nat.mul_le_mul_left _ hbl
 have b7 : y1 * D ≤ q * D := Nat.mul_le_mul_right _ hq
 have b8 : q * D + (y0 * D + y1 * D) ≤ p * D := by rw [← Nat.add_mul, ← Nat.add_mul]; exact Nat.mul_le_mul_right _ hpq
 have b9 : (p + y0) * D ≤ P * D := by
   refine Nat.mul_le_mul_right _ ?_
   have h1 : 1 * p ≤ y1 * p := Nat.mul_le_mul_right _ (by omega)
   have h2 : y0 * 1 ≤ y0 * q := Nat.mul_le_mul_left _ (by omega)
   omega
 rw [Nat.add_mul] at b9
 have c1 : (s * x0 * a + -s * y0 * b) * sc = (p : Int) * D + s * (x0 * al - y0 * bl) := by
   have ha' : (a : Int) * sc = P * D + al := by exact_mod_cast ha
   have hb' : (b : Int) * sc = Q * D + bl := by exact_mod_cast hb
   have hP' : (P : Int) = y1 * p + y0 * q := by exact_mod_cast hP
   have hQ' : (Q : Int) = x1 * p + x0 * q := by exact_mod_cast hQ
   rcases hs with rfl | rfl <;> grind
 have c2 : (-s * x1 * a + s * y1 * b) * sc = (q : Int) * D + s * (y1 * bl - x1 * al) := by
   have ha' : (a : Int) * sc = P * D + al := by exact_mod_cast ha
   have hb' : (b : Int) * sc = Q * D + bl := by exact_mod_cast hb
   have hP' : (P : Int) = y1 * p + y0 * q := by exact_mod_cast hP
   have hQ' : (Q : Int) = x1 * p + x0 * q := by exact_mod_cast hQ
   rcases hs with rfl | rfl <;> grind
 have hsc : 0 < sc := by
   rcases Nat.eq_zero_or_pos sc with h | h
   · subst h; omega
   · exact h
 have ha' : (a : Int) * sc = P * D + al := by exact_mod_cast ha
 have n1 : ((x0 * al : Nat) : Int) = (x0 : Int) * al := Int.natCast_mul _ _
 have n2 : ((y0 * bl : Nat) : Int) = (y0 : Int) * bl := Int.natCast_mul _ _
 have n3 : ((x1 * al : Nat) : Int) = (x1 : Int) * al := Int.natCast_mul _ _
 have n4 : ((y1 * bl : Nat) : Int) = (y1 : Int) * bl := Int.natCast_mul _ _
 have n5 : ((p * D : Nat) : Int) = (p : Int) * D := Int.natCast_mul _ _
 have n6 : ((q * D : Nat) : Int) = (q : Int) * D := Int.natCast_mul _ _
 have n7 : ((P * D : Nat) : Int) = (P : Int) * D := Int.natCast_mul _ _
 rw [← n5, ← n1, ← n2] at c1
 rw [← n6, ← n3, ← n4] at c2
 rw [← n7] at ha'
 have hsc' : (0 : Int) < sc := by omega
 generalize hA : s * x0 * a + -s * y0 * b = A at *
 generalize hB : -s * x1 * a + s * y1 * b = C at *
 have d1 : 0 ≤ C * sc := by rcases hs with rfl | rfl <;> omega
 have d2 : C * sc < A * sc := by rcases hs with rfl | rfl <;> omega
 have d3 : A * sc < a * sc := by rcases hs with rfl | rfl <;> omega
 have f1 : 0 ≤ C := Int.nonneg_of_mul_nonneg_left d1 hsc'
 have f2 : C < A := Int.lt_of_mul_lt_mul_right d2 (by omega)
 have f3 : A < a := Int.lt_of_mul_lt_mul_right d3 (by omega)
 obtain ⟨c, hc⟩ : ∃ c : Nat, A = c := ⟨A.toNat, by omega⟩
 obtain ⟨d, hd⟩ : ∃ d : Nat, C = d := ⟨C.toNat, by omega⟩
 subst hc
 subst hd
 refine ⟨c, d, hA, hB, by omega, by omega, gcd_unimod hA hB hs ?_, ?_, ?_, ?_, ?_, ?_⟩
 · rcases hs with rfl | rfl <;> grind
 · rcases hs with rfl | rfl
   · left; omega
   · right; omega
 · rcases hs with rfl | rfl <;> omega
 · rcases hs with rfl | rfl <;> omega
 · rcases hs with rfl | rfl <;> omega
 · rcases hs with rfl | rfl <;> omega
theorem lehmer_step {P Q p q x1 x2 y1 y2 : Nat} {s : Int} (hP : P = y2 * p + y1 * q) (hQ : Q = x2 * p + x1 * q) (hdet : (x1 : Int) * y2 - (x2 : Int) * y1 = -s) (_hq : 0 < q) :
   P = (y1 + p / q * y2) * q + y2 * (p % q) ∧ Q = (x1 + p / q * x2) * q + x2 * (p % q) ∧ (x2 : Int) * ((y1 + p / q * y2 : Nat) : Int) - ((x1 + p / q * x2 : Nat) : Int) * y2 = s := by
 have e := Nat.div_add_mod p q
 generalize p / q = t at *
 generalize p % q = r at *
 subst e
 refine ⟨?_, ?_, ?_⟩
 · rw [hP]; grind
 · rw [hQ]; grind
 · rw [Int.natCast_add, Int.natCast_add, Int.natCast_mul, Int.natCast_mul]; grind
end Go.Proofs.YtkjhaengllpaoaaGreatDoor
