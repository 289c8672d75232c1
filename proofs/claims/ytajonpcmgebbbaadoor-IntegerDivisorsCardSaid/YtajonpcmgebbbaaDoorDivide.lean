/- The walk of Divide, for every two strings. -/
import Derived.Test.YtajonpcmgebbbaaDoorOver2
namespace Go.Proofs.YtajonpcmgebbbaaDoor
open Go.RowKit

theorem over_any (na nb : Bool) (va vb : Value) (a b : Nat) (w : World) (ha : IsNat w va a) (hb : IsNat w vb b) (h0 : b ≠ 0) (hla : (dg a).length ≤ 900000) (hlb : (dg b).length ≤ 900000) :
    Calls Tryd.prog 39 #[.agg #[.bool na, va], .agg #[.bool nb, vb]] w fun e W' => ∃ s x y q r, e = .returned (.tuple #[.agg #[.bool s, x], .agg #[.bool nb, y]]) ∧ IsNat W' x q ∧ IsNat W' y r ∧ sgnZ s q = (sgnZ na a).fdiv (sgnZ nb b) ∧ sgnZ nb r = (sgnZ na a).fmod (sgnZ nb b) ∧ q ≤ a ∧ r ≤ b ∧ Below w.heap.size w W' := by
  have hf := floor_sgn na nb a b h0
  have hm := Nat.mod_lt a (show 0 < b by omega)
  by_cases hn : na = nb
  · subst hn
    refine (over_same na va vb a b w ha hb h0 hla).mono ?_
    rintro e W' ⟨x, y, rfl, hx, hy, hB⟩
    have h1 := hf.1 (.inl rfl)
    rw [bne_self_eq_false] at h1
    exact ⟨false, x, y, _, _, rfl, hx, hy, h1.1.symm, h1.2.symm, Nat.div_le_self a b, by omega, hB⟩
  · have hn2 : (na == nb) = false := by simpa using hn
    have hn3 : (na != nb) = true := by simpa using hn
    rw [hn3] at hf
    refine (over_diff na nb va vb a b w ha hb h0 hla hlb hn2).mono ?_
    rintro e W' ⟨x, y, q, r, rfl, hx, hy, h, hB⟩
    rcases h with ⟨hz, rfl, rfl⟩ | ⟨hz, rfl, rfl⟩
    · have h1 := hf.1 (.inr hz)
      exact ⟨true, x, y, _, _, rfl, hx, hy, h1.1.symm, h1.2.symm, Nat.div_le_self a b, by omega, hB⟩
    · have h1 := hf.2 ⟨hn, hz⟩
      refine ⟨true, x, y, _, _, rfl, hx, hy, h1.1.symm, h1.2.symm, ?_, by omega, hB⟩
      have hb2 : 2 ≤ b := by
        rcases Nat.lt_or_ge b 2 with h | h
        · have : b = 1 := by omega
          subst this; rw [Nat.mod_one] at hz; exact absurd rfl hz
        · exact h
      have ha1 : a ≠ 0 := fun e => by rw [e, Nat.zero_mod] at hz; exact hz rfl
      exact Nat.div_lt_self (by omega) hb2

/-- what Divide returns -/
def divQ (e x y : Int) : ByteArray := if e = 0 then (if y = 0 then ByteArray.empty else strB (x.fdiv y)) else ByteArray.empty
def divR (e x y : Int) : ByteArray := if e = 0 then (if y = 0 then ByteArray.empty else strB (x.fmod y)) else ByteArray.empty
def divE (e y : Int) : Int := if e = 0 then (if y = 0 then 12 else 0) else e
theorem div_ok {x y : Int} (h : y ≠ 0) : divQ 0 x y = strB (x.fdiv y) ∧ divR 0 x y = strB (x.fmod y) ∧ divE 0 y = 0 := by
  unfold divQ divR divE
  simp [h]
theorem div_zero (x : Int) : divQ 0 x 0 = ByteArray.empty ∧ divR 0 x 0 = ByteArray.empty ∧ divE 0 0 = 12 := by
  unfold divQ divR divE
  simp
theorem div_bad {e : Int} (h : e ≠ 0) (x y : Int) : divQ e x y = ByteArray.empty ∧ divR e x y = ByteArray.empty ∧ divE e y = e := by
  unfold divQ divR divE
  simp [h]

set_option maxHeartbeats 1000000 in
theorem Divide_long (a b : ByteArray) (w : World) (k1 : chk a.data.toList = 0) (k2 : chk b.data.toList = 0) (h0 : valOf b.data.toList ≠ 0) (hs : ¬ (a.size ≤ 18 ∧ b.size ≤ 18)) (ht : Tab w) :
    Calls Tryd.prog 12 #[.string a, .string b] w fun e W' => e = .returned (.tuple #[.string (strB ((valOf a.data.toList).fdiv (valOf b.data.toList))), .string (strB ((valOf a.data.toList).fmod (valOf b.data.toList))), .int .i64 0]) ∧ Below w.heap.size w W' := by
  have s1 := chk_size k1
  have s2 := chk_size k2
  have cb := checkBoth_any a b w (by unfold maxLen; omega) (by unfold maxLen; omega)
  have hc2 : chk2 a.data.toList b.data.toList = 0 := by unfold chk2; rw [if_pos k1]; exact k2
  rw [hc2] at cb
  have hb48 : (b.toList == [48]) = false := by
    rw [ByteArray.toList_eq, beq_eq_false_iff_ne]
    intro e; rw [e] at h0; exact h0 rfl
  have i1 := fun W => isShort_any a W (by unfold maxLen; omega)
  have i2 := fun W => isShort_any b W (by unfold maxLen; omega)
  have rr1 := fun W => read_any a W (by omega) k1
  have rr2 := fun W => read_any b W (by omega) k2
  have HV := Lib.hid (And.intro (val_sgn a.data.toList) (val_sgn b.data.toList))
  have NL := Lib.hid (And.intro (nat_lim k1) (nat_lim k2))
  have hb0 : natOf (szL b.data.toList) ≠ 0 := by
    intro e
    apply h0
    rw [← val_sgn, e, sgn_zero]
  have H0 := Lib.hid hb0
  have C := Lib.hid (And.intro cb (And.intro i1 (And.intro i2 (And.intro rr1 rr2))))
  have HT := Lib.hid ht
  clear cb i1 i2 rr1 rr2 hc2 h0 ht k1 k2 hb0
  generalize valOf a.data.toList = x at *
  generalize valOf b.data.toList = y at *
  generalize isNeg a.data.toList = na at *
  generalize isNeg b.data.toList = nb at *
  generalize natOf (szL a.data.toList) = ax at *
  generalize natOf (szL b.data.toList) = bx at *
  have rest : ∀ W, Below w.heap.size w W → ∀ va vb, IsNat W va ax → IsNat W vb bx → Calls Tryd.prog 39 #[.agg #[.bool na, va], .agg #[.bool nb, vb]] W fun e W' => ∃ s u v q r, e = .returned (.tuple #[.agg #[.bool s, u], .agg #[.bool nb, v]]) ∧ IsNat W' u q ∧ IsNat W' v r ∧ sgnZ s q = x.fdiv y ∧ sgnZ nb r = x.fmod y ∧ q ≤ ax ∧ r ≤ bx ∧ Below W.heap.size W W' := fun W _ va vb h1 h2 => by
    have := over_any na nb va vb ax bx W h1 h2 H0.out (Nat.le_trans (dg_lim NL.out.1) (by decide)) (Nat.le_trans (dg_lim NL.out.2) (by decide))
    rwa [HV.out.1, HV.out.2] at this
  have tx := fun s q v W (h : IsNat W v q) (hl : q < lim) (hb : Below w.heap.size w W) => text_any s v q W h (Nat.le_trans (dg_lim hl) (by decide)) (HT.out.next hb)
  have RS := Lib.hid rest
  have TX := Lib.hid tx
  clear rest tx
  by_cases g1 : a.size ≤ 18
  · have t1 : decide ((a.size : Int) ≤ 18) = true := by simp; omega
    have t2 : decide ((b.size : Int) ≤ 18) = false := by simp; omega
    go_enter Tryd.func12, Tryd.ntmps12
    go_wp2_with fail
    refine C.out.1.mono ?_
    rintro e w' ⟨rfl, rfl⟩
    go_wp2_with fail
    refine (C.out.2.1 _).mono ?_
    rintro e w' ⟨rfl, rfl⟩
    rw [t1]
    go_wp2_with fail
    refine (C.out.2.2.1 _).mono ?_
    rintro e w' ⟨rfl, rfl⟩
    rw [t2]
    go_wp2_with fail
    refine (C.out.2.2.2.1 _).mono ?_
    rintro e w1 ⟨va, rfl, hva, _, hb1⟩
    have H1 := Lib.hid (And.intro hva hb1); clear hva hb1
    go_wp2_with fail
    refine (C.out.2.2.2.2 _).mono ?_
    rintro e w2 ⟨vb, rfl, hvb, _, hb2⟩
    have H2 := Lib.hid (And.intro (H1.out.1.next hb2) (And.intro hvb (H1.out.2.trans (hb2.mono H1.out.2.size)))); clear hvb hb2 H1
    go_wp2_with fail
    refine (RS.out _ H2.out.2.2 _ _ H2.out.1 H2.out.2.1).mono ?_
    rintro e w3 ⟨s, u, v, q, r, rfl, hu, hv, e1, e2, l1, l2, hb3⟩
    have hB3 := H2.out.2.2.trans (hb3.mono H2.out.2.2.size)
    have r1 : (x.fdiv y).natAbs < lim := by rw [← e1, sgn_abs]; exact Nat.lt_of_le_of_lt l1 NL.out.1
    have r2 : (x.fmod y).natAbs < lim := by rw [← e2, sgn_abs]; exact Nat.lt_of_le_of_lt l2 NL.out.2
    have f1 : resB (x.fdiv y) = strB (x.fdiv y) := if_pos r1
    have f2 : resB (x.fmod y) = strB (x.fmod y) := if_pos r2
    have f3 : resE (x.fdiv y) = 0 := if_pos r1
    have f4 : resE (x.fmod y) = 0 := if_pos r2
    have T1 := Lib.hid (fun W h hB => by have := TX.out s q u W h (Nat.lt_of_le_of_lt l1 NL.out.1) hB; rwa [e1, f1, f3] at this)
    have T2 := Lib.hid (fun W h hB => by have := TX.out nb r v W h (Nat.lt_of_le_of_lt l2 NL.out.2) hB; rwa [e2, f2, f4] at this)
    have H3 := Lib.hid (And.intro hu (And.intro hv hB3))
    obtain ⟨pu, cu, rfl⟩ := hu.shape
    obtain ⟨pv, cv, rfl⟩ := hv.shape
    clear hu hv e1 e2 l1 l2 hb3 hB3 r1 r2 f1 f2 f3 f4 H2 TX RS
    generalize (dg q).length = lq at *
    generalize (dg r).length = lr at *
    go_wp2_with fail
    have d0 : ((w3.alloc (.cells #[.bool s, .slice pu lq cu] 46)).alloc (.cells #[.bool nb, .slice pv lr cv] 46)).cell? ⟨w3.heap.size + 1, 0, none⟩ = some (.bool nb) := by go_cell
    have d1 : ((w3.alloc (.cells #[.bool s, .slice pu lq cu] 46)).alloc (.cells #[.bool nb, .slice pv lr cv] 46)).cell? ⟨w3.heap.size + 1, 1, none⟩ = some (.slice pv lr cv) := by go_cell
    have dz : w3.heap.size + 1 < ((w3.alloc (.cells #[.bool s, .slice pu lq cu] 46)).alloc (.cells #[.bool nb, .slice pv lr cv] 46)).heap.size := by simp
    have db : Below w3.heap.size w3 ((w3.alloc (.cells #[.bool s, .slice pu lq cu] 46)).alloc (.cells #[.bool nb, .slice pv lr cv] 46)) := ((Below.refl _ w3).alloc (Nat.le_refl _) _).alloc (by simp) _
    generalize (w3.alloc (.cells #[.bool s, .slice pu lq cu] 46)).alloc (.cells #[.bool nb, .slice pv lr cv] 46) = W3 at *
    have H3' := Lib.hid (And.intro (H3.out.1.next db) (And.intro (H3.out.2.1.next db) (H3.out.2.2.trans (db.mono H3.out.2.2.size))))
    clear H3 db
    refine (T1.out _ H3'.out.1 H3'.out.2.2).mono ?_
    rintro e w4 ⟨rfl, hb4⟩
    have H4 := Lib.hid (And.intro (H3'.out.2.1.next hb4) (H3'.out.2.2.trans (hb4.mono H3'.out.2.2.size)))
    have d0' := (hb4.cell (p := ⟨w3.heap.size + 1, 0, none⟩) dz).trans d0
    have d1' := (hb4.cell (p := ⟨w3.heap.size + 1, 1, none⟩) dz).trans d1
    clear hb4 T1 H3' d0 d1 dz
    go_wp2_with fail
    refine (T2.out _ H4.out.1 H4.out.2).mono ?_
    rintro e w5 ⟨rfl, hb5⟩
    have H5 := Lib.hid (H4.out.2.trans (hb5.mono H4.out.2.size))
    clear hb5 T2 H4
    go_wp2
    go_ret3
    exact ⟨rfl, H5.out⟩
  · have t1 : decide ((a.size : Int) ≤ 18) = false := by simp; omega
    go_enter Tryd.func12, Tryd.ntmps12
    go_wp2_with fail
    refine C.out.1.mono ?_
    rintro e w' ⟨rfl, rfl⟩
    go_wp2_with fail
    refine (C.out.2.1 _).mono ?_
    rintro e w' ⟨rfl, rfl⟩
    rw [t1]
    go_wp2_with fail
    refine (C.out.2.2.2.1 _).mono ?_
    rintro e w1 ⟨va, rfl, hva, _, hb1⟩
    have H1 := Lib.hid (And.intro hva hb1); clear hva hb1
    go_wp2_with fail
    refine (C.out.2.2.2.2 _).mono ?_
    rintro e w2 ⟨vb, rfl, hvb, _, hb2⟩
    have H2 := Lib.hid (And.intro (H1.out.1.next hb2) (And.intro hvb (H1.out.2.trans (hb2.mono H1.out.2.size)))); clear hvb hb2 H1
    go_wp2_with fail
    refine (RS.out _ H2.out.2.2 _ _ H2.out.1 H2.out.2.1).mono ?_
    rintro e w3 ⟨s, u, v, q, r, rfl, hu, hv, e1, e2, l1, l2, hb3⟩
    have hB3 := H2.out.2.2.trans (hb3.mono H2.out.2.2.size)
    have r1 : (x.fdiv y).natAbs < lim := by rw [← e1, sgn_abs]; exact Nat.lt_of_le_of_lt l1 NL.out.1
    have r2 : (x.fmod y).natAbs < lim := by rw [← e2, sgn_abs]; exact Nat.lt_of_le_of_lt l2 NL.out.2
    have f1 : resB (x.fdiv y) = strB (x.fdiv y) := if_pos r1
    have f2 : resB (x.fmod y) = strB (x.fmod y) := if_pos r2
    have f3 : resE (x.fdiv y) = 0 := if_pos r1
    have f4 : resE (x.fmod y) = 0 := if_pos r2
    have T1 := Lib.hid (fun W h hB => by have := TX.out s q u W h (Nat.lt_of_le_of_lt l1 NL.out.1) hB; rwa [e1, f1, f3] at this)
    have T2 := Lib.hid (fun W h hB => by have := TX.out nb r v W h (Nat.lt_of_le_of_lt l2 NL.out.2) hB; rwa [e2, f2, f4] at this)
    have H3 := Lib.hid (And.intro hu (And.intro hv hB3))
    obtain ⟨pu, cu, rfl⟩ := hu.shape
    obtain ⟨pv, cv, rfl⟩ := hv.shape
    clear hu hv e1 e2 l1 l2 hb3 hB3 r1 r2 f1 f2 f3 f4 H2 TX RS
    generalize (dg q).length = lq at *
    generalize (dg r).length = lr at *
    go_wp2_with fail
    have d0 : ((w3.alloc (.cells #[.bool s, .slice pu lq cu] 46)).alloc (.cells #[.bool nb, .slice pv lr cv] 46)).cell? ⟨w3.heap.size + 1, 0, none⟩ = some (.bool nb) := by go_cell
    have d1 : ((w3.alloc (.cells #[.bool s, .slice pu lq cu] 46)).alloc (.cells #[.bool nb, .slice pv lr cv] 46)).cell? ⟨w3.heap.size + 1, 1, none⟩ = some (.slice pv lr cv) := by go_cell
    have dz : w3.heap.size + 1 < ((w3.alloc (.cells #[.bool s, .slice pu lq cu] 46)).alloc (.cells #[.bool nb, .slice pv lr cv] 46)).heap.size := by simp
    have db : Below w3.heap.size w3 ((w3.alloc (.cells #[.bool s, .slice pu lq cu] 46)).alloc (.cells #[.bool nb, .slice pv lr cv] 46)) := ((Below.refl _ w3).alloc (Nat.le_refl _) _).alloc (by simp) _
    generalize (w3.alloc (.cells #[.bool s, .slice pu lq cu] 46)).alloc (.cells #[.bool nb, .slice pv lr cv] 46) = W3 at *
    have H3' := Lib.hid (And.intro (H3.out.1.next db) (And.intro (H3.out.2.1.next db) (H3.out.2.2.trans (db.mono H3.out.2.2.size))))
    clear H3 db
    refine (T1.out _ H3'.out.1 H3'.out.2.2).mono ?_
    rintro e w4 ⟨rfl, hb4⟩
    have H4 := Lib.hid (And.intro (H3'.out.2.1.next hb4) (H3'.out.2.2.trans (hb4.mono H3'.out.2.2.size)))
    have d0' := (hb4.cell (p := ⟨w3.heap.size + 1, 0, none⟩) dz).trans d0
    have d1' := (hb4.cell (p := ⟨w3.heap.size + 1, 1, none⟩) dz).trans d1
    clear hb4 T1 H3' d0 d1 dz
    go_wp2_with fail
    refine (T2.out _ H4.out.1 H4.out.2).mono ?_
    rintro e w5 ⟨rfl, hb5⟩
    have H5 := Lib.hid (H4.out.2.trans (hb5.mono H4.out.2.size))
    clear hb5 T2 H4
    go_wp2
    go_ret3
    exact ⟨rfl, H5.out⟩

theorem Divide_ok (a b : ByteArray) (w : World) (k1 : chk a.data.toList = 0) (k2 : chk b.data.toList = 0) (h0 : valOf b.data.toList ≠ 0) (ht : Tab w) :
    Calls Tryd.prog 12 #[.string a, .string b] w fun e W' => e = .returned (.tuple #[.string (strB ((valOf a.data.toList).fdiv (valOf b.data.toList))), .string (strB ((valOf a.data.toList).fmod (valOf b.data.toList))), .int .i64 0]) ∧ Below w.heap.size w W' := by
  by_cases hs : a.size ≤ 18 ∧ b.size ≤ 18
  · exact Divide_small a b w k1 k2 h0 hs.1 hs.2 ht
  · exact Divide_long a b w k1 k2 h0 hs ht

theorem chk_48 {l : List UInt8} (h : chk l = 0) (hv : valOf l = 0) : l = [48] := by
  have := itoa_valOf l h
  rw [hv] at this
  rw [← this]; decide +kernel

set_option maxHeartbeats 1000000 in
theorem Divide_any (a b : ByteArray) (w : World) (ha : a.size ≤ maxLen) (hb : b.size ≤ maxLen) (ht : Tab w) :
    Calls Tryd.prog 12 #[.string a, .string b] w fun e W' => e = .returned (.tuple #[.string (divQ (chk2 a.data.toList b.data.toList) (valOf a.data.toList) (valOf b.data.toList)), .string (divR (chk2 a.data.toList b.data.toList) (valOf a.data.toList) (valOf b.data.toList)), .int .i64 (divE (chk2 a.data.toList b.data.toList) (valOf b.data.toList))]) ∧ Below w.heap.size w W' := by
  by_cases hz : chk2 a.data.toList b.data.toList = 0
  · obtain ⟨k1, k2⟩ := chk2_zero hz
    rw [hz]
    by_cases h0 : valOf b.data.toList = 0
    · rw [h0, (div_zero _).1, (div_zero _).2.1, (div_zero 0).2.2]
      have e48 := chk_48 k2 h0
      have hb48 : (b.toList == [48]) = true := by rw [ByteArray.toList_eq, e48]; rfl
      have cb := checkBoth_any a b w ha hb
      rw [hz] at cb
      have C := Lib.hid cb
      clear cb e48 h0 k1 k2 hz ht
      go_enter Tryd.func12, Tryd.ntmps12
      go_wp2_with fail
      refine C.out.mono ?_
      rintro e w' ⟨rfl, rfl⟩
      go_wp2
      go_ret3
      exact ⟨rfl, Below.refl _ _⟩
    · rw [(div_ok h0).1, (div_ok h0).2.1, (div_ok (x := 0) h0).2.2]
      exact Divide_ok a b w k1 k2 h0 ht
  · rw [(div_bad hz _ _).1, (div_bad hz _ _).2.1, (div_bad hz 0 _).2.2]
    have cb := checkBoth_any a b w ha hb
    generalize chk2 a.data.toList b.data.toList = e at *
    have C := Lib.hid cb
    have hn : (e != 0) = true := by simpa using hz
    clear cb hz ht
    go_enter Tryd.func12, Tryd.ntmps12
    go_wp2_with fail
    refine C.out.mono ?_
    rintro e w' ⟨rfl, rfl⟩
    go_wp2
    go_ret3
    exact ⟨rfl, Below.refl _ _⟩
end Go.Proofs.YtajonpcmgebbbaaDoor
