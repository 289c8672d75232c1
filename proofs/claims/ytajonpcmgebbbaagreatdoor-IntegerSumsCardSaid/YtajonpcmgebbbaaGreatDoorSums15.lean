/- Parts of the proof of the text YtajonpcmgebbbaaGreatDoorSums17. -/
import Derived.Test.YtajonpcmgebbbaaGreatDoorSums14
/- The walks of Gcd and Root for long texts, over contracts of gcd and root. -/
namespace Go.Proofs.YtajonpcmgebbbaaGreatDoor
open Go.RowKit

/-- the contract of gcd at two numbers -/
def GcdOK (x y : Nat) : Prop := ∀ (va vb : Value) (base : Nat) (W : World), IsNat W va x → IsNat W vb y → Fresh base va → Fresh base vb → base ≤ W.heap.size → (dg x = [] ∨ dg y = [] ∨ va.ownBlock ≠ vb.ownBlock) →
  Calls Tryz.prog 42 #[va, vb] W fun e W' => ∃ v, e = .returned v ∧ IsNat W' v (Nat.gcd x y) ∧ Fresh base v ∧ Below base W W'

set_option maxHeartbeats 1000000 in
theorem gcd_empty (x : Nat) : GcdOK x 0 := by
  intro va vb base W ha hb fa fb hbase _
  have hc : ¬ cmpN x 0 < 0 := by unfold cmpN; rw [if_neg (by omega)]; split <;> omega
  have cc := compare_any va vb x 0 W ha hb
  obtain ⟨c, hcx⟩ : ∃ c, cmpN x 0 = c := ⟨_, rfl⟩
  rw [hcx] at cc hc
  rw [Nat.gcd_zero_right]
  have HA := Lib.hid (And.intro ha fa)
  have CC := Lib.hid cc
  obtain ⟨pa, ca, rfl⟩ := ha.shape
  obtain ⟨pb, cb, rfl⟩ := hb.shape
  have hz : (dg 0).length = 0 := by rw [dg_zero]; rfl
  rw [hz] at CC ⊢
  clear cc ha hb fa fb hcx hz
  generalize (dg x).length = la at *
  go_enter Tryz.func42, Tryz.ntmps42
  go_wp2_with fail
  refine CC.out.mono ?_
  rintro e w' ⟨rfl, k, rfl⟩
  clear CC
  go_wp2
  go_loopw [0, 1] (fun x y wr => x = .slice pa la ca ∧ y = .slice pb 0 cb ∧ wr = W.drewN k) (fun _ _ _ => 0)
  case atStart => exact ⟨rfl, rfl, rfl⟩
  case round =>
    obtain ⟨rfl, rfl, rfl⟩ := hrel
    go_wp2
    go_ret
    exact ⟨_, rfl, HA.out.1.next (Below.drewK _ _ _), HA.out.2, Below.drewK _ _ _⟩

set_option maxHeartbeats 1000000 in
theorem Gcd_mid (a b : ByteArray) (w : World) (k1 : chk a.data.toList = 0) (k2 : chk b.data.toList = 0) (s1 : (szB a).size ≤ 18) (s2 : (szB b).size ≤ 18) (ht : Tab w) :
    Calls Tryz.prog 17 #[.string a, .string b] w fun e W' => e = .returned (.tuple #[.string (strB (Nat.gcd (natOf (szL a.data.toList)) (natOf (szL b.data.toList)) : Nat)), .int .i64 0]) ∧ Below w.heap.size w W' := by
  have q1 := chk_size k1
  have q2 := chk_size k2
  have cb := checkBoth_any a b w (by unfold maxLen; omega) (by unfold maxLen; omega)
  have hc2 : chk2 a.data.toList b.data.toList = 0 := by unfold chk2; rw [if_pos k1]; exact k2
  rw [hc2] at cb
  have z1 := szB_size a
  have z2 := szB_size b
  have i1 := fun W => isShort_any (szB a) W (by unfold maxLen; omega)
  have i2 := fun W => isShort_any (szB b) W (by unfold maxLen; omega)
  have t1 : decide (((szB a).size : Int) ≤ 18) = true := by simp; omega
  have t2 : decide (((szB b).size : Int) ≤ 18) = true := by simp; omega
  rw [t1] at i1; rw [t2] at i2
  have m1 := fun W => value_any (szB a) W (by omega) (by rw [szB_data]; exact chk_dig k1)
  have m2 := fun W => value_any (szB b) W (by omega) (by rw [szB_data]; exact chk_dig k2)
  rw [szB_data] at m1 m2
  have v1 := natOf_18 _ (chk_dig k1) (by have := s1; rw [← size_len, szB_data] at this; exact this)
  have v2 := natOf_18 _ (chk_dig k2) (by have := s2; rw [← size_len, szB_data] at this; exact this)
  have y1 := fun W => sizeText_any a W (by unfold maxLen; omega)
  have y2 := fun W => sizeText_any b W (by unfold maxLen; omega)
  generalize natOf (szL a.data.toList) = x at *
  generalize natOf (szL b.data.toList) = y at *
  have dm := fun W => gcdMachine_any x y W (by omega) (by omega)
  have hg : Nat.gcd x y < 1000000000000000000 := by
    by_cases h0 : x = 0
    · subst h0; rw [Nat.gcd_zero_left]; exact v2
    · exact Nat.lt_of_le_of_lt (Nat.gcd_le_left _ (by omega)) v1
  generalize Nat.gcd x y = g at *
  have o1 := fun W (h : Below w.heap.size w W) => ofMachine_any (g : Nat) W (by omega) (by omega) (ht.next h)
  clear s1 s2
  generalize szB a = sa at *
  generalize szB b = sb at *
  have C := Lib.hid (And.intro cb (And.intro y1 (And.intro y2 (And.intro i1 (And.intro i2 (And.intro m1 (And.intro m2 (And.intro dm o1))))))))
  clear cb i1 i2 m1 m2 dm o1 y1 y2 v1 v2 t1 t2 hc2 ht k1 k2 z1 z2
  go_enter Tryz.func17, Tryz.ntmps17
  go_wp2_with fail
  refine C.out.1.mono ?_
  rintro e w' ⟨rfl, rfl⟩
  go_wp2_with fail
  refine (C.out.2.1 _).mono ?_
  rintro e w' ⟨rfl, rfl⟩
  go_wp2_with fail
  refine (C.out.2.2.1 _).mono ?_
  rintro e w' ⟨rfl, rfl⟩
  go_wp2_with fail
  refine (C.out.2.2.2.1 _).mono ?_
  rintro e w' ⟨rfl, rfl⟩
  go_wp2_with fail
  refine (C.out.2.2.2.2.1 _).mono ?_
  rintro e w' ⟨rfl, rfl⟩
  go_wp2_with fail
  refine (C.out.2.2.2.2.2.1 _).mono ?_
  rintro e w' ⟨rfl, rfl⟩
  go_wp2_with fail
  refine (C.out.2.2.2.2.2.2.1 _).mono ?_
  rintro e w' ⟨rfl, rfl⟩
  go_wp2_with fail
  refine (C.out.2.2.2.2.2.2.2.1 _).mono ?_
  rintro e w' ⟨rfl, nn, rfl⟩
  go_wp2_with fail
  refine (C.out.2.2.2.2.2.2.2.2 _ (Below.drewN' nn)).mono ?_
  rintro e w1 ⟨rfl, b1⟩
  have H1 := Lib.hid ((Below.drewN' nn).trans (show Below w.heap.size (w.drewN nn) w1 from b1)); clear b1 C
  go_wp2
  go_ret2
  exact ⟨rfl, H1.out⟩

theorem szL_valAbs (l : List UInt8) : (valOf l).natAbs = natOf (szL l) := by rw [← val_sgn, sgn_abs]

set_option maxHeartbeats 1000000 in
theorem Gcd_long (a b : ByteArray) (w : World) (k1 : chk a.data.toList = 0) (k2 : chk b.data.toList = 0) (hs : ¬ ((szB a).size ≤ 18 ∧ (szB b).size ≤ 18)) (hg : GcdOK (natOf (szL a.data.toList)) (natOf (szL b.data.toList))) (ht : Tab w) :
    Calls Tryz.prog 17 #[.string a, .string b] w fun e W' => e = .returned (.tuple #[.string (strB (Nat.gcd (natOf (szL a.data.toList)) (natOf (szL b.data.toList)) : Nat)), .int .i64 0]) ∧ Below w.heap.size w W' := by
  have s1 := chk_size k1
  have s2 := chk_size k2
  have cb := checkBoth_any a b w (by unfold maxLen; omega) (by unfold maxLen; omega)
  have hc2 : chk2 a.data.toList b.data.toList = 0 := by unfold chk2; rw [if_pos k1]; exact k2
  rw [hc2] at cb
  have z1 := szB_size a
  have z2 := szB_size b
  have i1 := fun W => isShort_any (szB a) W (by unfold maxLen; omega)
  have i2 := fun W => isShort_any (szB b) W (by unfold maxLen; omega)
  have m1 := fun W => readNatural_any (szB a) W (by omega) (by rw [szB_data]; exact chk_dig k1)
  have m2 := fun W => readNatural_any (szB b) W (by omega) (by rw [szB_data]; exact chk_dig k2)
  rw [szB_data] at m1 m2
  have y1 := fun W => sizeText_any a W (by unfold maxLen; omega)
  have y2 := fun W => sizeText_any b W (by unfold maxLen; omega)
  have n1 := nat_lim k1
  have n2 := nat_lim k2
  generalize natOf (szL a.data.toList) = x at *
  generalize natOf (szL b.data.toList) = y at *
  have hgl : Nat.gcd x y < lim := by
    by_cases h0 : x = 0
    · subst h0; rw [Nat.gcd_zero_left]; exact n2
    · exact Nat.lt_of_le_of_lt (Nat.gcd_le_left _ (by omega)) n1
  have tx := fun v W (h : IsNat W v (Nat.gcd x y)) (hb : Below w.heap.size w W) => text_any false v (Nat.gcd x y) W h (Nat.le_trans (dg_lim hgl) (by decide)) (ht.next hb)
  have e1 : resB (sgnZ false (Nat.gcd x y)) = strB (Nat.gcd x y : Nat) := by unfold sgnZ; exact if_pos (by simpa using hgl)
  have e2 : resE (sgnZ false (Nat.gcd x y)) = 0 := by unfold sgnZ; exact if_pos (by simpa using hgl)
  rw [e1, e2] at tx
  have TX := Lib.hid tx
  have HG := Lib.hid hg
  have C := Lib.hid (And.intro cb (And.intro y1 (And.intro y2 (And.intro i1 (And.intro i2 (And.intro m1 m2))))))
  clear cb i1 i2 m1 m2 y1 y2 hc2 ht k1 k2 s1 s2 tx hg hgl e1 e2 n1 n2
  have rest : True := trivial
  generalize szB a = sa at *
  generalize szB b = sb at *
  by_cases g1 : sa.size ≤ 18
  · have t1 : decide ((sa.size : Int) ≤ 18) = true := by simp; omega
    have t2 : decide ((sb.size : Int) ≤ 18) = false := by simp; omega
    go_enter Tryz.func17, Tryz.ntmps17
    go_wp2_with fail
    refine C.out.1.mono ?_
    rintro e w' ⟨rfl, rfl⟩
    go_wp2_with fail
    refine (C.out.2.1 _).mono ?_
    rintro e w' ⟨rfl, rfl⟩
    go_wp2_with fail
    refine (C.out.2.2.1 _).mono ?_
    rintro e w' ⟨rfl, rfl⟩
    go_wp2_with fail
    refine (C.out.2.2.2.1 _).mono ?_
    rintro e w' ⟨rfl, rfl⟩
    rw [t1]
    go_wp2_with fail
    refine (C.out.2.2.2.2.1 _).mono ?_
    rintro e w' ⟨rfl, rfl⟩
    rw [t2]
    go_wp2_with fail
    refine (C.out.2.2.2.2.2.1 _).mono ?_
    rintro e w1 ⟨va, rfl, hva, hfa, hb1⟩
    obtain ⟨pa, ca, rfl⟩ := hva.shape
    have H1 := Lib.hid (And.intro hva (And.intro hfa hb1)); clear hva hfa hb1
    generalize (dg x).length = la at *
    go_wp2_with fail
    refine (C.out.2.2.2.2.2.2 _).mono ?_
    rintro e w2 ⟨vb, rfl, hvb, hfb, hb2⟩
    obtain ⟨pb, cb, rfl⟩ := hvb.shape
    have hB2 := H1.out.2.2.trans (hb2.mono H1.out.2.2.size)
    have hdis : dg x = [] ∨ dg y = [] ∨ (Value.slice pa la ca).ownBlock ≠ (Value.slice pb (dg y).length cb).ownBlock := by
      by_cases hy : dg y = []
      · exact .inr (.inl hy)
      · cases hpb : (Value.slice pb (dg y).length cb).ownBlock with
        | none => exact absurd (by
            obtain ⟨p', cap', he, q1, q2, q3⟩ := hvb
            obtain ⟨b, off, e, _⟩ := q3 hy
            simp only [Value.slice.injEq] at he
            rw [he.1, e] at hpb
            simp [Value.ownBlock] at hpb) id
        | some c =>
          have hcb := hfb c hpb
          rcases IsNat.far (c := c) H1.out.1 hcb with h | h
          · exact .inl h
          · exact .inr (.inr h)
    have CG := Lib.hid (HG.out _ _ w.heap.size w2 (H1.out.1.next hb2) hvb H1.out.2.1 (hfb.mono H1.out.2.2.size) hB2.size hdis)
    have H2 := Lib.hid hB2
    clear hvb hfb hb2 hB2 H1 hdis HG
    generalize (dg y).length = lb at *
    go_wp2_with fail
    refine CG.out.mono ?_
    rintro e w3 ⟨v, rfl, hv, _, hb3⟩
    obtain ⟨pv, cv, rfl⟩ := hv.shape
    have H3 := Lib.hid (And.intro hv (H2.out.trans hb3))
    clear hv hb3 CG H2
    generalize (dg (Nat.gcd x y)).length = lv at *
    go_wp2_with fail
    refine (TX.out _ _ H3.out.1 H3.out.2).mono ?_
    rintro e w4 ⟨rfl, hb4⟩
    have H4 := Lib.hid (H3.out.2.trans (hb4.mono H3.out.2.size))
    clear hb4 H3 TX
    go_wp2
    go_ret2
    exact ⟨rfl, H4.out⟩
  · have t1 : decide ((sa.size : Int) ≤ 18) = false := by simp; omega
    go_enter Tryz.func17, Tryz.ntmps17
    go_wp2_with fail
    refine C.out.1.mono ?_
    rintro e w' ⟨rfl, rfl⟩
    go_wp2_with fail
    refine (C.out.2.1 _).mono ?_
    rintro e w' ⟨rfl, rfl⟩
    go_wp2_with fail
    refine (C.out.2.2.1 _).mono ?_
    rintro e w' ⟨rfl, rfl⟩
    go_wp2_with fail
    refine (C.out.2.2.2.1 _).mono ?_
    rintro e w' ⟨rfl, rfl⟩
    rw [t1]
    go_wp2_with fail
    refine (C.out.2.2.2.2.2.1 _).mono ?_
    rintro e w1 ⟨va, rfl, hva, hfa, hb1⟩
    obtain ⟨pa, ca, rfl⟩ := hva.shape
    have H1 := Lib.hid (And.intro hva (And.intro hfa hb1)); clear hva hfa hb1
    generalize (dg x).length = la at *
    go_wp2_with fail
    refine (C.out.2.2.2.2.2.2 _).mono ?_
    rintro e w2 ⟨vb, rfl, hvb, hfb, hb2⟩
    obtain ⟨pb, cb, rfl⟩ := hvb.shape
    have hB2 := H1.out.2.2.trans (hb2.mono H1.out.2.2.size)
    have hdis : dg x = [] ∨ dg y = [] ∨ (Value.slice pa la ca).ownBlock ≠ (Value.slice pb (dg y).length cb).ownBlock := by
      by_cases hy : dg y = []
      · exact .inr (.inl hy)
      · cases hpb : (Value.slice pb (dg y).length cb).ownBlock with
        | none => exact absurd (by
            obtain ⟨p', cap', he, q1, q2, q3⟩ := hvb
            obtain ⟨b, off, e, _⟩ := q3 hy
            simp only [Value.slice.injEq] at he
            rw [he.1, e] at hpb
            simp [Value.ownBlock] at hpb) id
        | some c =>
          have hcb := hfb c hpb
          rcases IsNat.far (c := c) H1.out.1 hcb with h | h
          · exact .inl h
          · exact .inr (.inr h)
    have CG := Lib.hid (HG.out _ _ w.heap.size w2 (H1.out.1.next hb2) hvb H1.out.2.1 (hfb.mono H1.out.2.2.size) hB2.size hdis)
    have H2 := Lib.hid hB2
    clear hvb hfb hb2 hB2 H1 hdis HG
    generalize (dg y).length = lb at *
    go_wp2_with fail
    refine CG.out.mono ?_
    rintro e w3 ⟨v, rfl, hv, _, hb3⟩
    obtain ⟨pv, cv, rfl⟩ := hv.shape
    have H3 := Lib.hid (And.intro hv (H2.out.trans hb3))
    clear hv hb3 CG H2
    generalize (dg (Nat.gcd x y)).length = lv at *
    go_wp2_with fail
    refine (TX.out _ _ H3.out.1 H3.out.2).mono ?_
    rintro e w4 ⟨rfl, hb4⟩
    have H4 := Lib.hid (H3.out.2.trans (hb4.mono H3.out.2.size))
    clear hb4 H3 TX
    go_wp2
    go_ret2
    exact ⟨rfl, H4.out⟩
end Go.Proofs.YtajonpcmgebbbaaGreatDoor

/- The walks of the reference's division, and of its Gcd. -/
namespace Go.Proofs.YtajonpcmgebbbaaGreatDoor.R
open Go.RowKit

theorem dg_lim' {n : Nat} (h : n < lim) : (dg n).length ≤ 50 := by
  have q := lim_pow (6 * 50) (by decide)
  have r := Nat.le_trans q (Nat.le_of_eq (B_pow6 50).symm)
  exact (dg_length_le n 50).2 (Nat.lt_of_lt_of_le h r)

theorem field1 (u v : Value) (w : World) : (Instr.field 53 (.agg #[u, v]) 1).run Tryz.prog w = .ok v w := by kernel_rfl

end Go.Proofs.YtajonpcmgebbbaaGreatDoor.R

/- The walks of the reference's signed integers: result, mul. -/
namespace Go.Proofs.YtajonpcmgebbbaaGreatDoor.R
open Go.RowKit

theorem chk_strB (z : Int) : chk (strB z).data.toList = 0 ↔ z.natAbs < lim := by
  constructor
  · intro h
    have h1 := nat_lim h
    rwa [← szL_valAbs, strB_val] at h1
  · exact strB_chk
set_option maxHeartbeats 1000000 in
theorem result_any (neg : Bool) (v : Value) (n : Nat) (w : World) (h : IsNat w v n) (hn : (dg n).length ≤ 10000) :
    Calls Tryz.prog 28 #[.agg #[.bool neg, v]] w fun e W' => e = .returned (.tuple #[.string (resB (sgnZ neg n)), .int .i64 (resE (sgnZ neg n))]) ∧ Below w.heap.size w W' := by
  have cw := fun W (hW : Below w.heap.size w W) => write_any neg v n W (h.next hW) hn
  have hl : (strB (sgnZ neg n)).size ≤ maxLen := by
    rw [strB_len]
    by_cases h0 : n = 0
    · subst h0
      have : sgnZ neg 0 = 0 := sgn_zero neg
      rw [this]; decide +kernel
    · have hp := dg_len_pos h0
      have hd := (nDigits_le_iff n (6 * (dg n).length) (by omega)).2 (by rw [← B_pow6]; exact (dg_length_le n _).1 (Nat.le_refl _))
      rw [itoa_sgn neg h0, List.length_append, Lib.decDigits_length]
      have hs : (signT neg).length ≤ 1 := by cases neg <;> simp [signT]
      unfold maxLen
      omega
  have cc := fun W => refCheck_any (strB (sgnZ neg n)) W hl
  obtain ⟨p, cap, rfl⟩ := h.shape
  have C := Lib.hid (And.intro cw cc)
  have hk := chk_strB (sgnZ neg n)
  by_cases hb : (sgnZ neg n).natAbs < lim
  · have e1 : resB (sgnZ neg n) = strB (sgnZ neg n) := if_pos hb
    have e2 : resE (sgnZ neg n) = 0 := if_pos hb
    rw [e1, e2]
    rw [hk.2 hb] at C
    clear cw cc hk hb e1 e2 h hl
    generalize strB (sgnZ neg n) = s at *
    generalize (dg n).length = l at *
    go_enter Tryz.func28, Tryz.ntmps28
    go_wp2_with fail
    refine (C.out.1 _ ((Below.refl _ _).alloc (Nat.le_refl _) _)).mono ?_
    rintro e w1 ⟨rfl, hb1⟩
    have HB := Lib.hid (((Below.refl _ w).alloc (Nat.le_refl _) _).trans (hb1.mono (by simp)))
    clear hb1
    go_wp2_with fail
    refine (C.out.2 _).mono ?_
    rintro e w' ⟨rfl, rfl⟩
    go_wp2
    go_ret2
    exact ⟨rfl, HB.out⟩
  · have e1 : resB (sgnZ neg n) = ⟨#[]⟩ := if_neg hb
    have e2 : resE (sgnZ neg n) = 4 := if_neg hb
    rw [e1, e2]
    have hne : (chk (strB (sgnZ neg n)).data.toList != 0) = true := by rw [bne_iff_ne]; exact fun e => hb (hk.1 e)
    clear cw cc hk hb e1 e2 h hl
    generalize strB (sgnZ neg n) = s at *
    generalize chk s.data.toList = c at *
    generalize (dg n).length = l at *
    go_enter Tryz.func28, Tryz.ntmps28
    go_wp2_with fail
    refine (C.out.1 _ ((Below.refl _ _).alloc (Nat.le_refl _) _)).mono ?_
    rintro e w1 ⟨rfl, hb1⟩
    have HB := Lib.hid (((Below.refl _ w).alloc (Nat.le_refl _) _).trans (hb1.mono (by simp)))
    clear hb1
    go_wp2_with fail
    refine (C.out.2 _).mono ?_
    rintro e w' ⟨rfl, rfl⟩
    go_wp2
    go_ret2
    exact ⟨rfl, HB.out⟩

theorem alloc_drew_cell {w : World} {a : Addr} {o : Obj} {u : Value} (h : w.cell? a = some u) : (w.alloc o).drew.cell? a = some u :=
  (World.cell?_of_block (w := w) (Below.heap_alloc w o _ (World.block_lt_of_cell? w a h))).trans h
theorem alloc_cell {w : World} {a : Addr} {o : Obj} {u : Value} (h : w.cell? a = some u) : (w.alloc o).cell? a = some u :=
  (World.cell?_of_block (w := w) (Below.heap_alloc w o _ (World.block_lt_of_cell? w a h))).trans h

/-- the box o of the number ng, V that is made, and the box of the result, k + 2 -/
structure OB (w : World) (k o : Nat) (ng : Bool) (V : Value) (n : Nat) (W : World) : Prop where
  p0 : W.cell? ⟨o, 0, none⟩ = some (.bool ng)
  p1 : W.cell? ⟨o, 1, none⟩ = some V
  g0 : W.frozen? ⟨o, 0, none⟩ = false
  r0 : ∃ u, W.cell? ⟨k + 1 + 1, 0, none⟩ = some u
  r1 : ∃ u, W.cell? ⟨k + 1 + 1, 1, none⟩ = some u
  f0 : W.frozen? ⟨k + 1 + 1, 0, none⟩ = false
  f1 : W.frozen? ⟨k + 1 + 1, 1, none⟩ = false
  ho : k + 3 ≤ o
  nat : IsNat W V n
  fr : Fresh (k + 3) V
  bel : Below k w W
theorem OB.alloc {w w1 : World} {k : Nat} {ng : Bool} {V x0 x1 y0 y1 z0 z1 : Value} {n : Nat} {T : TypeId} (h : Boxes w k x0 x1 y0 y1 z0 z1 w1) (hn : IsNat w1 V n) (hf : Fresh (k + 3) V) : OB w k w1.heap.size ng V n (w1.alloc (.cells #[.bool ng, V] T)) := by
  have hs := h.size
  have ha : Below w1.heap.size w1 (w1.alloc (.cells #[.bool ng, V] T)) := (Below.refl _ _).alloc (Nat.le_refl _) _
  exact ⟨by go_cell, by go_cell, by simp [go_sem], ⟨_, alloc_cell h.c5⟩, ⟨_, alloc_cell h.c6⟩, (ha.frozen (p := ⟨k + 1 + 1, 0, none⟩) (by show k + 1 + 1 < _; omega)).trans h.f5, (ha.frozen (p := ⟨k + 1 + 1, 1, none⟩) (by show k + 1 + 1 < _; omega)).trans h.f6, hs, hn.next ha, hf, h.below.trans (ha.mono (by omega))⟩
theorem frozen_set (w : World) (p q : Addr) (u : Value) : (w.setCell p u).frozen? q = w.frozen? q := by simp [go_sem]
theorem OB.set {w w1 : World} {k o : Nat} {ng : Bool} {V x0 x1 y0 y1 z0 z1 u0 u1 : Value} {n : Nat} (h : Boxes w k x0 x1 y0 y1 z0 z1 w1) (h0 : w1.cell? ⟨o, 0, none⟩ = some u0) (h1 : w1.cell? ⟨o, 1, none⟩ = some u1) (hfz : w1.frozen? ⟨o, 0, none⟩ = false) (ho : k + 3 ≤ o) (hn : IsNat w1 V n) (hf : Fresh (o + 1) V) :
    OB w k o ng V n ((w1.setCell ⟨o, 0, none⟩ (.bool ng)).setCell ⟨o, 1, none⟩ V) := by
  have hs := h.size
  obtain ⟨b0, b1⟩ := two_back h0 h1 (.bool ng) V
  have q0 : ((w1.setCell ⟨o, 0, none⟩ (.bool ng)).setCell ⟨o, 1, none⟩ V).cell? ⟨o, 0, none⟩ = some (.bool ng) := by go_cell
  refine ⟨q0, b1, by rw [frozen_set, frozen_set]; exact hfz, ⟨_, far2 (by omega) h.c5⟩, ⟨_, far2 (by omega) h.c6⟩, by rw [frozen_set, frozen_set]; exact h.f5, by rw [frozen_set, frozen_set]; exact h.f6, ho, (hn.setCell hf (by show o < o + 1; omega) _).setCell hf (by show o < o + 1; omega) _, hf.mono (by omega), (h.below.setCell (p := ⟨o, 0, none⟩) (by show k ≤ o; omega) _).setCell (p := ⟨o, 1, none⟩) (by show k ≤ o; omega) _⟩
theorem IsNat.any0 {w W : World} {v : Value} (h : IsNat w v 0) : IsNat W v 0 := by
  obtain ⟨p, cap, e, h1, h2, _⟩ := h
  exact ⟨p, cap, e, h1, h2, fun h => absurd dg_zero h⟩

end Go.Proofs.YtajonpcmgebbbaaGreatDoor.R

