/- Parts of the proof of the text YtajonpcmgebbbaaDoorProducts23. -/
import Derived.Test.YtajonpcmgebbbaaDoorProducts15
/- The walks of Gcd and Root for long texts, over contracts of gcd and root. -/
namespace Go.Proofs.YtajonpcmgebbbaaDoor
open Go.RowKit

/-- the contract of gcd at two numbers -/
def GcdOK (x y : Nat) : Prop := ∀ (va vb : Value) (base : Nat) (W : World), IsNat W va x → IsNat W vb y → Fresh base va → Fresh base vb → base ≤ W.heap.size → (dg x = [] ∨ dg y = [] ∨ va.ownBlock ≠ vb.ownBlock) →
  Calls Tryd.prog 46 #[va, vb] W fun e W' => ∃ v, e = .returned v ∧ IsNat W' v (Nat.gcd x y) ∧ Fresh base v ∧ Below base W W'

set_option maxHeartbeats 1000000 in
theorem gcd_empty (x : Nat) : GcdOK x 0 := by
  intro va vb base W ha hb fa fb hbase _
  have hc : ¬ cmpN x 0 < 0 := by unfold cmpN; rw [if_neg (by omega)]; split <;> omega
  have cc := compare_any va vb x 0 W ha hb
  obtain ⟨c, hcx⟩ : ∃ c, cmpN x 0 = c := ⟨_, rfl⟩
  rw [hcx] at cc hc
  rw [Nat.gcd_zero_right]
  have HA := Lib.hid (And.intro ha fa)
  have CC := Lib.hid cc
  obtain ⟨pa, ca, rfl⟩ := ha.shape
  obtain ⟨pb, cb, rfl⟩ := hb.shape
  have hz : (dg 0).length = 0 := by rw [dg_zero]; rfl
  rw [hz] at CC ⊢
  clear cc ha hb fa fb hcx hz
  generalize (dg x).length = la at *
  go_enter Tryd.func46, Tryd.ntmps46
  go_wp2_with fail
  refine CC.out.mono ?_
  rintro e w' ⟨rfl, k, rfl⟩
  clear CC
  go_wp2
  go_loopw [0, 1] (fun x y wr => x = .slice pa la ca ∧ y = .slice pb 0 cb ∧ wr = W.drewN k) (fun _ _ _ => 0)
  case atStart => exact ⟨rfl, rfl, rfl⟩
  case round =>
    obtain ⟨rfl, rfl, rfl⟩ := hrel
    go_wp2
    go_ret
    exact ⟨_, rfl, HA.out.1.next (Below.drewK _ _ _), HA.out.2, Below.drewK _ _ _⟩

set_option maxHeartbeats 1000000 in
theorem Gcd_mid (a b : ByteArray) (w : World) (k1 : chk a.data.toList = 0) (k2 : chk b.data.toList = 0) (s1 : (szB a).size ≤ 18) (s2 : (szB b).size ≤ 18) (ht : Tab w) :
    Calls Tryd.prog 14 #[.string a, .string b] w fun e W' => e = .returned (.tuple #[.string (strB (Nat.gcd (natOf (szL a.data.toList)) (natOf (szL b.data.toList)) : Nat)), .int .i64 0]) ∧ Below w.heap.size w W' := by
  have q1 := chk_size k1
  have q2 := chk_size k2
  have cb := checkBoth_any a b w (by unfold maxLen; omega) (by unfold maxLen; omega)
  have hc2 : chk2 a.data.toList b.data.toList = 0 := by unfold chk2; rw [if_pos k1]; exact k2
  rw [hc2] at cb
  have z1 := szB_size a
  have z2 := szB_size b
  have i1 := fun W => isShort_any (szB a) W (by unfold maxLen; omega)
  have i2 := fun W => isShort_any (szB b) W (by unfold maxLen; omega)
  have t1 : decide (((szB a).size : Int) ≤ 18) = true := by simp; omega
  have t2 : decide (((szB b).size : Int) ≤ 18) = true := by simp; omega
  rw [t1] at i1; rw [t2] at i2
  have m1 := fun W => value_any (szB a) W (by omega) (by rw [szB_data]; exact chk_dig k1)
  have m2 := fun W => value_any (szB b) W (by omega) (by rw [szB_data]; exact chk_dig k2)
  rw [szB_data] at m1 m2
  have v1 := natOf_18 _ (chk_dig k1) (by have := s1; rw [← size_len, szB_data] at this; exact this)
  have v2 := natOf_18 _ (chk_dig k2) (by have := s2; rw [← size_len, szB_data] at this; exact this)
  have y1 := fun W => sizeText_any a W (by unfold maxLen; omega)
  have y2 := fun W => sizeText_any b W (by unfold maxLen; omega)
  generalize natOf (szL a.data.toList) = x at *
  generalize natOf (szL b.data.toList) = y at *
  have dm := fun W => gcdMachine_any x y W (by omega) (by omega)
  have hg : Nat.gcd x y < 1000000000000000000 := by
    by_cases h0 : x = 0
    · subst h0; rw [Nat.gcd_zero_left]; exact v2
    · exact Nat.lt_of_le_of_lt (Nat.gcd_le_left _ (by omega)) v1
  generalize Nat.gcd x y = g at *
  have o1 := fun W (h : Below w.heap.size w W) => ofMachine_any (g : Nat) W (by omega) (by omega) (ht.next h)
  clear s1 s2
  generalize szB a = sa at *
  generalize szB b = sb at *
  have C := Lib.hid (And.intro cb (And.intro y1 (And.intro y2 (And.intro i1 (And.intro i2 (And.intro m1 (And.intro m2 (And.intro dm o1))))))))
  clear cb i1 i2 m1 m2 dm o1 y1 y2 v1 v2 t1 t2 hc2 ht k1 k2 z1 z2
  go_enter Tryd.func14, Tryd.ntmps14
  go_wp2_with fail
  refine C.out.1.mono ?_
  rintro e w' ⟨rfl, rfl⟩
  go_wp2_with fail
  refine (C.out.2.1 _).mono ?_
  rintro e w' ⟨rfl, rfl⟩
  go_wp2_with fail
  refine (C.out.2.2.1 _).mono ?_
  rintro e w' ⟨rfl, rfl⟩
  go_wp2_with fail
  refine (C.out.2.2.2.1 _).mono ?_
  rintro e w' ⟨rfl, rfl⟩
  go_wp2_with fail
  refine (C.out.2.2.2.2.1 _).mono ?_
  rintro e w' ⟨rfl, rfl⟩
  go_wp2_with fail
  refine (C.out.2.2.2.2.2.1 _).mono ?_
  rintro e w' ⟨rfl, rfl⟩
  go_wp2_with fail
  refine (C.out.2.2.2.2.2.2.1 _).mono ?_
  rintro e w' ⟨rfl, rfl⟩
  go_wp2_with fail
  refine (C.out.2.2.2.2.2.2.2.1 _).mono ?_
  rintro e w' ⟨rfl, nn, rfl⟩
  go_wp2_with fail
  refine (C.out.2.2.2.2.2.2.2.2 _ (Below.drewN' nn)).mono ?_
  rintro e w1 ⟨rfl, b1⟩
  have H1 := Lib.hid ((Below.drewN' nn).trans (show Below w.heap.size (w.drewN nn) w1 from b1)); clear b1 C
  go_wp2
  go_ret2
  exact ⟨rfl, H1.out⟩

theorem szL_valAbs (l : List UInt8) : (valOf l).natAbs = natOf (szL l) := by rw [← val_sgn, sgn_abs]

set_option maxHeartbeats 1000000 in
theorem Gcd_long (a b : ByteArray) (w : World) (k1 : chk a.data.toList = 0) (k2 : chk b.data.toList = 0) (hs : ¬ ((szB a).size ≤ 18 ∧ (szB b).size ≤ 18)) (hg : GcdOK (natOf (szL a.data.toList)) (natOf (szL b.data.toList))) (ht : Tab w) :
    Calls Tryd.prog 14 #[.string a, .string b] w fun e W' => e = .returned (.tuple #[.string (strB (Nat.gcd (natOf (szL a.data.toList)) (natOf (szL b.data.toList)) : Nat)), .int .i64 0]) ∧ Below w.heap.size w W' := by
  have s1 := chk_size k1
  have s2 := chk_size k2
  have cb := checkBoth_any a b w (by unfold maxLen; omega) (by unfold maxLen; omega)
  have hc2 : chk2 a.data.toList b.data.toList = 0 := by unfold chk2; rw [if_pos k1]; exact k2
  rw [hc2] at cb
  have z1 := szB_size a
  have z2 := szB_size b
  have i1 := fun W => isShort_any (szB a) W (by unfold maxLen; omega)
  have i2 := fun W => isShort_any (szB b) W (by unfold maxLen; omega)
  have m1 := fun W => readNatural_any (szB a) W (by omega) (by rw [szB_data]; exact chk_dig k1)
  have m2 := fun W => readNatural_any (szB b) W (by omega) (by rw [szB_data]; exact chk_dig k2)
  rw [szB_data] at m1 m2
  have y1 := fun W => sizeText_any a W (by unfold maxLen; omega)
  have y2 := fun W => sizeText_any b W (by unfold maxLen; omega)
  have n1 := nat_lim k1
  have n2 := nat_lim k2
  generalize natOf (szL a.data.toList) = x at *
  generalize natOf (szL b.data.toList) = y at *
  have hgl : Nat.gcd x y < lim := by
    by_cases h0 : x = 0
    · subst h0; rw [Nat.gcd_zero_left]; exact n2
    · exact Nat.lt_of_le_of_lt (Nat.gcd_le_left _ (by omega)) n1
  have tx := fun v W (h : IsNat W v (Nat.gcd x y)) (hb : Below w.heap.size w W) => text_any false v (Nat.gcd x y) W h (Nat.le_trans (dg_lim hgl) (by decide)) (ht.next hb)
  have e1 : resB (sgnZ false (Nat.gcd x y)) = strB (Nat.gcd x y : Nat) := by unfold sgnZ; exact if_pos (by simpa using hgl)
  have e2 : resE (sgnZ false (Nat.gcd x y)) = 0 := by unfold sgnZ; exact if_pos (by simpa using hgl)
  rw [e1, e2] at tx
  have TX := Lib.hid tx
  have HG := Lib.hid hg
  have C := Lib.hid (And.intro cb (And.intro y1 (And.intro y2 (And.intro i1 (And.intro i2 (And.intro m1 m2))))))
  clear cb i1 i2 m1 m2 y1 y2 hc2 ht k1 k2 s1 s2 tx hg hgl e1 e2 n1 n2
  have rest : True := trivial
  generalize szB a = sa at *
  generalize szB b = sb at *
  by_cases g1 : sa.size ≤ 18
  · have t1 : decide ((sa.size : Int) ≤ 18) = true := by simp; omega
    have t2 : decide ((sb.size : Int) ≤ 18) = false := by simp; omega
    go_enter Tryd.func14, Tryd.ntmps14
    go_wp2_with fail
    refine C.out.1.mono ?_
    rintro e w' ⟨rfl, rfl⟩
    go_wp2_with fail
    refine (C.out.2.1 _).mono ?_
    rintro e w' ⟨rfl, rfl⟩
    go_wp2_with fail
    refine (C.out.2.2.1 _).mono ?_
    rintro e w' ⟨rfl, rfl⟩
    go_wp2_with fail
    refine (C.out.2.2.2.1 _).mono ?_
    rintro e w' ⟨rfl, rfl⟩
    rw [t1]
    go_wp2_with fail
    refine (C.out.2.2.2.2.1 _).mono ?_
    rintro e w' ⟨rfl, rfl⟩
    rw [t2]
    go_wp2_with fail
    refine (C.out.2.2.2.2.2.1 _).mono ?_
    rintro e w1 ⟨va, rfl, hva, hfa, hb1⟩
    obtain ⟨pa, ca, rfl⟩ := hva.shape
    have H1 := Lib.hid (And.intro hva (And.intro hfa hb1)); clear hva hfa hb1
    generalize (dg x).length = la at *
    go_wp2_with fail
    refine (C.out.2.2.2.2.2.2 _).mono ?_
    rintro e w2 ⟨vb, rfl, hvb, hfb, hb2⟩
    obtain ⟨pb, cb, rfl⟩ := hvb.shape
    have hB2 := H1.out.2.2.trans (hb2.mono H1.out.2.2.size)
    have hdis : dg x = [] ∨ dg y = [] ∨ (Value.slice pa la ca).ownBlock ≠ (Value.slice pb (dg y).length cb).ownBlock := by
      by_cases hy : dg y = []
      · exact .inr (.inl hy)
      · cases hpb : (Value.slice pb (dg y).length cb).ownBlock with
        | none => exact absurd (by
            obtain ⟨p', cap', he, q1, q2, q3⟩ := hvb
            obtain ⟨b, off, e, _⟩ := q3 hy
            simp only [Value.slice.injEq] at he
            rw [he.1, e] at hpb
            simp [Value.ownBlock] at hpb) id
        | some c =>
          have hcb := hfb c hpb
          rcases IsNat.far (c := c) H1.out.1 hcb with h | h
          · exact .inl h
          · exact .inr (.inr h)
    have CG := Lib.hid (HG.out _ _ w.heap.size w2 (H1.out.1.next hb2) hvb H1.out.2.1 (hfb.mono H1.out.2.2.size) hB2.size hdis)
    have H2 := Lib.hid hB2
    clear hvb hfb hb2 hB2 H1 hdis HG
    generalize (dg y).length = lb at *
    go_wp2_with fail
    refine CG.out.mono ?_
    rintro e w3 ⟨v, rfl, hv, _, hb3⟩
    obtain ⟨pv, cv, rfl⟩ := hv.shape
    have H3 := Lib.hid (And.intro hv (H2.out.trans hb3))
    clear hv hb3 CG H2
    generalize (dg (Nat.gcd x y)).length = lv at *
    go_wp2_with fail
    refine (TX.out _ _ H3.out.1 H3.out.2).mono ?_
    rintro e w4 ⟨rfl, hb4⟩
    have H4 := Lib.hid (H3.out.2.trans (hb4.mono H3.out.2.size))
    clear hb4 H3 TX
    go_wp2
    go_ret2
    exact ⟨rfl, H4.out⟩
  · have t1 : decide ((sa.size : Int) ≤ 18) = false := by simp; omega
    go_enter Tryd.func14, Tryd.ntmps14
    go_wp2_with fail
    refine C.out.1.mono ?_
    rintro e w' ⟨rfl, rfl⟩
    go_wp2_with fail
    refine (C.out.2.1 _).mono ?_
    rintro e w' ⟨rfl, rfl⟩
    go_wp2_with fail
    refine (C.out.2.2.1 _).mono ?_
    rintro e w' ⟨rfl, rfl⟩
    go_wp2_with fail
    refine (C.out.2.2.2.1 _).mono ?_
    rintro e w' ⟨rfl, rfl⟩
    rw [t1]
    go_wp2_with fail
    refine (C.out.2.2.2.2.2.1 _).mono ?_
    rintro e w1 ⟨va, rfl, hva, hfa, hb1⟩
    obtain ⟨pa, ca, rfl⟩ := hva.shape
    have H1 := Lib.hid (And.intro hva (And.intro hfa hb1)); clear hva hfa hb1
    generalize (dg x).length = la at *
    go_wp2_with fail
    refine (C.out.2.2.2.2.2.2 _).mono ?_
    rintro e w2 ⟨vb, rfl, hvb, hfb, hb2⟩
    obtain ⟨pb, cb, rfl⟩ := hvb.shape
    have hB2 := H1.out.2.2.trans (hb2.mono H1.out.2.2.size)
    have hdis : dg x = [] ∨ dg y = [] ∨ (Value.slice pa la ca).ownBlock ≠ (Value.slice pb (dg y).length cb).ownBlock := by
      by_cases hy : dg y = []
      · exact .inr (.inl hy)
      · cases hpb : (Value.slice pb (dg y).length cb).ownBlock with
        | none => exact absurd (by
            obtain ⟨p', cap', he, q1, q2, q3⟩ := hvb
            obtain ⟨b, off, e, _⟩ := q3 hy
            simp only [Value.slice.injEq] at he
            rw [he.1, e] at hpb
            simp [Value.ownBlock] at hpb) id
        | some c =>
          have hcb := hfb c hpb
          rcases IsNat.far (c := c) H1.out.1 hcb with h | h
          · exact .inl h
          · exact .inr (.inr h)
    have CG := Lib.hid (HG.out _ _ w.heap.size w2 (H1.out.1.next hb2) hvb H1.out.2.1 (hfb.mono H1.out.2.2.size) hB2.size hdis)
    have H2 := Lib.hid hB2
    clear hvb hfb hb2 hB2 H1 hdis HG
    generalize (dg y).length = lb at *
    go_wp2_with fail
    refine CG.out.mono ?_
    rintro e w3 ⟨v, rfl, hv, _, hb3⟩
    obtain ⟨pv, cv, rfl⟩ := hv.shape
    have H3 := Lib.hid (And.intro hv (H2.out.trans hb3))
    clear hv hb3 CG H2
    generalize (dg (Nat.gcd x y)).length = lv at *
    go_wp2_with fail
    refine (TX.out _ _ H3.out.1 H3.out.2).mono ?_
    rintro e w4 ⟨rfl, hb4⟩
    have H4 := Lib.hid (H3.out.2.trans (hb4.mono H3.out.2.size))
    clear hb4 H3 TX
    go_wp2
    go_ret2
    exact ⟨rfl, H4.out⟩
end Go.Proofs.YtajonpcmgebbbaaDoor

/- The walks of the reference's division, and of its Gcd. -/
namespace Go.Proofs.YtajonpcmgebbbaaDoor.R
open Go.RowKit

set_option maxHeartbeats 1000000 in
theorem divide_any (va vb : Value) (a b : Nat) (w : World) (ha : IsNat w va a) (hb : IsNat w vb b) (h0 : b ≠ 0) (hla : (dg a).length ≤ 50000) (hlb : (dg b).length ≤ 50000) :
    Calls Tryd.prog 40 #[va, vb] w fun e W' => ∃ q r, e = .returned (.tuple #[q, r]) ∧ IsNat W' q (a / b) ∧ IsNat W' r (a % b) ∧ Fresh w.heap.size q ∧ Fresh w.heap.size r ∧ Below w.heap.size w W' := by
  have hp := dg_len_pos h0
  by_cases h1 : (dg b).length = 1
  · have hb1 : b < 1000000 := by have := (dg_length_le b 1).1 (by omega); rwa [Nat.pow_one] at this
    have hd : (dg b).getD 0 0 = b := by rw [dg_one h0 hb1]; rfl
    have cs := short_any va (dg a) b w ha (dg_Dig a) (by omega) (by omega) hb1
    rw [toN_dg] at cs
    have CS := Lib.hid cs
    obtain ⟨pa, ca, rfl⟩ := ha.shape
    obtain ⟨pb, cb, rfl⟩ := hb.shape
    obtain ⟨bb, off, rfl, hc⟩ : ∃ bb off, pb = some ⟨bb, off, none⟩ ∧ w.cell? ⟨bb, off, none⟩ = some (.int .i64 (b : Nat)) := by
      obtain ⟨p', cap', he, _, _, h3⟩ := hb
      obtain ⟨bb, off, e, hc⟩ := h3 (by intro e; rw [e] at h1; simp at h1)
      simp only [Value.slice.injEq] at he
      exact ⟨bb, off, he.1.trans e, by have := hc 0 (by omega); rwa [hd, Nat.add_zero] at this⟩
    rw [h1]
    clear cs ha hb hla hlb h0 hp hd h1
    generalize (dg a).length = la at *
    go_enter Tryd.func40, Tryd.ntmps40
    go_wp2_with fail
    refine CS.out.mono ?_
    rintro e W' ⟨q, r, rfl, h1, h2, h3, h4, h5⟩
    obtain ⟨pq, cq, rfl⟩ := h1.shape
    obtain ⟨pr, cr, rfl⟩ := h2.shape
    have H := Lib.hid (And.intro h1 (And.intro h2 (And.intro h3 (And.intro h4 h5))))
    clear CS h1 h2 h3 h4 h5 hc
    generalize (dg (a / b)).length = lq at *
    generalize (dg (a % b)).length = lr at *
    go_wp2
    go_ret2
    exact ⟨_, _, rfl, H.out⟩
  · obtain ⟨n, hn⟩ : ∃ n, (dg b).length = n + 2 := ⟨(dg b).length - 2, by omega⟩
    exact divLong_any va vb a b n w ha hb hn hla (by omega)

theorem dg_lim' {n : Nat} (h : n < lim) : (dg n).length ≤ 50 := by
  have q := lim_pow (6 * 50) (by decide)
  have r := Nat.le_trans q (Nat.le_of_eq (B_pow6 50).symm)
  exact (dg_length_le n 50).2 (Nat.lt_of_lt_of_le h r)

theorem field1 (u v : Value) (w : World) : (Instr.field 56 (.agg #[u, v]) 1).run Tryd.prog w = .ok v w := by kernel_rfl

set_option maxHeartbeats 1000000 in
theorem Gcd_bad (a b : ByteArray) (w : World) (ha : a.size ≤ maxLen) (hb : b.size ≤ maxLen) (hc : chk2 a.data.toList b.data.toList ≠ 0) :
    Calls Tryd.prog 15 #[.string a, .string b] w fun e W' => e = .returned (.tuple #[.string ⟨#[]⟩, .int .i64 (chk2 a.data.toList b.data.toList)]) ∧ w = W' := by
  have C := Lib.hid (both_any a b w ha hb)
  generalize chk2 a.data.toList b.data.toList = c at *
  have hn : (c != 0) = true := by rw [bne_iff_ne]; exact hc
  clear hc
  go_enter Tryd.func15, Tryd.ntmps15
  go_wp2_with fail
  refine C.out.mono ?_
  rintro e w' ⟨rfl, rfl⟩
  go_wp2
  go_ret2
  exact ⟨rfl, rfl⟩

set_option maxRecDepth 100000 in
set_option maxHeartbeats 2000000 in
theorem Gcd_ok (a b : ByteArray) (w : World) (k1 : chk a.data.toList = 0) (k2 : chk b.data.toList = 0) (ht : Tab w) :
    Calls Tryd.prog 15 #[.string a, .string b] w fun e W' => e = .returned (.tuple #[.string (strB (Nat.gcd (natOf (szL a.data.toList)) (natOf (szL b.data.toList)) : Nat)), .int .i64 0]) ∧ Below w.heap.size w W' := by
  have s1 := chk_size k1
  have s2 := chk_size k2
  have hc2 : chk2 a.data.toList b.data.toList = 0 := by unfold chk2; rw [if_pos k1]; exact k2
  have cb := both_any a b w (by unfold maxLen; omega) (by unfold maxLen; omega)
  rw [hc2] at cb
  have CB := Lib.hid cb
  clear cb hc2
  by_cases hs : a.size ≤ 17 ∧ b.size ≤ 17
  · have ct := two_yes a b w hs.1 hs.2 k1 k2
    have b1 := valOf_short k1 (by rw [size_len]; omega)
    have b2 := valOf_short k2 (by rw [size_len]; omega)
    have e1 := szL_valAbs a.data.toList
    have e2 := szL_valAbs b.data.toList
    rw [← e1, ← e2]
    have CT := Lib.hid ct
    have hg : Nat.gcd (valOf a.data.toList).natAbs (valOf b.data.toList).natAbs < 1000000000000000000 := by
      by_cases h0 : (valOf a.data.toList).natAbs = 0
      · rw [h0, Nat.gcd_zero_left]; omega
      · exact Nat.lt_of_le_of_lt (Nat.gcd_le_left _ (by omega)) (by omega)
    clear ct e1 e2 k1 k2 hs s1 s2
    generalize valOf a.data.toList = x at *
    generalize valOf b.data.toList = y at *
    obtain ⟨G, hG⟩ : ∃ G, Nat.gcd x.natAbs y.natAbs = G := ⟨_, rfl⟩
    rw [hG] at hg ⊢
    have HG := Lib.hid hG
    have ci := fun W (h : Below w.heap.size w W) => Itoa_any (G : Nat) W (by omega) (by omega) (ht.next h)
    have CI := Lib.hid ci
    have HT := Lib.hid ht
    clear hG ht ci
    go_enter Tryd.func15, Tryd.ntmps15
    go_wp2_with fail
    refine CB.out.mono ?_
    rintro e w' ⟨rfl, rfl⟩
    go_wp2_with fail
    refine CT.out.mono ?_
    rintro e w' ⟨rfl, rfl⟩
    clear CB CT
    go_wp2
    go_loopw [7, 8] (fun u v wr => ∃ x' y' : Int, u = .int .i64 x' ∧ v = .int .i64 y' ∧ -1000000000000000000 < x' ∧ x' < 1000000000000000000 ∧ -1000000000000000000 < y' ∧ y' < 1000000000000000000 ∧ Hid (Nat.gcd x'.natAbs y'.natAbs = G) ∧ Hid (Below w.heap.size w wr))
      (fun _ v _ => (intOf v).natAbs)
    case atStart => exact ⟨x, y, rfl, rfl, b1.1, b1.2, b2.1, b2.2, HG.out, Below.refl _ _⟩
    case round =>
      clear b1 b2
      obtain ⟨x', y', rfl, rfl, q1, q2, q3, q4, hg', hB⟩ := hrel
      by_cases h0 : y' = 0
      · subst h0
        have hx : (x'.natAbs : Int) = (G : Int) := by have := hg'.out; rw [Int.natAbs_zero, Nat.gcd_zero_right] at this; omega
        have hm : max x' (-x') = (G : Int) := by omega
        have CW := Lib.hid (CI.out wr hB.out)
        clear hx hg' CI
        go_wp2_with fail
        refine CW.out.mono ?_
        rintro e w' ⟨rfl, hb⟩
        have HB2 := Lib.hid (hB.out.trans (hb.mono hB.out.size))
        clear hb CW
        go_wp2
        go_ret2
        exact ⟨rfl, HB2.out⟩
      · have hne : (y' != 0) = true := by rw [bne_iff_ne]; exact h0
        have hz : (y' == 0) = false := by rw [beq_eq_false_iff_ne]; exact h0
        have hm := tmod_bd x' y' q1 q2
        have hab := Int.natAbs_tmod x' y'
        have hlt : (x'.tmod y').natAbs < y'.natAbs := by rw [hab]; exact Nat.mod_lt _ (by omega)
        have hg2 : Hid (Nat.gcd y'.natAbs (x'.tmod y').natAbs = G) := by
          show _ = _
          rw [hab, ← hg'.out, Nat.gcd_comm x'.natAbs, Nat.gcd_rec y'.natAbs x'.natAbs, Nat.gcd_comm]
        have HLT := Lib.hid hlt
        clear hab hlt hg'
        go_wp2
        go_quiet (fail)
        generalize x'.tmod y' = z at *
        go_wp2
        go_roundw
        case rel => exact ⟨y', z, rfl, rfl, q3, q4, hm.1, hm.2, hg2, hB.out.trans (Below.drewK _ _ _)⟩
        case measure => exact HLT.out
  · obtain ⟨zx, zy, ct⟩ : ∃ zx zy : Int, True := ⟨0, 0, trivial⟩
    have ct := two_no a b w hs k1 (by unfold maxLen; omega) (by unfold maxLen; omega)
    have n1 := nat_lim k1
    have n2 := nat_lim k2
    have r1 := fun W => read_any a W (by omega) k1
    have r2 := fun W => read_any b W (by omega) k2
    generalize isNeg a.data.toList = na at *
    generalize isNeg b.data.toList = nb at *
    generalize natOf (szL a.data.toList) = x at *
    generalize natOf (szL b.data.toList) = y at *
    have lx := dg_lim' n1
    have ly := dg_lim' n2
    obtain ⟨M, hM⟩ : ∃ M, max x y = M := ⟨_, rfl⟩
    have hML : (dg M).length ≤ 50 := by
      rw [← hM]
      rcases Nat.le_total x y with h | h
      · rw [Nat.max_eq_right h]; exact ly
      · rw [Nat.max_eq_left h]; exact lx
    have hxM : x ≤ M := by omega
    have hyM : y ≤ M := by omega
    obtain ⟨G, hG⟩ : ∃ G, Nat.gcd x y = G := ⟨_, rfl⟩
    rw [hG]
    have HG := Lib.hid hG
    have HML := Lib.hid hML
    have CT := Lib.hid ct
    have CR := Lib.hid (And.intro r1 r2)
    clear hG hM r1 r2 ct k1 k2 hs s1 s2 n1 n2 lx ly hML
    go_enter Tryd.func15, Tryd.ntmps15
    go_wp2_with fail
    refine CB.out.mono ?_
    rintro e w' ⟨rfl, rfl⟩
    go_wp2_with fail
    refine CT.out.mono ?_
    rintro e w' ⟨tx, ty, rfl, rfl⟩
    clear CB CT
    go_wp2_with fail
    refine (CR.out.1 _).mono ?_
    rintro e w1 ⟨va, rfl, hva, _, hb1⟩
    obtain ⟨pa, ca, rfl⟩ := hva.shape
    have H1 := Lib.hid (And.intro hva hb1)
    clear hva hb1
    have fd1 := fun W => field1 (.bool na) (.slice pa (dg x).length ca) W
    generalize hlx : (dg x).length = lx at *
    have HLX := Lib.hid hlx
    clear hlx
    go_wp2_with fail
    clear fd1
    refine (CR.out.2 _).mono ?_
    rintro e w2 ⟨vb, rfl, hvb, _, hb2⟩
    obtain ⟨pb, cb, rfl⟩ := hvb.shape
    have H2 := Lib.hid (And.intro (H1.out.1.next hb2) (And.intro hvb (H1.out.2.trans (hb2.mono H1.out.2.size))))
    clear hvb hb2 H1 CR
    have fd2 := fun W => field1 (.bool nb) (.slice pb (dg y).length cb) W
    generalize hly : (dg y).length = ly at *
    have HLY := Lib.hid hly
    clear hly
    go_wp2
    clear fd2
    go_loopw [10, 11] (fun u v wr => ∃ (x' y' lx ly : Nat) (pa pb : Option Addr) (ca cb : Nat), u = .slice pa lx ca ∧ v = .slice pb ly cb ∧ Hid (lx = (dg x').length) ∧ Hid (ly = (dg y').length) ∧ x' ≤ M ∧ y' ≤ M ∧ Hid (IsNat wr u x') ∧ Hid (IsNat wr v y') ∧ Hid (Nat.gcd x' y' = G) ∧ Hid (Below w.heap.size w wr))
      (fun _ v wr => natVal wr v)
    case atStart => exact ⟨x, y, lx, ly, pa, pb, ca, cb, rfl, rfl, HLX.out.symm, HLY.out.symm, hxM, hyM, H2.out.1, H2.out.2.1, HG.out, H2.out.2.2⟩
    case round =>
      clear H2 HG HLX HLY hxM hyM
      obtain ⟨x', y', lx', ly', pa', pb', ca', cb', rfl, rfl, hlx, hly, mx, my, h1, h2, hg, hB⟩ := hrel
      by_cases h0 : y' = 0
      · subst h0
        obtain rfl : ly' = 0 := by have := hly.out; rwa [dg_zero] at this
        obtain rfl : x' = G := by have := hg.out; rwa [Nat.gcd_zero_right] at this
        have cw := write_any false _ x' wr h1.out (Nat.le_trans (dg_len_le mx) (by have := HML.out; omega))
        rw [show sgnZ false x' = (x' : Int) from rfl] at cw
        have CW := Lib.hid cw
        clear cw
        go_wp2_with fail
        refine CW.out.mono ?_
        rintro e w' ⟨rfl, hb⟩
        have HB2 := Lib.hid (hB.out.trans (hb.mono hB.out.size))
        clear hb CW
        go_wp2
        go_ret2
        exact ⟨rfl, HB2.out⟩
      · have hlp : 0 < ly' := by rw [hly.out]; exact dg_len_pos h0
        have cd := divide_any _ _ x' y' wr h1.out h2.out h0 (Nat.le_trans (dg_len_le mx) (by have := HML.out; omega)) (Nat.le_trans (dg_len_le my) (by have := HML.out; omega))
        have CD := Lib.hid cd
        have hm := Nat.mod_lt x' (show 0 < y' by omega)
        have HV := Lib.hid (natVal_eq h2.out)
        clear cd h0
        go_wp2_with fail
        refine CD.out.mono ?_
        rintro e w3 ⟨q, r, rfl, hq, hr, _, _, hb3⟩
        obtain ⟨pq, cq, rfl⟩ := hq.shape
        obtain ⟨pr, cr, rfl⟩ := hr.shape
        have H3 := Lib.hid (And.intro (h2.out.next hb3) (And.intro hr (hB.out.trans (hb3.mono hB.out.size))))
        clear CD hq hr hb3
        generalize (dg (x' / y')).length = lq at *
        go_wp2
        go_roundw
        case rel => exact ⟨y', x' % y', ly', _, pb', pr, cb', cr, rfl, rfl, hly, rfl, my, by omega, H3.out.1, H3.out.2.1, by show _ = _; rw [← hg.out, Nat.gcd_comm y', ← Nat.gcd_rec, Nat.gcd_comm], H3.out.2.2⟩
        case measure =>
          show natVal w3 _ < natVal wr _
          rw [HV.out, natVal_eq H3.out.2.1]; exact hm
end Go.Proofs.YtajonpcmgebbbaaDoor.R

/- The walks of the reference's signed integers: result, mul. -/
namespace Go.Proofs.YtajonpcmgebbbaaDoor.R
open Go.RowKit

theorem chk_strB (z : Int) : chk (strB z).data.toList = 0 ↔ z.natAbs < lim := by
  constructor
  · intro h
    have h1 := nat_lim h
    rwa [← szL_valAbs, strB_val] at h1
  · exact strB_chk
set_option maxHeartbeats 1000000 in
theorem result_any (neg : Bool) (v : Value) (n : Nat) (w : World) (h : IsNat w v n) (hn : (dg n).length ≤ 10000) :
    Calls Tryd.prog 34 #[.agg #[.bool neg, v]] w fun e W' => e = .returned (.tuple #[.string (resB (sgnZ neg n)), .int .i64 (resE (sgnZ neg n))]) ∧ Below w.heap.size w W' := by
  have cw := fun W (hW : Below w.heap.size w W) => write_any neg v n W (h.next hW) hn
  have hl : (strB (sgnZ neg n)).size ≤ maxLen := by
    rw [strB_len]
    by_cases h0 : n = 0
    · subst h0
      have : sgnZ neg 0 = 0 := sgn_zero neg
      rw [this]; decide +kernel
    · have hp := dg_len_pos h0
      have hd := (nDigits_le_iff n (6 * (dg n).length) (by omega)).2 (by rw [← B_pow6]; exact (dg_length_le n _).1 (Nat.le_refl _))
      rw [itoa_sgn neg h0, List.length_append, Lib.decDigits_length]
      have hs : (signT neg).length ≤ 1 := by cases neg <;> simp [signT]
      unfold maxLen
      omega
  have cc := fun W => refCheck_any (strB (sgnZ neg n)) W hl
  obtain ⟨p, cap, rfl⟩ := h.shape
  have C := Lib.hid (And.intro cw cc)
  have hk := chk_strB (sgnZ neg n)
  by_cases hb : (sgnZ neg n).natAbs < lim
  · have e1 : resB (sgnZ neg n) = strB (sgnZ neg n) := if_pos hb
    have e2 : resE (sgnZ neg n) = 0 := if_pos hb
    rw [e1, e2]
    rw [hk.2 hb] at C
    clear cw cc hk hb e1 e2 h hl
    generalize strB (sgnZ neg n) = s at *
    generalize (dg n).length = l at *
    go_enter Tryd.func34, Tryd.ntmps34
    go_wp2_with fail
    refine (C.out.1 _ ((Below.refl _ _).alloc (Nat.le_refl _) _)).mono ?_
    rintro e w1 ⟨rfl, hb1⟩
    have HB := Lib.hid (((Below.refl _ w).alloc (Nat.le_refl _) _).trans (hb1.mono (by simp)))
    clear hb1
    go_wp2_with fail
    refine (C.out.2 _).mono ?_
    rintro e w' ⟨rfl, rfl⟩
    go_wp2
    go_ret2
    exact ⟨rfl, HB.out⟩
  · have e1 : resB (sgnZ neg n) = ⟨#[]⟩ := if_neg hb
    have e2 : resE (sgnZ neg n) = 4 := if_neg hb
    rw [e1, e2]
    have hne : (chk (strB (sgnZ neg n)).data.toList != 0) = true := by rw [bne_iff_ne]; exact fun e => hb (hk.1 e)
    clear cw cc hk hb e1 e2 h hl
    generalize strB (sgnZ neg n) = s at *
    generalize chk s.data.toList = c at *
    generalize (dg n).length = l at *
    go_enter Tryd.func34, Tryd.ntmps34
    go_wp2_with fail
    refine (C.out.1 _ ((Below.refl _ _).alloc (Nat.le_refl _) _)).mono ?_
    rintro e w1 ⟨rfl, hb1⟩
    have HB := Lib.hid (((Below.refl _ w).alloc (Nat.le_refl _) _).trans (hb1.mono (by simp)))
    clear hb1
    go_wp2_with fail
    refine (C.out.2 _).mono ?_
    rintro e w' ⟨rfl, rfl⟩
    go_wp2
    go_ret2
    exact ⟨rfl, HB.out⟩

theorem alloc_drew_cell {w : World} {a : Addr} {o : Obj} {u : Value} (h : w.cell? a = some u) : (w.alloc o).drew.cell? a = some u :=
  (World.cell?_of_block (w := w) (Below.heap_alloc w o _ (World.block_lt_of_cell? w a h))).trans h
theorem alloc_cell {w : World} {a : Addr} {o : Obj} {u : Value} (h : w.cell? a = some u) : (w.alloc o).cell? a = some u :=
  (World.cell?_of_block (w := w) (Below.heap_alloc w o _ (World.block_lt_of_cell? w a h))).trans h

/-- the box o of the number ng, V that is made, and the box of the result, k + 2 -/
structure OB (w : World) (k o : Nat) (ng : Bool) (V : Value) (n : Nat) (W : World) : Prop where
  p0 : W.cell? ⟨o, 0, none⟩ = some (.bool ng)
  p1 : W.cell? ⟨o, 1, none⟩ = some V
  g0 : W.frozen? ⟨o, 0, none⟩ = false
  r0 : ∃ u, W.cell? ⟨k + 1 + 1, 0, none⟩ = some u
  r1 : ∃ u, W.cell? ⟨k + 1 + 1, 1, none⟩ = some u
  f0 : W.frozen? ⟨k + 1 + 1, 0, none⟩ = false
  f1 : W.frozen? ⟨k + 1 + 1, 1, none⟩ = false
  ho : k + 3 ≤ o
  nat : IsNat W V n
  fr : Fresh (k + 3) V
  bel : Below k w W
theorem OB.alloc {w w1 : World} {k : Nat} {ng : Bool} {V x0 x1 y0 y1 z0 z1 : Value} {n : Nat} {T : TypeId} (h : Boxes w k x0 x1 y0 y1 z0 z1 w1) (hn : IsNat w1 V n) (hf : Fresh (k + 3) V) : OB w k w1.heap.size ng V n (w1.alloc (.cells #[.bool ng, V] T)) := by
  have hs := h.size
  have ha : Below w1.heap.size w1 (w1.alloc (.cells #[.bool ng, V] T)) := (Below.refl _ _).alloc (Nat.le_refl _) _
  exact ⟨by go_cell, by go_cell, by simp [go_sem], ⟨_, alloc_cell h.c5⟩, ⟨_, alloc_cell h.c6⟩, (ha.frozen (p := ⟨k + 1 + 1, 0, none⟩) (by show k + 1 + 1 < _; omega)).trans h.f5, (ha.frozen (p := ⟨k + 1 + 1, 1, none⟩) (by show k + 1 + 1 < _; omega)).trans h.f6, hs, hn.next ha, hf, h.below.trans (ha.mono (by omega))⟩
theorem frozen_set (w : World) (p q : Addr) (u : Value) : (w.setCell p u).frozen? q = w.frozen? q := by simp [go_sem]
theorem OB.set {w w1 : World} {k o : Nat} {ng : Bool} {V x0 x1 y0 y1 z0 z1 u0 u1 : Value} {n : Nat} (h : Boxes w k x0 x1 y0 y1 z0 z1 w1) (h0 : w1.cell? ⟨o, 0, none⟩ = some u0) (h1 : w1.cell? ⟨o, 1, none⟩ = some u1) (hfz : w1.frozen? ⟨o, 0, none⟩ = false) (ho : k + 3 ≤ o) (hn : IsNat w1 V n) (hf : Fresh (o + 1) V) :
    OB w k o ng V n ((w1.setCell ⟨o, 0, none⟩ (.bool ng)).setCell ⟨o, 1, none⟩ V) := by
  have hs := h.size
  obtain ⟨b0, b1⟩ := two_back h0 h1 (.bool ng) V
  have q0 : ((w1.setCell ⟨o, 0, none⟩ (.bool ng)).setCell ⟨o, 1, none⟩ V).cell? ⟨o, 0, none⟩ = some (.bool ng) := by go_cell
  refine ⟨q0, b1, by rw [frozen_set, frozen_set]; exact hfz, ⟨_, far2 (by omega) h.c5⟩, ⟨_, far2 (by omega) h.c6⟩, by rw [frozen_set, frozen_set]; exact h.f5, by rw [frozen_set, frozen_set]; exact h.f6, ho, (hn.setCell hf (by show o < o + 1; omega) _).setCell hf (by show o < o + 1; omega) _, hf.mono (by omega), (h.below.setCell (p := ⟨o, 0, none⟩) (by show k ≤ o; omega) _).setCell (p := ⟨o, 1, none⟩) (by show k ≤ o; omega) _⟩
theorem IsNat.any0 {w W : World} {v : Value} (h : IsNat w v 0) : IsNat W v 0 := by
  obtain ⟨p, cap, e, h1, h2, _⟩ := h
  exact ⟨p, cap, e, h1, h2, fun h => absurd dg_zero h⟩

set_option maxHeartbeats 2000000 in
theorem mul_any (na nb : Bool) (va vb : Value) (a b : Nat) (w : World) (ha : IsNat w va a) (hb : IsNat w vb b) (hla : (dg a).length ≤ 100000) (hlb : (dg b).length ≤ 100000) :
    Calls Tryd.prog 35 #[.agg #[.bool na, va], .agg #[.bool nb, vb]] w fun e W' => ∃ neg v, e = .returned (.agg #[.bool neg, v]) ∧ IsNat W' v (a * b) ∧ sgnZ neg (a * b) = sgnZ na a * sgnZ nb b ∧ Fresh w.heap.size v ∧ Below w.heap.size w W' := by
  have cp : ∀ W, Below w.heap.size w W → Calls Tryd.prog 52 #[va, vb] W fun e W' => ∃ v, e = .returned v ∧ IsNat W' v (a * b) ∧ Fresh W.heap.size v ∧ Below W.heap.size W W' := fun W hW => by
    have := times_any va vb (dg a) (dg b) W (Nats.next ha hW) (Nats.next hb hW) (dg_Dig a) (dg_Dig b) hla hlb
    rwa [toN_dg, toN_dg] at this
  obtain ⟨pa, ca, rfl⟩ := ha.shape
  obtain ⟨pb, cb, rfl⟩ := hb.shape
  have CP := Lib.hid cp; clear cp ha hb hla hlb
  generalize (dg a).length = la at *
  generalize (dg b).length = lb at *
  go_enter Tryd.func35, Tryd.ntmps35
  go_wp2
  have hbx := boxes_new w (.bool na) (.slice pa la ca) (.bool nb) (.slice pb lb cb) (.bool false) (.slice none 0 0) 56
  generalize ((w.alloc (.cells #[.bool na, .slice pa la ca] 56)).alloc (.cells #[.bool nb, .slice pb lb cb] 56)).alloc (.cells #[.bool false, .slice none 0 0] 56) = W0 at *
  generalize hk : w.heap.size = k at *
  have HK := Lib.hid hk; clear hk
  have HBX := Lib.hid hbx
  have HBD := Lib.hid hbx.drew
  have HBA := Lib.hid (hbx.next ((Below.refl _ W0).alloc (Nat.le_refl _) (.cells #[.bool false, .slice none 0 0] 56))).drew
  clear hbx
  obtain ⟨c1, c2, c3, c4, _, _, _, _, _, _⟩ := HBX.out
  have hs0 : k + 3 ≤ W0.heap.size := HBX.out.size
  go_region_held3 (fun w' => w'.cell? ⟨k, 0, none⟩ = some (.bool na) ∧ w'.cell? ⟨k, 1, none⟩ = some (.slice pa la ca) ∧ w'.cell? ⟨k + 1, 0, none⟩ = some (.bool nb) ∧ w'.cell? ⟨k + 1, 1, none⟩ = some (.slice pb lb cb))
    (first | (go_keep; done) | (exact ⟨alloc_drew_cell c1, alloc_drew_cell c2, alloc_drew_cell c3, alloc_drew_cell c4⟩) | (exact ⟨alloc_cell e1, alloc_cell e2, alloc_cell e3, alloc_cell e4⟩) | (exact ⟨alloc_drew_cell e1, alloc_drew_cell e2, alloc_drew_cell e3, alloc_drew_cell e4⟩) | (refine ⟨?_, ?_, ?_, ?_⟩ <;> (first | (exact far2 (by omega) (by assumption)) | (exact far2 (by omega) (alloc_cell (by assumption))) | (exact far2 (by omega) (alloc_drew_cell (by assumption))))))
    (first
      | (go_at_call 52; with_reducible refine (CP.out _ HBA.out.below).mono ?_; rintro e w1 ⟨v, rfl, hv, hf, hb1⟩; obtain ⟨p, cap, rfl⟩ := hv.shape; have HB1 := Lib.hid (HBA.out.next hb1); have z0 : w1.cell? ⟨W0.heap.size, 0, none⟩ = some (.bool false) := (hb1.cell (p := ⟨W0.heap.size, 0, none⟩) (by simp)).trans (by go_cell); have z1 : w1.cell? ⟨W0.heap.size, 1, none⟩ = some (.slice none 0 0) := (hb1.cell (p := ⟨W0.heap.size, 1, none⟩) (by simp)).trans (by go_cell); have y0 : w1.frozen? ⟨W0.heap.size, 0, none⟩ = false := (hb1.frozen (p := ⟨W0.heap.size, 0, none⟩) (by simp)).trans (by simp [go_sem]); have y1 : w1.frozen? ⟨W0.heap.size, 1, none⟩ = false := (hb1.frozen (p := ⟨W0.heap.size, 1, none⟩) (by simp)).trans (by simp [go_sem]); have HV := Lib.hid (And.intro hv (And.intro hf hb1)); clear hv hf hb1; obtain ⟨e1, e2, e3, e4, e5, e6, e7, e8, hsz, _⟩ := HB1.out)
      | (go_at_call 52; with_reducible refine (CP.out _ HBD.out.below).mono ?_; rintro e w1 ⟨v, rfl, hv, hf, hb1⟩; obtain ⟨p, cap, rfl⟩ := hv.shape; have HB1 := Lib.hid (HBD.out.next hb1); have HV := Lib.hid (And.intro hv (And.intro hf hb1)); clear hv hf hb1; obtain ⟨e1, e2, e3, e4, e5, e6, e7, e8, hsz, _⟩ := HB1.out))
  · have HOB := Lib.hid (OB.alloc (ng := !(na == nb)) (T := 56) HB1.out HV.out.1 (HV.out.2.1.mono hs0))
    clear e1 e2 e3 e4 e5 e6 e7 e8 hsz HB1 HV c1 c2 c3 c4 HBX HBD HBA hs0 CP
    rename_i hHeld
    clear hHeld
    generalize w1.alloc (.cells #[.bool (!(na == nb)), .slice p (dg (a * b)).length cap] 56) = W2 at *
    generalize w1.heap.size = o at *
    obtain ⟨p0, p1, g0, ⟨u0, r0⟩, ⟨u1, r1⟩, f0, f1, ho, hnat, hfr, hbel⟩ := HOB.out
    have hok : k + 1 + 1 ≠ o := by omega
    have HX := Lib.hid (And.intro hnat (And.intro hfr (And.intro hbel ho)))
    clear hnat hfr hbel HOB
    by_cases hz : a * b = 0
    · have hl : (dg (a * b)).length = 0 := by rw [hz, dg_zero]; rfl
      rw [hl] at p1 HX ⊢
      have HZ := Lib.hid hz
      have q0 : (W2.setCell ⟨o, 0, none⟩ (.bool false)).cell? ⟨o, 0, none⟩ = some (.bool false) := World.cell?_setCell_same' _ _ _ (by rw [p0]; rfl)
      have q1 : (W2.setCell ⟨o, 0, none⟩ (.bool false)).cell? ⟨o, 1, none⟩ = some (.slice p 0 cap) := by go_cell
      have s0 : (W2.setCell ⟨o, 0, none⟩ (.bool false)).cell? ⟨k + 1 + 1, 0, none⟩ = some u0 := (World.cell?_of_block (Below.heap_setCell _ _ _ _ (by show k + 1 + 1 ≠ o; exact hok))).trans r0
      have s1 : (W2.setCell ⟨o, 0, none⟩ (.bool false)).cell? ⟨k + 1 + 1, 1, none⟩ = some u1 := (World.cell?_of_block (Below.heap_setCell _ _ _ _ (by show k + 1 + 1 ≠ o; exact hok))).trans r1
      have f2 : (W2.setCell ⟨o, 0, none⟩ (.bool false)).frozen? ⟨k + 1 + 1, 0, none⟩ = false := by rw [frozen_set]; exact f0
      have f3 : (W2.setCell ⟨o, 0, none⟩ (.bool false)).frozen? ⟨k + 1 + 1, 1, none⟩ = false := by rw [frozen_set]; exact f1
      obtain ⟨b0, b1⟩ := two_back s0 s1 (.bool false) (.slice p 0 cap)
      clear hz hl r0 r1
      go_wp2
      refine bodyPost_ret (v := .agg #[.bool false, .slice p 0 cap]) (by simp [results, Tryd.results35, go_sem, b0, b1]) rfl ?_
      obtain ⟨hn, hf, hb, hoo⟩ := HX.out
      rw [HZ.out] at hn ⊢
      refine ⟨false, _, rfl, hn.any0, ?_, hf.mono (by rw [HK.out]; omega), ?_⟩
      · have := HZ.out
        rcases Nat.mul_eq_zero.1 this with rfl | rfl
        · rw [sgn_zero, sgn_zero, Int.zero_mul]
        · rw [sgn_zero, sgn_zero, Int.mul_zero]
      · rw [HK.out]
        exact ((hb.setCell (p := ⟨o, 0, none⟩) (by show k ≤ o; omega) _).setCell (p := ⟨k + 1 + 1, 0, none⟩) (by show k ≤ k + 1 + 1; omega) _).setCell (p := ⟨k + 1 + 1, 1, none⟩) (by show k ≤ k + 1 + 1; omega) _
    · have hl : (((dg (a * b)).length : Int) == 0) = false := by rw [beq_eq_false_iff_ne]; have := dg_len_pos hz; omega
      obtain ⟨b0, b1⟩ := two_back r0 r1 (.bool (!(na == nb))) (.slice p (dg (a * b)).length cap)
      clear hz
      go_wp2
      refine bodyPost_ret (v := .agg #[.bool (!(na == nb)), .slice p (dg (a * b)).length cap]) (by simp [results, Tryd.results35, go_sem, b0, b1]) rfl ?_
      obtain ⟨hn, hf, hb, hoo⟩ := HX.out
      refine ⟨_, _, rfl, (hn.setCell hf (by show k + 1 + 1 < k + 3; omega) _).setCell hf (by show k + 1 + 1 < k + 3; omega) _, ?_, hf.mono (by rw [HK.out]; omega), ?_⟩
      · exact sgn_mul na nb a b
      · rw [HK.out]
        exact (hb.setCell (p := ⟨k + 1 + 1, 0, none⟩) (by show k ≤ k + 1 + 1; omega) _).setCell (p := ⟨k + 1 + 1, 1, none⟩) (by show k ≤ k + 1 + 1; omega) _
  · have HOB := Lib.hid (OB.set (ng := !(na == nb)) HB1.out z0 z1 y0 hs0 HV.out.1 (HV.out.2.1.mono (by simp)))
    clear e1 e2 e3 e4 e5 e6 e7 e8 hsz HB1 HV c1 c2 c3 c4 HBX HBD HBA CP z0 z1 y0 y1
    rename_i hHeld
    clear hHeld
    generalize hsz0 : W0.heap.size = o at *
    generalize (w1.setCell ⟨o, 0, none⟩ (.bool (!(na == nb)))).setCell ⟨o, 1, none⟩ (.slice p (dg (a * b)).length cap) = W2 at *
    obtain ⟨p0, p1, g0, ⟨u0, r0⟩, ⟨u1, r1⟩, f0, f1, ho, hnat, hfr, hbel⟩ := HOB.out
    have hok : k + 1 + 1 ≠ o := by omega
    have HX := Lib.hid (And.intro hnat (And.intro hfr (And.intro hbel ho)))
    clear hnat hfr hbel HOB
    by_cases hz : a * b = 0
    · have hl : (dg (a * b)).length = 0 := by rw [hz, dg_zero]; rfl
      rw [hl] at p1 HX ⊢
      have HZ := Lib.hid hz
      have q0 : (W2.setCell ⟨o, 0, none⟩ (.bool false)).cell? ⟨o, 0, none⟩ = some (.bool false) := World.cell?_setCell_same' _ _ _ (by rw [p0]; rfl)
      have q1 : (W2.setCell ⟨o, 0, none⟩ (.bool false)).cell? ⟨o, 1, none⟩ = some (.slice p 0 cap) := by go_cell
      have s0 : (W2.setCell ⟨o, 0, none⟩ (.bool false)).cell? ⟨k + 1 + 1, 0, none⟩ = some u0 := (World.cell?_of_block (Below.heap_setCell _ _ _ _ (by show k + 1 + 1 ≠ o; exact hok))).trans r0
      have s1 : (W2.setCell ⟨o, 0, none⟩ (.bool false)).cell? ⟨k + 1 + 1, 1, none⟩ = some u1 := (World.cell?_of_block (Below.heap_setCell _ _ _ _ (by show k + 1 + 1 ≠ o; exact hok))).trans r1
      have f2 : (W2.setCell ⟨o, 0, none⟩ (.bool false)).frozen? ⟨k + 1 + 1, 0, none⟩ = false := by rw [frozen_set]; exact f0
      have f3 : (W2.setCell ⟨o, 0, none⟩ (.bool false)).frozen? ⟨k + 1 + 1, 1, none⟩ = false := by rw [frozen_set]; exact f1
      obtain ⟨b0, b1⟩ := two_back s0 s1 (.bool false) (.slice p 0 cap)
      clear hz hl r0 r1
      go_wp2
      refine bodyPost_ret (v := .agg #[.bool false, .slice p 0 cap]) (by simp [results, Tryd.results35, go_sem, b0, b1]) rfl ?_
      obtain ⟨hn, hf, hb, hoo⟩ := HX.out
      rw [HZ.out] at hn ⊢
      refine ⟨false, _, rfl, hn.any0, ?_, hf.mono (by rw [HK.out]; omega), ?_⟩
      · have := HZ.out
        rcases Nat.mul_eq_zero.1 this with rfl | rfl
        · rw [sgn_zero, sgn_zero, Int.zero_mul]
        · rw [sgn_zero, sgn_zero, Int.mul_zero]
      · rw [HK.out]
        exact ((hb.setCell (p := ⟨o, 0, none⟩) (by show k ≤ o; omega) _).setCell (p := ⟨k + 1 + 1, 0, none⟩) (by show k ≤ k + 1 + 1; omega) _).setCell (p := ⟨k + 1 + 1, 1, none⟩) (by show k ≤ k + 1 + 1; omega) _
    · have hl : (((dg (a * b)).length : Int) == 0) = false := by rw [beq_eq_false_iff_ne]; have := dg_len_pos hz; omega
      obtain ⟨b0, b1⟩ := two_back r0 r1 (.bool (!(na == nb))) (.slice p (dg (a * b)).length cap)
      clear hz
      go_wp2
      refine bodyPost_ret (v := .agg #[.bool (!(na == nb)), .slice p (dg (a * b)).length cap]) (by simp [results, Tryd.results35, go_sem, b0, b1]) rfl ?_
      obtain ⟨hn, hf, hb, hoo⟩ := HX.out
      refine ⟨_, _, rfl, (hn.setCell hf (by show k + 1 + 1 < k + 3; omega) _).setCell hf (by show k + 1 + 1 < k + 3; omega) _, ?_, hf.mono (by rw [HK.out]; omega), ?_⟩
      · exact sgn_mul na nb a b
      · rw [HK.out]
        exact (hb.setCell (p := ⟨k + 1 + 1, 0, none⟩) (by show k ≤ k + 1 + 1; omega) _).setCell (p := ⟨k + 1 + 1, 1, none⟩) (by show k ≤ k + 1 + 1; omega) _
end Go.Proofs.YtajonpcmgebbbaaDoor.R

