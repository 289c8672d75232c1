/- The walk of gcd. -/
import Derived.Test.YtajonpcmgebbbaaDoorOwn
import Derived.Test.YtajonpcmgebbbaaDoorLeadS
import Derived.Test.YtajonpcmgebbbaaDoorGcd1
namespace Go.Proofs.YtajonpcmgebbbaaDoor
open Go.RowKit

theorem any_any (x1 y1 x2 y2 : Int) (w : World) :
    Calls Tryd.prog 73 #[.agg #[.int .i64 x1, .int .i64 y1, .int .i64 x2, .int .i64 y2]] w fun e W' => e = .returned (.bool (y1 != 0)) ∧ Below w.heap.size w W' := by
  go_enter Tryd.func73, Tryd.ntmps73
  go_wp2
  go_ret
  exact ⟨rfl, (Below.refl _ _).alloc (Nat.le_refl _) _⟩

/-- the state of gcd -/
structure GS (W : World) (base M G : Nat) (x y : Value) (a b : Nat) (wr : World) : Prop where
  ha : IsNat wr x a
  hb : IsNat wr y b
  le : b ≤ a
  hM : a ≤ M
  hG : Nat.gcd a b = G
  fa : Fresh base x
  bel : Below base W wr
  hbs : base ≤ wr.heap.size
  oa : OwnN wr base x a
  ob : OwnN wr base y b
  ne : b ≠ 0 → x.ownBlock ≠ y.ownBlock

theorem IsNat.block_lt {w : World} {v : Value} {n c : Nat} (h : IsNat w v n) (h0 : n ≠ 0) (hc : v.ownBlock = some c) : c < w.heap.size := by
  rcases IsNat.far (c := c) h |> fun f => Nat.lt_or_ge c w.heap.size |>.imp id f with h1 | h1
  · exact h1
  · rcases h1 with h1 | h1
    · exact absurd ((dg_nil_iff n).1 h1) h0
    · exact absurd hc h1

theorem OwnN.next {w W : World} {base n : Nat} {v : Value} (h : OwnN w base v n) (hb : Below w.heap.size w W) : OwnN W base v n := fun h0 => by
  obtain ⟨g, cap, e, h1, h2⟩ := h h0
  exact ⟨g, cap, e, h1, h2.next hb h2.lt⟩
theorem GS.next {W : World} {base M G a b : Nat} {x y : Value} {wr w' : World} (h : GS W base M G x y a b wr) (hb : Below wr.heap.size wr w') : GS W base M G x y a b w' :=
  ⟨h.ha.next hb, h.hb.next hb, h.le, h.hM, h.hG, h.fa, h.bel.trans (hb.mono h.hbs), Nat.le_trans h.hbs hb.size, h.oa.next hb, h.ob.next hb, h.ne⟩
/-- behind apply -/
theorem GS.applied {W : World} {base M G a b c d : Nat} {x y : Value} {wr w' : World} {ga gb ca cb : Nat} (h : GS W base M G x y a b wr) (hra : RowO w' ga ca (dg c)) (hrb : RowO w' gb cb (dg d)) (hne : ga ≠ gb) (h1 : base ≤ ga) (h2 : base ≤ gb) (hB : Below base wr w')
    (hdc : d < c) (hca : c < a) (hg : Nat.gcd c d = Nat.gcd a b) : GS W base M G (.slice (some ⟨ga, 0, none⟩) (dg c).length ca) (.slice (some ⟨gb, 0, none⟩) (dg d).length cb) c d w' :=
  ⟨hra.isNat, hrb.isNat, by omega, by have := h.hM; omega, by rw [hg]; exact h.hG, fun k hk => by cases hk; exact h1, h.bel.trans hB, by have := hra.lt; omega, fun _ => ⟨ga, ca, rfl, h1, hra⟩, fun _ => ⟨gb, cb, rfl, h2, hrb⟩,
   fun _ e => hne (Option.some.inj e)⟩
/-- behind a division -/
theorem GS.divided {W : World} {base M G a b : Nat} {x y r : Value} {wr w' : World} (h : GS W base M G x y a b wr) (hb0 : b ≠ 0) (hr : IsNat w' r (a % b)) (ho : OwnR w' wr.heap.size r (a % b)) (hB : Below wr.heap.size wr w') : GS W base M G y r b (a % b) w' := by
  have hm := Nat.mod_lt a (show 0 < b by omega)
  obtain ⟨gb, cb, e, h1, h2⟩ := h.ob hb0
  refine ⟨h.hb.next hB, hr, by omega, by have := h.hM; have := h.le; omega, ?_, fun k hk => by rw [e] at hk; cases hk; exact h1, h.bel.trans (hB.mono h.hbs), Nat.le_trans h.hbs hB.size, h.ob.next hB, fun _ => ho.mono h.hbs, fun _ => ?_⟩
  · rw [← h.hG, Nat.gcd_comm b, ← Nat.gcd_rec, Nat.gcd_comm]
  · obtain ⟨g', c', e', h3, _⟩ := ho
    have := h2.lt
    rw [e, e']
    intro q
    have q : some gb = some g' := q
    have := Option.some.inj q
    omega
theorem two_lim {b : Nat} (h : (dg b).length ≤ 2) : b < 1000000000000000000 := by
  have h1 := (dg_length_le b 2).1 h
  have : B ^ 2 = 1000000000000000000 := by decide
  omega

/-- the contract of gcd at two numbers, of rows of its own -/
def GcdOwn (x y : Nat) : Prop := ∀ (va vb : Value) (base : Nat) (W : World), IsNat W va x → IsNat W vb y → Fresh base va → Fresh base vb → base ≤ W.heap.size → OwnN W base va x → OwnN W base vb y → (x ≠ 0 → y ≠ 0 → va.ownBlock ≠ vb.ownBlock) →
  Calls Tryd.prog 46 #[va, vb] W fun e W' => ∃ v, e = .returned v ∧ IsNat W' v (Nat.gcd x y) ∧ Fresh base v ∧ Below base W W'

theorem lex_lt {M a b c d : Nat} (hd : d ≤ M) (h : c < a ∨ (c = a ∧ d < b)) : c * (M + 1) + d < a * (M + 1) + b := by
  rcases h with h | ⟨rfl, h⟩
  · have : (c + 1) * (M + 1) ≤ a * (M + 1) := Nat.mul_le_mul_right _ h
    rw [Nat.add_mul, Nat.one_mul] at this
    omega
  · omega

set_option maxRecDepth 100000 in
set_option maxHeartbeats 2000000 in
theorem gcd_any (x y : Nat) (hx : (dg x).length ≤ 900) (hy : (dg y).length ≤ 900) : GcdOwn x y := by
  intro va vb base W ha hb fa fb hbase oa ob hne
  obtain ⟨G, hG⟩ : ∃ G, Nat.gcd x y = G := ⟨_, rfl⟩
  obtain ⟨M, hM⟩ : ∃ M, max x y = M := ⟨_, rfl⟩
  have hML : (dg M).length ≤ 900 := by
    rw [← hM]
    rcases Nat.le_total x y with h | h
    · rw [Nat.max_eq_right h]; exact hy
    · rw [Nat.max_eq_left h]; exact hx
  have cc := compare_any va vb x y W ha hb
  -- the state behind the exchange
  have hst : ∀ k, (x < y → GS W base M G vb va y x (W.drewN k)) ∧ (¬ x < y → GS W base M G va vb x y (W.drewN k)) := fun k => by
    have hb1 := Below.drewK W.heap.size W k
    have hb2 := Below.drewK base W k
    constructor
    · intro h
      refine ⟨hb.next hb1, ha.next hb1, by omega, by omega, by rw [Nat.gcd_comm]; exact hG, fb, hb2, hbase, fun h0 => ?_, fun h0 => ?_, fun h0 e => hne h0 (by omega) e.symm⟩
      · obtain ⟨g, cap, e, h2, h3⟩ := ob h0; exact ⟨g, cap, e, h2, h3.of_block rfl⟩
      · obtain ⟨g, cap, e, h2, h3⟩ := oa h0; exact ⟨g, cap, e, h2, h3.of_block rfl⟩
    · intro h
      refine ⟨ha.next hb1, hb.next hb1, by omega, by omega, hG, fa, hb2, hbase, fun h0 => ?_, fun h0 => ?_, fun h0 => hne (by omega) h0⟩
      · obtain ⟨g, cap, e, h2, h3⟩ := oa h0; exact ⟨g, cap, e, h2, h3.of_block rfl⟩
      · obtain ⟨g, cap, e, h2, h3⟩ := ob h0; exact ⟨g, cap, e, h2, h3.of_block rfl⟩
  have HST := Lib.hid hst
  have CC := Lib.hid cc
  have HML := Lib.hid hML
  obtain ⟨pa, ca, rfl⟩ := ha.shape
  obtain ⟨pb, cb, rfl⟩ := hb.shape
  rw [hG]
  clear cc hst ha hb fa fb oa ob hne hx hy hML hM hG hbase
  generalize (dg x).length = lx at *
  generalize (dg y).length = ly at *
  go_enter Tryd.func46, Tryd.ntmps46
  go_wp2_with fail
  refine CC.out.mono ?_
  rintro e w' ⟨rfl, k, rfl⟩
  clear CC
  have HS : Hid (∃ u v a b, (if x < y then Value.slice pb ly cb else .slice pa lx ca) = u ∧ (if x < y then Value.slice pa lx ca else .slice pb ly cb) = v ∧ GS W base M G u v a b (W.drewN k)) := by
    by_cases h : x < y
    · exact ⟨_, _, y, x, rfl, rfl, by rw [if_pos h, if_pos h]; exact (HST.out k).1 h⟩
    · exact ⟨_, _, x, y, rfl, rfl, by rw [if_neg h, if_neg h]; exact (HST.out k).2 h⟩
  clear HST
  generalize W.drewN k = W0 at *
  by_cases h : x < y
  · rw [cmpN_lt h]
    rw [if_pos h, if_pos h] at HS
    have hxy : True := trivial
    go_wp2
    go_loopw [0, 1] (fun u v wr => ∃ (a b : Nat) (pu pv : Option Addr) (cu cv : Nat), u = .slice pu (dg a).length cu ∧ v = .slice pv (dg b).length cv ∧ Hid (GS W base M G u v a b wr))
      (fun u v wr => natVal wr u * (M + 1) + natVal wr v)
    case atStart =>
      obtain ⟨u, v, a, b, rfl, rfl, hs⟩ := HS.out
      obtain ⟨pu, cu, e1⟩ := hs.ha.shape
      obtain ⟨pv, cv, e2⟩ := hs.hb.shape
      exact ⟨a, b, pu, pv, cu, cv, e1, e2, hs⟩
    case round =>
      clear HS
      obtain ⟨a, b, pu, pv, cu, cv, rfl, rfl, hs⟩ := hrel
      have hla : (dg a).length ≤ 900 := Nat.le_trans (dg_len_le hs.out.hM) HML.out
      by_cases h2 : 2 < (dg b).length
      · have h2' : (2 : Int) < ((dg b).length : Int) := by omega
        have hb0 : b ≠ 0 := fun e => by rw [e, dg_zero] at h2; simp at h2
        have ha0 : a ≠ 0 := fun e => by have := hs.out.le; omega
        have hlb := dg_len_le hs.out.le
        obtain ⟨k, hk⟩ : ∃ k, (dg a).length = k + 3 := ⟨(dg a).length - 3, by omega⟩
        have cl := leadingSteps_any _ _ a b k wr hs.out.ha hs.out.hb hk (by omega) hs.out.le
        obtain ⟨ga, cpa, ea, hga, _⟩ := hs.out.oa ha0
        obtain ⟨gb, cpb, eb, hgb, _⟩ := hs.out.ob hb0
        have hne := hs.out.ne hb0
        simp only [Value.slice.injEq, true_and] at ea eb
        obtain ⟨rfl, rfl⟩ := ea
        obtain ⟨rfl, rfl⟩ := eb
        have CL := Lib.hid cl
        have HF := Lib.hid (And.intro hla (And.intro h2 (And.intro hb0 (And.intro ha0 (And.intro hlb (And.intro hga (And.intro hgb hne)))))))
        clear cl hk h2 hb0 ha0 hlb hla hga hgb hne
        go_wp2_with fail
        refine CL.out.mono ?_
        rintro e w1 ⟨x1, y1, x2, y2, rfl, hgood, hb1⟩
        have H1 := Lib.hid (hs.out.next hb1)
        have HG := Lib.hid hgood
        clear hgood hb1 CL
        go_wp2_with fail
        refine (any_any x1 y1 x2 y2 _).mono ?_
        rintro e w2 ⟨rfl, hb2⟩
        have hz := hb2.size
        have c0 : w2.cell? ⟨w1.heap.size, 0, none⟩ = some (.int .i64 x1) := (hb2.cell (p := ⟨w1.heap.size, 0, none⟩) (by simp)).trans (by go_cell)
        have c1 : w2.cell? ⟨w1.heap.size, 1, none⟩ = some (.int .i64 y1) := (hb2.cell (p := ⟨w1.heap.size, 1, none⟩) (by simp)).trans (by go_cell)
        have c2 : w2.cell? ⟨w1.heap.size, 2, none⟩ = some (.int .i64 x2) := (hb2.cell (p := ⟨w1.heap.size, 2, none⟩) (by simp)).trans (by go_cell)
        have c3 : w2.cell? ⟨w1.heap.size, 3, none⟩ = some (.int .i64 y2) := (hb2.cell (p := ⟨w1.heap.size, 3, none⟩) (by simp)).trans (by go_cell)
        have H2 := Lib.hid (H1.out.next (((Below.refl _ w1).alloc (Nat.le_refl _) _).trans (hb2.mono (by simp))))
        clear hb2 H1 hz
        by_cases hy : y1 = 0
        · have hy1 : (y1 != 0) = false := by simpa using hy
          clear hy c0 c1 c2 c3 HG
          have cd := divide_own _ _ a b w2 H2.out.ha H2.out.hb HF.out.2.2.1 (by have := HF.out.1; omega) H2.out.le (by have := HF.out.2.1; omega)
          have CD := Lib.hid cd
          clear cd
          go_wp2_with fail
          refine CD.out.mono ?_
          rintro e w3 ⟨q, r, rfl, hq, hr, hb3, ho3⟩
          obtain ⟨pq, cq, rfl⟩ := hq.shape
          obtain ⟨pr, cr, rfl⟩ := hr.shape
          have H3 := Lib.hid (H2.out.divided HF.out.2.2.1 hr ho3 hb3)
          have e1 := Lib.hid (natVal_eq hs.out.ha)
          have e2 := Lib.hid (natVal_eq hs.out.hb)
          clear hq hr hb3 ho3 CD
          have hlq : True := trivial
          generalize (dg (a / b)).length = lq at *
          go_wp2
          go_roundw
          case rel => exact ⟨b, a % b, _, _, _, _, rfl, rfl, H3.out⟩
          case measure =>
            show natVal w3 _ * (M + 1) + natVal w3 _ < natVal wr _ * (M + 1) + natVal wr _
            rw [e1.out, e2.out, natVal_eq H3.out.ha, natVal_eq H3.out.hb]
            have q1 := H3.out.le
            have q2 := H3.out.hM
            have q3 := H2.out.le
            have q4 := Nat.mod_lt a (show 0 < b by have := HF.out.2.2.1; omega)
            exact lex_lt (by omega) (by omega)
        · have hy1 : (y1 != 0) = true := by simpa using hy
          have hgd : Good a b x1 y1 x2 y2 := HG.out.resolve_left hy
          obtain ⟨c, d, g1, g2, g3, g4, g5, g6, g7, g8, g9, g10⟩ := hgd
          obtain ⟨_, _, ea, _, hra⟩ := H2.out.oa HF.out.2.2.2.1
          obtain ⟨_, _, eb, _, hrb⟩ := H2.out.ob HF.out.2.2.1
          simp only [Value.slice.injEq, true_and, Option.some.injEq, Addr.mk.injEq, and_true] at ea eb
          obtain ⟨rfl, rfl⟩ := ea
          obtain ⟨rfl, rfl⟩ := eb
          have ca := apply_any x1 y1 x2 y2 a b ga gb cu cv base c d w2 hra hrb (fun e => HF.out.2.2.2.2.2.2.2 (by rw [e]; rfl)) HF.out.2.2.2.2.2.1 HF.out.2.2.2.2.2.2.1 HF.out.2.2.2.2.1 (by have := HF.out.1; omega) g1 g2 g3 g4 g6 g7 g8 g9 g10
          have CA := Lib.hid ca
          have HCD := Lib.hid (And.intro g3 (And.intro g4 (And.intro g5 HF.out.2.2.2.2.2.1)))
          clear hy HG g1 g2 g3 g4 g5 g6 g7 g8 g9 g10 hra hrb ca
          go_wp2_with fail
          refine CA.out.mono ?_
          rintro e w3 ⟨gb', cb', rfl, hr1, hr2, hne, hgb', hb3⟩
          have H3 := Lib.hid (H2.out.applied hr1 hr2 hne HCD.out.2.2.2 hgb' hb3 HCD.out.1 HCD.out.2.1 HCD.out.2.2.1)
          have e1 := Lib.hid (natVal_eq hs.out.ha)
          have e2 := Lib.hid (natVal_eq hs.out.hb)
          clear hr1 hr2 hne hgb' hb3 CA
          go_wp2
          go_roundw
          case rel => exact ⟨c, d, _, _, _, _, rfl, rfl, H3.out⟩
          case measure =>
            show natVal w3 _ * (M + 1) + natVal w3 _ < natVal wr _ * (M + 1) + natVal wr _
            rw [e1.out, e2.out, natVal_eq H3.out.ha, natVal_eq H3.out.hb]
            have q1 := H3.out.le
            have q2 := H3.out.hM
            exact lex_lt (by omega) (.inl HCD.out.2.1)
      · have h2' : ¬ (2 : Int) < ((dg b).length : Int) := by omega
        by_cases hb0 : b = 0
        · subst hb0
          have hlz : (((dg 0).length : Int) == 0) = true := by rw [dg_zero]; rfl
          have hGa : a = G := by have := hs.out.hG; rwa [Nat.gcd_zero_right] at this
          have HR := Lib.hid (show IsNat wr (.slice pu (dg a).length cu) G by rw [← hGa]; exact hs.out.ha)
          clear hGa
          go_wp2
          go_ret
          exact ⟨_, rfl, HR.out, hs.out.fa, hs.out.bel⟩
        · have hlz : (((dg b).length : Int) == 0) = false := by rw [beq_eq_false_iff_ne]; have := dg_len_pos hb0; omega
          have cd := divide_any _ _ a b wr hs.out.ha hs.out.hb hb0 (by omega)
          have hml := Nat.mod_lt a (show 0 < b by omega)
          have hb18 := two_lim (b := b) (by omega)
          have hgl : Nat.gcd b (a % b) = G := by rw [← hs.out.hG, Nat.gcd_comm b, ← Nat.gcd_rec, Nat.gcd_comm]
          have hG18 : G < 1000000000000000000 := by rw [← hgl]; exact Nat.lt_of_le_of_lt (Nat.gcd_le_left _ (by omega)) hb18
          have CD := Lib.hid cd
          have HX := Lib.hid (And.intro hml (And.intro hb18 (And.intro hgl hG18)))
          clear cd hml hb18 hgl hG18 hb0 h2
          go_wp2_with fail
          refine CD.out.mono ?_
          rintro e w3 ⟨q, r, rfl, hq, hr, _, _, hb3⟩
          obtain ⟨pq, cq, rfl⟩ := hq.shape
          obtain ⟨pr, cr, rfl⟩ := hr.shape
          have C1 := Lib.hid (natMachine_any _ b w3 (hs.out.hb.next hb3) HX.out.2.1)
          have C2 := Lib.hid (natMachine_any _ (a % b) w3 hr (by have := HX.out.1; have := HX.out.2.1; omega))
          have C3 := Lib.hid (gcdMachine_any b (a % b) w3 (by have := HX.out.2.1; omega) (by have := HX.out.1; have := HX.out.2.1; omega))
          have H3 := Lib.hid (hs.out.next hb3)
          rw [HX.out.2.2.1] at C3
          clear CD hq hr hb3
          generalize (dg (a / b)).length = lq at *
          generalize (dg (a % b)).length = lr at *
          generalize a % b = rr at *
          go_wp2_with fail
          refine C1.out.mono ?_
          rintro e w' ⟨rfl, rfl⟩
          go_wp2_with fail
          refine C2.out.mono ?_
          rintro e w' ⟨rfl, rfl⟩
          go_wp2_with fail
          refine C3.out.mono ?_
          rintro e w' ⟨rfl, nn, rfl⟩
          go_wp2_with fail
          refine (ofValue_any G _ HX.out.2.2.2).mono ?_
          rintro e w4 ⟨v, rfl, hv, hf, hb4⟩
          have hBB := (Below.drewK w3.heap.size w3 nn).trans (show Below w3.heap.size _ w4 from hb4)
          have H4 := Lib.hid (H3.out.next hBB)
          have HV := Lib.hid (And.intro hv (show Fresh w3.heap.size v from hf))
          have HS3 := Lib.hid H3.out.hbs
          clear hv hf hb4 hBB C1 C2 C3 H3
          go_wp2
          go_ret
          exact ⟨_, rfl, HV.out.1, HV.out.2.mono HS3.out, H4.out.bel⟩
  · have hge : ¬ cmpN x y < 0 := by unfold cmpN; rw [if_neg h]; split <;> omega
    rw [if_neg h, if_neg h] at HS
    generalize cmpN x y = c at *
    go_wp2
    go_loopw [0, 1] (fun u v wr => ∃ (a b : Nat) (pu pv : Option Addr) (cu cv : Nat), u = .slice pu (dg a).length cu ∧ v = .slice pv (dg b).length cv ∧ Hid (GS W base M G u v a b wr))
      (fun u v wr => natVal wr u * (M + 1) + natVal wr v)
    case atStart =>
      obtain ⟨u, v, a, b, rfl, rfl, hs⟩ := HS.out
      obtain ⟨pu, cu, e1⟩ := hs.ha.shape
      obtain ⟨pv, cv, e2⟩ := hs.hb.shape
      exact ⟨a, b, pu, pv, cu, cv, e1, e2, hs⟩
    case round =>
      clear HS
      obtain ⟨a, b, pu, pv, cu, cv, rfl, rfl, hs⟩ := hrel
      have hla : (dg a).length ≤ 900 := Nat.le_trans (dg_len_le hs.out.hM) HML.out
      by_cases h2 : 2 < (dg b).length
      · have h2' : (2 : Int) < ((dg b).length : Int) := by omega
        have hb0 : b ≠ 0 := fun e => by rw [e, dg_zero] at h2; simp at h2
        have ha0 : a ≠ 0 := fun e => by have := hs.out.le; omega
        have hlb := dg_len_le hs.out.le
        obtain ⟨k, hk⟩ : ∃ k, (dg a).length = k + 3 := ⟨(dg a).length - 3, by omega⟩
        have cl := leadingSteps_any _ _ a b k wr hs.out.ha hs.out.hb hk (by omega) hs.out.le
        obtain ⟨ga, cpa, ea, hga, _⟩ := hs.out.oa ha0
        obtain ⟨gb, cpb, eb, hgb, _⟩ := hs.out.ob hb0
        have hne := hs.out.ne hb0
        simp only [Value.slice.injEq, true_and] at ea eb
        obtain ⟨rfl, rfl⟩ := ea
        obtain ⟨rfl, rfl⟩ := eb
        have CL := Lib.hid cl
        have HF := Lib.hid (And.intro hla (And.intro h2 (And.intro hb0 (And.intro ha0 (And.intro hlb (And.intro hga (And.intro hgb hne)))))))
        clear cl hk h2 hb0 ha0 hlb hla hga hgb hne
        go_wp2_with fail
        refine CL.out.mono ?_
        rintro e w1 ⟨x1, y1, x2, y2, rfl, hgood, hb1⟩
        have H1 := Lib.hid (hs.out.next hb1)
        have HG := Lib.hid hgood
        clear hgood hb1 CL
        go_wp2_with fail
        refine (any_any x1 y1 x2 y2 _).mono ?_
        rintro e w2 ⟨rfl, hb2⟩
        have hz := hb2.size
        have c0 : w2.cell? ⟨w1.heap.size, 0, none⟩ = some (.int .i64 x1) := (hb2.cell (p := ⟨w1.heap.size, 0, none⟩) (by simp)).trans (by go_cell)
        have c1 : w2.cell? ⟨w1.heap.size, 1, none⟩ = some (.int .i64 y1) := (hb2.cell (p := ⟨w1.heap.size, 1, none⟩) (by simp)).trans (by go_cell)
        have c2 : w2.cell? ⟨w1.heap.size, 2, none⟩ = some (.int .i64 x2) := (hb2.cell (p := ⟨w1.heap.size, 2, none⟩) (by simp)).trans (by go_cell)
        have c3 : w2.cell? ⟨w1.heap.size, 3, none⟩ = some (.int .i64 y2) := (hb2.cell (p := ⟨w1.heap.size, 3, none⟩) (by simp)).trans (by go_cell)
        have H2 := Lib.hid (H1.out.next (((Below.refl _ w1).alloc (Nat.le_refl _) _).trans (hb2.mono (by simp))))
        clear hb2 H1 hz
        by_cases hy : y1 = 0
        · have hy1 : (y1 != 0) = false := by simpa using hy
          clear hy c0 c1 c2 c3 HG
          have cd := divide_own _ _ a b w2 H2.out.ha H2.out.hb HF.out.2.2.1 (by have := HF.out.1; omega) H2.out.le (by have := HF.out.2.1; omega)
          have CD := Lib.hid cd
          clear cd
          go_wp2_with fail
          refine CD.out.mono ?_
          rintro e w3 ⟨q, r, rfl, hq, hr, hb3, ho3⟩
          obtain ⟨pq, cq, rfl⟩ := hq.shape
          obtain ⟨pr, cr, rfl⟩ := hr.shape
          have H3 := Lib.hid (H2.out.divided HF.out.2.2.1 hr ho3 hb3)
          have e1 := Lib.hid (natVal_eq hs.out.ha)
          have e2 := Lib.hid (natVal_eq hs.out.hb)
          clear hq hr hb3 ho3 CD
          have hlq : True := trivial
          generalize (dg (a / b)).length = lq at *
          go_wp2
          go_roundw
          case rel => exact ⟨b, a % b, _, _, _, _, rfl, rfl, H3.out⟩
          case measure =>
            show natVal w3 _ * (M + 1) + natVal w3 _ < natVal wr _ * (M + 1) + natVal wr _
            rw [e1.out, e2.out, natVal_eq H3.out.ha, natVal_eq H3.out.hb]
            have q1 := H3.out.le
            have q2 := H3.out.hM
            have q3 := H2.out.le
            have q4 := Nat.mod_lt a (show 0 < b by have := HF.out.2.2.1; omega)
            exact lex_lt (by omega) (by omega)
        · have hy1 : (y1 != 0) = true := by simpa using hy
          have hgd : Good a b x1 y1 x2 y2 := HG.out.resolve_left hy
          obtain ⟨c, d, g1, g2, g3, g4, g5, g6, g7, g8, g9, g10⟩ := hgd
          obtain ⟨_, _, ea, _, hra⟩ := H2.out.oa HF.out.2.2.2.1
          obtain ⟨_, _, eb, _, hrb⟩ := H2.out.ob HF.out.2.2.1
          simp only [Value.slice.injEq, true_and, Option.some.injEq, Addr.mk.injEq, and_true] at ea eb
          obtain ⟨rfl, rfl⟩ := ea
          obtain ⟨rfl, rfl⟩ := eb
          have ca := apply_any x1 y1 x2 y2 a b ga gb cu cv base c d w2 hra hrb (fun e => HF.out.2.2.2.2.2.2.2 (by rw [e]; rfl)) HF.out.2.2.2.2.2.1 HF.out.2.2.2.2.2.2.1 HF.out.2.2.2.2.1 (by have := HF.out.1; omega) g1 g2 g3 g4 g6 g7 g8 g9 g10
          have CA := Lib.hid ca
          have HCD := Lib.hid (And.intro g3 (And.intro g4 (And.intro g5 HF.out.2.2.2.2.2.1)))
          clear hy HG g1 g2 g3 g4 g5 g6 g7 g8 g9 g10 hra hrb ca
          go_wp2_with fail
          refine CA.out.mono ?_
          rintro e w3 ⟨gb', cb', rfl, hr1, hr2, hne, hgb', hb3⟩
          have H3 := Lib.hid (H2.out.applied hr1 hr2 hne HCD.out.2.2.2 hgb' hb3 HCD.out.1 HCD.out.2.1 HCD.out.2.2.1)
          have e1 := Lib.hid (natVal_eq hs.out.ha)
          have e2 := Lib.hid (natVal_eq hs.out.hb)
          clear hr1 hr2 hne hgb' hb3 CA
          go_wp2
          go_roundw
          case rel => exact ⟨c, d, _, _, _, _, rfl, rfl, H3.out⟩
          case measure =>
            show natVal w3 _ * (M + 1) + natVal w3 _ < natVal wr _ * (M + 1) + natVal wr _
            rw [e1.out, e2.out, natVal_eq H3.out.ha, natVal_eq H3.out.hb]
            have q1 := H3.out.le
            have q2 := H3.out.hM
            exact lex_lt (by omega) (.inl HCD.out.2.1)
      · have h2' : ¬ (2 : Int) < ((dg b).length : Int) := by omega
        by_cases hb0 : b = 0
        · subst hb0
          have hlz : (((dg 0).length : Int) == 0) = true := by rw [dg_zero]; rfl
          have hGa : a = G := by have := hs.out.hG; rwa [Nat.gcd_zero_right] at this
          have HR := Lib.hid (show IsNat wr (.slice pu (dg a).length cu) G by rw [← hGa]; exact hs.out.ha)
          clear hGa
          go_wp2
          go_ret
          exact ⟨_, rfl, HR.out, hs.out.fa, hs.out.bel⟩
        · have hlz : (((dg b).length : Int) == 0) = false := by rw [beq_eq_false_iff_ne]; have := dg_len_pos hb0; omega
          have cd := divide_any _ _ a b wr hs.out.ha hs.out.hb hb0 (by omega)
          have hml := Nat.mod_lt a (show 0 < b by omega)
          have hb18 := two_lim (b := b) (by omega)
          have hgl : Nat.gcd b (a % b) = G := by rw [← hs.out.hG, Nat.gcd_comm b, ← Nat.gcd_rec, Nat.gcd_comm]
          have hG18 : G < 1000000000000000000 := by rw [← hgl]; exact Nat.lt_of_le_of_lt (Nat.gcd_le_left _ (by omega)) hb18
          have CD := Lib.hid cd
          have HX := Lib.hid (And.intro hml (And.intro hb18 (And.intro hgl hG18)))
          clear cd hml hb18 hgl hG18 hb0 h2
          go_wp2_with fail
          refine CD.out.mono ?_
          rintro e w3 ⟨q, r, rfl, hq, hr, _, _, hb3⟩
          obtain ⟨pq, cq, rfl⟩ := hq.shape
          obtain ⟨pr, cr, rfl⟩ := hr.shape
          have C1 := Lib.hid (natMachine_any _ b w3 (hs.out.hb.next hb3) HX.out.2.1)
          have C2 := Lib.hid (natMachine_any _ (a % b) w3 hr (by have := HX.out.1; have := HX.out.2.1; omega))
          have C3 := Lib.hid (gcdMachine_any b (a % b) w3 (by have := HX.out.2.1; omega) (by have := HX.out.1; have := HX.out.2.1; omega))
          have H3 := Lib.hid (hs.out.next hb3)
          rw [HX.out.2.2.1] at C3
          clear CD hq hr hb3
          generalize (dg (a / b)).length = lq at *
          generalize (dg (a % b)).length = lr at *
          generalize a % b = rr at *
          go_wp2_with fail
          refine C1.out.mono ?_
          rintro e w' ⟨rfl, rfl⟩
          go_wp2_with fail
          refine C2.out.mono ?_
          rintro e w' ⟨rfl, rfl⟩
          go_wp2_with fail
          refine C3.out.mono ?_
          rintro e w' ⟨rfl, nn, rfl⟩
          go_wp2_with fail
          refine (ofValue_any G _ HX.out.2.2.2).mono ?_
          rintro e w4 ⟨v, rfl, hv, hf, hb4⟩
          have hBB := (Below.drewK w3.heap.size w3 nn).trans (show Below w3.heap.size _ w4 from hb4)
          have H4 := Lib.hid (H3.out.next hBB)
          have HV := Lib.hid (And.intro hv (show Fresh w3.heap.size v from hf))
          have HS3 := Lib.hid H3.out.hbs
          clear hv hf hb4 hBB C1 C2 C3 H3
          go_wp2
          go_ret
          exact ⟨_, rfl, HV.out.1, HV.out.2.mono HS3.out, H4.out.bel⟩
end Go.Proofs.YtajonpcmgebbbaaDoor
