/- Parts of the proof of the text YtajonpcmgebbbaaDoorProducts23. -/
import Derived.Test.YtajonpcmgebbbaaDoorProducts21
/- The walk of gcd. -/
namespace Go.Proofs.YtajonpcmgebbbaaDoor
open Go.RowKit

theorem any_any (x1 y1 x2 y2 : Int) (w : World) :
    Calls Tryd.prog 73 #[.agg #[.int .i64 x1, .int .i64 y1, .int .i64 x2, .int .i64 y2]] w fun e W' => e = .returned (.bool (y1 != 0)) ∧ Below w.heap.size w W' := by
  go_enter Tryd.func73, Tryd.ntmps73
  go_wp2
  go_ret
  exact ⟨rfl, (Below.refl _ _).alloc (Nat.le_refl _) _⟩

/-- the state of gcd -/
structure GS (W : World) (base M G : Nat) (x y : Value) (a b : Nat) (wr : World) : Prop where
  ha : IsNat wr x a
  hb : IsNat wr y b
  le : b ≤ a
  hM : a ≤ M
  hG : Nat.gcd a b = G
  fa : Fresh base x
  bel : Below base W wr
  hbs : base ≤ wr.heap.size
  oa : OwnN wr base x a
  ob : OwnN wr base y b
  ne : b ≠ 0 → x.ownBlock ≠ y.ownBlock

theorem IsNat.block_lt {w : World} {v : Value} {n c : Nat} (h : IsNat w v n) (h0 : n ≠ 0) (hc : v.ownBlock = some c) : c < w.heap.size := by
  rcases IsNat.far (c := c) h |> fun f => Nat.lt_or_ge c w.heap.size |>.imp id f with h1 | h1
  · exact h1
  · rcases h1 with h1 | h1
    · exact absurd ((dg_nil_iff n).1 h1) h0
    · exact absurd hc h1

theorem OwnN.next {w W : World} {base n : Nat} {v : Value} (h : OwnN w base v n) (hb : Below w.heap.size w W) : OwnN W base v n := fun h0 => by
  obtain ⟨g, cap, e, h1, h2⟩ := h h0
  exact ⟨g, cap, e, h1, h2.next hb h2.lt⟩
theorem GS.next {W : World} {base M G a b : Nat} {x y : Value} {wr w' : World} (h : GS W base M G x y a b wr) (hb : Below wr.heap.size wr w') : GS W base M G x y a b w' :=
  ⟨h.ha.next hb, h.hb.next hb, h.le, h.hM, h.hG, h.fa, h.bel.trans (hb.mono h.hbs), Nat.le_trans h.hbs hb.size, h.oa.next hb, h.ob.next hb, h.ne⟩
/-- behind apply -/
theorem GS.applied {W : World} {base M G a b c d : Nat} {x y : Value} {wr w' : World} {ga gb ca cb : Nat} (h : GS W base M G x y a b wr) (hra : RowO w' ga ca (dg c)) (hrb : RowO w' gb cb (dg d)) (hne : ga ≠ gb) (h1 : base ≤ ga) (h2 : base ≤ gb) (hB : Below base wr w')
    (hdc : d < c) (hca : c < a) (hg : Nat.gcd c d = Nat.gcd a b) : GS W base M G (.slice (some ⟨ga, 0, none⟩) (dg c).length ca) (.slice (some ⟨gb, 0, none⟩) (dg d).length cb) c d w' :=
  ⟨hra.isNat, hrb.isNat, by omega, by have := h.hM; omega, by rw [hg]; exact h.hG, fun k hk => by cases hk; exact h1, h.bel.trans hB, by have := hra.lt; omega, fun _ => ⟨ga, ca, rfl, h1, hra⟩, fun _ => ⟨gb, cb, rfl, h2, hrb⟩,
   fun _ e => hne (Option.some.inj e)⟩
/-- behind a division -/
theorem GS.divided {W : World} {base M G a b : Nat} {x y r : Value} {wr w' : World} (h : GS W base M G x y a b wr) (hb0 : b ≠ 0) (hr : IsNat w' r (a % b)) (ho : OwnR w' wr.heap.size r (a % b)) (hB : Below wr.heap.size wr w') : GS W base M G y r b (a % b) w' := by
  have hm := Nat.mod_lt a (show 0 < b by omega)
  obtain ⟨gb, cb, e, h1, h2⟩ := h.ob hb0
  refine ⟨h.hb.next hB, hr, by omega, by have := h.hM; have := h.le; omega, ?_, fun k hk => by rw [e] at hk; cases hk; exact h1, h.bel.trans (hB.mono h.hbs), Nat.le_trans h.hbs hB.size, h.ob.next hB, fun _ => ho.mono h.hbs, fun _ => ?_⟩
  · rw [← h.hG, Nat.gcd_comm b, ← Nat.gcd_rec, Nat.gcd_comm]
  · obtain ⟨g', c', e', h3, _⟩ := ho
    have := h2.lt
    rw [e, e']
    intro q
    have q : some gb = some g' := q
    have := Option.some.inj q
    omega
theorem two_lim {b : Nat} (h : (dg b).length ≤ 2) : b < 1000000000000000000 := by
  have h1 := (dg_length_le b 2).1 h
  have : B ^ 2 = 1000000000000000000 := by decide
  omega

/-- the contract of gcd at two numbers, of rows of its own -/
def GcdOwn (x y : Nat) : Prop := ∀ (va vb : Value) (base : Nat) (W : World), IsNat W va x → IsNat W vb y → Fresh base va → Fresh base vb → base ≤ W.heap.size → OwnN W base va x → OwnN W base vb y → (x ≠ 0 → y ≠ 0 → va.ownBlock ≠ vb.ownBlock) →
  Calls Tryd.prog 46 #[va, vb] W fun e W' => ∃ v, e = .returned v ∧ IsNat W' v (Nat.gcd x y) ∧ Fresh base v ∧ Below base W W'

theorem lex_lt {M a b c d : Nat} (hd : d ≤ M) (h : c < a ∨ (c = a ∧ d < b)) : c * (M + 1) + d < a * (M + 1) + b := by
  rcases h with h | ⟨rfl, h⟩
  · have : (c + 1) * (M + 1) ≤ a * (M + 1) := Nat.mul_le_mul_right _ h
    rw [Nat.add_mul, Nat.one_mul] at this
    omega
  · omega

set_option maxRecDepth 100000 in
set_option maxHeartbeats 2000000 in
theorem gcd_any (x y : Nat) (hx : (dg x).length ≤ 900) (hy : (dg y).length ≤ 900) : GcdOwn x y := by
  intro va vb base W ha hb fa fb hbase oa ob hne
  obtain ⟨G, hG⟩ : ∃ G, Nat.gcd x y = G := ⟨_, rfl⟩
  obtain ⟨M, hM⟩ : ∃ M, max x y = M := ⟨_, rfl⟩
  have hML : (dg M).length ≤ 900 := by
    rw [← hM]
    rcases Nat.le_total x y with h | h
    · rw [Nat.max_eq_right h]; exact hy
    · rw [Nat.max_eq_left h]; exact hx
  have cc := compare_any va vb x y W ha hb
  -- the state behind the exchange
  have hst : ∀ k, (x < y → GS W base M G vb va y x (W.drewN k)) ∧ (¬ x < y → GS W base M G va vb x y (W.drewN k)) := fun k => by
    have hb1 := Below.drewK W.heap.size W k
    have hb2 := Below.drewK base W k
    constructor
    · intro h
      refine ⟨hb.next hb1, ha.next hb1, by omega, by omega, by rw [Nat.gcd_comm]; exact hG, fb, hb2, hbase, fun h0 => ?_, fun h0 => ?_, fun h0 e => hne h0 (by omega) e.symm⟩
      · obtain ⟨g, cap, e, h2, h3⟩ := ob h0; exact ⟨g, cap, e, h2, h3.of_block rfl⟩
      · obtain ⟨g, cap, e, h2, h3⟩ := oa h0; exact ⟨g, cap, e, h2, h3.of_block rfl⟩
    · intro h
      refine ⟨ha.next hb1, hb.next hb1, by omega, by omega, hG, fa, hb2, hbase, fun h0 => ?_, fun h0 => ?_, fun h0 => hne (by omega) h0⟩
      · obtain ⟨g, cap, e, h2, h3⟩ := oa h0; exact ⟨g, cap, e, h2, h3.of_block rfl⟩
      · obtain ⟨g, cap, e, h2, h3⟩ := ob h0; exact ⟨g, cap, e, h2, h3.of_block rfl⟩
  have HST := Lib.hid hst
  have CC := Lib.hid cc
  have HML := Lib.hid hML
  obtain ⟨pa, ca, rfl⟩ := ha.shape
  obtain ⟨pb, cb, rfl⟩ := hb.shape
  rw [hG]
  clear cc hst ha hb fa fb oa ob hne hx hy hML hM hG hbase
  generalize (dg x).length = lx at *
  generalize (dg y).length = ly at *
  go_enter Tryd.func46, Tryd.ntmps46
  go_wp2_with fail
  refine CC.out.mono ?_
  rintro e w' ⟨rfl, k, rfl⟩
  clear CC
  have HS : Hid (∃ u v a b, (if x < y then Value.slice pb ly cb else .slice pa lx ca) = u ∧ (if x < y then Value.slice pa lx ca else .slice pb ly cb) = v ∧ GS W base M G u v a b (W.drewN k)) := by
    by_cases h : x < y
    · exact ⟨_, _, y, x, rfl, rfl, by rw [if_pos h, if_pos h]; exact (HST.out k).1 h⟩
    · exact ⟨_, _, x, y, rfl, rfl, by rw [if_neg h, if_neg h]; exact (HST.out k).2 h⟩
  clear HST
  generalize W.drewN k = W0 at *
  by_cases h : x < y
  · rw [cmpN_lt h]
    rw [if_pos h, if_pos h] at HS
    have hxy : True := trivial
    go_wp2
    go_loopw [0, 1] (fun u v wr => ∃ (a b : Nat) (pu pv : Option Addr) (cu cv : Nat), u = .slice pu (dg a).length cu ∧ v = .slice pv (dg b).length cv ∧ Hid (GS W base M G u v a b wr))
      (fun u v wr => natVal wr u * (M + 1) + natVal wr v)
    case atStart =>
      obtain ⟨u, v, a, b, rfl, rfl, hs⟩ := HS.out
      obtain ⟨pu, cu, e1⟩ := hs.ha.shape
      obtain ⟨pv, cv, e2⟩ := hs.hb.shape
      exact ⟨a, b, pu, pv, cu, cv, e1, e2, hs⟩
    case round =>
      clear HS
      obtain ⟨a, b, pu, pv, cu, cv, rfl, rfl, hs⟩ := hrel
      have hla : (dg a).length ≤ 900 := Nat.le_trans (dg_len_le hs.out.hM) HML.out
      by_cases h2 : 2 < (dg b).length
      · have h2' : (2 : Int) < ((dg b).length : Int) := by omega
        have hb0 : b ≠ 0 := fun e => by rw [e, dg_zero] at h2; simp at h2
        have ha0 : a ≠ 0 := fun e => by have := hs.out.le; omega
        have hlb := dg_len_le hs.out.le
        obtain ⟨k, hk⟩ : ∃ k, (dg a).length = k + 3 := ⟨(dg a).length - 3, by omega⟩
        have cl := leadingSteps_any _ _ a b k wr hs.out.ha hs.out.hb hk (by omega) hs.out.le
        obtain ⟨ga, cpa, ea, hga, _⟩ := hs.out.oa ha0
        obtain ⟨gb, cpb, eb, hgb, _⟩ := hs.out.ob hb0
        have hne := hs.out.ne hb0
        simp only [Value.slice.injEq, true_and] at ea eb
        obtain ⟨rfl, rfl⟩ := ea
        obtain ⟨rfl, rfl⟩ := eb
        have CL := Lib.hid cl
        have HF := Lib.hid (And.intro hla (And.intro h2 (And.intro hb0 (And.intro ha0 (And.intro hlb (And.intro hga (And.intro hgb hne)))))))
        clear cl hk h2 hb0 ha0 hlb hla hga hgb hne
        go_wp2_with fail
        refine CL.out.mono ?_
        rintro e w1 ⟨x1, y1, x2, y2, rfl, hgood, hb1⟩
        have H1 := Lib.hid (hs.out.next hb1)
        have HG := Lib.hid hgood
        clear hgood hb1 CL
        go_wp2_with fail
        refine (any_any x1 y1 x2 y2 _).mono ?_
        rintro e w2 ⟨rfl, hb2⟩
        have hz := hb2.size
        have c0 : w2.cell? ⟨w1.heap.size, 0, none⟩ = some (.int .i64 x1) := (hb2.cell (p := ⟨w1.heap.size, 0, none⟩) (by simp)).trans (by go_cell)
        have c1 : w2.cell? ⟨w1.heap.size, 1, none⟩ = some (.int .i64 y1) := (hb2.cell (p := ⟨w1.heap.size, 1, none⟩) (by simp)).trans (by go_cell)
        have c2 : w2.cell? ⟨w1.heap.size, 2, none⟩ = some (.int .i64 x2) := (hb2.cell (p := ⟨w1.heap.size, 2, none⟩) (by simp)).trans (by go_cell)
        have c3 : w2.cell? ⟨w1.heap.size, 3, none⟩ = some (.int .i64 y2) := (hb2.cell (p := ⟨w1.heap.size, 3, none⟩) (by simp)).trans (by go_cell)
        have H2 := Lib.hid (H1.out.next (((Below.refl _ w1).alloc (Nat.le_refl _) _).trans (hb2.mono (by simp))))
        clear hb2 H1 hz
        by_cases hy : y1 = 0
        · have hy1 : (y1 != 0) = false := by simpa using hy
          clear hy c0 c1 c2 c3 HG
          have cd := divide_own _ _ a b w2 H2.out.ha H2.out.hb HF.out.2.2.1 (by have := HF.out.1; omega) H2.out.le (by have := HF.out.2.1; omega)
          have CD := Lib.hid cd
          clear cd
          go_wp2_with fail
          refine CD.out.mono ?_
          rintro e w3 ⟨q, r, rfl, hq, hr, hb3, ho3⟩
          obtain ⟨pq, cq, rfl⟩ := hq.shape
          obtain ⟨pr, cr, rfl⟩ := hr.shape
          have H3 := Lib.hid (H2.out.divided HF.out.2.2.1 hr ho3 hb3)
          have e1 := Lib.hid (natVal_eq hs.out.ha)
          have e2 := Lib.hid (natVal_eq hs.out.hb)
          clear hq hr hb3 ho3 CD
          have hlq : True := trivial
          generalize (dg (a / b)).length = lq at *
          go_wp2
          go_roundw
          case rel => exact ⟨b, a % b, _, _, _, _, rfl, rfl, H3.out⟩
          case measure =>
            show natVal w3 _ * (M + 1) + natVal w3 _ < natVal wr _ * (M + 1) + natVal wr _
            rw [e1.out, e2.out, natVal_eq H3.out.ha, natVal_eq H3.out.hb]
            have q1 := H3.out.le
            have q2 := H3.out.hM
            have q3 := H2.out.le
            have q4 := Nat.mod_lt a (show 0 < b by have := HF.out.2.2.1; omega)
            exact lex_lt (by omega) (by omega)
        · have hy1 : (y1 != 0) = true := by simpa using hy
          have hgd : Good a b x1 y1 x2 y2 := HG.out.resolve_left hy
          obtain ⟨c, d, g1, g2, g3, g4, g5, g6, g7, g8, g9, g10⟩ := hgd
          obtain ⟨_, _, ea, _, hra⟩ := H2.out.oa HF.out.2.2.2.1
          obtain ⟨_, _, eb, _, hrb⟩ := H2.out.ob HF.out.2.2.1
          simp only [Value.slice.injEq, true_and, Option.some.injEq, Addr.mk.injEq, and_true] at ea eb
          obtain ⟨rfl, rfl⟩ := ea
          obtain ⟨rfl, rfl⟩ := eb
          have ca := apply_any x1 y1 x2 y2 a b ga gb cu cv base c d w2 hra hrb (fun e => HF.out.2.2.2.2.2.2.2 (by rw [e]; rfl)) HF.out.2.2.2.2.2.1 HF.out.2.2.2.2.2.2.1 HF.out.2.2.2.2.1 (by have := HF.out.1; omega) g1 g2 g3 g4 g6 g7 g8 g9 g10
          have CA := Lib.hid ca
          have HCD := Lib.hid (And.intro g3 (And.intro g4 (And.intro g5 HF.out.2.2.2.2.2.1)))
          clear hy HG g1 g2 g3 g4 g5 g6 g7 g8 g9 g10 hra hrb ca
          go_wp2_with fail
          refine CA.out.mono ?_
          rintro e w3 ⟨gb', cb', rfl, hr1, hr2, hne, hgb', hb3⟩
          have H3 := Lib.hid (H2.out.applied hr1 hr2 hne HCD.out.2.2.2 hgb' hb3 HCD.out.1 HCD.out.2.1 HCD.out.2.2.1)
          have e1 := Lib.hid (natVal_eq hs.out.ha)
          have e2 := Lib.hid (natVal_eq hs.out.hb)
          clear hr1 hr2 hne hgb' hb3 CA
          go_wp2
          go_roundw
          case rel => exact ⟨c, d, _, _, _, _, rfl, rfl, H3.out⟩
          case measure =>
            show natVal w3 _ * (M + 1) + natVal w3 _ < natVal wr _ * (M + 1) + natVal wr _
            rw [e1.out, e2.out, natVal_eq H3.out.ha, natVal_eq H3.out.hb]
            have q1 := H3.out.le
            have q2 := H3.out.hM
            exact lex_lt (by omega) (.inl HCD.out.2.1)
      · have h2' : ¬ (2 : Int) < ((dg b).length : Int) := by omega
        by_cases hb0 : b = 0
        · subst hb0
          have hlz : (((dg 0).length : Int) == 0) = true := by rw [dg_zero]; rfl
          have hGa : a = G := by have := hs.out.hG; rwa [Nat.gcd_zero_right] at this
          have HR := Lib.hid (show IsNat wr (.slice pu (dg a).length cu) G by rw [← hGa]; exact hs.out.ha)
          clear hGa
          go_wp2
          go_ret
          exact ⟨_, rfl, HR.out, hs.out.fa, hs.out.bel⟩
        · have hlz : (((dg b).length : Int) == 0) = false := by rw [beq_eq_false_iff_ne]; have := dg_len_pos hb0; omega
          have cd := divide_any _ _ a b wr hs.out.ha hs.out.hb hb0 (by omega)
          have hml := Nat.mod_lt a (show 0 < b by omega)
          have hb18 := two_lim (b := b) (by omega)
          have hgl : Nat.gcd b (a % b) = G := by rw [← hs.out.hG, Nat.gcd_comm b, ← Nat.gcd_rec, Nat.gcd_comm]
          have hG18 : G < 1000000000000000000 := by rw [← hgl]; exact Nat.lt_of_le_of_lt (Nat.gcd_le_left _ (by omega)) hb18
          have CD := Lib.hid cd
          have HX := Lib.hid (And.intro hml (And.intro hb18 (And.intro hgl hG18)))
          clear cd hml hb18 hgl hG18 hb0 h2
          go_wp2_with fail
          refine CD.out.mono ?_
          rintro e w3 ⟨q, r, rfl, hq, hr, _, _, hb3⟩
          obtain ⟨pq, cq, rfl⟩ := hq.shape
          obtain ⟨pr, cr, rfl⟩ := hr.shape
          have C1 := Lib.hid (natMachine_any _ b w3 (hs.out.hb.next hb3) HX.out.2.1)
          have C2 := Lib.hid (natMachine_any _ (a % b) w3 hr (by have := HX.out.1; have := HX.out.2.1; omega))
          have C3 := Lib.hid (gcdMachine_any b (a % b) w3 (by have := HX.out.2.1; omega) (by have := HX.out.1; have := HX.out.2.1; omega))
          have H3 := Lib.hid (hs.out.next hb3)
          rw [HX.out.2.2.1] at C3
          clear CD hq hr hb3
          generalize (dg (a / b)).length = lq at *
          generalize (dg (a % b)).length = lr at *
          generalize a % b = rr at *
          go_wp2_with fail
          refine C1.out.mono ?_
          rintro e w' ⟨rfl, rfl⟩
          go_wp2_with fail
          refine C2.out.mono ?_
          rintro e w' ⟨rfl, rfl⟩
          go_wp2_with fail
          refine C3.out.mono ?_
          rintro e w' ⟨rfl, nn, rfl⟩
          go_wp2_with fail
          refine (ofValue_any G _ HX.out.2.2.2).mono ?_
          rintro e w4 ⟨v, rfl, hv, hf, hb4⟩
          have hBB := (Below.drewK w3.heap.size w3 nn).trans (show Below w3.heap.size _ w4 from hb4)
          have H4 := Lib.hid (H3.out.next hBB)
          have HV := Lib.hid (And.intro hv (show Fresh w3.heap.size v from hf))
          have HS3 := Lib.hid H3.out.hbs
          clear hv hf hb4 hBB C1 C2 C3 H3
          go_wp2
          go_ret
          exact ⟨_, rfl, HV.out.1, HV.out.2.mono HS3.out, H4.out.bel⟩
  · have hge : ¬ cmpN x y < 0 := by unfold cmpN; rw [if_neg h]; split <;> omega
    rw [if_neg h, if_neg h] at HS
    generalize cmpN x y = c at *
    go_wp2
    go_loopw [0, 1] (fun u v wr => ∃ (a b : Nat) (pu pv : Option Addr) (cu cv : Nat), u = .slice pu (dg a).length cu ∧ v = .slice pv (dg b).length cv ∧ Hid (GS W base M G u v a b wr))
      (fun u v wr => natVal wr u * (M + 1) + natVal wr v)
    case atStart =>
      obtain ⟨u, v, a, b, rfl, rfl, hs⟩ := HS.out
      obtain ⟨pu, cu, e1⟩ := hs.ha.shape
      obtain ⟨pv, cv, e2⟩ := hs.hb.shape
      exact ⟨a, b, pu, pv, cu, cv, e1, e2, hs⟩
    case round =>
      clear HS
      obtain ⟨a, b, pu, pv, cu, cv, rfl, rfl, hs⟩ := hrel
      have hla : (dg a).length ≤ 900 := Nat.le_trans (dg_len_le hs.out.hM) HML.out
      by_cases h2 : 2 < (dg b).length
      · have h2' : (2 : Int) < ((dg b).length : Int) := by omega
        have hb0 : b ≠ 0 := fun e => by rw [e, dg_zero] at h2; simp at h2
        have ha0 : a ≠ 0 := fun e => by have := hs.out.le; omega
        have hlb := dg_len_le hs.out.le
        obtain ⟨k, hk⟩ : ∃ k, (dg a).length = k + 3 := ⟨(dg a).length - 3, by omega⟩
        have cl := leadingSteps_any _ _ a b k wr hs.out.ha hs.out.hb hk (by omega) hs.out.le
        obtain ⟨ga, cpa, ea, hga, _⟩ := hs.out.oa ha0
        obtain ⟨gb, cpb, eb, hgb, _⟩ := hs.out.ob hb0
        have hne := hs.out.ne hb0
        simp only [Value.slice.injEq, true_and] at ea eb
        obtain ⟨rfl, rfl⟩ := ea
        obtain ⟨rfl, rfl⟩ := eb
        have CL := Lib.hid cl
        have HF := Lib.hid (And.intro hla (And.intro h2 (And.intro hb0 (And.intro ha0 (And.intro hlb (And.intro hga (And.intro hgb hne)))))))
        clear cl hk h2 hb0 ha0 hlb hla hga hgb hne
        go_wp2_with fail
        refine CL.out.mono ?_
        rintro e w1 ⟨x1, y1, x2, y2, rfl, hgood, hb1⟩
        have H1 := Lib.hid (hs.out.next hb1)
        have HG := Lib.hid hgood
        clear hgood hb1 CL
        go_wp2_with fail
        refine (any_any x1 y1 x2 y2 _).mono ?_
        rintro e w2 ⟨rfl, hb2⟩
        have hz := hb2.size
        have c0 : w2.cell? ⟨w1.heap.size, 0, none⟩ = some (.int .i64 x1) := (hb2.cell (p := ⟨w1.heap.size, 0, none⟩) (by simp)).trans (by go_cell)
        have c1 : w2.cell? ⟨w1.heap.size, 1, none⟩ = some (.int .i64 y1) := (hb2.cell (p := ⟨w1.heap.size, 1, none⟩) (by simp)).trans (by go_cell)
        have c2 : w2.cell? ⟨w1.heap.size, 2, none⟩ = some (.int .i64 x2) := (hb2.cell (p := ⟨w1.heap.size, 2, none⟩) (by simp)).trans (by go_cell)
        have c3 : w2.cell? ⟨w1.heap.size, 3, none⟩ = some (.int .i64 y2) := (hb2.cell (p := ⟨w1.heap.size, 3, none⟩) (by simp)).trans (by go_cell)
        have H2 := Lib.hid (H1.out.next (((Below.refl _ w1).alloc (Nat.le_refl _) _).trans (hb2.mono (by simp))))
        clear hb2 H1 hz
        by_cases hy : y1 = 0
        · have hy1 : (y1 != 0) = false := by simpa using hy
          clear hy c0 c1 c2 c3 HG
          have cd := divide_own _ _ a b w2 H2.out.ha H2.out.hb HF.out.2.2.1 (by have := HF.out.1; omega) H2.out.le (by have := HF.out.2.1; omega)
          have CD := Lib.hid cd
          clear cd
          go_wp2_with fail
          refine CD.out.mono ?_
          rintro e w3 ⟨q, r, rfl, hq, hr, hb3, ho3⟩
          obtain ⟨pq, cq, rfl⟩ := hq.shape
          obtain ⟨pr, cr, rfl⟩ := hr.shape
          have H3 := Lib.hid (H2.out.divided HF.out.2.2.1 hr ho3 hb3)
          have e1 := Lib.hid (natVal_eq hs.out.ha)
          have e2 := Lib.hid (natVal_eq hs.out.hb)
          clear hq hr hb3 ho3 CD
          have hlq : True := trivial
          generalize (dg (a / b)).length = lq at *
          go_wp2
          go_roundw
          case rel => exact ⟨b, a % b, _, _, _, _, rfl, rfl, H3.out⟩
          case measure =>
            show natVal w3 _ * (M + 1) + natVal w3 _ < natVal wr _ * (M + 1) + natVal wr _
            rw [e1.out, e2.out, natVal_eq H3.out.ha, natVal_eq H3.out.hb]
            have q1 := H3.out.le
            have q2 := H3.out.hM
            have q3 := H2.out.le
            have q4 := Nat.mod_lt a (show 0 < b by have := HF.out.2.2.1; omega)
            exact lex_lt (by omega) (by omega)
        · have hy1 : (y1 != 0) = true := by simpa using hy
          have hgd : Good a b x1 y1 x2 y2 := HG.out.resolve_left hy
          obtain ⟨c, d, g1, g2, g3, g4, g5, g6, g7, g8, g9, g10⟩ := hgd
          obtain ⟨_, _, ea, _, hra⟩ := H2.out.oa HF.out.2.2.2.1
          obtain ⟨_, _, eb, _, hrb⟩ := H2.out.ob HF.out.2.2.1
          simp only [Value.slice.injEq, true_and, Option.some.injEq, Addr.mk.injEq, and_true] at ea eb
          obtain ⟨rfl, rfl⟩ := ea
          obtain ⟨rfl, rfl⟩ := eb
          have ca := apply_any x1 y1 x2 y2 a b ga gb cu cv base c d w2 hra hrb (fun e => HF.out.2.2.2.2.2.2.2 (by rw [e]; rfl)) HF.out.2.2.2.2.2.1 HF.out.2.2.2.2.2.2.1 HF.out.2.2.2.2.1 (by have := HF.out.1; omega) g1 g2 g3 g4 g6 g7 g8 g9 g10
          have CA := Lib.hid ca
          have HCD := Lib.hid (And.intro g3 (And.intro g4 (And.intro g5 HF.out.2.2.2.2.2.1)))
          clear hy HG g1 g2 g3 g4 g5 g6 g7 g8 g9 g10 hra hrb ca
          go_wp2_with fail
          refine CA.out.mono ?_
          rintro e w3 ⟨gb', cb', rfl, hr1, hr2, hne, hgb', hb3⟩
          have H3 := Lib.hid (H2.out.applied hr1 hr2 hne HCD.out.2.2.2 hgb' hb3 HCD.out.1 HCD.out.2.1 HCD.out.2.2.1)
          have e1 := Lib.hid (natVal_eq hs.out.ha)
          have e2 := Lib.hid (natVal_eq hs.out.hb)
          clear hr1 hr2 hne hgb' hb3 CA
          go_wp2
          go_roundw
          case rel => exact ⟨c, d, _, _, _, _, rfl, rfl, H3.out⟩
          case measure =>
            show natVal w3 _ * (M + 1) + natVal w3 _ < natVal wr _ * (M + 1) + natVal wr _
            rw [e1.out, e2.out, natVal_eq H3.out.ha, natVal_eq H3.out.hb]
            have q1 := H3.out.le
            have q2 := H3.out.hM
            exact lex_lt (by omega) (.inl HCD.out.2.1)
      · have h2' : ¬ (2 : Int) < ((dg b).length : Int) := by omega
        by_cases hb0 : b = 0
        · subst hb0
          have hlz : (((dg 0).length : Int) == 0) = true := by rw [dg_zero]; rfl
          have hGa : a = G := by have := hs.out.hG; rwa [Nat.gcd_zero_right] at this
          have HR := Lib.hid (show IsNat wr (.slice pu (dg a).length cu) G by rw [← hGa]; exact hs.out.ha)
          clear hGa
          go_wp2
          go_ret
          exact ⟨_, rfl, HR.out, hs.out.fa, hs.out.bel⟩
        · have hlz : (((dg b).length : Int) == 0) = false := by rw [beq_eq_false_iff_ne]; have := dg_len_pos hb0; omega
          have cd := divide_any _ _ a b wr hs.out.ha hs.out.hb hb0 (by omega)
          have hml := Nat.mod_lt a (show 0 < b by omega)
          have hb18 := two_lim (b := b) (by omega)
          have hgl : Nat.gcd b (a % b) = G := by rw [← hs.out.hG, Nat.gcd_comm b, ← Nat.gcd_rec, Nat.gcd_comm]
          have hG18 : G < 1000000000000000000 := by rw [← hgl]; exact Nat.lt_of_le_of_lt (Nat.gcd_le_left _ (by omega)) hb18
          have CD := Lib.hid cd
          have HX := Lib.hid (And.intro hml (And.intro hb18 (And.intro hgl hG18)))
          clear cd hml hb18 hgl hG18 hb0 h2
          go_wp2_with fail
          refine CD.out.mono ?_
          rintro e w3 ⟨q, r, rfl, hq, hr, _, _, hb3⟩
          obtain ⟨pq, cq, rfl⟩ := hq.shape
          obtain ⟨pr, cr, rfl⟩ := hr.shape
          have C1 := Lib.hid (natMachine_any _ b w3 (hs.out.hb.next hb3) HX.out.2.1)
          have C2 := Lib.hid (natMachine_any _ (a % b) w3 hr (by have := HX.out.1; have := HX.out.2.1; omega))
          have C3 := Lib.hid (gcdMachine_any b (a % b) w3 (by have := HX.out.2.1; omega) (by have := HX.out.1; have := HX.out.2.1; omega))
          have H3 := Lib.hid (hs.out.next hb3)
          rw [HX.out.2.2.1] at C3
          clear CD hq hr hb3
          generalize (dg (a / b)).length = lq at *
          generalize (dg (a % b)).length = lr at *
          generalize a % b = rr at *
          go_wp2_with fail
          refine C1.out.mono ?_
          rintro e w' ⟨rfl, rfl⟩
          go_wp2_with fail
          refine C2.out.mono ?_
          rintro e w' ⟨rfl, rfl⟩
          go_wp2_with fail
          refine C3.out.mono ?_
          rintro e w' ⟨rfl, nn, rfl⟩
          go_wp2_with fail
          refine (ofValue_any G _ HX.out.2.2.2).mono ?_
          rintro e w4 ⟨v, rfl, hv, hf, hb4⟩
          have hBB := (Below.drewK w3.heap.size w3 nn).trans (show Below w3.heap.size _ w4 from hb4)
          have H4 := Lib.hid (H3.out.next hBB)
          have HV := Lib.hid (And.intro hv (show Fresh w3.heap.size v from hf))
          have HS3 := Lib.hid H3.out.hbs
          clear hv hf hb4 hBB C1 C2 C3 H3
          go_wp2
          go_ret
          exact ⟨_, rfl, HV.out.1, HV.out.2.mono HS3.out, H4.out.bel⟩
end Go.Proofs.YtajonpcmgebbbaaDoor

/- Gcd on texts of numbers of any size. -/
namespace Go.Proofs.YtajonpcmgebbbaaDoor
open Go.RowKit

set_option maxHeartbeats 1000000 in
theorem Gcd_long2 (a b : ByteArray) (w : World) (k1 : chk a.data.toList = 0) (k2 : chk b.data.toList = 0) (hs : ¬ ((szB a).size ≤ 18 ∧ (szB b).size ≤ 18)) (hg : GcdOwn (natOf (szL a.data.toList)) (natOf (szL b.data.toList))) (ht : Tab w) :
    Calls Tryd.prog 14 #[.string a, .string b] w fun e W' => e = .returned (.tuple #[.string (strB (Nat.gcd (natOf (szL a.data.toList)) (natOf (szL b.data.toList)) : Nat)), .int .i64 0]) ∧ Below w.heap.size w W' := by
  have s1 := chk_size k1
  have s2 := chk_size k2
  have cb := checkBoth_any a b w (by unfold maxLen; omega) (by unfold maxLen; omega)
  have hc2 : chk2 a.data.toList b.data.toList = 0 := by unfold chk2; rw [if_pos k1]; exact k2
  rw [hc2] at cb
  have z1 := szB_size a
  have z2 := szB_size b
  have i1 := fun W => isShort_any (szB a) W (by unfold maxLen; omega)
  have i2 := fun W => isShort_any (szB b) W (by unfold maxLen; omega)
  have m1 := fun W => readNatural_own (szB a) W (by omega) (by rw [szB_data]; exact chk_dig k1)
  have m2 := fun W => readNatural_own (szB b) W (by omega) (by rw [szB_data]; exact chk_dig k2)
  rw [szB_data] at m1 m2
  have y1 := fun W => sizeText_any a W (by unfold maxLen; omega)
  have y2 := fun W => sizeText_any b W (by unfold maxLen; omega)
  have n1 := nat_lim k1
  have n2 := nat_lim k2
  generalize natOf (szL a.data.toList) = x at *
  generalize natOf (szL b.data.toList) = y at *
  have hgl : Nat.gcd x y < lim := by
    by_cases h0 : x = 0
    · subst h0; rw [Nat.gcd_zero_left]; exact n2
    · exact Nat.lt_of_le_of_lt (Nat.gcd_le_left _ (by omega)) n1
  have tx := fun v W (h : IsNat W v (Nat.gcd x y)) (hb : Below w.heap.size w W) => text_any false v (Nat.gcd x y) W h (Nat.le_trans (dg_lim hgl) (by decide)) (ht.next hb)
  have e1 : resB (sgnZ false (Nat.gcd x y)) = strB (Nat.gcd x y : Nat) := by unfold sgnZ; exact if_pos (by simpa using hgl)
  have e2 : resE (sgnZ false (Nat.gcd x y)) = 0 := by unfold sgnZ; exact if_pos (by simpa using hgl)
  rw [e1, e2] at tx
  have TX := Lib.hid tx
  have HG := Lib.hid hg
  have C := Lib.hid (And.intro cb (And.intro y1 (And.intro y2 (And.intro i1 (And.intro i2 (And.intro m1 m2))))))
  clear cb i1 i2 m1 m2 y1 y2 hc2 ht k1 k2 s1 s2 tx hg hgl e1 e2 n1 n2
  have rest : True := trivial
  generalize szB a = sa at *
  generalize szB b = sb at *
  by_cases g1 : sa.size ≤ 18
  · have t1 : decide ((sa.size : Int) ≤ 18) = true := by simp; omega
    have t2 : decide ((sb.size : Int) ≤ 18) = false := by simp; omega
    go_enter Tryd.func14, Tryd.ntmps14
    go_wp2_with fail
    refine C.out.1.mono ?_
    rintro e w' ⟨rfl, rfl⟩
    go_wp2_with fail
    refine (C.out.2.1 _).mono ?_
    rintro e w' ⟨rfl, rfl⟩
    go_wp2_with fail
    refine (C.out.2.2.1 _).mono ?_
    rintro e w' ⟨rfl, rfl⟩
    go_wp2_with fail
    refine (C.out.2.2.2.1 _).mono ?_
    rintro e w' ⟨rfl, rfl⟩
    rw [t1]
    go_wp2_with fail
    refine (C.out.2.2.2.2.1 _).mono ?_
    rintro e w' ⟨rfl, rfl⟩
    rw [t2]
    go_wp2_with fail
    refine (C.out.2.2.2.2.2.1 _).mono ?_
    rintro e w1 ⟨va, rfl, hva, hfa, hb1, hoa⟩
    obtain ⟨pa, ca, rfl⟩ := hva.shape
    have H1 := Lib.hid (And.intro hva (And.intro hfa hb1)); have HOA := Lib.hid hoa; clear hva hfa hb1 hoa
    go_wp2_with fail
    refine (C.out.2.2.2.2.2.2 _).mono ?_
    rintro e w2 ⟨vb, rfl, hvb, hfb, hb2, hob⟩
    obtain ⟨pb, cb, rfl⟩ := hvb.shape
    have hB2 := H1.out.2.2.trans (hb2.mono H1.out.2.2.size)
    have hdis : x ≠ 0 → y ≠ 0 → (Value.slice pa (dg x).length ca).ownBlock ≠ (Value.slice pb (dg y).length cb).ownBlock := fun h1 h2 => by
      obtain ⟨g1, c1, e1, q1, r1⟩ := HOA.out h1
      obtain ⟨g2, c2, e2, q2, r2⟩ := hob h2
      have hlt := r1.lt
      rw [e1, e2]
      show some g1 ≠ some g2
      intro e
      have := Option.some.inj e
      omega
    have hoa2 : OwnN w2 w.heap.size (Value.slice pa (dg x).length ca) x := fun h1 => by
      obtain ⟨g1, c1, e1, q1, r1⟩ := HOA.out h1
      exact ⟨g1, c1, e1, q1, r1.next hb2 r1.lt⟩
    have hob2 : OwnN w2 w.heap.size (Value.slice pb (dg y).length cb) y := fun h2 => OwnR.mono (hob h2) H1.out.2.2.size
    have CG := Lib.hid (HG.out _ _ w.heap.size w2 (H1.out.1.next hb2) hvb H1.out.2.1 (hfb.mono H1.out.2.2.size) hB2.size hoa2 hob2 hdis)
    have H2 := Lib.hid hB2
    clear hvb hfb hb2 hB2 H1 hdis HG HOA hoa2 hob2 hob
    go_wp2_with fail
    refine CG.out.mono ?_
    rintro e w3 ⟨v, rfl, hv, _, hb3⟩
    obtain ⟨pv, cv, rfl⟩ := hv.shape
    have H3 := Lib.hid (And.intro hv (H2.out.trans hb3))
    clear hv hb3 CG H2
    generalize (dg (Nat.gcd x y)).length = lv at *
    go_wp2_with fail
    refine (TX.out _ _ H3.out.1 H3.out.2).mono ?_
    rintro e w4 ⟨rfl, hb4⟩
    have H4 := Lib.hid (H3.out.2.trans (hb4.mono H3.out.2.size))
    clear hb4 H3 TX
    go_wp2
    go_ret2
    exact ⟨rfl, H4.out⟩
  · have t1 : decide ((sa.size : Int) ≤ 18) = false := by simp; omega
    go_enter Tryd.func14, Tryd.ntmps14
    go_wp2_with fail
    refine C.out.1.mono ?_
    rintro e w' ⟨rfl, rfl⟩
    go_wp2_with fail
    refine (C.out.2.1 _).mono ?_
    rintro e w' ⟨rfl, rfl⟩
    go_wp2_with fail
    refine (C.out.2.2.1 _).mono ?_
    rintro e w' ⟨rfl, rfl⟩
    go_wp2_with fail
    refine (C.out.2.2.2.1 _).mono ?_
    rintro e w' ⟨rfl, rfl⟩
    rw [t1]
    go_wp2_with fail
    refine (C.out.2.2.2.2.2.1 _).mono ?_
    rintro e w1 ⟨va, rfl, hva, hfa, hb1, hoa⟩
    obtain ⟨pa, ca, rfl⟩ := hva.shape
    have H1 := Lib.hid (And.intro hva (And.intro hfa hb1)); have HOA := Lib.hid hoa; clear hva hfa hb1 hoa
    go_wp2_with fail
    refine (C.out.2.2.2.2.2.2 _).mono ?_
    rintro e w2 ⟨vb, rfl, hvb, hfb, hb2, hob⟩
    obtain ⟨pb, cb, rfl⟩ := hvb.shape
    have hB2 := H1.out.2.2.trans (hb2.mono H1.out.2.2.size)
    have hdis : x ≠ 0 → y ≠ 0 → (Value.slice pa (dg x).length ca).ownBlock ≠ (Value.slice pb (dg y).length cb).ownBlock := fun h1 h2 => by
      obtain ⟨g1, c1, e1, q1, r1⟩ := HOA.out h1
      obtain ⟨g2, c2, e2, q2, r2⟩ := hob h2
      have hlt := r1.lt
      rw [e1, e2]
      show some g1 ≠ some g2
      intro e
      have := Option.some.inj e
      omega
    have hoa2 : OwnN w2 w.heap.size (Value.slice pa (dg x).length ca) x := fun h1 => by
      obtain ⟨g1, c1, e1, q1, r1⟩ := HOA.out h1
      exact ⟨g1, c1, e1, q1, r1.next hb2 r1.lt⟩
    have hob2 : OwnN w2 w.heap.size (Value.slice pb (dg y).length cb) y := fun h2 => OwnR.mono (hob h2) H1.out.2.2.size
    have CG := Lib.hid (HG.out _ _ w.heap.size w2 (H1.out.1.next hb2) hvb H1.out.2.1 (hfb.mono H1.out.2.2.size) hB2.size hoa2 hob2 hdis)
    have H2 := Lib.hid hB2
    clear hvb hfb hb2 hB2 H1 hdis HG HOA hoa2 hob2 hob
    go_wp2_with fail
    refine CG.out.mono ?_
    rintro e w3 ⟨v, rfl, hv, _, hb3⟩
    obtain ⟨pv, cv, rfl⟩ := hv.shape
    have H3 := Lib.hid (And.intro hv (H2.out.trans hb3))
    clear hv hb3 CG H2
    generalize (dg (Nat.gcd x y)).length = lv at *
    go_wp2_with fail
    refine (TX.out _ _ H3.out.1 H3.out.2).mono ?_
    rintro e w4 ⟨rfl, hb4⟩
    have H4 := Lib.hid (H3.out.2.trans (hb4.mono H3.out.2.size))
    clear hb4 H3 TX
    go_wp2
    go_ret2
    exact ⟨rfl, H4.out⟩

theorem Gcd_strs2 (x y : Int) (w : World) (hx : x.natAbs < lim) (hy : y.natAbs < lim) (ht : Tab w) :
    Calls Tryd.prog 14 #[.string (strB x), .string (strB y)] w fun e W' => e = .returned (.tuple #[.string (strB (Nat.gcd x.natAbs y.natAbs : Nat)), .int .i64 0]) ∧ Below w.heap.size w W' := by
  have e1 := strB_nat hx
  have e2 := strB_nat hy
  by_cases hs : (szB (strB x)).size ≤ 18 ∧ (szB (strB y)).size ≤ 18
  · have c := Gcd_mid (strB x) (strB y) w (strB_chk hx) (strB_chk hy) hs.1 hs.2 ht
    rwa [e1, e2] at c
  · have c := Gcd_long2 (strB x) (strB y) w (strB_chk hx) (strB_chk hy) hs (by rw [e1, e2]; exact gcd_any _ _ (Nat.le_trans (dg_lim hx) (by decide)) (Nat.le_trans (dg_lim hy) (by decide))) ht
    rwa [e1, e2] at c
end Go.Proofs.YtajonpcmgebbbaaDoor

/- The reference's Divide and Gcd, for every two strings; great. -/
-- needs kingpost/kingpostref01.Mul
namespace Go.Proofs.YtajonpcmgebbbaaDoor.R
open Go.RowKit

set_option maxHeartbeats 1000000 in
theorem Divide_any (a b : ByteArray) (w : World) (ha : a.size ≤ 1000) (hb : b.size ≤ 1000) (ht : Tab w) :
    Calls Tryd.prog 13 #[.string a, .string b] w fun e W' => e = .returned (.tuple #[.string (divQ (chk2 a.data.toList b.data.toList) (valOf a.data.toList) (valOf b.data.toList)), .string (divR (chk2 a.data.toList b.data.toList) (valOf a.data.toList) (valOf b.data.toList)), .int .i64 (divE (chk2 a.data.toList b.data.toList) (valOf b.data.toList))]) ∧ Below w.heap.size w W' := by
  have cb := both_any a b w (by unfold maxLen; omega) (by unfold maxLen; omega)
  by_cases hz : chk2 a.data.toList b.data.toList = 0
  · obtain ⟨k1, k2⟩ := chk2_zero hz
    rw [hz]
    by_cases h0 : valOf b.data.toList = 0
    · rw [h0, (div_zero _).1, (div_zero _).2.1, (div_zero 0).2.2]
      have e48 := chk_48 k2 h0
      have hb48 : (b.toList == [48]) = true := by rw [ByteArray.toList_eq, e48]; rfl
      rw [hz] at cb
      have C := Lib.hid cb
      clear cb e48 h0 k1 k2 hz ht
      go_enter Tryd.func13, Tryd.ntmps13
      go_wp2_with fail
      refine C.out.mono ?_
      rintro e w' ⟨rfl, rfl⟩
      go_wp2
      go_ret3
      exact ⟨rfl, Below.refl _ _⟩
    · rw [(div_ok h0).1, (div_ok h0).2.1, (div_ok (x := 0) h0).2.2]
      by_cases hs : a.size ≤ 17 ∧ b.size ≤ 17
      · exact Divide_short a b w hs.1 hs.2 k1 k2 h0 ht
      · exact Divide_long a b w hs k1 k2 h0
  · rw [(div_bad hz _ _).1, (div_bad hz _ _).2.1, (div_bad hz 0 _).2.2]
    generalize chk2 a.data.toList b.data.toList = e at *
    have C := Lib.hid cb
    have hn : (e != 0) = true := by simpa using hz
    clear cb hz ht
    go_enter Tryd.func13, Tryd.ntmps13
    go_wp2_with fail
    refine C.out.mono ?_
    rintro e w' ⟨rfl, rfl⟩
    go_wp2
    go_ret3
    exact ⟨rfl, Below.refl _ _⟩

/-- what Gcd returns -/
def gcdB (e : Int) (x y : Nat) : ByteArray := if e = 0 then strB (Nat.gcd x y : Nat) else ⟨#[]⟩
theorem Gcd_any (a b : ByteArray) (w : World) (ha : a.size ≤ maxLen) (hb : b.size ≤ maxLen) (ht : Tab w) :
    Calls Tryd.prog 15 #[.string a, .string b] w fun e W' => e = .returned (.tuple #[.string (gcdB (chk2 a.data.toList b.data.toList) (natOf (szL a.data.toList)) (natOf (szL b.data.toList))), .int .i64 (chk2 a.data.toList b.data.toList)]) ∧ Below w.heap.size w W' := by
  by_cases hz : chk2 a.data.toList b.data.toList = 0
  · obtain ⟨k1, k2⟩ := chk2_zero hz
    rw [hz]
    exact Gcd_ok a b w k1 k2 ht
  · refine (Gcd_bad a b w ha hb hz).mono ?_
    rintro e w' ⟨rfl, rfl⟩
    refine ⟨?_, Below.refl _ _⟩
    unfold gcdB
    rw [if_neg hz]
set_option maxHeartbeats 1000000 in
theorem progGcd_any (a b : ByteArray) (w : World) (ha : a.size ≤ maxLen) (hb : b.size ≤ maxLen) (ht : Tab w) :
    Calls Tryd.prog 14 #[.string a, .string b] w fun e W' => e = .returned (.tuple #[.string (gcdB (chk2 a.data.toList b.data.toList) (natOf (szL a.data.toList)) (natOf (szL b.data.toList))), .int .i64 (chk2 a.data.toList b.data.toList)]) ∧ Below w.heap.size w W' := by
  by_cases hz : chk2 a.data.toList b.data.toList = 0
  · obtain ⟨k1, k2⟩ := chk2_zero hz
    rw [hz]
    show Calls _ _ _ _ fun e W' => e = .returned (.tuple #[.string (strB _), _]) ∧ _
    have n1 := nat_lim k1
    have n2 := nat_lim k2
    by_cases hs : (szB a).size ≤ 18 ∧ (szB b).size ≤ 18
    · exact Gcd_mid a b w k1 k2 hs.1 hs.2 ht
    · exact Gcd_long2 a b w k1 k2 hs (gcd_any _ _ (Nat.le_trans (Go.Proofs.YtajonpcmgebbbaaDoor.dg_lim n1) (by decide)) (Nat.le_trans (Go.Proofs.YtajonpcmgebbbaaDoor.dg_lim n2) (by decide))) ht
  · have cb := checkBoth_any a b w ha hb
    have e1 : gcdB (chk2 a.data.toList b.data.toList) (natOf (szL a.data.toList)) (natOf (szL b.data.toList)) = ⟨#[]⟩ := if_neg hz
    rw [e1]
    clear e1
    generalize chk2 a.data.toList b.data.toList = e at *
    have C := Lib.hid cb
    have hn : (e != 0) = true := by simpa using hz
    clear cb hz ht
    go_enter Tryd.func14, Tryd.ntmps14
    go_wp2_with fail
    refine C.out.mono ?_
    rintro e w' ⟨rfl, rfl⟩
    go_wp2
    go_ret2
    exact ⟨rfl, Below.refl _ _⟩
end Go.Proofs.YtajonpcmgebbbaaDoor.R

/- The walks of the test that a string of a list is longer than the statements examine. -/
-- needs kingpost/kingpostlaw01.great
namespace Go.Proofs.YtajonpcmgebbbaaDoor.R
open Go.RowKit

def greatS (s : ByteArray) : Bool := decide ((80 < s.size ∧ s.size < 299) ∨ 304 < s.size)
theorem great_yes {s : ByteArray} (h : (80 < s.size ∧ s.size < 299) ∨ 304 < s.size) : greatS s = true := decide_eq_true h
theorem great_no {s : ByteArray} (h : ¬ ((80 < s.size ∧ s.size < 299) ∨ 304 < s.size)) : greatS s = false := decide_eq_false h
theorem great_le {s : ByteArray} (h : greatS s = false) : s.size ≤ 304 := by have := of_decide_eq_false h; omega
theorem any_true {xs : List ByteArray} {s : ByteArray} (hm : s ∈ xs) (h : greatS s = true) : xs.any greatS = true := List.any_eq_true.2 ⟨s, hm, h⟩
theorem any_next {xs : List ByteArray} {k : Nat} (h : (xs.take k).any greatS = false) (hk : k < xs.length) (hs : greatS xs[k] = false) : (xs.take (k + 1)).any greatS = false := by
  rw [List.take_succ_eq_append_getElem hk, List.any_append, h]; simp [hs]
set_option maxHeartbeats 1000000 in
theorem Great_any (xs : List ByteArray) (B : Nat) (w : World) (hl : xs.length ≤ 100) (hs : ∀ s ∈ xs, s.size ≤ maxLen) (hc : ∀ i (h : i < xs.length), w.cell? ⟨B, i, none⟩ = some (.string xs[i])) :
    Calls Tryd.prog 23 #[.slice (some ⟨B, 0, none⟩) xs.length xs.length] w fun e w' => e = .returned (.bool (xs.any greatS)) ∧ w = w' := by
  have HC := Lib.hid (And.intro hs hc); clear hs hc
  go_enter Tryd.func23, Tryd.ntmps23
  go_wp2
  go_loop [3] (fun i => ∃ k : Nat, i = .int .i64 k ∧ k ≤ xs.length ∧ Hid ((xs.take k).any greatS = false)) (fun i => xs.length - (intOf i).toNat)
  case atStart => exact ⟨0, rfl, by omega, rfl⟩
  case round =>
    obtain ⟨k, rfl, hk, hd⟩ := hrel
    by_cases hlt : k < xs.length
    · have hck := HC.out.2 k hlt
      have hsz := HC.out.1 xs[k] (List.getElem_mem hlt)
      have hm := Lib.hid (List.getElem_mem hlt)
      have hn := Lib.hid (fun h : greatS xs[k] = false => any_next hd.out hlt h)
      have hms : xs[k].size ≤ 9223372036854775807 := by unfold maxLen at hsz; omega
      generalize xs[k] = s at *
      by_cases h8 : (80 : Int) < s.size
      · by_cases h9 : (s.size : Int) < 299
        · have hg := Lib.hid (any_true hm.out (great_yes (s := s) (by omega)))
          clear hn
          go_wp2
          go_ret
          exact ⟨ret_bool hg.out.symm, rfl⟩
        · by_cases h3 : (304 : Int) < s.size
          · have hg := Lib.hid (any_true hm.out (great_yes (s := s) (by omega)))
            clear hn
            go_wp2
            go_ret
            exact ⟨ret_bool hg.out.symm, rfl⟩
          · have hg := Lib.hid (hn.out (great_no (s := s) (by omega)))
            clear hn
            go_wp2
            go_round
            case rel => exact ⟨k + 1, by go_num, by omega, hg.out⟩
            case measure => simp [intOf]; omega
      · have h3 : ¬ (304 : Int) < s.size := by omega
        have hg := Lib.hid (hn.out (great_no (s := s) (by omega)))
        clear hn
        go_wp2
        go_round
        case rel => exact ⟨k + 1, by go_num, by omega, hg.out⟩
        case measure => simp [intOf]; omega
    · go_wp2
      go_ret
      refine ⟨ret_bool ?_, rfl⟩
      have := hd.out
      rw [List.take_of_length_le (by omega)] at this
      exact this.symm
theorem great_any (xs : List ByteArray) (B : Nat) (w : World) (hl : xs.length ≤ 100) (hs : ∀ s ∈ xs, s.size ≤ maxLen) (hc : ∀ i (h : i < xs.length), w.cell? ⟨B, i, none⟩ = some (.string xs[i])) :
    Calls Tryd.prog 8 #[.slice (some ⟨B, 0, none⟩) xs.length xs.length] w fun e w' => e = .returned (.bool (xs.any greatS)) ∧ w = w' := by
  have C := Lib.hid (Great_any xs B w hl hs hc)
  clear hs hc
  generalize xs.any greatS = g at *
  generalize xs.length = n at *
  go_enter Tryd.func8, Tryd.ntmps8
  go_wp2_with fail
  refine C.out.mono ?_
  rintro e w' ⟨rfl, rfl⟩
  go_wp2
  go_ret
  exact ⟨rfl, rfl⟩
theorem great1s (a : ByteArray) (B : Nat) (W : World) (ha : a.size ≤ maxLen) (h0 : W.cell? ⟨B, 0, none⟩ = some (.string a)) :
    Calls Tryd.prog 8 #[.slice (some ⟨B, 0, none⟩) 1 1] W fun e w' => e = .returned (.bool (greatS a)) ∧ W = w' := by
  have h := great_any [a] B W (by show 1 ≤ 100; decide) (by
    intro s hs
    simp only [List.mem_cons, List.not_mem_nil, or_false] at hs
    subst hs; exact ha) (by
    intro i hi
    match i, hi with
    | 0, _ => exact h0)
  simpa using h
theorem great2s (a b : ByteArray) (B : Nat) (W : World) (ha : a.size ≤ maxLen) (hb : b.size ≤ maxLen) (h0 : W.cell? ⟨B, 0, none⟩ = some (.string a)) (h1 : W.cell? ⟨B, 1, none⟩ = some (.string b)) :
    Calls Tryd.prog 8 #[.slice (some ⟨B, 0, none⟩) 2 2] W fun e w' => e = .returned (.bool (greatS a || greatS b)) ∧ W = w' := by
  have h := great_any [a, b] B W (by show 2 ≤ 100; decide) (by
    intro s hs
    simp only [List.mem_cons, List.not_mem_nil, or_false] at hs
    rcases hs with rfl | rfl <;> assumption) (by
    intro i hi
    match i, hi with
    | 0, _ => exact h0
    | 1, _ => exact h1)
  simpa using h
end Go.Proofs.YtajonpcmgebbbaaDoor.R

