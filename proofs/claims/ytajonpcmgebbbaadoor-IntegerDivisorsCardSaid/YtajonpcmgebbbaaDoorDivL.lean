/- The walk of divideLong. -/
import Derived.Test.YtajonpcmgebbbaaDoorTake
import Derived.Test.YtajonpcmgebbbaaDoorW9
namespace Go.Proofs.YtajonpcmgebbbaaDoor
open Go.RowKit

theorem Nats.setCell_off {w : World} {v : Value} {l : List Nat} {g o : Nat} (h : Nats w v l) (hf : v.ownBlock ≠ some g) (u : Value) : Nats (w.setCell ⟨g, o, none⟩ u) v l := by
  obtain ⟨p, cap, rfl, h1, h2, h3⟩ := h
  refine ⟨p, cap, rfl, h1, h2, fun hne => ?_⟩
  obtain ⟨b, off, e, hc⟩ := h3 hne
  exact ⟨b, off, e, fun i hi => (World.cell?_of_block (Below.heap_setCell _ _ _ _ (by show b ≠ g; intro hb; exact hf (by rw [e, hb]; rfl)))).trans (hc i hi)⟩

set_option maxRecDepth 100000 in
set_option maxHeartbeats 4000000 in
theorem divideLong_any (va vb : Value) (a b n m : Nat) (w : World) (ha : IsNat w va a) (hb : IsNat w vb b) (hla : (dg a).length = m + (n + 2)) (hlb : (dg b).length = n + 2) (hm : m + (n + 2) ≤ 900000) :
    Calls Tryd.prog 88 #[va, vb] w fun e W' => ∃ q r, e = .returned (.tuple #[q, r]) ∧ IsNat W' q (a / b) ∧ IsNat W' r (a % b) ∧ Fresh w.heap.size q ∧ Fresh w.heap.size r ∧ Below w.heap.size w W' := by
  obtain ⟨i0, hi, hz0, hz1, hz2⟩ := info_parts info_u64
  have HI := Lib.hid (And.intro hi (And.intro hz0 (And.intro hz1 hz2))); clear hi hz0 hz1 hz2
  have hv0 := top_pos hlb
  have hv := (dg_Dig b).getD (n + 1)
  have hsl := scaled_len hlb
  have hs0 := scale_pos hv
  have hs1 := scale_lt hv0
  obtain ⟨pb, cb, evb⟩ := hb.shape
  subst evb
  obtain ⟨pa, ca, eva⟩ := ha.shape
  subst eva
  have cbx : ∃ bb boff, pb = some ⟨bb, boff, none⟩ ∧ w.cell? ⟨bb, boff + (n + 1), none⟩ = some (.int .u64 ((dg b).getD (n + 1) 0 : Nat)) := by
    obtain ⟨p', cap', he, h1, h2, h3⟩ := hb
    obtain ⟨bb, boff, e, hc⟩ := h3 (by intro e; rw [e] at hlb; simp at hlb)
    simp only [Value.slice.injEq] at he
    exact ⟨bb, boff, he.1.trans e, hc (n + 1) (by omega)⟩
  obtain ⟨bb, boff, rfl, cbx⟩ := cbx
  obtain ⟨s, hs⟩ : ∃ s, 1000000000 / ((dg b).getD (n + 1) 0 + 1) = s := ⟨_, rfl⟩
  rw [hs] at hsl hs0 hs1
  have cm1 := fun W (h : Below w.heap.size w W) => multiple_any _ (dg a) s W (Nats.next ha h) (dg_Dig a) (by omega) hs1
  have cm2 := fun W (h : Below w.heap.size w W) => multiple_any _ (dg b) s W (Nats.next hb h) (dg_Dig b) (by omega) hs1
  rw [toN_dg] at cm1 cm2
  have CM := Lib.hid (And.intro cm1 cm2)
  have HS := Lib.hid (And.intro hsl (And.intro hs0 (And.intro hs1 (And.intro hla hlb))))
  generalize (dg b).getD (n + 1) 0 = v at *
  have eS : (1000000000 : Int) / ((v : Int) + 1) = (s : Int) := by rw [← hs]; exact (Int.natCast_ediv _ _).symm
  have hv1 : ¬ (v : Int) + 1 = 0 := by omega
  have hv2 : (((v : Int) + 1) == 0) = false := by rw [beq_eq_false_iff_ne]; omega
  have hcb : n + 2 ≤ cb := by obtain ⟨p', cap', he, h1, h2, h3⟩ := hb; simp only [Value.slice.injEq] at he; omega
  clear hs hsl cm1 cm2
  rw [hla, hlb] at CM ⊢
  obtain ⟨L, hL⟩ : ∃ L, n + 2 = L := ⟨_, rfl⟩
  obtain ⟨i1, hi1⟩ : ∃ i, n + 1 = i := ⟨_, rfl⟩
  rw [hL] at CM hcb ⊢
  rw [hi1] at cbx
  have hj1 : (L : Int) - 1 = (i1 : Int) := by omega
  have x1 : (i1 : Int) < (L : Int) := by omega
  have HL := Lib.hid (And.intro hL hi1)
  have hLm : m + L ≤ 900000 := by omega
  clear hL hi1 hm ha hb hla hlb
  go_enter Tryd.func88, Tryd.ntmps88
  go_wp2_with fail
  rw [eS]
  clear eS hv1 hv2 cbx
  refine (CM.out.1 _ (Below.refl _ _)).mono ?_
  rintro e w1 ⟨g1, c1, l1, rfl, hc1, hc1', hg1, hr1, hd1, hl1, ht1, hB1⟩
  have hwg1 := hr1.lt
  have CM2 := Lib.hid (CM.out.2 w1 hB1)
  have HR1 := Lib.hid (And.intro hr1 (And.intro hd1 (And.intro ht1 hB1)))
  have HL1 := Lib.hid hl1
  rw [hl1] at hc1 ⊢
  clear CM hr1 hd1 ht1 hB1
  go_wp2_with fail
  refine CM2.out.mono ?_
  rintro e w2 ⟨g2, c2, l2, rfl, hc2, hc2', hg2, hr2, hd2, hl2, ht2, hB2⟩
  have hg12 : g1 < g2 := by omega
  have hN2 := hr2.nats hc2 (by unfold maxLen at hc2'; omega)
  have ct := trimmed_at _ _ l2 w2 hN2 hd2
  have hN2' := hN2.take (dg_prefix hd2)
  rw [ht2] at ct hN2'
  rw [HS.out.1] at ct hN2'
  rw [show n + 1 + 1 = L from HL.out.1] at ct hN2'
  have CT := Lib.hid ct
  have hw2 := hr2.lt
  have HR2 := Lib.hid (And.intro (HR1.out.1.next hB2 hwg1) (And.intro hN2' (HR1.out.2.2.2.trans (hB2.mono HR1.out.2.2.2.size))))
  have hsz1 : w.heap.size ≤ w2.heap.size := HR2.out.2.2.size
  clear CM2 hr2 hd2 ht2 hB2 hN2 hN2' ct
  rw [hl2] at hc2 CT ⊢
  clear hl2 hl1
  go_wp2_with fail
  refine CT.out.mono ?_
  rintro e w' ⟨rfl, rfl⟩
  clear CT
  have hm1 : (m : Int) + (L : Int) - (L : Int) + 1 = ((m + 1 : Nat) : Int) := by omega
  go_wp2_with (at_make; refine wpList_make_full _ rfl _ _ 44 rfl w2.heap.size 67 i0 (.int .u64 0) 1 Tryd.underlying44 HI.out.1 HI.out.2.1 HI.out.2.2.1 .i64 .i64 _ _ (m + 1) rfl rfl (by omega) (by omega) (by rw [HI.out.2.2.2]; omega) (by unfold maxLen; omega) (Nat.le_refl _) ?_; intro w3 hown hgrow)
  have hQ := Row.of_made hown
  have hwg3 := hQ.lt
  have hB3 : Below w2.heap.size w2 w3 := (Below.refl _ w2).grown hgrow (Nat.le_refl _) (fun k e => by cases e)
  have hr3 := HR2.out.1.next hB3 (by omega)
  have hn3 := Nats.next HR2.out.2.1 hB3
  have hbw := HR2.out.2.2.trans (hB3.mono hsz1)
  have hwg2 := hB3.size
  clear hown hgrow hB3 HR2
  generalize hg3 : w2.heap.size = g3 at *
  have hs0' := HS.out.2.1
  have hdb := dg_Dig (b * s)
  have hYl := HS.out.1
  have hYtop : 0 < (dg (b * s)).getD (n + 1) 0 := top_pos hYl
  have hst : toN (l1.drop (m + 1)) < b * s := long_start (a := a) (b := b) (s := s) (m := m) (n := n + 1) (la := m + L) (by
      have := toN_lt (dg_Dig a); rw [toN_dg, HS.out.2.2.2.1, HL.out.1] at this; exact this)
    (by
      have hb0 : b ≠ 0 := fun e => by have h := HS.out.2.2.2.2; rw [e, dg_zero] at h; simp at h
      obtain ⟨r, q1, q2, q3⟩ := dg_split b hb0
      rw [HS.out.2.2.2.2, show n + 2 - 1 = n + 1 by omega] at q1 q2 q3
      have := Nat.mul_le_mul_left (B ^ (n + 1)) q2
      omega) hs0' HR1.out.2.2.1 HL1.out (by have := HL.out.1; omega) (by omega)
  have hlen1 : (l1.drop (m + 1)).length = n + 2 := by have h1 := HL1.out; have h2 := HL.out.1; rw [List.length_drop]; omega
  have hat : Hid (a * s = toN (l1.take (m + 1)) + B ^ (m + 1) * (toN (l1.drop (m + 1)) + b * s * toN ((List.replicate (m + 1) 0).drop (m + 1)))) := by
    show _ = _
    rw [← HR1.out.2.2.1, show (List.replicate (m + 1) 0).drop (m + 1) = [] from List.drop_of_length_le (by rw [List.length_replicate]; exact Nat.le_refl _)]
    rw [show toN [] = 0 from rfl, Nat.mul_zero (b * s), Nat.add_zero]
    have h := toN_append (l1.take (m + 1)) (l1.drop (m + 1))
    rw [List.take_append_drop, List.length_take, Nat.min_eq_left (by have := HL1.out; omega)] at h
    exact h
  have HST := Lib.hid (And.intro hst (And.intro hlen1 (And.intro hYl hYtop)))
  clear hst hlen1 hYl hYtop
  have HD1 := Lib.hid (And.intro hr3 (And.intro hn3 hbw))
  have HD2 := Lib.hid hdb
  clear hr3 hn3 hbw hdb
  go_loopw [10] (fun x wr => ∃ (j : Nat) (A X Z Q : List Nat), j ≤ m + 1 ∧ x = .int .i64 ((j : Int) - 1) ∧ A.length = j ∧ X.length = n + 2 ∧ A.length + X.length + Z.length = m + L + 1 ∧ Hid (Dig A ∧ Dig X ∧ Dig Z) ∧ Hid (toN Z = 0) ∧
      Hid (RowC wr g1 (A ++ (X ++ Z))) ∧ Row wr g3 Q ∧ Q.length = m + 1 ∧ Hid (Dig Q) ∧ Hid (Nats wr (.slice (some ⟨g2, 0, none⟩) L c2) (dg (b * s))) ∧
      Hid (a * s = toN A + B ^ j * (toN X + b * s * toN (Q.drop j))) ∧ Hid (toN X < b * s) ∧ Hid (Below w.heap.size w wr))
    (fun x _ => (intOf x + 1).toNat)
  case atStart =>
    refine ⟨m + 1, l1.take (m + 1), l1.drop (m + 1), [], List.replicate (m + 1) 0, Nat.le_refl _, by go_num, ?_, HST.out.2.1, ?_, ⟨HR1.out.2.1.take _, HR1.out.2.1.drop _, Dig.nil⟩, rfl, ?_, hQ, List.length_replicate, Dig.replicate _, HD1.out.2.1, hat.out, HST.out.1, HD1.out.2.2⟩
    · rw [List.length_take]; have := HL1.out; omega
    · rw [List.length_take, List.length_drop, HL1.out]; simp; omega
    · show RowC _ _ _
      rw [List.append_nil, List.take_append_drop]; exact HD1.out.1
  case round =>
    clear hQ hat
    obtain ⟨j, A, X, Z, Q, hj, rfl, hAl, hXl, hAXZ, hdig, hZ0, hrow, hQ, hQl, hQd, hby, hval, hXb, hbel⟩ := hrel
    cases j with
    | zero =>
      have eA : A = [] := List.eq_nil_of_length_eq_zero hAl
      subst eA
      have hv := hval.out
      rw [List.drop_zero, Nat.pow_zero, Nat.one_mul, show toN [] = 0 from rfl, Nat.zero_add] at hv
      have hq : a / b = toN Q := by
        rw [← (toN_cancel_scale a b s hs0).1, hv, Nat.add_mul_div_left _ _ (by have := hXb.out; omega), Nat.div_eq_of_lt hXb.out, Nat.zero_add]
      have hr : a % b * s = toN X := by
        rw [← (toN_cancel_scale a b s hs0).2, hv, Nat.add_mul_mod_self_left, Nat.mod_eq_of_lt hXb.out]
      obtain ⟨_, dX, dZ⟩ := hdig.out
      have R0 := hrow.out
      rw [List.nil_append] at R0
      have hlXZ : (X ++ Z).length = m + L + 1 := by rw [List.length_append]; simp at hAXZ; omega
      have hN1 : Nats wr (.slice (some ⟨g1, 0, none⟩) (X ++ Z).length c1) (X ++ Z) := R0.nats (by omega) (by unfold maxLen at hc1'; omega)
      have eXZ : toN (X ++ Z) = a % b * s := by rw [toN_append, hZ0.out, Nat.mul_zero, Nat.add_zero, hr]
      have ct1 := trimmed_at _ _ (X ++ Z) wr hN1 (dX.append dZ)
      have hN2 := hN1.take (dg_prefix (dX.append dZ))
      rw [eXZ] at ct1 hN2
      rw [hlXZ] at ct1
      have hl3 : (dg (a % b * s)).length ≤ 1000000 := by
        have := (dg_prefix (dX.append dZ)).length_le
        rw [eXZ] at this; omega
      have cd := divideShort_any _ (dg (a % b * s)) s wr hN2 (dg_Dig _) hl3 hs0 hs1
      rw [toN_dg, Nat.mul_div_cancel _ (by omega)] at cd
      have CT1 := Lib.hid ct1
      have CD := Lib.hid cd
      have HQ := Lib.hid (And.intro hQ (And.intro hq hQl))
      clear ct1 cd hv hq hr R0 hlXZ hN1 hN2 eXZ hl3 dX dZ hQ hrow hval hXb hby hdig hZ0 hAXZ
      generalize (dg (a % b * s)).length = l3 at *
      go_wp2_with fail
      refine CT1.out.mono ?_
      rintro e w' ⟨rfl, rfl⟩
      clear CT1
      go_wp2_with fail
      refine CD.out.mono ?_
      rintro e w4 ⟨r, rfl, hr, hrf, hrb⟩
      obtain ⟨pr, cr, rfl⟩ := hr.shape
      have hQ4 : Row w4 g3 Q := (hrb.block g3 HQ.out.1.lt).trans HQ.out.1
      have hN0 : Nats w4 (.slice (some ⟨g3, 0, none⟩) Q.length (m + 1)) Q := hQ4.nats (by omega) (by omega)
      have ct := trimmed_at _ _ Q w4 hN0 hQd.out
      have hn := hN0.take (dg_prefix hQd.out)
      rw [hQl, ← HQ.out.2.1] at ct
      rw [← HQ.out.2.1] at hn
      have CT := Lib.hid ct
      have HN := Lib.hid (And.intro hn (And.intro hr (And.intro hrf (hbel.out.trans (hrb.mono hbel.out.size)))))
      have hfr := hbel.out.size
      clear CD ct hn hr hrf hrb hQ4 hN0
      generalize (dg (a % b)).length = l4 at *
      go_wp2_with fail
      refine CT.out.mono ?_
      rintro e w' ⟨rfl, rfl⟩
      clear CT
      go_wp2
      go_ret2
      obtain ⟨n1, n2, n3, n4⟩ := HN.out
      exact ⟨_, _, rfl, n1, n2, fun k hk => by have hk : some g3 = some k := hk; cases hk; omega, n3.mono hfr, n4⟩
    | succ j =>
      obtain ⟨A', x, rfl⟩ : ∃ A' x, A = A' ++ [x] := by
        have := take_succ_getD A j (by omega)
        rw [List.take_of_length_le (by omega)] at this
        exact ⟨_, _, this⟩
      obtain ⟨X0, top, rfl⟩ : ∃ X0 top, X = X0 ++ [top] := by
        have := take_succ_getD X (n + 1) (by omega)
        rw [List.take_of_length_le (by omega)] at this
        exact ⟨_, _, this⟩
      have hAl' : A'.length = j := by simpa using hAl
      have hXl' : X0.length = n + 1 := by simpa using hXl
      obtain ⟨dA, dX, dZ⟩ := hdig.out
      have hx : x < 1000000000 := dA x (by simp)
      have htop : top < 1000000000 := dX top (by simp)
      have dX0 : Dig (x :: X0) := Dig.cons hx (fun y hy => dX y (by simp [hy]))
      have dA' : Dig A' := fun y hy => dA y (by simp [hy])
      have R0 := hrow.out
      rw [show A' ++ [x] ++ (X0 ++ [top] ++ Z) = A' ++ ((x :: X0) ++ (top :: Z)) by simp] at R0
      have eW : toN (x :: X0) + B ^ (n + 2) * top = x + B * toN (X0 ++ [top]) := by
        rw [toN_cons, toN_snoc, hXl', Nat.mul_add, ← Nat.mul_assoc, Nat.mul_comm B (B ^ (n + 1)), ← Nat.pow_succ, Nat.add_assoc]
      have hlt : x + B * toN (X0 ++ [top]) < B * (b * s) := by
        have h1 : B * (toN (X0 ++ [top]) + 1) ≤ B * (b * s) := Nat.mul_le_mul_left _ hXb.out
        rw [Nat.mul_add, Nat.mul_one] at h1
        have : x < B := hx
        omega
      have ct := takeOut_any g1 n (c1 - j) top _ A' (x :: X0) Z (dg (b * s)) wr R0 hby.out dX0 HD2.out htop (by simp [hXl']) HST.out.2.2.1 (by have := HL.out.1; omega) (by omega) (by omega) (by unfold maxLen at hc1'; omega)
        (by intro e; have e : some g2 = some g1 := e; simp at e; omega) HST.out.2.2.2 (by rw [eW, toN_dg]; exact hlt)
      rw [eW, toN_dg, hAl', show n + 3 = L + 1 by have := HL.out.1; omega] at ct
      have CT := Lib.hid ct
      clear ct R0
      have ej : (((j + 1 : Nat) : Int) - 1) = (j : Int) := by omega
      rw [ej]
      clear ej
      go_wp2_with fail
      rw [show j + L + 1 - j = L + 1 by omega]
      refine CT.out.mono ?_
      rintro e w4 ⟨X', dX', lX', vX', rfl, hr', ho⟩
      have hQ4 : Row w4 g3 Q := (ho.block g3 (by omega) hQ.lt).trans hQ
      have co := hQ4.cell (i := j) (by omega)
      have fo := hQ4.frozen j
      have hq : (x + B * toN (X0 ++ [top])) / (b * s) < 1000000000 := by
        rw [Nat.div_lt_iff_lt_mul (by have := hXb.out; omega)]; exact hlt
      have HF := Lib.hid (And.intro dX' (And.intro lX' (And.intro vX' (And.intro hr' ho))))
      have HE := Lib.hid (And.intro hq hQ4)
      clear CT dX' lX' vX' hr' ho hQ hlt eW
      have hQn := hQl
      have hvn : a * s = toN A' + B ^ j * x + B ^ j * B * (toN (X0 ++ [top]) + b * s * toN (Q.drop (j + 1))) := by
        have := hval.out
        rw [toN_snoc, hAl', Nat.pow_succ] at this
        exact this
      have HV := Lib.hid (And.intro (long_step hvn) (And.intro dA' (And.intro dZ (And.intro hXb.out (And.intro hby.out hbel.out)))))
      have HZ := Lib.hid hZ0.out
      clear hvn hval dA' dZ hXb hby hbel hdig dA dX dX0 hrow hXl hAl
      generalize Q.getD j 0 = q0 at *
      generalize eW : (x + B * toN (X0 ++ [top])) / (b * s) = qj at *
      generalize eM : (x + B * toN (X0 ++ [top])) % (b * s) = rj at *
      have HEM := Lib.hid eM
      clear eW eM
      have RQ := Lib.hid (HE.out.2.set j qj)
      go_wp2
      go_roundw
      case rel =>
        obtain ⟨dX', lX', vX', hr', ho⟩ := HF.out
        obtain ⟨h1, dA', dZ, hXb, hby, hbel⟩ := HV.out
        have ho2 : Below w.heap.size w w4 := ho.below hbel (by omega) hbel.size
        have hw4 := ho2.size
        refine ⟨j, A', X', 0 :: Z, Q.set j qj, by omega, by go_num, hAl', lX', ?_, ⟨dA', dX', Dig.cons (by decide) dZ⟩, ?_, ?_, RQ.out, by rw [List.length_set]; exact hQl, hQd.out.set _ HE.out.1, ?_, ?_, ?_, ho2.setCell (p := ⟨g3, j, none⟩) (by show _ ≤ g3; omega) _⟩
        · simp at hAXZ ⊢; omega
        · show toN (0 :: Z) = 0
          rw [toN_cons, HZ.out, Nat.mul_zero]
        · exact hr'.of_block (Below.heap_setCell _ _ _ _ (by show g1 ≠ g3; omega))
        · have h2 := ho.nats (by intro e; have e : some g2 = some g1 := e; simp at e; omega) hby
          exact h2.setCell_off (by intro e; have e : some g2 = some g3 := e; simp at e; omega) _
        · show a * s = _
          rw [set_drop (by omega), toN_cons, vX']; exact h1
        · show toN X' < b * s
          rw [vX', ← HEM.out]; exact Nat.mod_lt _ (by omega)
      case measure => simp [intOf]
end Go.Proofs.YtajonpcmgebbbaaDoor
