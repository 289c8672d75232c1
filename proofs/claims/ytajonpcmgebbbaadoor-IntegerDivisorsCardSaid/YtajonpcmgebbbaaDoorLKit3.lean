/- Gcd on texts of numbers of any size. -/
import Derived.Test.YtajonpcmgebbbaaDoorLKit2
import Derived.Test.YtajonpcmgebbbaaDoorGcd2
namespace Go.Proofs.YtajonpcmgebbbaaDoor
open Go.RowKit

set_option maxHeartbeats 1000000 in
theorem Gcd_long2 (a b : ByteArray) (w : World) (k1 : chk a.data.toList = 0) (k2 : chk b.data.toList = 0) (hs : ¬ ((szB a).size ≤ 18 ∧ (szB b).size ≤ 18)) (hg : GcdOwn (natOf (szL a.data.toList)) (natOf (szL b.data.toList))) (ht : Tab w) :
    Calls Tryd.prog 14 #[.string a, .string b] w fun e W' => e = .returned (.tuple #[.string (strB (Nat.gcd (natOf (szL a.data.toList)) (natOf (szL b.data.toList)) : Nat)), .int .i64 0]) ∧ Below w.heap.size w W' := by
  have s1 := chk_size k1
  have s2 := chk_size k2
  have cb := checkBoth_any a b w (by unfold maxLen; omega) (by unfold maxLen; omega)
  have hc2 : chk2 a.data.toList b.data.toList = 0 := by unfold chk2; rw [if_pos k1]; exact k2
  rw [hc2] at cb
  have z1 := szB_size a
  have z2 := szB_size b
  have i1 := fun W => isShort_any (szB a) W (by unfold maxLen; omega)
  have i2 := fun W => isShort_any (szB b) W (by unfold maxLen; omega)
  have m1 := fun W => readNatural_own (szB a) W (by omega) (by rw [szB_data]; exact chk_dig k1)
  have m2 := fun W => readNatural_own (szB b) W (by omega) (by rw [szB_data]; exact chk_dig k2)
  rw [szB_data] at m1 m2
  have y1 := fun W => sizeText_any a W (by unfold maxLen; omega)
  have y2 := fun W => sizeText_any b W (by unfold maxLen; omega)
  have n1 := nat_lim k1
  have n2 := nat_lim k2
  generalize natOf (szL a.data.toList) = x at *
  generalize natOf (szL b.data.toList) = y at *
  have hgl : Nat.gcd x y < lim := by
    by_cases h0 : x = 0
    · subst h0; rw [Nat.gcd_zero_left]; exact n2
    · exact Nat.lt_of_le_of_lt (Nat.gcd_le_left _ (by omega)) n1
  have tx := fun v W (h : IsNat W v (Nat.gcd x y)) (hb : Below w.heap.size w W) => text_any false v (Nat.gcd x y) W h (Nat.le_trans (dg_lim hgl) (by decide)) (ht.next hb)
  have e1 : resB (sgnZ false (Nat.gcd x y)) = strB (Nat.gcd x y : Nat) := by unfold sgnZ; exact if_pos (by simpa using hgl)
  have e2 : resE (sgnZ false (Nat.gcd x y)) = 0 := by unfold sgnZ; exact if_pos (by simpa using hgl)
  rw [e1, e2] at tx
  have TX := Lib.hid tx
  have HG := Lib.hid hg
  have C := Lib.hid (And.intro cb (And.intro y1 (And.intro y2 (And.intro i1 (And.intro i2 (And.intro m1 m2))))))
  clear cb i1 i2 m1 m2 y1 y2 hc2 ht k1 k2 s1 s2 tx hg hgl e1 e2 n1 n2
  have rest : True := trivial
  generalize szB a = sa at *
  generalize szB b = sb at *
  by_cases g1 : sa.size ≤ 18
  · have t1 : decide ((sa.size : Int) ≤ 18) = true := by simp; omega
    have t2 : decide ((sb.size : Int) ≤ 18) = false := by simp; omega
    go_enter Tryd.func14, Tryd.ntmps14
    go_wp2_with fail
    refine C.out.1.mono ?_
    rintro e w' ⟨rfl, rfl⟩
    go_wp2_with fail
    refine (C.out.2.1 _).mono ?_
    rintro e w' ⟨rfl, rfl⟩
    go_wp2_with fail
    refine (C.out.2.2.1 _).mono ?_
    rintro e w' ⟨rfl, rfl⟩
    go_wp2_with fail
    refine (C.out.2.2.2.1 _).mono ?_
    rintro e w' ⟨rfl, rfl⟩
    rw [t1]
    go_wp2_with fail
    refine (C.out.2.2.2.2.1 _).mono ?_
    rintro e w' ⟨rfl, rfl⟩
    rw [t2]
    go_wp2_with fail
    refine (C.out.2.2.2.2.2.1 _).mono ?_
    rintro e w1 ⟨va, rfl, hva, hfa, hb1, hoa⟩
    obtain ⟨pa, ca, rfl⟩ := hva.shape
    have H1 := Lib.hid (And.intro hva (And.intro hfa hb1)); have HOA := Lib.hid hoa; clear hva hfa hb1 hoa
    go_wp2_with fail
    refine (C.out.2.2.2.2.2.2 _).mono ?_
    rintro e w2 ⟨vb, rfl, hvb, hfb, hb2, hob⟩
    obtain ⟨pb, cb, rfl⟩ := hvb.shape
    have hB2 := H1.out.2.2.trans (hb2.mono H1.out.2.2.size)
    have hdis : x ≠ 0 → y ≠ 0 → (Value.slice pa (dg x).length ca).ownBlock ≠ (Value.slice pb (dg y).length cb).ownBlock := fun h1 h2 => by
      obtain ⟨g1, c1, e1, q1, r1⟩ := HOA.out h1
      obtain ⟨g2, c2, e2, q2, r2⟩ := hob h2
      have hlt := r1.lt
      rw [e1, e2]
      show some g1 ≠ some g2
      intro e
      have := Option.some.inj e
      omega
    have hoa2 : OwnN w2 w.heap.size (Value.slice pa (dg x).length ca) x := fun h1 => by
      obtain ⟨g1, c1, e1, q1, r1⟩ := HOA.out h1
      exact ⟨g1, c1, e1, q1, r1.next hb2 r1.lt⟩
    have hob2 : OwnN w2 w.heap.size (Value.slice pb (dg y).length cb) y := fun h2 => OwnR.mono (hob h2) H1.out.2.2.size
    have CG := Lib.hid (HG.out _ _ w.heap.size w2 (H1.out.1.next hb2) hvb H1.out.2.1 (hfb.mono H1.out.2.2.size) hB2.size hoa2 hob2 hdis)
    have H2 := Lib.hid hB2
    clear hvb hfb hb2 hB2 H1 hdis HG HOA hoa2 hob2 hob
    go_wp2_with fail
    refine CG.out.mono ?_
    rintro e w3 ⟨v, rfl, hv, _, hb3⟩
    obtain ⟨pv, cv, rfl⟩ := hv.shape
    have H3 := Lib.hid (And.intro hv (H2.out.trans hb3))
    clear hv hb3 CG H2
    generalize (dg (Nat.gcd x y)).length = lv at *
    go_wp2_with fail
    refine (TX.out _ _ H3.out.1 H3.out.2).mono ?_
    rintro e w4 ⟨rfl, hb4⟩
    have H4 := Lib.hid (H3.out.2.trans (hb4.mono H3.out.2.size))
    clear hb4 H3 TX
    go_wp2
    go_ret2
    exact ⟨rfl, H4.out⟩
  · have t1 : decide ((sa.size : Int) ≤ 18) = false := by simp; omega
    go_enter Tryd.func14, Tryd.ntmps14
    go_wp2_with fail
    refine C.out.1.mono ?_
    rintro e w' ⟨rfl, rfl⟩
    go_wp2_with fail
    refine (C.out.2.1 _).mono ?_
    rintro e w' ⟨rfl, rfl⟩
    go_wp2_with fail
    refine (C.out.2.2.1 _).mono ?_
    rintro e w' ⟨rfl, rfl⟩
    go_wp2_with fail
    refine (C.out.2.2.2.1 _).mono ?_
    rintro e w' ⟨rfl, rfl⟩
    rw [t1]
    go_wp2_with fail
    refine (C.out.2.2.2.2.2.1 _).mono ?_
    rintro e w1 ⟨va, rfl, hva, hfa, hb1, hoa⟩
    obtain ⟨pa, ca, rfl⟩ := hva.shape
    have H1 := Lib.hid (And.intro hva (And.intro hfa hb1)); have HOA := Lib.hid hoa; clear hva hfa hb1 hoa
    go_wp2_with fail
    refine (C.out.2.2.2.2.2.2 _).mono ?_
    rintro e w2 ⟨vb, rfl, hvb, hfb, hb2, hob⟩
    obtain ⟨pb, cb, rfl⟩ := hvb.shape
    have hB2 := H1.out.2.2.trans (hb2.mono H1.out.2.2.size)
    have hdis : x ≠ 0 → y ≠ 0 → (Value.slice pa (dg x).length ca).ownBlock ≠ (Value.slice pb (dg y).length cb).ownBlock := fun h1 h2 => by
      obtain ⟨g1, c1, e1, q1, r1⟩ := HOA.out h1
      obtain ⟨g2, c2, e2, q2, r2⟩ := hob h2
      have hlt := r1.lt
      rw [e1, e2]
      show some g1 ≠ some g2
      intro e
      have := Option.some.inj e
      omega
    have hoa2 : OwnN w2 w.heap.size (Value.slice pa (dg x).length ca) x := fun h1 => by
      obtain ⟨g1, c1, e1, q1, r1⟩ := HOA.out h1
      exact ⟨g1, c1, e1, q1, r1.next hb2 r1.lt⟩
    have hob2 : OwnN w2 w.heap.size (Value.slice pb (dg y).length cb) y := fun h2 => OwnR.mono (hob h2) H1.out.2.2.size
    have CG := Lib.hid (HG.out _ _ w.heap.size w2 (H1.out.1.next hb2) hvb H1.out.2.1 (hfb.mono H1.out.2.2.size) hB2.size hoa2 hob2 hdis)
    have H2 := Lib.hid hB2
    clear hvb hfb hb2 hB2 H1 hdis HG HOA hoa2 hob2 hob
    go_wp2_with fail
    refine CG.out.mono ?_
    rintro e w3 ⟨v, rfl, hv, _, hb3⟩
    obtain ⟨pv, cv, rfl⟩ := hv.shape
    have H3 := Lib.hid (And.intro hv (H2.out.trans hb3))
    clear hv hb3 CG H2
    generalize (dg (Nat.gcd x y)).length = lv at *
    go_wp2_with fail
    refine (TX.out _ _ H3.out.1 H3.out.2).mono ?_
    rintro e w4 ⟨rfl, hb4⟩
    have H4 := Lib.hid (H3.out.2.trans (hb4.mono H3.out.2.size))
    clear hb4 H3 TX
    go_wp2
    go_ret2
    exact ⟨rfl, H4.out⟩

theorem Gcd_strs2 (x y : Int) (w : World) (hx : x.natAbs < lim) (hy : y.natAbs < lim) (ht : Tab w) :
    Calls Tryd.prog 14 #[.string (strB x), .string (strB y)] w fun e W' => e = .returned (.tuple #[.string (strB (Nat.gcd x.natAbs y.natAbs : Nat)), .int .i64 0]) ∧ Below w.heap.size w W' := by
  have e1 := strB_nat hx
  have e2 := strB_nat hy
  by_cases hs : (szB (strB x)).size ≤ 18 ∧ (szB (strB y)).size ≤ 18
  · have c := Gcd_mid (strB x) (strB y) w (strB_chk hx) (strB_chk hy) hs.1 hs.2 ht
    rwa [e1, e2] at c
  · have c := Gcd_long2 (strB x) (strB y) w (strB_chk hx) (strB_chk hy) hs (by rw [e1, e2]; exact gcd_any _ _ (Nat.le_trans (dg_lim hx) (by decide)) (Nat.le_trans (dg_lim hy) (by decide))) ht
    rwa [e1, e2] at c
end Go.Proofs.YtajonpcmgebbbaaDoor
