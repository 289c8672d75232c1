/- The walks of subtract and restore: a multiple of the divisor is taken out of a window, and a divisor put back. -/
import Derived.Test.YtajonpcmgebbbaaDoorEst
namespace Go.Proofs.YtajonpcmgebbbaaDoor
open Go.RowKit

theorem mid_getD (A P R : List Nat) (x : Nat) : (A ++ (P ++ (x :: R))).getD (A.length + P.length) 0 = x := by
  rw [List.getD_eq_getElem?_getD, List.getElem?_append_right (by omega), List.getElem?_append_right (by omega)]
  simp
theorem mid_set (A P R : List Nat) (x y : Nat) : (A ++ (P ++ (x :: R))).set (A.length + P.length) y = A ++ (P ++ (y :: R)) := by
  rw [List.set_append_right _ _ (by omega), List.set_append_right _ _ (by omega)]
  simp
theorem mid_lt (A P R : List Nat) (x : Nat) : A.length + P.length < (A ++ (P ++ (x :: R))).length := by simp
theorem mid_snoc (A P R : List Nat) (x : Nat) : A ++ (P ++ (x :: R)) = A ++ ((P ++ [x]) ++ R) := by simp

set_option maxRecDepth 100000 in
set_option maxHeartbeats 4000000 in
theorem subtract_any (g n c t top : Nat) (vb : Value) (A X Z lb : List Nat) (w : World) (hr : RowC w g (A ++ (X ++ (top :: Z)))) (hb : Nats w vb lb) (dx : Dig X) (db : Dig lb) (htop : top < 1000000000)
    (hX : X.length = n) (hlb : lb.length = n) (hn : n ≤ 1000000) (_hA : A.length ≤ 1000000) (hc : n + 1 ≤ c) (hc' : c ≤ 9223372036854775807) (ht : t < 1000000000) (hne : vb.ownBlock ≠ some g)
    (hle : t * toN lb ≤ toN X + B ^ n * top + toN lb) :
    Calls Tryd.prog 113 #[.slice (some ⟨g, A.length, none⟩) (n + 1) c, vb, .int .u64 t] w fun e W' => ∃ X' cy, Dig X' ∧ X'.length = n ∧ toN X' + t * toN lb = toN X + B ^ n * cy ∧ cy ≤ top + 1 ∧ e = .returned (.bool (decide (top < cy))) ∧
      RowC W' g (A ++ (X' ++ ((if top < cy then 18446744073709551615 else top - cy) :: Z))) ∧ Only g w W' := by
  obtain ⟨pb, cb, rfl, hb1, hb2, hb3⟩ := hb
  have HB := Lib.hid hb3; clear hb3
  have HD := Lib.hid (And.intro dx db); clear dx db
  have HL := Lib.hid (And.intro hX hlb)
  have HLE := Lib.hid hle; clear hle
  have HNE := Lib.hid hne; clear hne
  rw [hlb] at hb1 ⊢
  clear hX hlb
  go_enter Tryd.func113, Tryd.ntmps113
  go_wp2
  go_loopw [7, 14] (fun y z wr => ∃ (cy j : Nat) (P : List Nat), j ≤ n ∧ y = .int .u64 cy ∧ z = .int .i64 j ∧ cy < 1000000000 ∧ P.length = j ∧ Hid (Dig P) ∧ Hid (RowC wr g (A ++ (P ++ (X.drop j ++ (top :: Z))))) ∧
      Hid (toN P + t * toN (lb.take j) = toN (X.take j) + B ^ j * cy) ∧ Hid (Only g w wr))
    (fun _ z _ => n - (intOf z).toNat)
  case atStart => exact ⟨0, 0, [], Nat.zero_le _, rfl, rfl, by omega, rfl, Dig.nil, by show RowC _ _ _; simpa using hr, by show toN [] + _ = _; simp [toN], Only.refl _ _⟩
  case round =>
    clear hr
    obtain ⟨cy, j, P, hj, rfl, rfl, hcy, hPl, hP, hrow, hval, hon⟩ := hrel
    by_cases hjl : j < n
    · obtain ⟨bb, boff, rfl, hcb⟩ := HB.out (by intro e; have := HL.out.2; subst e; simp at this; omega)
      have hy := HD.out.2.getD j
      have cb0 := hcb j (by rw [HL.out.2]; exact hjl)
      have cbx : wr.cell? ⟨bb, boff + j, none⟩ = some (.int .u64 (lb.getD j 0 : Nat)) := hon.out.cell (p := ⟨bb, boff + j, none⟩) (by intro h; exact HNE.out (by have h : bb = g := h; rw [h]; rfl)) cb0
      have hx := HD.out.1.getD j
      have eD : X.drop j = X.getD j 0 :: X.drop (j + 1) := drop_cons (by rw [HL.out.1]; exact hjl)
      have R0 := hrow.out
      rw [eD, List.cons_append] at R0
      have hst := sub_step (p := toN P) (Yp := toN (lb.take j)) (Xp := toN (X.take j)) (P := B ^ j) hx hy ht hcy hval.out
      have eX := toN_take_succ X j (by rw [HL.out.1]; exact hjl)
      have eY := toN_take_succ lb j (by rw [HL.out.2]; exact hjl)
      rw [← eX, ← eY] at hst
      have HS := Lib.hid hst
      clear hst cb0 hcb eD hrow hval eX eY
      have hty := mul_bd ht hy
      generalize X.getD j 0 = x at *
      generalize lb.getD j 0 = y at *
      have co := R0.cell (mid_lt A P (X.drop (j + 1) ++ (top :: Z)) x)
      rw [mid_getD] at co
      have fo := R0.frozen (A.length + P.length)
      rw [hPl] at co fo
      have hP0 : 0 ≤ (t : Int) * (y : Int) := by rw [← Int.natCast_mul]; omega
      have hP1 : (t : Int) * (y : Int) ≤ 999999998000000001 := by rw [← Int.natCast_mul]; omega
      obtain ⟨u, hu⟩ : ∃ u, t * y + cy = u := ⟨_, rfl⟩
      have hT : (t : Int) * (y : Int) + (cy : Int) = (u : Int) := by rw [← hu, Int.natCast_add, Int.natCast_mul]
      have hub : (u : Int) ≤ 999999999000000000 := by omega
      rw [hu] at HS
      have HR := Lib.hid R0
      clear R0 hu hty
      by_cases hlt : x < u % 1000000000
      · have hlt2 : (x : Int) < (u : Int) % 1000000000 := by omega
        go_wp2
        go_roundw
        case rel =>
          obtain ⟨s1, s2, s3⟩ := HS.out.1 hlt
          refine ⟨u / 1000000000 + 1, j + 1, P ++ [x + 1000000000 - u % 1000000000], by omega, by go_num, by go_num, s1, by simp [hPl], hP.out.append (Dig.one s2), ?_, ?_, (hon.out.setCell _ _).setCell _ _⟩
          · have r1 := HR.out.set (A.length + P.length) (x + 1000000000)
            rw [mid_set] at r1
            have r2 := r1.set (A.length + P.length) (x + 1000000000 - u % 1000000000)
            rw [mid_set, mid_snoc, hPl] at r2
            have e1 : ((x + 1000000000 : Nat) : Int) = (x : Int) + 1000000000 := by omega
            have e2 : ((x + 1000000000 - u % 1000000000 : Nat) : Int) = (x : Int) + 1000000000 - (u : Int) % 1000000000 := by omega
            rw [e1, e2] at r2
            exact r2
          · show toN _ + _ = _
            rw [toN_snoc, hPl, Nat.pow_succ]; exact s3
        case measure => simp [intOf]; omega
      · have hlt2 : ¬ (x : Int) < (u : Int) % 1000000000 := by omega
        go_wp2
        go_roundw
        case rel =>
          obtain ⟨s1, s2, s3⟩ := HS.out.2 (by omega)
          refine ⟨u / 1000000000, j + 1, P ++ [x - u % 1000000000], by omega, by go_num, by go_num, s1, by simp [hPl], hP.out.append (Dig.one s2), ?_, ?_, hon.out.setCell _ _⟩
          · have r2 := HR.out.set (A.length + P.length) (x - u % 1000000000)
            rw [mid_set, mid_snoc, hPl] at r2
            have e2 : ((x - u % 1000000000 : Nat) : Int) = (x : Int) - (u : Int) % 1000000000 := by omega
            rw [e2] at r2
            exact r2
          · show toN _ + _ = _
            rw [toN_snoc, hPl, Nat.pow_succ]; exact s3
        case measure => simp [intOf]; omega
    · have ej : j = n := by omega
      subst ej
      have eX : X.take j = X := List.take_of_length_le (by rw [HL.out.1]; exact Nat.le_refl _)
      have eY : lb.take j = lb := List.take_of_length_le (by rw [HL.out.2]; exact Nat.le_refl _)
      have eD : X.drop j = [] := List.drop_of_length_le (by rw [HL.out.1]; exact Nat.le_refl _)
      have hv := hval.out
      have R0 := hrow.out
      rw [eX, eY] at hv
      rw [eD, List.nil_append] at R0
      have hlb' := toN_lt HD.out.2
      rw [HL.out.2] at hlb'
      have hP' := toN_lt hP.out
      rw [hPl] at hP'
      have hcy1 := sub_carry hv hP' hlb' HLE.out
      have co := R0.cell (mid_lt A P Z top)
      rw [mid_getD] at co
      have fo := R0.frozen (A.length + P.length)
      rw [hPl] at co fo
      have HV := Lib.hid (And.intro hv hP.out)
      have HR := Lib.hid R0
      have HO := Lib.hid hon.out
      clear hv R0 eX eY eD hlb' hP' hval hrow hP hon
      by_cases hlt : top < cy
      · have hw1 : (top : Int) - (cy : Int) = -1 := by omega
        have hw2 : (top : Int) < (cy : Int) := by omega
        have hw3 : IntKind.u64.wrap (-1) = 18446744073709551615 := rfl
        clear hcy1
        go_wp2
        go_ret
        refine ⟨P, cy, HV.out.2, hPl, HV.out.1, by omega, ?_, ?_, ?_⟩
        · simp [hlt]
        · rw [if_pos hlt]
          have r2 := HR.out.set (A.length + P.length) 18446744073709551615
          rw [mid_set, hPl] at r2
          exact r2
        · exact HO.out.setCell _ _
      · have hw2 : ¬ (top : Int) < (cy : Int) := by omega
        go_wp2
        go_ret
        refine ⟨P, HV.out.2, hPl, cy, HV.out.1, by omega, ?_, ?_, ?_⟩
        · simp [hlt]
        · rw [if_neg hlt]
          have r2 := HR.out.set (A.length + P.length) (top - cy)
          rw [mid_set, hPl] at r2
          have e2 : ((top - cy : Nat) : Int) = (top : Int) - (cy : Int) := by omega
          rw [e2] at r2
          exact r2
        · exact HO.out.setCell _ _

theorem add_step {p x y c P Yp Xp : Nat} (hx : x < 1000000000) (hy : y < 1000000000) (hc : c ≤ 1) (h : p + P * c = Xp + Yp) :
    (addS x y c).1 < 1000000000 ∧ (addS x y c).2 ≤ 1 ∧ p + P * (addS x y c).1 + P * B * (addS x y c).2 = Xp + P * x + (Yp + P * y) := by
  have e0 : P * (x + y + c) = P * x + P * y + P * c := by rw [Nat.mul_add, Nat.mul_add]
  unfold addS
  by_cases h1 : 1000000000 ≤ x + y + c
  · rw [if_pos h1]
    refine ⟨by show x + y + c - 1000000000 < _; omega, Nat.le_refl _, ?_⟩
    show p + P * (x + y + c - 1000000000) + P * B * 1 = _
    obtain ⟨d, hd⟩ : ∃ d, x + y + c = d + B := ⟨x + y + c - B, by rw [B_eq]; omega⟩
    rw [hd] at e0
    have e1 : x + y + c - 1000000000 = d := by rw [hd, B_eq]; exact Nat.add_sub_cancel _ _
    rw [e1]
    rw [Nat.mul_add P d B] at e0
    omega
  · rw [if_neg h1]
    refine ⟨by show x + y + c < _; omega, by show 0 ≤ 1; omega, ?_⟩
    show p + P * (x + y + c) + P * B * 0 = _
    omega

set_option maxRecDepth 100000 in
set_option maxHeartbeats 4000000 in
theorem restore_any (g n c : Nat) (vb : Value) (A X Z lb : List Nat) (w : World) (hr : RowC w g (A ++ (X ++ (18446744073709551615 :: Z)))) (hb : Nats w vb lb) (dx : Dig X) (db : Dig lb)
    (hX : X.length = n) (hlb : lb.length = n) (hn : n ≤ 1000000) (_hA : A.length ≤ 1000000) (hc : n + 1 ≤ c) (hc' : c ≤ 9223372036854775807) (hne : vb.ownBlock ≠ some g)
    (hle : B ^ n ≤ toN X + toN lb) :
    Calls Tryd.prog 114 #[.slice (some ⟨g, A.length, none⟩) (n + 1) c, vb] w fun e W' => ∃ X', Dig X' ∧ X'.length = n ∧ toN X' + B ^ n = toN X + toN lb ∧ e = .returned (.tuple #[]) ∧
      RowC W' g (A ++ (X' ++ (0 :: Z))) ∧ Only g w W' := by
  obtain ⟨pb, cb, rfl, hb1, hb2, hb3⟩ := hb
  have HB := Lib.hid hb3; clear hb3
  have HD := Lib.hid (And.intro dx db); clear dx db
  have HL := Lib.hid (And.intro hX hlb)
  have HLE := Lib.hid hle; clear hle
  have HNE := Lib.hid hne; clear hne
  rw [hlb] at hb1 ⊢
  clear hX hlb
  go_enter Tryd.func114, Tryd.ntmps114
  go_wp2
  go_loopw [4, 9] (fun y z wr => ∃ (cy j : Nat) (P : List Nat), j ≤ n ∧ y = .int .u64 cy ∧ z = .int .i64 j ∧ cy ≤ 1 ∧ P.length = j ∧ Hid (Dig P) ∧ Hid (RowC wr g (A ++ (P ++ (X.drop j ++ (18446744073709551615 :: Z))))) ∧
      Hid (toN P + B ^ j * cy = toN (X.take j) + toN (lb.take j)) ∧ Hid (Only g w wr))
    (fun _ z _ => n - (intOf z).toNat)
  case atStart => exact ⟨0, 0, [], Nat.zero_le _, rfl, rfl, by omega, rfl, Dig.nil, by show RowC _ _ _; simpa using hr, by show toN [] + _ = _; simp [toN], Only.refl _ _⟩
  case round =>
    clear hr
    obtain ⟨cy, j, P, hj, rfl, rfl, hcy, hPl, hP, hrow, hval, hon⟩ := hrel
    by_cases hjl : j < n
    · obtain ⟨bb, boff, rfl, hcb⟩ := HB.out (by intro e; have := HL.out.2; subst e; simp at this; omega)
      have hy := HD.out.2.getD j
      have cb0 := hcb j (by rw [HL.out.2]; exact hjl)
      have cbx : wr.cell? ⟨bb, boff + j, none⟩ = some (.int .u64 (lb.getD j 0 : Nat)) := hon.out.cell (p := ⟨bb, boff + j, none⟩) (by intro h; exact HNE.out (by have h : bb = g := h; rw [h]; rfl)) cb0
      have hx := HD.out.1.getD j
      have eD : X.drop j = X.getD j 0 :: X.drop (j + 1) := drop_cons (by rw [HL.out.1]; exact hjl)
      have R0 := hrow.out
      rw [eD, List.cons_append] at R0
      have hst := add_step (p := toN P) (Yp := toN (lb.take j)) (Xp := toN (X.take j)) (P := B ^ j) hx hy hcy hval.out
      have eX := toN_take_succ X j (by rw [HL.out.1]; exact hjl)
      have eY := toN_take_succ lb j (by rw [HL.out.2]; exact hjl)
      rw [← eX, ← eY] at hst
      clear cb0 hcb eD hrow hval eX eY
      generalize X.getD j 0 = x at *
      generalize lb.getD j 0 = y at *
      have ca := addDigits_any x y cy wr hx hy hcy
      obtain ⟨d, hd⟩ : ∃ d, addS x y cy = d := ⟨_, rfl⟩
      rw [hd] at ca hst
      obtain ⟨d1, d2⟩ := d
      dsimp only at ca hst
      have CA := Lib.hid ca
      have HS := Lib.hid hst
      have co := R0.cell (mid_lt A P (X.drop (j + 1) ++ (18446744073709551615 :: Z)) x)
      rw [mid_getD] at co
      have fo := R0.frozen (A.length + P.length)
      rw [hPl] at co fo
      have HR := Lib.hid R0
      clear R0 hst ca hd
      go_wp2_with fail
      refine CA.out.mono ?_
      rintro e w' ⟨rfl, rfl⟩
      clear CA
      go_wp2
      go_roundw
      case rel =>
        obtain ⟨s1, s2, s3⟩ := HS.out
        refine ⟨d2, j + 1, P ++ [d1], by omega, rfl, by go_num, s2, by simp [hPl], hP.out.append (Dig.one s1), ?_, ?_, hon.out.setCell _ _⟩
        · have r2 := HR.out.set (A.length + P.length) d1
          rw [mid_set, mid_snoc, hPl] at r2
          exact r2
        · show toN _ + _ = _
          rw [toN_snoc, hPl, Nat.pow_succ]; exact s3
      case measure => simp [intOf]; omega
    · have ej : j = n := by omega
      subst ej
      have eX : X.take j = X := List.take_of_length_le (by rw [HL.out.1]; exact Nat.le_refl _)
      have eY : lb.take j = lb := List.take_of_length_le (by rw [HL.out.2]; exact Nat.le_refl _)
      have eD : X.drop j = [] := List.drop_of_length_le (by rw [HL.out.1]; exact Nat.le_refl _)
      have hv := hval.out
      have R0 := hrow.out
      rw [eX, eY] at hv
      rw [eD, List.nil_append] at R0
      have hP' := toN_lt hP.out
      rw [hPl] at hP'
      have hcy1 : cy = 1 := by
        have := HLE.out
        rcases Nat.lt_or_ge cy 1 with h | h
        · have h0 : cy = 0 := by omega
          rw [h0, Nat.mul_zero] at hv; omega
        · omega
      subst hcy1
      rw [Nat.mul_one] at hv
      have co := R0.cell (mid_lt A P Z 18446744073709551615)
      rw [mid_getD] at co
      have fo := R0.frozen (A.length + P.length)
      rw [hPl] at co fo
      have HV := Lib.hid (And.intro hv hP.out)
      have HR := Lib.hid R0
      have HO := Lib.hid hon.out
      have hw3 : IntKind.u64.wrap 18446744073709551616 = 0 := rfl
      clear hv R0 eX eY eD hP' hval hrow hP hon
      go_wp2
      go_end0
      refine ⟨P, HV.out.2, hPl, HV.out.1, rfl, ?_, HO.out.setCell _ _⟩
      have r2 := HR.out.set (A.length + P.length) 0
      rw [mid_set, hPl] at r2
      exact r2
end Go.Proofs.YtajonpcmgebbbaaDoor
