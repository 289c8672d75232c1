/- The walks of sums, differences and comparisons. -/
import Derived.Test.YtajonpcmgebbbaaDoorW12
import Derived.Test.YtajonpcmgebbbaaDoorTxt
namespace Go.Proofs.YtajonpcmgebbbaaDoor
open Go.RowKit

theorem enter_add (args : Array Value) (W : World) : (callFunc 90 args).run Tryd.prog W = .ok (.enter 90 args) W := enters_of Tryd.func90 (by kernel_rfl) rfl args W
theorem enter_sub (args : Array Value) (W : World) : (callFunc 91 args).run Tryd.prog W = .ok (.enter 91 args) W := enters_of Tryd.func91 (by kernel_rfl) rfl args W
theorem step_add : StepIs 90 addS := fun x y c W hx hy hc => addDigits_any x y c W hx hy hc
theorem step_sub : StepIs 91 subS := fun x y c W hx hy hc => subDigits_any x y c W hx hy hc

set_option maxHeartbeats 400000 in
theorem sum_any (va vb : Value) (a b : Nat) (w : World) (ha : IsNat w va a) (hb : IsNat w vb b) (hla : (dg a).length ≤ 1000000) (hlb : (dg b).length ≤ 1000000) :
    Calls Tryd.prog 66 #[va, vb] w fun e W' => ∃ v, e = .returned v ∧ IsNat W' v (a + b) ∧ Fresh w.heap.size v ∧ Below w.heap.size w W' := by
  obtain ⟨pa, ca, rfl, a1, a2, _⟩ := id ha
  obtain ⟨pb, cb, rfl, b1, b2, _⟩ := id hb
  by_cases hlt : (dg a).length < (dg b).length
  · have c := combine_any 90 addS step_add addS_ok enter_add pb pa cb ca (dg b) (dg a) w hb ha (dg_Dig b) (dg_Dig a) hlb
    rw [add_total (dg_Dig b) (dg_Dig a) (by omega), toN_dg, toN_dg, Nat.add_comm] at c
    have C := Lib.hid c; clear c ha hb
    generalize (dg a).length = la at *
    generalize (dg b).length = lb at *
    have hlt' : (la : Int) < (lb : Int) := by omega
    go_enter Tryd.func66, Tryd.ntmps66
    go_wp2_with fail
    refine C.out.mono ?_
    clear C
    rintro e w' ⟨v, rfl, h⟩
    have H := Lib.hid h; clear h
    go_wp2
    go_ret
    exact ⟨v, rfl, H.out⟩
  · have c := combine_any 90 addS step_add addS_ok enter_add pa pb ca cb (dg a) (dg b) w ha hb (dg_Dig a) (dg_Dig b) hla
    rw [add_total (dg_Dig a) (dg_Dig b) (by omega), toN_dg, toN_dg] at c
    have C := Lib.hid c; clear c ha hb
    generalize (dg a).length = la at *
    generalize (dg b).length = lb at *
    have hlt' : ¬ (la : Int) < (lb : Int) := by omega
    go_enter Tryd.func66, Tryd.ntmps66
    go_wp2_with fail
    refine C.out.mono ?_
    clear C
    rintro e w' ⟨v, rfl, h⟩
    have H := Lib.hid h; clear h
    go_wp2
    go_ret
    exact ⟨v, rfl, H.out⟩

theorem dg_le_of {a b : Nat} (h : b ≤ a) : (dg b).length ≤ (dg a).length := by
  rw [dg_length_le]
  exact Nat.lt_of_le_of_lt h ((dg_length_le a _).1 (Nat.le_refl _))

set_option maxHeartbeats 400000 in
theorem difference_any (va vb : Value) (a b : Nat) (w : World) (ha : IsNat w va a) (hb : IsNat w vb b) (hla : (dg a).length ≤ 1000000) (hle : b ≤ a) :
    Calls Tryd.prog 67 #[va, vb] w fun e W' => ∃ v, e = .returned v ∧ IsNat W' v (a - b) ∧ Fresh w.heap.size v ∧ Below w.heap.size w W' := by
  obtain ⟨pa, ca, rfl, a1, a2, _⟩ := id ha
  obtain ⟨pb, cb, rfl, b1, b2, _⟩ := id hb
  have c := combine_any 91 subS step_sub subS_ok enter_sub pa pb ca cb (dg a) (dg b) w ha hb (dg_Dig a) (dg_Dig b) hla
  rw [sub_total (dg_Dig a) (dg_Dig b) (dg_le_of hle) (by rw [toN_dg, toN_dg]; exact hle), toN_dg, toN_dg] at c
  have C := Lib.hid c; clear c ha hb hle
  generalize (dg a).length = la at *
  generalize (dg b).length = lb at *
  go_enter Tryd.func67, Tryd.ntmps67
  go_wp2_with fail
  refine C.out.mono ?_
  clear C
  rintro e w' ⟨v, rfl, h⟩
  have H := Lib.hid h; clear h
  go_wp2
  go_ret
  exact ⟨v, rfl, H.out⟩

/-! ### comparing -/
/-- -1, 0 or 1 -/
def cmpN (a b : Nat) : Int := if a < b then -1 else if b < a then 1 else 0
theorem cmpN_lt {a b : Nat} (h : a < b) : cmpN a b = -1 := by unfold cmpN; rw [if_pos h]
theorem cmpN_gt {a b : Nat} (h : b < a) : cmpN a b = 1 := by unfold cmpN; rw [if_neg (by omega), if_pos h]
theorem cmpN_eq {a b : Nat} (h : a = b) : cmpN a b = 0 := by unfold cmpN; rw [if_neg (by omega), if_neg (by omega)]

theorem cmpU64_any (x y : Nat) (w : World) :
    Calls Tryd.prog 92 #[.int .u64 x, .int .u64 y] w fun e w' => e = .returned (.int .i64 (cmpN x y)) ∧ w' = w := by
  rcases Nat.lt_trichotomy x y with h | h | h
  · rw [cmpN_lt h]
    have h1 : (x : Int) < y := by omega
    clear h
    go_enter Tryd.func92, Tryd.ntmps92
    go_wp2_with go_in
    go_ret
    exact ⟨rfl, rfl⟩
  · rw [cmpN_eq h]
    subst h
    go_enter Tryd.func92, Tryd.ntmps92
    go_wp2_with go_in
    go_ret
    exact ⟨rfl, rfl⟩
  · rw [cmpN_gt h]
    have h1 : (y : Int) < x := by omega
    clear h
    go_enter Tryd.func92, Tryd.ntmps92
    go_wp2_with go_in
    go_ret
    exact ⟨rfl, rfl⟩

theorem lt_of_len {a b : Nat} (h : (dg a).length < (dg b).length) : a < b := by
  have h1 := (dg_length_le a _).1 (Nat.le_refl _)
  have h2 : ¬ b < B ^ (dg a).length := fun hc => by have := (dg_length_le b _).2 hc; omega
  omega
theorem toN_split (l : List Nat) (i : Nat) (h : i < l.length) : toN l = toN (l.take i) + B ^ i * l.getD i 0 + B ^ (i + 1) * toN (l.drop (i + 1)) := by
  conv => lhs; rw [← List.take_append_drop (i + 1) l]
  rw [toN_append, toN_take_succ l i h, List.length_take, Nat.min_eq_left (by omega)]
theorem lt_of_digit {la lb : List Nat} {i : Nat} (ha : Dig la) (hia : i < la.length) (hib : i < lb.length) (hd : la.drop (i + 1) = lb.drop (i + 1)) (h : la.getD i 0 < lb.getD i 0) : toN la < toN lb := by
  rw [toN_split la i hia, toN_split lb i hib, hd]
  have h1 := toN_lt (ha.take i)
  rw [List.length_take, Nat.min_eq_left (by omega)] at h1
  have h2 : B ^ i * la.getD i 0 + B ^ i ≤ B ^ i * lb.getD i 0 := by rw [← Nat.mul_succ]; exact Nat.mul_le_mul_left _ h
  omega

theorem cmpInt_eq (a b : Nat) : Lib.compareInt (a : Int) (b : Int) = cmpN a b := by
  unfold Lib.compareInt cmpN
  by_cases h : a < b
  · rw [if_pos h, if_pos (by omega)]
  · rw [if_neg h, if_neg (by omega)]
    by_cases h2 : b < a
    · rw [if_pos h2, if_pos (by omega)]
    · rw [if_neg h2, if_neg (by omega)]

set_option maxRecDepth 100000 in
set_option maxHeartbeats 1000000 in
theorem compare_any (va vb : Value) (a b : Nat) (w : World) (ha : IsNat w va a) (hb : IsNat w vb b) :
    Calls Tryd.prog 71 #[va, vb] w fun e W' => e = .returned (.int .i64 (cmpN a b)) ∧ ∃ n, W' = w.drewN n := by
  obtain ⟨pa, ca, rfl, a1, a2, a3⟩ := ha
  obtain ⟨pb, cb, rfl, b1, b2, b3⟩ := hb
  have HA := Lib.hid a3; have HB := Lib.hid b3; clear a3 b3
  have HN := Lib.hid (And.intro (toN_dg a) (toN_dg b))
  have HD := Lib.hid (And.intro (dg_Dig a) (dg_Dig b))
  have hlt := Lib.hid (fun h => lt_of_len (a := a) (b := b) h)
  have hgt := Lib.hid (fun h => lt_of_len (a := b) (b := a) h)
  by_cases hne : (dg a).length = (dg b).length
  · have HC := Lib.hid (show cmpN a b = cmpN (toN (dg a)) (toN (dg b)) by rw [toN_dg, toN_dg])
    generalize dg a = la at *
    generalize dg b = lb at *
    rw [HC.out]
    clear hlt hgt HN HC
    have HL := Lib.hid hne
    obtain ⟨n, hn⟩ : ∃ n, la.length = n := ⟨_, rfl⟩
    have hn2 : lb.length = n := by omega
    have HN := Lib.hid (And.intro hn hn2)
    rw [hn] at a1 ⊢
    rw [hn2] at b1 ⊢
    clear hne hn hn2
    have hneq : ((n : Int) != n) = false := by simp
    go_enter Tryd.func71, Tryd.ntmps71
    go_wp2
    go_loopw [5] (fun x wr => ∃ j : Nat, j ≤ n ∧ x = .int .i64 ((j : Int) - 1) ∧ Hid (la.drop j = lb.drop j) ∧ ∃ k, wr = w.drewN k) (fun x _ => (intOf x + 1).toNat)
    case atStart => exact ⟨n, Nat.le_refl _, rfl, by show _ = _; rw [List.drop_of_length_le (by rw [HN.out.1]; exact Nat.le_refl _), List.drop_of_length_le (by rw [HN.out.2]; exact Nat.le_refl _)], 0, rfl⟩
    case round =>
      obtain ⟨j, hj, rfl, hd, hk⟩ := hrel
      have HK := Lib.hid hk; clear hk
      by_cases hj0 : j = 0
      · subst hj0
        have he : cmpN (toN la) (toN lb) = 0 := cmpN_eq (by have := hd.out; rw [List.drop_zero, List.drop_zero] at this; rw [this])
        have HE := Lib.hid he; clear he
        go_wp2
        go_ret
        exact ⟨by rw [HE.out]; rfl, HK.out⟩
      · obtain ⟨i, rfl⟩ : ∃ i, j = i + 1 := ⟨j - 1, by omega⟩
        have hia : i < la.length := by rw [HN.out.1]; omega
        have hib : i < lb.length := by rw [HN.out.2]; omega
        obtain ⟨ba, oa, rfl, hca⟩ := HA.out (by intro e; rw [e] at hia; simp at hia)
        obtain ⟨bb, ob, rfl, hcb⟩ := HB.out (by intro e; rw [e] at hib; simp at hib)
        have xa : wr.cell? ⟨ba, oa + i, none⟩ = some (.int .u64 (la.getD i 0 : Nat)) := by obtain ⟨kk, e⟩ := HK.out; rw [e]; exact hca i hia
        have xb : wr.cell? ⟨bb, ob + i, none⟩ = some (.int .u64 (lb.getD i 0 : Nat)) := by obtain ⟨kk, e⟩ := HK.out; rw [e]; exact hcb i hib
        have e1 := Lib.hid (fun h => lt_of_digit (la := la) (lb := lb) (i := i) HD.out.1 hia hib hd.out h)
        have e2 := Lib.hid (fun h => lt_of_digit (la := lb) (lb := la) (i := i) HD.out.2 hib hia hd.out.symm h)
        have e3 : Hid (la.getD i 0 = lb.getD i 0 → la.drop i = lb.drop i) := fun h => by rw [drop_getD hia, drop_getD hib, h, hd.out]
        clear hca hcb hia hib hd
        generalize la.getD i 0 = x at *
        generalize lb.getD i 0 = y at *
        have ei : ((i : Int) + 1 - 1) = (i : Int) := by omega
        have hx1 : (i : Int) < (n : Int) := by omega
        by_cases hxy : x = y
        · subst hxy
          have h3 : Hid (la.drop i = lb.drop i) := e3.out rfl
          clear e1 e2 e3
          have hq : ((x : Int) != x) = false := by simp
          go_wp2
          go_quiet (fail)
          go_wp2
          go_roundw
          case rel => exact ⟨i, by omega, by go_num, h3, by obtain ⟨kk, e⟩ := HK.out; exact ⟨_, by rw [e, World.drewN_drewN]⟩⟩
          case measure => simp [intOf]
        · have hq : ((x : Int) != y) = true := by rw [bne_iff_ne]; omega
          have hf : Hid (cmpN x y = cmpN (toN la) (toN lb)) := by
            show cmpN x y = _
            rcases Nat.lt_or_gt_of_ne hxy with h | h
            · rw [cmpN_lt h, cmpN_lt (e1.out h)]
            · rw [cmpN_gt h, cmpN_gt (e2.out h)]
          clear e1 e2 e3 hxy
          go_wp2
          go_quiet (fail)
          have ya : (wr.drewN nq).cell? ⟨ba, oa + i, none⟩ = some (.int .u64 (x : Nat)) := xa
          have yb : (wr.drewN nq).cell? ⟨bb, ob + i, none⟩ = some (.int .u64 (y : Nat)) := xb
          have HK2 : Hid (∃ n, wr.drewN nq = w.drewN n) := by obtain ⟨kk, e⟩ := HK.out; exact ⟨_, by rw [e, World.drewN_drewN]⟩
          clear xa xb HK
          generalize wr.drewN nq = W2 at *
          go_wp2
          go_quiet ((go_at_call 92; exact Calls.quiet_of_same (cmpU64_any _ _ _)))
          go_wp2
          go_ret
          exact ⟨by rw [← hf.out]; rfl, by obtain ⟨kk, e⟩ := HK2.out; exact ⟨_, by rw [e, World.drewN_drewN]⟩⟩
  · have hc : cmpN a b = Lib.compareInt (((dg a).length : Nat) : Int) (((dg b).length : Nat) : Int) := by
      rw [cmpInt_eq]
      rcases Nat.lt_or_gt_of_ne hne with h | h
      · rw [cmpN_lt h, cmpN_lt (hlt.out h)]
      · rw [cmpN_gt h, cmpN_gt (hgt.out h)]
    have HC := Lib.hid hc; clear hc hlt hgt HN HD HA HB
    generalize (dg a).length = la at *
    generalize (dg b).length = lb at *
    have hn : ((la : Int) != (lb : Int)) = true := by rw [bne_iff_ne]; omega
    clear hne
    go_enter Tryd.func71, Tryd.ntmps71
    go_wp2_with fail
    refine (Tryd.cmp_Compare_int _ _ _).mono ?_
    rintro e w' ⟨rfl, rfl⟩
    go_wp2
    go_ret
    exact ⟨by rw [HC.out]; rfl, 0, rfl⟩
end Go.Proofs.YtajonpcmgebbbaaDoor
