/- Proved here: Mul, Divide and Gcd return the results of the reference implementation for any strings of the examined lengths. The law IntegerProducts returns true for every input, and its arguments read behind the call as before. Conditions: the row's own, the listed tables hold their numbers. -/
import Derived.Test.YtajonpcmgebbbaaDoorProducts22
/- The walk of the law IntegerProducts: Mul, Divide and Gcd return the results of the reference. -/
-- needs kingpost/kingpostlaw01.IntegerProducts
namespace Go.Proofs.YtajonpcmgebbbaaDoor.R
open Go.RowKit

set_option maxRecDepth 100000 in
set_option maxHeartbeats 2000000 in
theorem IntegerProducts_any (a b : ByteArray) (w : World) (ha : a.size ≤ maxLen) (hb : b.size ≤ maxLen) (ht : Tab w) :
    Calls Tryd.prog 3 #[.string a, .string b] w fun e W' => e = .returned (.bool true) ∧ Below w.heap.size w W' := by
  have hg := Lib.hid (fun B W => great2s a b B W ha hb)
  have oA := fun W (h : Below w.heap.size w W) => awake_any W (ht.next h)
  by_cases hf : (greatS a || greatS b) = true
  · rw [hf] at hg
    have O := Lib.hid oA
    clear oA ht hf
    go_enter Tryd.func3, Tryd.ntmps3
    go_wp2_with fail
    refine (hg.out _ _ (by go_cell) (by go_cell)).mono ?_
    rintro e w' ⟨rfl, rfl⟩
    have B0 := Lib.hid ((Below.refl w.heap.size w).alloc (Nat.le_refl _) (.cells #[.string a, .string b] 9))
    generalize w.alloc (.cells #[.string a, .string b] 9) = v0 at *
    go_wp2_with fail
    refine (O.out _ B0.out).mono ?_
    rintro e v1 ⟨rfl, b1⟩
    have B1 := Lib.hid (B0.out.trans (b1.mono B0.out.size)); clear b1 B0
    go_wp2
    go_ret
    exact ⟨rfl, B1.out⟩
  · have hf' : (greatS a || greatS b) = false := by simpa using hf
    rw [hf'] at hg
    have la := great_le (Bool.or_eq_false_iff.1 hf').1
    have lb := great_le (Bool.or_eq_false_iff.1 hf').2
    have o1 := fun W (h : Below w.heap.size w W) => Go.Proofs.YtajonpcmgebbbaaDoor.Mul_any a b W ha hb (ht.next h)
    have o2 := fun W (h : Below w.heap.size w W) => R.Mul_any a b W (by omega) (by omega) (ht.next h)
    have o3 := fun W (h : Below w.heap.size w W) => Go.Proofs.YtajonpcmgebbbaaDoor.Divide_any a b W ha hb (ht.next h)
    have o4 := fun W (h : Below w.heap.size w W) => R.Divide_any a b W (by omega) (by omega) (ht.next h)
    have o5 := fun W (h : Below w.heap.size w W) => progGcd_any a b W ha hb (ht.next h)
    have o6 := fun W (h : Below w.heap.size w W) => R.Gcd_any a b W ha hb (ht.next h)
    generalize outB (chk2 a.data.toList b.data.toList) (valOf a.data.toList * valOf b.data.toList) = s1 at *
    generalize outE (chk2 a.data.toList b.data.toList) (valOf a.data.toList * valOf b.data.toList) = n1 at *
    generalize divQ (chk2 a.data.toList b.data.toList) (valOf a.data.toList) (valOf b.data.toList) = s2 at *
    generalize divR (chk2 a.data.toList b.data.toList) (valOf a.data.toList) (valOf b.data.toList) = s3 at *
    generalize divE (chk2 a.data.toList b.data.toList) (valOf b.data.toList) = n2 at *
    generalize gcdB (chk2 a.data.toList b.data.toList) (natOf (szL a.data.toList)) (natOf (szL b.data.toList)) = s4 at *
    generalize chk2 a.data.toList b.data.toList = n3 at *
    have O := Lib.hid (And.intro o1 (And.intro o2 (And.intro o3 (And.intro o4 (And.intro o5 (And.intro o6 oA))))))
    clear o1 o2 o3 o4 o5 o6 oA ht hf hf'
    go_enter Tryd.func3, Tryd.ntmps3
    go_wp2_with fail
    refine (hg.out _ _ (by go_cell) (by go_cell)).mono ?_
    rintro e w' ⟨rfl, rfl⟩
    have B0 := Lib.hid ((Below.refl w.heap.size w).alloc (Nat.le_refl _) (.cells #[.string a, .string b] 9))
    generalize w.alloc (.cells #[.string a, .string b] 9) = v0 at *
    go_wp2_with fail
    refine (O.out.1 _ B0.out).mono ?_
    rintro e v1 ⟨rfl, b1⟩
    have B1 := Lib.hid (B0.out.trans (b1.mono B0.out.size)); clear b1 B0
    go_wp2_with fail
    refine (O.out.2.1 _ B1.out).mono ?_
    rintro e v2 ⟨rfl, b2⟩
    have B2 := Lib.hid (B1.out.trans (b2.mono B1.out.size)); clear b2 B1
    go_wp2_with fail
    refine (O.out.2.2.1 _ B2.out).mono ?_
    rintro e v3 ⟨rfl, b3⟩
    have B3 := Lib.hid (B2.out.trans (b3.mono B2.out.size)); clear b3 B2
    go_wp2_with fail
    refine (O.out.2.2.2.1 _ B3.out).mono ?_
    rintro e v4 ⟨rfl, b4⟩
    have B4 := Lib.hid (B3.out.trans (b4.mono B3.out.size)); clear b4 B3
    go_wp2_with fail
    refine (O.out.2.2.2.2.1 _ B4.out).mono ?_
    rintro e v5 ⟨rfl, b5⟩
    have B5 := Lib.hid (B4.out.trans (b5.mono B4.out.size)); clear b5 B4
    go_wp2_with fail
    refine (O.out.2.2.2.2.2.1 _ B5.out).mono ?_
    rintro e v6 ⟨rfl, b6⟩
    have B6 := Lib.hid (B5.out.trans (b6.mono B5.out.size)); clear b6 B5
    go_wp2_with fail
    refine (O.out.2.2.2.2.2.2 _ B6.out).mono ?_
    rintro e v7 ⟨rfl, b7⟩
    have B7 := Lib.hid (B6.out.trans (b7.mono B6.out.size)); clear b7 B6
    go_wp2
    go_ret
    exact ⟨rfl, B7.out⟩
end Go.Proofs.YtajonpcmgebbbaaDoor.R

/- Proved here: Mul, Divide and Gcd return the results of the reference implementation for any strings of the examined lengths. The law IntegerProducts returns true for every input, and its arguments read behind the call as before. Conditions: the row's own, the listed tables hold their numbers. -/
-- needs kingpost/kingpostlaw01.IntegerProducts
namespace Go.Proofs.YtajonpcmgebbbaaDoor
open Go.ChangeShapes Go.WideShapes Go.ChangeAt Go.RowKit
open Go.ChangeMaps (open_string shut_string)

set_option maxRecDepth 100000 in
theorem integerProducts_lifted (os : Os) (started : os.Started) (H : Type) (enc : TypeId × Value → H) :
    ReturnsInHanded {} Tryd.checked os 3 .any (fun w args => (Rows.integerProductsSpec.pre enc Tryd.prog Tryd.f3 [] false w args ∧ laidMetH Tryd.prog laid3 w) ∧ sizedMet enc Tryd.prog Tryd.f3 (OpenSpec.ofChange Rows.integerProductsSpec) false w args)
      (Rows.integerProductsSpec.post enc Tryd.prog Tryd.f3 false true false false) := by
  refine returnsInHanded_of_change_and (C := Tryd.checked) (X := fun w _ => laidMetH Tryd.prog laid3 w) (fun _ _ _ hh h => h.of_heap hh) own started (by kernel_rfl) Tryd.func3
    (ChangeSpec.witness_shaped (enc := enc) (C := Tryd.checked) (os := os) (X := fun w _ => laidMetH Tryd.prog laid3 w) false (World.doorLaid Tryd.prog 400 os) #[.string ⟨#[]⟩, .string ⟨#[]⟩] 8 rfl (World.shaped_of_RefB (by kernel_rfl) (by kernel_rfl)) (by kernel_rfl) (by kernel_rfl) (by kernel_rfl) (door_met os _)) ?_
  intro W base args ds gs before hval0 hW _ _ hL _
  have hval : ∀ (j : Nat) t v, Tryd.f3.params[j]? = some t → args[j]? = some v → Value.okWide Tryd.prog W .any base t v := hval0
  have hW' := hW
  obtain ⟨p, q, hA0, hV, rfl, hfz, hnd⟩ := hW
  have hA : DataW.TrodAll enc Tryd.prog W 0 (fun _ => true) true Tryd.f3.params.toList args.toList ds p := hA0
  rw [Tryd.params3] at hA hval
  obtain ⟨v0, v1, d0, d1, p0, p1, rfl, rfl, rfl, h0, h1⟩ := trodAll_two hA
  obtain ⟨rfl, rfl⟩ := trodVars_none hV
  obtain ⟨s0, rfl, rfl, rfl, z0⟩ := open_string Tryd.underlying9 (hval 0 9 v0 rfl rfl) h0
  obtain ⟨s1, rfl, rfl, rfl, z1⟩ := open_string Tryd.underlying9 (hval 1 9 v1 rfl rfl) h1
  clear hA0 hval0
  refine (R.IntegerProducts_any s0 s1 W z0 z1 (tab_of_laid hL)).mono fun e W' ⟨he, bel⟩ => ?_
  subst he
  exact ⟨_, rfl, _, _, _, [], _, [], hW', trodAll_mk1 (shut_bool Tryd.underlying4 _), trodAll_mk2 (shut_string Tryd.underlying9 z0) (shut_string Tryd.underlying9 z1), rfl, bel.frame _, fun h => by cases h⟩

theorem integerProducts_over : Rows.IntegerProductsSaid :=
  OpenClaim.holds_of_wide 3 Tryd.f3 rfl rfl rfl rfl rfl rfl rfl ⟨rfl, rfl, rfl, rfl, rfl⟩ rfl rfl rfl rfl rfl (by kernel_rfl) Tryd.func3 (by kernel_rfl)
    (of_decide_eq_true (by kernel_rfl)) (by unfold Func.isWrapper; first | (rw [if_pos (by decide +kernel)]; kernel_rfl) | (rw [if_neg (by decide +kernel)]; exact ⟨rfl, rfl⟩))
    (fun os started H enc _ => integerProducts_lifted os started H enc)

theorem integerProducts_proved : Rows.IntegerProductsCardSaid :=
  Claim7.holds_tied_plain_at .later [] [.data, .data, .data] true (true, "edf4b39706570ff329a7fb3ffaad88fca0e4d3c492194bb58c0bdbcf3d7cf0f6") false
    integerProducts_over (fun _ h => by cases h) (by kernel_rfl) (fun _ h => by cases h) integerProducts_row_tie rfl ⟨rfl, rfl⟩ (by kernel_rfl) rfl
    (fun f fn hf hfn => by
      obtain rfl : f = 3 := Option.some.inj ((show Tryd.prog.funcNamed "kingpost/kingpostlaw01.IntegerProducts" = some 3 by kernel_rfl).symm.trans hf) |>.symm
      obtain rfl : fn = Tryd.f3 := (Option.some.inj (Tryd.func3.symm.trans hfn)).symm
      exact ⟨by kernel_rfl, fun j t ht => by
        rw [Tryd.params3] at ht
        have hm : t ∈ [9, 9] := by simpa using Array.mem_of_getElem? ht
        have hall : ([9, 9].all fun u => !Tryd.prog.wantsStandIn u) = true := by kernel_rfl
        exact (show Tryd.prog.wantsStandIn t = false by simpa using List.all_eq_true.1 hall t hm)⟩)
    (by kernel_rfl)
#print axioms integerProducts_proved
end Go.Proofs.YtajonpcmgebbbaaDoor

