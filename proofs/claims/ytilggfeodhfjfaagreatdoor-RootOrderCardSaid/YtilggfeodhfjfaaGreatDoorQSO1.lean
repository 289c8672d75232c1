/- Proved here: the order is total, does not change if both sides are multiplied by the same positive number, is turned round if they are by a negative one, and is that of the numbers if both roots are those of 1. The law RootOrder returns true for every input, and its arguments read behind the call as before. Conditions: the row's own, the listed tables hold their numbers. -/
import Derived.Test.YtilggfeodhfjfaaGreatDoorQR1
import Derived.Test.YtilggfeodhfjfaaGreatDoorQR10
import Derived.Test.YtilggfeodhfjfaaGreatDoorQR11
import Derived.Test.YtilggfeodhfjfaaGreatDoorQR12
import Derived.Test.YtilggfeodhfjfaaGreatDoorQR13
import Derived.Test.YtilggfeodhfjfaaGreatDoorQR14
import Derived.Test.YtilggfeodhfjfaaGreatDoorQR15
import Derived.Test.YtilggfeodhfjfaaGreatDoorQR16
import Derived.Test.YtilggfeodhfjfaaGreatDoorQR17
import Derived.Test.YtilggfeodhfjfaaGreatDoorQR18
import Derived.Test.YtilggfeodhfjfaaGreatDoorQR19
import Derived.Test.YtilggfeodhfjfaaGreatDoorQR2
import Derived.Test.YtilggfeodhfjfaaGreatDoorQR20
import Derived.Test.YtilggfeodhfjfaaGreatDoorQR21
import Derived.Test.YtilggfeodhfjfaaGreatDoorQR22
import Derived.Test.YtilggfeodhfjfaaGreatDoorQR23
import Derived.Test.YtilggfeodhfjfaaGreatDoorQR24
import Derived.Test.YtilggfeodhfjfaaGreatDoorQR25
import Derived.Test.YtilggfeodhfjfaaGreatDoorQR26
import Derived.Test.YtilggfeodhfjfaaGreatDoorQR27
import Derived.Test.YtilggfeodhfjfaaGreatDoorQR28
import Derived.Test.YtilggfeodhfjfaaGreatDoorQR29
import Derived.Test.YtilggfeodhfjfaaGreatDoorQR3
import Derived.Test.YtilggfeodhfjfaaGreatDoorQR30
import Derived.Test.YtilggfeodhfjfaaGreatDoorQR4
import Derived.Test.YtilggfeodhfjfaaGreatDoorQR5
import Derived.Test.YtilggfeodhfjfaaGreatDoorQR6
import Derived.Test.YtilggfeodhfjfaaGreatDoorQR7
import Derived.Test.YtilggfeodhfjfaaGreatDoorQR8
import Derived.Test.YtilggfeodhfjfaaGreatDoorQR9
import Derived.Test.YtilggfeodhfjfaaGreatDoorQS1
import Derived.Test.YtilggfeodhfjfaaGreatDoorQS2
import Derived.Test.YtilggfeodhfjfaaGreatDoorQS4
import Derived.Test.YtilggfeodhfjfaaGreatDoorQS5
set_option linter.all false
set_option maxRecDepth 100000
set_option maxHeartbeats 8000000
namespace Go.Proofs.YtilggfeodhfjfaaGreatDoor
open Go.ChangeShapes Go.WideShapes Go.ChangeAt Go.RowKit
open Go.ChangeMaps (open_string shut_string)
theorem rootOrder_lifted (os : Os) (started : os.Started) (H : Type) (enc : TypeId × Value → H) :
   ReturnsInHanded {} Tryz.checked os 8 .any (fun w args => (Rows.rootOrderSpec.pre enc Tryz.prog Tryz.f8 [] false w args ∧ laidMetH Tryz.prog laid6 w) ∧ sizedMet enc Tryz.prog Tryz.f8 (OpenSpec.ofChange Rows.rootOrderSpec) false w args)
     (Rows.rootOrderSpec.post enc Tryz.prog Tryz.f8 false true false false) := by
 refine returnsInHanded_of_change_and (C := Tryz.checked) (X := fun w _ => laidMetH Tryz.prog laid6 w) (fun _ _ _ hh h => h.of_heap hh) own started (by kernel_rfl) Tryz.func8
   (ChangeSpec.witness_shaped (enc := enc) (C := Tryz.checked) (os := os) (X := fun w _ => laidMetH Tryz.prog laid6 w) false (World.doorLaid Tryz.prog 400 os) #[.string ⟨#[]⟩, .string ⟨#[]⟩, .string ⟨#[]⟩, .string ⟨#[]⟩, .string ⟨#[]⟩] 8 rfl (World.shaped_of_RefB (by kernel_rfl) (by kernel_rfl)) (by kernel_rfl) (by kernel_rfl) (by kernel_rfl) (door_met6 os _)) ?_
 intro W base args ds gs before hval0 hW _ _ hL _
 have hval : ∀ (j : Nat) t v, Tryz.f8.params[j]? = some t → args[j]? = some v → Value.okWide Tryz.prog W .any base t v := hval0
 have hW' := hW
 obtain ⟨p, q, hA0, hV, rfl, hfz, hnd⟩ := hW
 have hA : DataW.TrodAll enc Tryz.prog W 0 (fun _ => true) true Tryz.f8.params.toList args.toList ds p := hA0
 rw [Tryz.params8] at hA hval
 obtain ⟨v0, v1, v2, v3, v4, d0, d1, d2, d3, d4, p0, p1, p2, p3, p4, rfl, rfl, rfl, h0, h1, h2, h3, h4⟩ := trodAll_five hA
 obtain ⟨rfl, rfl⟩ := trodVars_none hV
 obtain ⟨s0, rfl, rfl, rfl, z0⟩ := open_string Tryz.underlying22 (hval 0 22 v0 rfl rfl) h0
 obtain ⟨s1, rfl, rfl, rfl, z1⟩ := open_string Tryz.underlying22 (hval 1 22 v1 rfl rfl) h1
 obtain ⟨s2, rfl, rfl, rfl, z2⟩ := open_string Tryz.underlying22 (hval 2 22 v2 rfl rfl) h2
 obtain ⟨s3, rfl, rfl, rfl, z3⟩ := open_string Tryz.underlying22 (hval 3 22 v3 rfl rfl) h3
 obtain ⟨s4, rfl, rfl, rfl, z4⟩ := open_string Tryz.underlying22 (hval 4 22 v4 rfl rfl) h4
 clear hA0 hval0
 refine (T.RootOrder_any s0 s1 s2 s3 s4 W z0 z1 z2 z3 z4 (tab_of_laid6 hL) (tab64_of_laid6 hL) (sm_of_laid6 hL)).mono fun e W' ⟨he, bel⟩ => ?_
 subst he
 exact ⟨_, rfl, _, _, _, [], _, [], hW', trodAll_mk1 (shut_bool Tryz.underlying4 _), trodAll_mk5 (shut_string Tryz.underlying22 z0) (shut_string Tryz.underlying22 z1) (shut_string Tryz.underlying22 z2) (shut_string Tryz.underlying22 z3) (shut_string Tryz.underlying22 z4), rfl, bel.frame _, fun h => by cases h⟩
theorem rootOrder_over : Rows.RootOrderSaid :=
 OpenClaim.holds_of_wide 8 Tryz.f8 rfl rfl rfl rfl rfl rfl rfl ⟨rfl, rfl, rfl, rfl, rfl⟩ rfl rfl rfl rfl rfl (by kernel_rfl) Tryz.func8 (by kernel_rfl)
   (of_decide_eq_true (by kernel_rfl)) (by unfold Func.isWrapper; first | (rw [if_pos (by decide +kernel)]; kernel_rfl) | (rw [if_neg (by decide +kernel)]; exact ⟨rfl, rfl⟩))
   (fun os started H enc _ => rootOrder_lifted os started H enc)
theorem rootOrder_proved : Rows.RootOrderCardSaid :=
 Claim7.holds_tied_plain_at .later [] [.data, .data, .data, .sentinel, .sentinel, .data] true (true, "477daa6511aaf31152395c26efccf802b736fe312da423bb0da5dc3f3af3bdf5") true
   rootOrder_over (fun _ h => by cases h) (by kernel_rfl) (fun _ h => by cases h) rootOrder_row_tie rfl ⟨rfl, rfl⟩ (by kernel_rfl) rfl
   (fun f fn hf hfn => by
     obtain rfl : f = 8 := Option.some.inj ((show Tryz.prog.funcNamed "kingpost/kingpostlaw03.RootOrder" = some 8 by kernel_rfl).symm.trans hf) |>.symm
     obtain rfl : fn = Tryz.f8 := (Option.some.inj (Tryz.func8.symm.trans hfn)).symm
     exact ⟨by kernel_rfl, fun j t ht => by
       rw [Tryz.params8] at ht
       have hm : t ∈ [22, 22, 22, 22, 22] := by simpa using Array.mem_of_getElem? ht
       have hall : ([22, 22, 22, 22, 22].all fun u => !Tryz.prog.wantsStandIn u) = true := by kernel_rfl
       exact (show Tryz.prog.wantsStandIn t = false by simpa using List.all_eq_true.1 hall t hm)⟩)
   (by kernel_rfl)
#print axioms rootOrder_proved
end Go.Proofs.YtilggfeodhfjfaaGreatDoor
