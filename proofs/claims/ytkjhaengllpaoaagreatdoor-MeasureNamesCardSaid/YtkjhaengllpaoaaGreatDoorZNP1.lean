/- Proved here: names are words of letters and digits; two names, one after the other, are a name, if it is not too long. The law MeasureNames returns true for every input, and its arguments read behind the call as before. Conditions: the row's own, the listed tables hold their numbers. -/
import Derived.Test.YtkjhaengllpaoaaGreatDoorZB1
import Derived.Test.YtkjhaengllpaoaaGreatDoorZB10
import Derived.Test.YtkjhaengllpaoaaGreatDoorZB11
import Derived.Test.YtkjhaengllpaoaaGreatDoorZB12
import Derived.Test.YtkjhaengllpaoaaGreatDoorZB13
import Derived.Test.YtkjhaengllpaoaaGreatDoorZB14
import Derived.Test.YtkjhaengllpaoaaGreatDoorZB15
import Derived.Test.YtkjhaengllpaoaaGreatDoorZB16
import Derived.Test.YtkjhaengllpaoaaGreatDoorZB17
import Derived.Test.YtkjhaengllpaoaaGreatDoorZB18
import Derived.Test.YtkjhaengllpaoaaGreatDoorZB19
import Derived.Test.YtkjhaengllpaoaaGreatDoorZB2
import Derived.Test.YtkjhaengllpaoaaGreatDoorZB20
import Derived.Test.YtkjhaengllpaoaaGreatDoorZB21
import Derived.Test.YtkjhaengllpaoaaGreatDoorZB22
import Derived.Test.YtkjhaengllpaoaaGreatDoorZB23
import Derived.Test.YtkjhaengllpaoaaGreatDoorZB24
import Derived.Test.YtkjhaengllpaoaaGreatDoorZB25
import Derived.Test.YtkjhaengllpaoaaGreatDoorZB26
import Derived.Test.YtkjhaengllpaoaaGreatDoorZB3
import Derived.Test.YtkjhaengllpaoaaGreatDoorZB4
import Derived.Test.YtkjhaengllpaoaaGreatDoorZB5
import Derived.Test.YtkjhaengllpaoaaGreatDoorZB6
import Derived.Test.YtkjhaengllpaoaaGreatDoorZB7
import Derived.Test.YtkjhaengllpaoaaGreatDoorZB8
import Derived.Test.YtkjhaengllpaoaaGreatDoorZB9
import Derived.Test.YtkjhaengllpaoaaGreatDoorZN1
import Derived.Test.YtkjhaengllpaoaaGreatDoorZN2
import Derived.Test.YtkjhaengllpaoaaGreatDoorZN3
set_option linter.all false
set_option maxRecDepth 100000
set_option maxHeartbeats 8000000
namespace Go.Proofs.YtkjhaengllpaoaaGreatDoor
open Go.ChangeShapes Go.WideShapes Go.ChangeAt Go.RowKit
open Go.ChangeMaps (open_string shut_string)
theorem measureNames_lifted (os : Os) (started : os.Started) (H : Type) (enc : TypeId × Value → H) :
   ReturnsInHanded {} Tryz.checked os 8 .any (fun w args => (Rows.measureNamesSpec.pre enc Tryz.prog Tryz.f8 [] false w args ∧ laidMetH Tryz.prog T.laid8 w) ∧ sizedMet enc Tryz.prog Tryz.f8 (OpenSpec.ofChange Rows.measureNamesSpec) false w args)
     (Rows.measureNamesSpec.post enc Tryz.prog Tryz.f8 false true false false) := by
 refine returnsInHanded_of_change_and (C := Tryz.checked) (X := fun w _ => laidMetH Tryz.prog T.laid8 w) (fun _ _ _ hh h => h.of_heap hh) own started (by kernel_rfl) Tryz.func8
   (ChangeSpec.witness_shaped (enc := enc) (C := Tryz.checked) (os := os) (X := fun w _ => laidMetH Tryz.prog T.laid8 w) false (World.laidAll Tryz.prog os T.laid8) #[.string ⟨#[]⟩, .string ⟨#[]⟩] 8 (World.laidAll_os _ _ _) (World.shaped_of_ZipB (by kernel_rfl) (by kernel_rfl)) (by kernel_rfl) (by kernel_rfl) (by kernel_rfl) (T.door_met8 os _)) ?_
 intro W base args ds gs before hval0 hW _ _ hL _
 have hval : ∀ (j : Nat) t v, Tryz.f8.params[j]? = some t → args[j]? = some v → Value.okWide Tryz.prog W .any base t v := hval0
 have hW' := hW
 obtain ⟨p, q, hA0, hV, rfl, hfz, hnd⟩ := hW
 have hA : DataW.TrodAll enc Tryz.prog W 0 (fun _ => true) true Tryz.f8.params.toList args.toList ds p := hA0
 rw [Tryz.params8] at hA hval
 obtain ⟨v0, v1, d0, d1, p0, p1, rfl, rfl, rfl, h0, h1⟩ := trodAll_two hA
 obtain ⟨rfl, rfl⟩ := trodVars_none hV
 obtain ⟨s0, rfl, rfl, rfl, z0⟩ := open_string Tryz.underlying9 (hval 0 9 v0 rfl rfl) h0
 obtain ⟨s1, rfl, rfl, rfl, z1⟩ := open_string Tryz.underlying9 (hval 1 9 v1 rfl rfl) h1
 clear hA0 hval0
 refine (T.MeasureNames_any s0 s1 W z0 z1 (T.tabM_of8 hL)).mono fun e W' ⟨he, bel⟩ => ?_
 subst he
 exact ⟨_, rfl, _, _, _, [], _, [], hW', trodAll_mk1 (shut_bool Tryz.underlying4 _), trodAll_mk2 (shut_string Tryz.underlying9 z0) (shut_string Tryz.underlying9 z1), rfl, bel.frame _, fun h => by cases h⟩
theorem measureNames_over : Rows.MeasureNamesSaid :=
 OpenClaim.holds_of_wide 8 Tryz.f8 rfl rfl rfl rfl rfl rfl rfl ⟨rfl, rfl, rfl, rfl, rfl⟩ rfl rfl rfl rfl rfl (by kernel_rfl) Tryz.func8 (by kernel_rfl)
   (of_decide_eq_true (by kernel_rfl)) (by unfold Func.isWrapper; first | (rw [if_pos (by decide +kernel)]; kernel_rfl) | (rw [if_neg (by decide +kernel)]; exact ⟨rfl, rfl⟩))
   (fun os started H enc _ => measureNames_lifted os started H enc)
theorem measureNames_proved : Rows.MeasureNamesCardSaid :=
 Claim7.holds_tied_plain_at .later [] [.data, .data, .data, .data, .pinned, .pinned] true (true, "e83237fe1d32a67e69489fa5d428e91fcbefff28134093e16c4167d40775b22a") false
   measureNames_over (fun _ h => by cases h) (by kernel_rfl) (fun _ h => by cases h) measureNames_row_tie rfl ⟨rfl, rfl⟩ (by kernel_rfl) rfl
   (fun f fn hf hfn => by
     obtain rfl : f = 8 := Option.some.inj ((show Tryz.prog.funcNamed "kingpost/kingpostlaw07.MeasureNames" = some 8 by kernel_rfl).symm.trans hf) |>.symm
     obtain rfl : fn = Tryz.f8 := (Option.some.inj (Tryz.func8.symm.trans hfn)).symm
     exact ⟨by kernel_rfl, fun j t ht => by
       rw [Tryz.params8] at ht
       have hm : t ∈ [9, 9] := by simpa using Array.mem_of_getElem? ht
       have hall : ([9, 9].all fun u => !Tryz.prog.wantsStandIn u) = true := by kernel_rfl
       exact (show Tryz.prog.wantsStandIn t = false by simpa using List.all_eq_true.1 hall t hm)⟩)
   (by kernel_rfl)
#print axioms measureNames_proved
end Go.Proofs.YtkjhaengllpaoaaGreatDoor
