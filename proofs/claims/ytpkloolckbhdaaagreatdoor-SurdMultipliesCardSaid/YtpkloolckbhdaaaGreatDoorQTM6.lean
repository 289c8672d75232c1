/- Proved here: products do not depend on their order in value, and are distributive over sums. The law SurdMultiplies returns true for every input, and its arguments read behind the call as before. Conditions: the row's own, the listed tables hold their numbers. -/
import Derived.Test.YtpkloolckbhdaaaGreatDoorQT1
import Derived.Test.YtpkloolckbhdaaaGreatDoorQT38
import Derived.Test.YtpkloolckbhdaaaGreatDoorQTM5
set_option linter.all false
set_option maxRecDepth 100000
set_option maxHeartbeats 8000000
namespace Go.Proofs.YtpkloolckbhdaaaGreatDoor
open Go.ChangeShapes Go.WideShapes Go.ChangeAt Go.RowKit
open Go.ChangeMaps (open_string shut_string)
theorem surdMultiplies_proved:Rows.SurdMultipliesCardSaid :=
 Claim7.holds_tied_plain_at .later [] [.data,.data,.data,.sentinel,.sentinel,.data] true (true, "d44ad0eecf014e02e281facb152d72f57c4b9598127c4aae3f573de21d0b3fb3") true
  surdMultiplies_over (fun _ h=>by cases h) (by kernel_rfl) (fun _ h=>by cases h) surdMultiplies_row_tie rfl ⟨rfl,rfl⟩ (by kernel_rfl) rfl
  (fun f fn hf hfn=>by
   obtain rfl:f=5:=Option.some.inj ((show Tryz.prog.funcNamed "kingpost/kingpostlaw04.SurdMultiplies" = some 5 by kernel_rfl).symm.trans hf) |>.symm
   obtain rfl:fn=Tryz.f5:=(Option.some.inj (Tryz.func5.symm.trans hfn)).symm
   exact ⟨by kernel_rfl,fun j t ht=>by
    rw [Tryz.params5] at ht
    have hm:t ∈ [39,39,39]:=by simpa using Array.mem_of_getElem? ht
    have hall:([39,39,39].all fun u => !Tryz.prog.wantsStandIn u)=true:=by kernel_rfl
    exact (show Tryz.prog.wantsStandIn t=false by simpa using List.all_eq_true.1 hall t hm)⟩)
  (by kernel_rfl)
#print axioms surdMultiplies_proved
end Go.Proofs.YtpkloolckbhdaaaGreatDoor
