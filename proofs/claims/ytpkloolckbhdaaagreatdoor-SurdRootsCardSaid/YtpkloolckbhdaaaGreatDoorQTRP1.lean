/- Proved here: the product of a root with itself is the number under the root; roots are in the order of these numbers. The law SurdRoots returns true for every input, and its arguments read behind the call as before. Conditions: the row's own, the listed tables hold their numbers. -/
import Derived.Test.YtpkloolckbhdaaaGreatDoorQTRB1
set_option linter.all false
set_option maxRecDepth 100000
set_option maxHeartbeats 8000000
namespace Go.Proofs.YtpkloolckbhdaaaGreatDoor
open Go.ChangeShapes Go.WideShapes Go.ChangeAt Go.RowKit
open Go.ChangeMaps (open_string shut_string)
theorem surdRoots_proved:Rows.SurdRootsCardSaid :=
 Claim7.holds_tied_plain_at .later [] [.data,.data,.data,.sentinel,.sentinel,.data] true (true, "d44ad0eecf014e02e281facb152d72f57c4b9598127c4aae3f573de21d0b3fb3") true
  surdRoots_over (fun _ h=>by cases h) (by kernel_rfl) (fun _ h=>by cases h) surdRoots_row_tie rfl ⟨rfl,rfl⟩ (by kernel_rfl) rfl
  (fun f fn hf hfn=>by
   obtain rfl:f=7:=Option.some.inj ((show Tryz.prog.funcNamed "kingpost/kingpostlaw04.SurdRoots" = some 7 by kernel_rfl).symm.trans hf) |>.symm
   obtain rfl:fn=Tryz.f7:=(Option.some.inj (Tryz.func7.symm.trans hfn)).symm
   exact ⟨by kernel_rfl,fun j t ht=>by
    rw [Tryz.params7] at ht
    have hm:t ∈ [50,50,5,5]:=by simpa using Array.mem_of_getElem? ht
    have hall:([50,50,5,5].all fun u => !Tryz.prog.wantsStandIn u)=true:=by kernel_rfl
    exact (show Tryz.prog.wantsStandIn t=false by simpa using List.all_eq_true.1 hall t hm)⟩)
  (by kernel_rfl)
#print axioms surdRoots_proved
end Go.Proofs.YtpkloolckbhdaaaGreatDoor
