/- Proved here: the sign of a product is the product of the signs; the square of a surd that is not 0 is positive. The law SurdSigns returns true for every input, and its arguments read behind the call as before. Conditions: the row's own, the listed tables hold their numbers. -/
import Derived.Test.YtpkloolckbhdaaaGreatDoorQTSB1
set_option linter.all false
set_option maxRecDepth 100000
set_option maxHeartbeats 8000000
namespace Go.Proofs.YtpkloolckbhdaaaGreatDoor
open Go.ChangeShapes Go.WideShapes Go.ChangeAt Go.RowKit
open Go.ChangeMaps (open_string shut_string)
theorem surdSigns_proved:Rows.SurdSignsCardSaid :=
 Claim7.holds_tied_plain_at .later [] [.data,.data,.data,.sentinel,.sentinel,.data] true (true, "d44ad0eecf014e02e281facb152d72f57c4b9598127c4aae3f573de21d0b3fb3") true
  surdSigns_over (fun _ h=>by cases h) (by kernel_rfl) (fun _ h=>by cases h) surdSigns_row_tie rfl ⟨rfl,rfl⟩ (by kernel_rfl) rfl
  (fun f fn hf hfn=>by
   obtain rfl:f=6:=Option.some.inj ((show Tryz.prog.funcNamed "kingpost/kingpostlaw04.SurdSigns" = some 6 by kernel_rfl).symm.trans hf) |>.symm
   obtain rfl:fn=Tryz.f6:=(Option.some.inj (Tryz.func6.symm.trans hfn)).symm
   exact ⟨by kernel_rfl,fun j t ht=>by
    rw [Tryz.params6] at ht
    have hm:t ∈ [39,39]:=by simpa using Array.mem_of_getElem? ht
    have hall:([39,39].all fun u => !Tryz.prog.wantsStandIn u)=true:=by kernel_rfl
    exact (show Tryz.prog.wantsStandIn t=false by simpa using List.all_eq_true.1 hall t hm)⟩)
  (by kernel_rfl)
#print axioms surdSigns_proved
end Go.Proofs.YtpkloolckbhdaaaGreatDoor
