/- Proved here: rational numbers are an ordered field: sums and products are commutative and associative, products distribute over sums, dividing undoes multiplying, adding, or multiplying by a number, keeps the order as it should; numerator and denominator have no common divisor. The law TopField returns true for every input, and its arguments read behind the call as before. Conditions: the row's own, the listed tables hold their numbers. -/
import Derived.Test.YtbhbhlfkdlfimaaGreatDoorQXF6
set_option linter.all false
set_option maxRecDepth 100000
set_option maxHeartbeats 8000000
namespace Go.Proofs.YtbhbhlfkdlfimaaGreatDoor
open Go.ChangeShapes Go.WideShapes Go.ChangeAt Go.RowKit
open Go.ChangeMaps (open_string shut_string)
theorem topField_proved:Rows.TopFieldCardSaid :=
 Claim7.holds_tied_plain_at .later [] [.data,.data,.data,.sentinel,.sentinel,.data] true (true, "7966f29a691ba3c21494971c9235202f21578230fb9935cd65dfcc4f63727a89") true
  qI (fun _ h=>by cases h) (by kernel_rfl) (fun _ h=>by cases h) topField_row_tie rfl ⟨rfl,rfl⟩ (by kernel_rfl) rfl
  (fun f fn hf hfn=>by
   obtain rfl:f=4:=Option.some.inj ((show Tryz.prog.funcNamed "kingpost/kingposttop.TopField" = some 4 by kernel_rfl).symm.trans hf) |>.symm
   obtain rfl:fn=Tryz.f4:=(Option.some.inj (Tryz.func4.symm.trans hfn)).symm
   exact ⟨by kernel_rfl,fun j t ht=>by
    rw [Tryz.params4] at ht
    have hm:t ∈ [30,30,30]:=by simpa using Array.mem_of_getElem? ht
    have hall:([30,30,30].all fun u => !Tryz.prog.wantsStandIn u)=true:=by kernel_rfl
    exact (show Tryz.prog.wantsStandIn t=false by simpa using List.all_eq_true.1 hall t hm)⟩)
  (by kernel_rfl)
#print axioms topField_proved
end Go.Proofs.YtbhbhlfkdlfimaaGreatDoor
