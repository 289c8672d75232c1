/- Proved here: shares add up to the total; none is a whole unit away from its exact share; a greater weight never gets less. The law RoundingShares returns true for every input, and its arguments read behind the call as before. Conditions: the row's own, the listed tables hold their numbers. -/
import Derived.Test.YtbhbhlfkdlfimaaGreatDoorQX1
import Derived.Test.YtbhbhlfkdlfimaaGreatDoorQX10
import Derived.Test.YtbhbhlfkdlfimaaGreatDoorQX11
import Derived.Test.YtbhbhlfkdlfimaaGreatDoorQX12
import Derived.Test.YtbhbhlfkdlfimaaGreatDoorQX13
import Derived.Test.YtbhbhlfkdlfimaaGreatDoorQX14
import Derived.Test.YtbhbhlfkdlfimaaGreatDoorQX15
import Derived.Test.YtbhbhlfkdlfimaaGreatDoorQX16
import Derived.Test.YtbhbhlfkdlfimaaGreatDoorQX17
import Derived.Test.YtbhbhlfkdlfimaaGreatDoorQX18
import Derived.Test.YtbhbhlfkdlfimaaGreatDoorQX19
import Derived.Test.YtbhbhlfkdlfimaaGreatDoorQX2
import Derived.Test.YtbhbhlfkdlfimaaGreatDoorQX20
import Derived.Test.YtbhbhlfkdlfimaaGreatDoorQX21
import Derived.Test.YtbhbhlfkdlfimaaGreatDoorQX22
import Derived.Test.YtbhbhlfkdlfimaaGreatDoorQX23
import Derived.Test.YtbhbhlfkdlfimaaGreatDoorQX24
import Derived.Test.YtbhbhlfkdlfimaaGreatDoorQX25
import Derived.Test.YtbhbhlfkdlfimaaGreatDoorQY1
import Derived.Test.YtbhbhlfkdlfimaaGreatDoorQY2
import Derived.Test.YtbhbhlfkdlfimaaGreatDoorQY3
import Derived.Test.YtbhbhlfkdlfimaaGreatDoorQYF1
import Derived.Test.YtbhbhlfkdlfimaaGreatDoorQX3
import Derived.Test.YtbhbhlfkdlfimaaGreatDoorQX4
import Derived.Test.YtbhbhlfkdlfimaaGreatDoorQX5
import Derived.Test.YtbhbhlfkdlfimaaGreatDoorQX6
import Derived.Test.YtbhbhlfkdlfimaaGreatDoorQX7
import Derived.Test.YtbhbhlfkdlfimaaGreatDoorQX8
import Derived.Test.YtbhbhlfkdlfimaaGreatDoorQX9
import Derived.Test.YtbhbhlfkdlfimaaGreatDoorQZ1
import Derived.Test.YtbhbhlfkdlfimaaGreatDoorQZA1
import Derived.Test.YtbhbhlfkdlfimaaGreatDoorQZB1
import Derived.Test.YtbhbhlfkdlfimaaGreatDoorQZI1
import Derived.Test.YtbhbhlfkdlfimaaGreatDoorQZJ1
set_option linter.all false
set_option maxRecDepth 100000
set_option maxHeartbeats 8000000
namespace Go.Proofs.YtbhbhlfkdlfimaaGreatDoor
open Go.ChangeShapes Go.WideShapes Go.ChangeAt Go.RowKit
open Go.ChangeMaps (open_string shut_string)
theorem roundingShares_proved:Rows.RoundingSharesCardSaid :=
 Claim7.holds_tied_plain_at .later [] [.data,.data,.data,.sentinel,.sentinel,.data] true (true, "7966f29a691ba3c21494971c9235202f21578230fb9935cd65dfcc4f63727a89") true
  Is (fun _ h=>by cases h) (by kernel_rfl) (fun _ h=>by cases h) roundingShares_row_tie rfl ⟨rfl,rfl⟩ (by kernel_rfl) rfl
  (fun f fn hf hfn=>by
   obtain rfl:f=3:=Option.some.inj ((show Tryz.prog.funcNamed "kingpost/kingpostlaw06.RoundingShares" = some 3 by kernel_rfl).symm.trans hf) |>.symm
   obtain rfl:fn=Tryz.f3:=(Option.some.inj (Tryz.func3.symm.trans hfn)).symm
   exact ⟨by kernel_rfl,fun j t ht=>by
    rw [Tryz.params3] at ht
    have hm:t ∈ [22,23]:=by simpa using Array.mem_of_getElem? ht
    have hall:([22,23].all fun u => !Tryz.prog.wantsStandIn u)=true:=by kernel_rfl
    exact (show Tryz.prog.wantsStandIn t=false by simpa using List.all_eq_true.1 hall t hm)⟩)
  (by kernel_rfl)
#print axioms roundingShares_proved
end Go.Proofs.YtbhbhlfkdlfimaaGreatDoor
