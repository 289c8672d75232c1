/- Parts of the proof. -/
import Derived.Test.YtbhbhlfkdlfimaaGreatDoorQXF3
set_option linter.all false
set_option maxRecDepth 100000
set_option maxHeartbeats 8000000
namespace Go.Proofs.YtbhbhlfkdlfimaaGreatDoor
open Go.ChangeShapes Go.WideShapes Go.ChangeAt Go.RowKit
open Go.ChangeMaps (open_string shut_string)
theorem lT:(Rows.topFieldRow.recurses==Tryz.pinned.checked.prog.recurses 4)=true:=by kernel_rfl
theorem qh:(Rows.topFieldRow.named==Tryz.pinned.checked.prog.varsNamed 4)=true:=by kernel_rfl
end Go.Proofs.YtbhbhlfkdlfimaaGreatDoor
