/- Part of the proof of the card of SurdRoots. -/
import Derived.Test.YtpkloolckbhdaaaGreatDoorQTRA1
set_option linter.all false
set_option maxRecDepth 100000
set_option maxHeartbeats 8000000
namespace Go.Proofs.YtpkloolckbhdaaaGreatDoor
open Go.ChangeShapes Go.WideShapes Go.ChangeAt Go.RowKit
open Go.ChangeMaps (open_string shut_string)
theorem surdRoots_recurses:(Rows.surdRootsRow.recurses==Tryz.pinned.checked.prog.recurses 7)=true:=by kernel_rfl
theorem surdRoots_named:(Rows.surdRootsRow.named==Tryz.pinned.checked.prog.varsNamed 7)=true:=by kernel_rfl
end Go.Proofs.YtpkloolckbhdaaaGreatDoor
