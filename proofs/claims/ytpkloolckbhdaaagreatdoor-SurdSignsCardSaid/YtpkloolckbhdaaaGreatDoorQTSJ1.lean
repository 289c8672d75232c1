/- Part of the proof of the card of SurdSigns. -/
import Derived.Test.YtpkloolckbhdaaaGreatDoorQTSA1
set_option linter.all false
set_option maxRecDepth 100000
set_option maxHeartbeats 8000000
namespace Go.Proofs.YtpkloolckbhdaaaGreatDoor
open Go.ChangeShapes Go.WideShapes Go.ChangeAt Go.RowKit
open Go.ChangeMaps (open_string shut_string)
theorem surdSigns_recurses:(Rows.surdSignsRow.recurses==Tryz.pinned.checked.prog.recurses 6)=true:=by kernel_rfl
theorem surdSigns_named:(Rows.surdSignsRow.named==Tryz.pinned.checked.prog.varsNamed 6)=true:=by kernel_rfl
end Go.Proofs.YtpkloolckbhdaaaGreatDoor
