/- Part of the proof of the card of SurdSigns. -/
import Derived.Test.YtpkloolckbhdaaaGreatDoorQTSA1
set_option linter.all false
set_option maxRecDepth 100000
set_option maxHeartbeats 8000000
namespace Go.Proofs.YtpkloolckbhdaaaGreatDoor
open Go.ChangeShapes Go.WideShapes Go.ChangeAt Go.RowKit
open Go.ChangeMaps (open_string shut_string)
theorem surdSigns_inPlace:(Rows.surdSignsRow.inPlace==Tryz.pinned.checked.prog.inPlace 6)=true:=by kernel_rfl
theorem surdSigns_unfollowed:(Rows.surdSignsRow.unfollowed==Tryz.pinned.checked.prog.unfollowed 6)=true:=by kernel_rfl
end Go.Proofs.YtpkloolckbhdaaaGreatDoor
