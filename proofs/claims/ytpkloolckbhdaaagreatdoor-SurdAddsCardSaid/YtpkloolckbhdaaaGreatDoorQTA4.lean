/- Parts of the proof of the text YtpkloolckbhdaaaGreatDoorQTA6. -/
import Derived.Test.YtpkloolckbhdaaaGreatDoorQT1
import Derived.Test.YtpkloolckbhdaaaGreatDoorQT38
import Derived.Test.YtpkloolckbhdaaaGreatDoorQTA2
set_option linter.all false
set_option maxRecDepth 100000
set_option maxHeartbeats 8000000
namespace Go.Proofs.YtpkloolckbhdaaaGreatDoor
open Go.ChangeShapes Go.WideShapes Go.ChangeAt Go.RowKit
open Go.ChangeMaps (open_string shut_string)
theorem surdAdds_recurses:(Rows.surdAddsRow.recurses==Tryz.pinned.checked.prog.recurses 4)=true:=by kernel_rfl
theorem surdAdds_named:(Rows.surdAddsRow.named==Tryz.pinned.checked.prog.varsNamed 4)=true:=by kernel_rfl
end Go.Proofs.YtpkloolckbhdaaaGreatDoor
