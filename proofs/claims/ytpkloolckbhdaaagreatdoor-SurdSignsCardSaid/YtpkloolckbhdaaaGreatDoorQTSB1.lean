/- Part of the proof of the card of SurdSigns. -/
import Derived.Test.YtpkloolckbhdaaaGreatDoorQTSI1
import Derived.Test.YtpkloolckbhdaaaGreatDoorQTSJ1
set_option linter.all false
set_option maxRecDepth 100000
set_option maxHeartbeats 8000000
namespace Go.Proofs.YtpkloolckbhdaaaGreatDoor
open Go.ChangeShapes Go.WideShapes Go.ChangeAt Go.RowKit
open Go.ChangeMaps (open_string shut_string)
theorem surdSigns_over:Rows.SurdSignsSaid :=
 OpenClaim.holds_of_wide 6 Tryz.f6 rfl rfl rfl rfl rfl rfl rfl ⟨rfl,rfl,rfl,rfl,rfl⟩ rfl rfl rfl rfl rfl (by kernel_rfl) Tryz.func6 (by unfold joinedFacts;rw [surdSigns_inPlace,surdSigns_unfollowed,surdSigns_recurses,surdSigns_named];kernel_rfl)
  (of_decide_eq_true (by kernel_rfl)) (by unfold Func.isWrapper;first | (rw [if_pos (by decide+kernel)];kernel_rfl) | (rw [if_neg (by decide+kernel)];exact ⟨rfl,rfl⟩))
  (fun os started H enc _=>surdSigns_lifted os started H enc)
end Go.Proofs.YtpkloolckbhdaaaGreatDoor
