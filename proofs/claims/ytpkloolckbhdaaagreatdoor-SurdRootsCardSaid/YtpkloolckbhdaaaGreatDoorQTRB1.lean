/- Part of the proof of the card of SurdRoots. -/
import Derived.Test.YtpkloolckbhdaaaGreatDoorQTRI1
import Derived.Test.YtpkloolckbhdaaaGreatDoorQTRJ1
set_option linter.all false
set_option maxRecDepth 100000
set_option maxHeartbeats 8000000
namespace Go.Proofs.YtpkloolckbhdaaaGreatDoor
open Go.ChangeShapes Go.WideShapes Go.ChangeAt Go.RowKit
open Go.ChangeMaps (open_string shut_string)
theorem surdRoots_over:Rows.SurdRootsSaid :=
 OpenClaim.holds_of_wide 7 Tryz.f7 rfl rfl rfl rfl rfl rfl rfl ⟨rfl,rfl,rfl,rfl,rfl⟩ rfl rfl rfl rfl rfl (by kernel_rfl) Tryz.func7 (by unfold joinedFacts;rw [surdRoots_inPlace,surdRoots_unfollowed,surdRoots_recurses,surdRoots_named];kernel_rfl)
  (of_decide_eq_true (by kernel_rfl)) (by unfold Func.isWrapper;first | (rw [if_pos (by decide+kernel)];kernel_rfl) | (rw [if_neg (by decide+kernel)];exact ⟨rfl,rfl⟩))
  (fun os started H enc _=>surdRoots_lifted os started H enc)
end Go.Proofs.YtpkloolckbhdaaaGreatDoor
