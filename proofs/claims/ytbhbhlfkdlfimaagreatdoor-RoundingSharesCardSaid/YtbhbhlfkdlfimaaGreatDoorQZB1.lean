/- Part of the proof of the card of RoundingShares. -/
import Derived.Test.YtbhbhlfkdlfimaaGreatDoorQX1
import Derived.Test.YtbhbhlfkdlfimaaGreatDoorQX10
import Derived.Test.YtbhbhlfkdlfimaaGreatDoorQX11
import Derived.Test.YtbhbhlfkdlfimaaGreatDoorQX12
import Derived.Test.YtbhbhlfkdlfimaaGreatDoorQX13
import Derived.Test.YtbhbhlfkdlfimaaGreatDoorQX14
import Derived.Test.YtbhbhlfkdlfimaaGreatDoorQX15
import Derived.Test.YtbhbhlfkdlfimaaGreatDoorQX16
import Derived.Test.YtbhbhlfkdlfimaaGreatDoorQX17
import Derived.Test.YtbhbhlfkdlfimaaGreatDoorQX18
import Derived.Test.YtbhbhlfkdlfimaaGreatDoorQX19
import Derived.Test.YtbhbhlfkdlfimaaGreatDoorQX2
import Derived.Test.YtbhbhlfkdlfimaaGreatDoorQX20
import Derived.Test.YtbhbhlfkdlfimaaGreatDoorQX21
import Derived.Test.YtbhbhlfkdlfimaaGreatDoorQX22
import Derived.Test.YtbhbhlfkdlfimaaGreatDoorQX23
import Derived.Test.YtbhbhlfkdlfimaaGreatDoorQX24
import Derived.Test.YtbhbhlfkdlfimaaGreatDoorQX25
import Derived.Test.YtbhbhlfkdlfimaaGreatDoorQY1
import Derived.Test.YtbhbhlfkdlfimaaGreatDoorQY2
import Derived.Test.YtbhbhlfkdlfimaaGreatDoorQY3
import Derived.Test.YtbhbhlfkdlfimaaGreatDoorQYF1
import Derived.Test.YtbhbhlfkdlfimaaGreatDoorQX3
import Derived.Test.YtbhbhlfkdlfimaaGreatDoorQX4
import Derived.Test.YtbhbhlfkdlfimaaGreatDoorQX5
import Derived.Test.YtbhbhlfkdlfimaaGreatDoorQX6
import Derived.Test.YtbhbhlfkdlfimaaGreatDoorQX7
import Derived.Test.YtbhbhlfkdlfimaaGreatDoorQX8
import Derived.Test.YtbhbhlfkdlfimaaGreatDoorQX9
import Derived.Test.YtbhbhlfkdlfimaaGreatDoorQZ1
import Derived.Test.YtbhbhlfkdlfimaaGreatDoorQZA1
import Derived.Test.YtbhbhlfkdlfimaaGreatDoorQZI1
import Derived.Test.YtbhbhlfkdlfimaaGreatDoorQZJ1
set_option linter.all false
set_option maxRecDepth 100000
set_option maxHeartbeats 8000000
namespace Go.Proofs.YtbhbhlfkdlfimaaGreatDoor
open Go.ChangeShapes Go.WideShapes Go.ChangeAt Go.RowKit
open Go.ChangeMaps (open_string shut_string)
theorem Is:Rows.RoundingSharesSaid :=
 OpenClaim.holds_of_wide 3 Tryz.f3 rfl rfl rfl rfl rfl rfl rfl ⟨rfl,rfl,rfl,rfl,rfl⟩ rfl rfl rfl rfl rfl (by kernel_rfl) Tryz.func3 (by unfold joinedFacts;rw [Ip,Im,Io,Ir];kernel_rfl)
  (of_decide_eq_true (by kernel_rfl)) (by unfold Func.isWrapper;first | (rw [if_pos (by decide+kernel)];kernel_rfl) | (rw [if_neg (by decide+kernel)];exact ⟨rfl,rfl⟩))
  (fun os started H enc _=>Iq os started H enc)
end Go.Proofs.YtbhbhlfkdlfimaaGreatDoor
