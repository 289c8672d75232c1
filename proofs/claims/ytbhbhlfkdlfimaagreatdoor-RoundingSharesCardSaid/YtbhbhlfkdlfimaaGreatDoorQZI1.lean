/- Part of the proof of the card of RoundingShares. -/
import Derived.Test.YtbhbhlfkdlfimaaGreatDoorQX1
import Derived.Test.YtbhbhlfkdlfimaaGreatDoorQX10
import Derived.Test.YtbhbhlfkdlfimaaGreatDoorQX11
import Derived.Test.YtbhbhlfkdlfimaaGreatDoorQX12
import Derived.Test.YtbhbhlfkdlfimaaGreatDoorQX13
import Derived.Test.YtbhbhlfkdlfimaaGreatDoorQX14
import Derived.Test.YtbhbhlfkdlfimaaGreatDoorQX15
import Derived.Test.YtbhbhlfkdlfimaaGreatDoorQX16
import Derived.Test.YtbhbhlfkdlfimaaGreatDoorQX17
import Derived.Test.YtbhbhlfkdlfimaaGreatDoorQX18
import Derived.Test.YtbhbhlfkdlfimaaGreatDoorQX19
import Derived.Test.YtbhbhlfkdlfimaaGreatDoorQX2
import Derived.Test.YtbhbhlfkdlfimaaGreatDoorQX20
import Derived.Test.YtbhbhlfkdlfimaaGreatDoorQX21
import Derived.Test.YtbhbhlfkdlfimaaGreatDoorQX22
import Derived.Test.YtbhbhlfkdlfimaaGreatDoorQX23
import Derived.Test.YtbhbhlfkdlfimaaGreatDoorQX24
import Derived.Test.YtbhbhlfkdlfimaaGreatDoorQX25
import Derived.Test.YtbhbhlfkdlfimaaGreatDoorQY1
import Derived.Test.YtbhbhlfkdlfimaaGreatDoorQY2
import Derived.Test.YtbhbhlfkdlfimaaGreatDoorQY3
import Derived.Test.YtbhbhlfkdlfimaaGreatDoorQYF1
import Derived.Test.YtbhbhlfkdlfimaaGreatDoorQX3
import Derived.Test.YtbhbhlfkdlfimaaGreatDoorQX4
import Derived.Test.YtbhbhlfkdlfimaaGreatDoorQX5
import Derived.Test.YtbhbhlfkdlfimaaGreatDoorQX6
import Derived.Test.YtbhbhlfkdlfimaaGreatDoorQX7
import Derived.Test.YtbhbhlfkdlfimaaGreatDoorQX8
import Derived.Test.YtbhbhlfkdlfimaaGreatDoorQX9
import Derived.Test.YtbhbhlfkdlfimaaGreatDoorQZ1
import Derived.Test.YtbhbhlfkdlfimaaGreatDoorQZA1
set_option linter.all false
set_option maxRecDepth 100000
set_option maxHeartbeats 8000000
namespace Go.Proofs.YtbhbhlfkdlfimaaGreatDoor
open Go.ChangeShapes Go.WideShapes Go.ChangeAt Go.RowKit
open Go.ChangeMaps (open_string shut_string)
theorem Ip:(Rows.roundingSharesRow.inPlace==Tryz.pinned.checked.prog.inPlace 3)=true:=by kernel_rfl
theorem Im:(Rows.roundingSharesRow.unfollowed==Tryz.pinned.checked.prog.unfollowed 3)=true:=by kernel_rfl
end Go.Proofs.YtbhbhlfkdlfimaaGreatDoor
