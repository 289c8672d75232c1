/- Proved here: Normal, Exact and Ratio return the results of the reference implementation for any strings of the examined lengths. The law RootForms returns true for every input, and its arguments read behind the call as before. Conditions: the row's own, the listed tables hold their numbers. -/
import Derived.Test.YtjdomibbaemdnaaGreatDoorZK1
import Derived.Test.YtjdomibbaemdnaaGreatDoorZKD1
import Derived.Test.YtjdomibbaemdnaaGreatDoorZKD3
set_option linter.all false
set_option maxRecDepth 100000
set_option maxHeartbeats 8000000
namespace Go.Proofs.YtjdomibbaemdnaaGreatDoor
open Go.ChangeShapes Go.WideShapes Go.ChangeAt Go.RowKit
open Go.ChangeMaps (open_string shut_string)
theorem rootForms_proved:Rows.RootFormsCardSaid := n8q T.RootForms_any
#print axioms rootForms_proved
end Go.Proofs.YtjdomibbaemdnaaGreatDoor
