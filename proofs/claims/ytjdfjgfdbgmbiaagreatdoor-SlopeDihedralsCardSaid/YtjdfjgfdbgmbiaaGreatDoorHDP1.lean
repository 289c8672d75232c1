/- Proved here: the cosine of the normals times both factors is 1. The law SlopeDihedrals returns true for every input, and its arguments read behind the call as before. Conditions: the row's own, the listed tables hold their numbers. -/
import Derived.Test.YtjdfjgfdbgmbiaaGreatDoorHB1
import Derived.Test.YtjdfjgfdbgmbiaaGreatDoorHB10
import Derived.Test.YtjdfjgfdbgmbiaaGreatDoorHB11
import Derived.Test.YtjdfjgfdbgmbiaaGreatDoorHB12
import Derived.Test.YtjdfjgfdbgmbiaaGreatDoorHB13
import Derived.Test.YtjdfjgfdbgmbiaaGreatDoorHB14
import Derived.Test.YtjdfjgfdbgmbiaaGreatDoorHB15
import Derived.Test.YtjdfjgfdbgmbiaaGreatDoorHB16
import Derived.Test.YtjdfjgfdbgmbiaaGreatDoorHB17
import Derived.Test.YtjdfjgfdbgmbiaaGreatDoorHB18
import Derived.Test.YtjdfjgfdbgmbiaaGreatDoorHB19
import Derived.Test.YtjdfjgfdbgmbiaaGreatDoorHB2
import Derived.Test.YtjdfjgfdbgmbiaaGreatDoorHB20
import Derived.Test.YtjdfjgfdbgmbiaaGreatDoorHB21
import Derived.Test.YtjdfjgfdbgmbiaaGreatDoorHB22
import Derived.Test.YtjdfjgfdbgmbiaaGreatDoorHB23
import Derived.Test.YtjdfjgfdbgmbiaaGreatDoorHB24
import Derived.Test.YtjdfjgfdbgmbiaaGreatDoorHB25
import Derived.Test.YtjdfjgfdbgmbiaaGreatDoorHB26
import Derived.Test.YtjdfjgfdbgmbiaaGreatDoorHB27
import Derived.Test.YtjdfjgfdbgmbiaaGreatDoorHB28
import Derived.Test.YtjdfjgfdbgmbiaaGreatDoorHB29
import Derived.Test.YtjdfjgfdbgmbiaaGreatDoorHB3
import Derived.Test.YtjdfjgfdbgmbiaaGreatDoorHB30
import Derived.Test.YtjdfjgfdbgmbiaaGreatDoorHB31
import Derived.Test.YtjdfjgfdbgmbiaaGreatDoorHB32
import Derived.Test.YtjdfjgfdbgmbiaaGreatDoorHB33
import Derived.Test.YtjdfjgfdbgmbiaaGreatDoorHB34
import Derived.Test.YtjdfjgfdbgmbiaaGreatDoorHB35
import Derived.Test.YtjdfjgfdbgmbiaaGreatDoorHB36
import Derived.Test.YtjdfjgfdbgmbiaaGreatDoorHB37
import Derived.Test.YtjdfjgfdbgmbiaaGreatDoorHB38
import Derived.Test.YtjdfjgfdbgmbiaaGreatDoorHB39
import Derived.Test.YtjdfjgfdbgmbiaaGreatDoorHB4
import Derived.Test.YtjdfjgfdbgmbiaaGreatDoorHB5
import Derived.Test.YtjdfjgfdbgmbiaaGreatDoorHB6
import Derived.Test.YtjdfjgfdbgmbiaaGreatDoorHB7
import Derived.Test.YtjdfjgfdbgmbiaaGreatDoorHB8
import Derived.Test.YtjdfjgfdbgmbiaaGreatDoorHB9
import Derived.Test.YtjdfjgfdbgmbiaaGreatDoorHD1
import Derived.Test.YtjdfjgfdbgmbiaaGreatDoorHD2
import Derived.Test.YtjdfjgfdbgmbiaaGreatDoorHDA1
import Derived.Test.YtjdfjgfdbgmbiaaGreatDoorHDB1
import Derived.Test.YtjdfjgfdbgmbiaaGreatDoorHDI1
import Derived.Test.YtjdfjgfdbgmbiaaGreatDoorHDJ1
set_option linter.all false
set_option maxRecDepth 100000
set_option maxHeartbeats 8000000
namespace Go.Proofs.YtjdfjgfdbgmbiaaGreatDoor
open Go.ChangeShapes Go.WideShapes Go.ChangeAt Go.RowKit
open Go.ChangeMaps (open_string shut_string)
theorem slopeDihedrals_proved:Rows.SlopeDihedralsCardSaid :=
 Claim7.holds_tied_plain_at .later [] [.data,.data,.data,.sentinel,.sentinel,.data] true (true, "a243c9d5552184df3bd9911f559035a4fb6134e1087c172dc45d5aa41d76d76d") true
  slopeDihedrals_over (fun _ h=>by cases h) (by kernel_rfl) (fun _ h=>by cases h) slopeDihedrals_row_tie rfl ⟨rfl,rfl⟩ (by kernel_rfl) rfl
  (fun f fn hf hfn=>by
   obtain rfl:f=7:=Option.some.inj ((show Tryz.prog.funcNamed "kingpost/kingpostlaw08.SlopeDihedrals" = some 7 by kernel_rfl).symm.trans hf) |>.symm
   obtain rfl:fn=Tryz.f7:=(Option.some.inj (Tryz.func7.symm.trans hfn)).symm
   exact ⟨by kernel_rfl,fun j t ht=>by
    rw [Tryz.params7] at ht
    have hm:t ∈ [5,5,5,5]:=by simpa using Array.mem_of_getElem? ht
    have hall:([5,5,5,5].all fun u => !Tryz.prog.wantsStandIn u)=true:=by kernel_rfl
    exact (show Tryz.prog.wantsStandIn t=false by simpa using List.all_eq_true.1 hall t hm)⟩)
  (by kernel_rfl)
#print axioms slopeDihedrals_proved
end Go.Proofs.YtjdfjgfdbgmbiaaGreatDoor
