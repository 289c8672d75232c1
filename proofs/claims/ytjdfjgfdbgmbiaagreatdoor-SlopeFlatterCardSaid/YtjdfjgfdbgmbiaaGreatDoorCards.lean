/-
  DERIVED. GIVEN WITH THE SEED: THE CARDS: each row of YtjdfjgfdbgmbiaaGreatDoorRows.lean that lists a variable, with what it lists TIED to the program's text (the seventh form; the later family's looks); each row that meets fmt, with fmt's text TOLD by the authors' own Lean function (tested against real Go, not proved from fmt's source: count such statements apart). THE CARD IS WHAT COUNTS. Prove the row's statement (the work); the ties are given (YtjdfjgfdbgmbiaaGreatDoorTie.lean); close each card by the builder's one call (the guide's Derived/Test/ToyasCard.lean, 'card_holds'). Laid BY PROGRAM, IN A SANDBOX (cutbox-door.mjs). By AI agents, Wed Nov 11 2026. No macro, syntax, notation, axiom, sorry.
-/
import Derived.Test.YtjdfjgfdbgmbiaaGreatDoorRows
import GoSem.ClaimSeven
namespace Go.Proofs.YtjdfjgfdbgmbiaaGreatDoor
namespace Rows

/-- THE TIED CARD OF 'kingpostlaw08.SlopeFactors'. -/
def slopeFactorsCard : Claim7 := { stood := { row := slopeFactorsRow, standIns := [], harness := (true, "a243c9d5552184df3bd9911f559035a4fb6134e1087c172dc45d5aa41d76d76d"), looks := true }, kinds := [], alts := [], laidByText := true, laidKinds := [.data, .data, .data, .sentinel, .sentinel, .data], laidTests := true, laidLooks := .later }
def SlopeFactorsCardSaid : Prop := Claim7.holds Tryz.pinned (.plain (OpenSpec.ofChange slopeFactorsSpec)) slopeFactorsCard

/-- THE TIED CARD OF 'kingpostlaw08.SlopeFlatter'. -/
def slopeFlatterCard : Claim7 := { stood := { row := slopeFlatterRow, standIns := [], harness := (true, "a243c9d5552184df3bd9911f559035a4fb6134e1087c172dc45d5aa41d76d76d"), looks := true }, kinds := [], alts := [], laidByText := true, laidKinds := [.data, .data, .data, .sentinel, .sentinel, .data], laidTests := true, laidLooks := .later }
def SlopeFlatterCardSaid : Prop := Claim7.holds Tryz.pinned (.plain (OpenSpec.ofChange slopeFlatterSpec)) slopeFlatterCard

/-- THE TIED CARD OF 'kingpostlaw08.SlopeLengths'. -/
def slopeLengthsCard : Claim7 := { stood := { row := slopeLengthsRow, standIns := [], harness := (true, "a243c9d5552184df3bd9911f559035a4fb6134e1087c172dc45d5aa41d76d76d"), looks := true }, kinds := [], alts := [], laidByText := true, laidKinds := [.data, .data, .data, .sentinel, .sentinel, .data], laidTests := true, laidLooks := .later }
def SlopeLengthsCardSaid : Prop := Claim7.holds Tryz.pinned (.plain (OpenSpec.ofChange slopeLengthsSpec)) slopeLengthsCard

/-- THE TIED CARD OF 'kingpostlaw08.SlopeExchanges'. -/
def slopeExchangesCard : Claim7 := { stood := { row := slopeExchangesRow, standIns := [], harness := (true, "a243c9d5552184df3bd9911f559035a4fb6134e1087c172dc45d5aa41d76d76d"), looks := true }, kinds := [], alts := [], laidByText := true, laidKinds := [.data, .data, .data, .sentinel, .sentinel, .data], laidTests := true, laidLooks := .later }
def SlopeExchangesCardSaid : Prop := Claim7.holds Tryz.pinned (.plain (OpenSpec.ofChange slopeExchangesSpec)) slopeExchangesCard

/-- THE TIED CARD OF 'kingpostlaw08.SlopeDihedrals'. -/
def slopeDihedralsCard : Claim7 := { stood := { row := slopeDihedralsRow, standIns := [], harness := (true, "a243c9d5552184df3bd9911f559035a4fb6134e1087c172dc45d5aa41d76d76d"), looks := true }, kinds := [], alts := [], laidByText := true, laidKinds := [.data, .data, .data, .sentinel, .sentinel, .data], laidTests := true, laidLooks := .later }
def SlopeDihedralsCardSaid : Prop := Claim7.holds Tryz.pinned (.plain (OpenSpec.ofChange slopeDihedralsSpec)) slopeDihedralsCard

/-- THE TIED CARD OF 'kingpostlaw08.SlopeInverses'. -/
def slopeInversesCard : Claim7 := { stood := { row := slopeInversesRow, standIns := [], harness := (true, "a243c9d5552184df3bd9911f559035a4fb6134e1087c172dc45d5aa41d76d76d"), looks := true }, kinds := [], alts := [], laidByText := true, laidKinds := [.data, .data, .data, .sentinel, .sentinel, .data], laidTests := true, laidLooks := .later }
def SlopeInversesCardSaid : Prop := Claim7.holds Tryz.pinned (.plain (OpenSpec.ofChange slopeInversesSpec)) slopeInversesCard

/-- THE TIED CARD OF 'kingpostlaw08.SlopeOrder'. -/
def slopeOrderCard : Claim7 := { stood := { row := slopeOrderRow, standIns := [], harness := (true, "a243c9d5552184df3bd9911f559035a4fb6134e1087c172dc45d5aa41d76d76d"), looks := true }, kinds := [], alts := [], laidByText := true, laidKinds := [.data, .data, .data, .sentinel, .sentinel, .data], laidTests := true, laidLooks := .later }
def SlopeOrderCardSaid : Prop := Claim7.holds Tryz.pinned (.plain (OpenSpec.ofChange slopeOrderSpec)) slopeOrderCard

/-- THE SECOND FORM's CARD OF 'kingpostlaw08.SlopeFactors'. -/
def slopeFactorsUptoCard : Claim7 := { stood := { row := slopeFactorsUptoRow, standIns := [], harness := (true, "a243c9d5552184df3bd9911f559035a4fb6134e1087c172dc45d5aa41d76d76d"), looks := true }, kinds := [], alts := [], laidByText := true, laidKinds := [.data, .data, .data, .sentinel, .sentinel, .data], laidTests := true, laidLooks := .later }
def SlopeFactorsUptoCardSaid : Prop := Claim7.holds Tryz.pinned (.plain (OpenSpec.upto slopeFactorsSpec)) slopeFactorsUptoCard

/-- THE SECOND FORM's CARD OF 'kingpostlaw08.SlopeFlatter'. -/
def slopeFlatterUptoCard : Claim7 := { stood := { row := slopeFlatterUptoRow, standIns := [], harness := (true, "a243c9d5552184df3bd9911f559035a4fb6134e1087c172dc45d5aa41d76d76d"), looks := true }, kinds := [], alts := [], laidByText := true, laidKinds := [.data, .data, .data, .sentinel, .sentinel, .data], laidTests := true, laidLooks := .later }
def SlopeFlatterUptoCardSaid : Prop := Claim7.holds Tryz.pinned (.plain (OpenSpec.upto slopeFlatterSpec)) slopeFlatterUptoCard

/-- THE SECOND FORM's CARD OF 'kingpostlaw08.SlopeLengths'. -/
def slopeLengthsUptoCard : Claim7 := { stood := { row := slopeLengthsUptoRow, standIns := [], harness := (true, "a243c9d5552184df3bd9911f559035a4fb6134e1087c172dc45d5aa41d76d76d"), looks := true }, kinds := [], alts := [], laidByText := true, laidKinds := [.data, .data, .data, .sentinel, .sentinel, .data], laidTests := true, laidLooks := .later }
def SlopeLengthsUptoCardSaid : Prop := Claim7.holds Tryz.pinned (.plain (OpenSpec.upto slopeLengthsSpec)) slopeLengthsUptoCard

/-- THE SECOND FORM's CARD OF 'kingpostlaw08.SlopeExchanges'. -/
def slopeExchangesUptoCard : Claim7 := { stood := { row := slopeExchangesUptoRow, standIns := [], harness := (true, "a243c9d5552184df3bd9911f559035a4fb6134e1087c172dc45d5aa41d76d76d"), looks := true }, kinds := [], alts := [], laidByText := true, laidKinds := [.data, .data, .data, .sentinel, .sentinel, .data], laidTests := true, laidLooks := .later }
def SlopeExchangesUptoCardSaid : Prop := Claim7.holds Tryz.pinned (.plain (OpenSpec.upto slopeExchangesSpec)) slopeExchangesUptoCard

/-- THE SECOND FORM's CARD OF 'kingpostlaw08.SlopeDihedrals'. -/
def slopeDihedralsUptoCard : Claim7 := { stood := { row := slopeDihedralsUptoRow, standIns := [], harness := (true, "a243c9d5552184df3bd9911f559035a4fb6134e1087c172dc45d5aa41d76d76d"), looks := true }, kinds := [], alts := [], laidByText := true, laidKinds := [.data, .data, .data, .sentinel, .sentinel, .data], laidTests := true, laidLooks := .later }
def SlopeDihedralsUptoCardSaid : Prop := Claim7.holds Tryz.pinned (.plain (OpenSpec.upto slopeDihedralsSpec)) slopeDihedralsUptoCard

/-- THE SECOND FORM's CARD OF 'kingpostlaw08.SlopeInverses'. -/
def slopeInversesUptoCard : Claim7 := { stood := { row := slopeInversesUptoRow, standIns := [], harness := (true, "a243c9d5552184df3bd9911f559035a4fb6134e1087c172dc45d5aa41d76d76d"), looks := true }, kinds := [], alts := [], laidByText := true, laidKinds := [.data, .data, .data, .sentinel, .sentinel, .data], laidTests := true, laidLooks := .later }
def SlopeInversesUptoCardSaid : Prop := Claim7.holds Tryz.pinned (.plain (OpenSpec.upto slopeInversesSpec)) slopeInversesUptoCard

/-- THE SECOND FORM's CARD OF 'kingpostlaw08.SlopeOrder'. -/
def slopeOrderUptoCard : Claim7 := { stood := { row := slopeOrderUptoRow, standIns := [], harness := (true, "a243c9d5552184df3bd9911f559035a4fb6134e1087c172dc45d5aa41d76d76d"), looks := true }, kinds := [], alts := [], laidByText := true, laidKinds := [.data, .data, .data, .sentinel, .sentinel, .data], laidTests := true, laidLooks := .later }
def SlopeOrderUptoCardSaid : Prop := Claim7.holds Tryz.pinned (.plain (OpenSpec.upto slopeOrderSpec)) slopeOrderUptoCard
end Rows
end Go.Proofs.YtjdfjgfdbgmbiaaGreatDoor
