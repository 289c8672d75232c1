/-
  DERIVED. GIVEN WITH THE SEED: THE CARDS: each row of YtocalfjfjjljnaaGreatDoorRows.lean that lists a variable, with what it lists TIED to the program's text (the seventh form; the later family's looks); each row that meets fmt, with fmt's text TOLD by the authors' own Lean function (tested against real Go, not proved from fmt's source: count such statements apart). THE CARD IS WHAT COUNTS. Prove the row's statement (the work); the ties are given (YtocalfjfjjljnaaGreatDoorTie.lean); close each card by the builder's one call (the guide's Derived/Test/ToyasCard.lean, 'card_holds'). Laid BY PROGRAM, IN A SANDBOX (cutbox-door.mjs). By AI agents, Wed Nov 11 2026. No macro, syntax, notation, axiom, sorry.
-/
import Derived.Test.YtocalfjfjjljnaaGreatDoorRows
import GoSem.ClaimSeven
namespace Go.Proofs.YtocalfjfjjljnaaGreatDoor
namespace Rows

/-- THE TIED CARD OF 'kingpostlaw07.MeasureOthers'. -/
def measureOthersCard : Claim7 := { stood := { row := measureOthersRow, standIns := [], harness := (true, "1f4d06edcc92652bd6103d2e921a26aba334e938935cd1ebcb9566c2670216e5"), looks := true }, kinds := [], alts := [], laidByText := true, laidKinds := [.data, .data, .data, .sentinel, .sentinel], laidTests := true, laidLooks := .later }
def MeasureOthersCardSaid : Prop := Claim7.holds Tryz.pinned (.plain (OpenSpec.ofChange measureOthersSpec)) measureOthersCard

/-- THE SECOND FORM's CARD OF 'kingpostlaw07.MeasureOthers'. -/
def measureOthersUptoCard : Claim7 := { stood := { row := measureOthersUptoRow, standIns := [], harness := (true, "1f4d06edcc92652bd6103d2e921a26aba334e938935cd1ebcb9566c2670216e5"), looks := true }, kinds := [], alts := [], laidByText := true, laidKinds := [.data, .data, .data, .sentinel, .sentinel], laidTests := true, laidLooks := .later }
def MeasureOthersUptoCardSaid : Prop := Claim7.holds Tryz.pinned (.plain (OpenSpec.upto measureOthersSpec)) measureOthersUptoCard
end Rows
end Go.Proofs.YtocalfjfjjljnaaGreatDoor
