/-
  DERIVED. GIVEN WITH THE SEED: THE CARDS: each row of YtjdomibbaemdnaaGreatDoorRows.lean that lists a variable, with what it lists TIED to the program's text (the seventh form; the later family's looks); each row that meets fmt, with fmt's text TOLD by the authors' own Lean function (tested against real Go, not proved from fmt's source: count such statements apart). THE CARD IS WHAT COUNTS. Prove the row's statement (the work); the ties are given (YtjdomibbaemdnaaGreatDoorTie.lean); close each card by the builder's one call (the guide's Derived/Test/ToyasCard.lean, 'card_holds'). Laid BY PROGRAM, IN A SANDBOX (cutbox-door.mjs). By AI agents, Wed Nov 11 2026. No macro, syntax, notation, axiom, sorry.
-/
import Derived.Test.YtjdomibbaemdnaaGreatDoorRows
import GoSem.ClaimSeven
namespace Go.Proofs.YtjdomibbaemdnaaGreatDoor
namespace Rows

/-- THE TIED CARD OF 'kingpostlaw03.RootForms'. -/
def rootFormsCard : Claim7 := { stood := { row := rootFormsRow, standIns := [], harness := (true, "d667e5fb73b4bfb466ee29d48dad2e2a16cc204a919b0be4f945635b553b30f1"), looks := true }, kinds := [], alts := [], laidByText := true, laidKinds := [.data, .data, .data, .sentinel, .sentinel, .data], laidTests := true, laidLooks := .later }
def RootFormsCardSaid : Prop := Claim7.holds Tryz.pinned (.plain (OpenSpec.ofChange rootFormsSpec)) rootFormsCard

/-- THE TIED CARD OF 'kingpostlaw03.RootRounds'. -/
def rootRoundsCard : Claim7 := { stood := { row := rootRoundsRow, standIns := [], harness := (true, "d667e5fb73b4bfb466ee29d48dad2e2a16cc204a919b0be4f945635b553b30f1"), looks := true }, kinds := [], alts := [], laidByText := true, laidKinds := [.data, .data, .data, .sentinel, .sentinel, .data], laidTests := true, laidLooks := .later }
def RootRoundsCardSaid : Prop := Claim7.holds Tryz.pinned (.plain (OpenSpec.ofChange rootRoundsSpec)) rootRoundsCard

/-- THE SECOND FORM's CARD OF 'kingpostlaw03.RootForms'. -/
def rootFormsUptoCard : Claim7 := { stood := { row := rootFormsUptoRow, standIns := [], harness := (true, "d667e5fb73b4bfb466ee29d48dad2e2a16cc204a919b0be4f945635b553b30f1"), looks := true }, kinds := [], alts := [], laidByText := true, laidKinds := [.data, .data, .data, .sentinel, .sentinel, .data], laidTests := true, laidLooks := .later }
def RootFormsUptoCardSaid : Prop := Claim7.holds Tryz.pinned (.plain (OpenSpec.upto rootFormsSpec)) rootFormsUptoCard

/-- THE SECOND FORM's CARD OF 'kingpostlaw03.RootRounds'. -/
def rootRoundsUptoCard : Claim7 := { stood := { row := rootRoundsUptoRow, standIns := [], harness := (true, "d667e5fb73b4bfb466ee29d48dad2e2a16cc204a919b0be4f945635b553b30f1"), looks := true }, kinds := [], alts := [], laidByText := true, laidKinds := [.data, .data, .data, .sentinel, .sentinel, .data], laidTests := true, laidLooks := .later }
def RootRoundsUptoCardSaid : Prop := Claim7.holds Tryz.pinned (.plain (OpenSpec.upto rootRoundsSpec)) rootRoundsUptoCard
end Rows
end Go.Proofs.YtjdomibbaemdnaaGreatDoor
