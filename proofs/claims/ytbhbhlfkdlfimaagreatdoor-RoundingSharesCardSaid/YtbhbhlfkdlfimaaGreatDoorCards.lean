/-
  DERIVED. GIVEN WITH THE SEED: THE CARDS: each row of YtbhbhlfkdlfimaaGreatDoorRows.lean that lists a variable, with what it lists TIED to the program's text (the seventh form; the later family's looks); each row that meets fmt, with fmt's text TOLD by the authors' own Lean function (tested against real Go, not proved from fmt's source: count such statements apart). THE CARD IS WHAT COUNTS. Prove the row's statement (the work); the ties are given (YtbhbhlfkdlfimaaGreatDoorTie.lean); close each card by the builder's one call (the guide's Derived/Test/ToyasCard.lean, 'card_holds'). Laid BY PROGRAM, IN A SANDBOX (cutbox-door.mjs). By AI agents, Wed Nov 11 2026. No macro, syntax, notation, axiom, sorry.
-/
import Derived.Test.YtbhbhlfkdlfimaaGreatDoorRows
import GoSem.ClaimSeven
namespace Go.Proofs.YtbhbhlfkdlfimaaGreatDoor
namespace Rows

/-- THE TIED CARD OF 'kingpostlaw06.RoundingShares'. -/
def roundingSharesCard : Claim7 := { stood := { row := roundingSharesRow, standIns := [], harness := (true, "7966f29a691ba3c21494971c9235202f21578230fb9935cd65dfcc4f63727a89"), looks := true }, kinds := [], alts := [], laidByText := true, laidKinds := [.data, .data, .data, .sentinel, .sentinel, .data], laidTests := true, laidLooks := .later }
def RoundingSharesCardSaid : Prop := Claim7.holds Tryz.pinned (.plain (OpenSpec.ofChange roundingSharesSpec)) roundingSharesCard

/-- THE TIED CARD OF 'kingposttop.TopField'. -/
def topFieldCard : Claim7 := { stood := { row := topFieldRow, standIns := [], harness := (true, "7966f29a691ba3c21494971c9235202f21578230fb9935cd65dfcc4f63727a89"), looks := true }, kinds := [], alts := [], laidByText := true, laidKinds := [.data, .data, .data, .sentinel, .sentinel, .data], laidTests := true, laidLooks := .later }
def TopFieldCardSaid : Prop := Claim7.holds Tryz.pinned (.plain (OpenSpec.ofChange topFieldSpec)) topFieldCard

/-- THE SECOND FORM's CARD OF 'kingpostlaw06.RoundingShares'. -/
def roundingSharesUptoCard : Claim7 := { stood := { row := roundingSharesUptoRow, standIns := [], harness := (true, "7966f29a691ba3c21494971c9235202f21578230fb9935cd65dfcc4f63727a89"), looks := true }, kinds := [], alts := [], laidByText := true, laidKinds := [.data, .data, .data, .sentinel, .sentinel, .data], laidTests := true, laidLooks := .later }
def RoundingSharesUptoCardSaid : Prop := Claim7.holds Tryz.pinned (.plain (OpenSpec.upto roundingSharesSpec)) roundingSharesUptoCard

/-- THE SECOND FORM's CARD OF 'kingposttop.TopField'. -/
def topFieldUptoCard : Claim7 := { stood := { row := topFieldUptoRow, standIns := [], harness := (true, "7966f29a691ba3c21494971c9235202f21578230fb9935cd65dfcc4f63727a89"), looks := true }, kinds := [], alts := [], laidByText := true, laidKinds := [.data, .data, .data, .sentinel, .sentinel, .data], laidTests := true, laidLooks := .later }
def TopFieldUptoCardSaid : Prop := Claim7.holds Tryz.pinned (.plain (OpenSpec.upto topFieldSpec)) topFieldUptoCard
end Rows
end Go.Proofs.YtbhbhlfkdlfimaaGreatDoor
