/-
  DERIVED. GIVEN WITH THE SEED: THE CARDS: each row of YtkjhaengllpaoaaGreatDoorRows.lean that lists a variable, with what it lists TIED to the program's text (the seventh form; the later family's looks); each row that meets fmt, with fmt's text TOLD by the authors' own Lean function (tested against real Go, not proved from fmt's source: count such statements apart). THE CARD IS WHAT COUNTS. Prove the row's statement (the work); the ties are given (YtkjhaengllpaoaaGreatDoorTie.lean); close each card by the builder's one call (the guide's Derived/Test/ToyasCard.lean, 'card_holds'). Laid BY PROGRAM, IN A SANDBOX (cutbox-door.mjs). By AI agents, Wed Nov 11 2026. No macro, syntax, notation, axiom, sorry.
-/
import Derived.Test.YtkjhaengllpaoaaGreatDoorRows
import GoSem.ClaimSeven
namespace Go.Proofs.YtkjhaengllpaoaaGreatDoor
namespace Rows

/-- THE TIED CARD OF 'kingpostlaw07.MeasureRounds'. -/
def measureRoundsCard : Claim7 := { stood := { row := measureRoundsRow, standIns := [], harness := (true, "e83237fe1d32a67e69489fa5d428e91fcbefff28134093e16c4167d40775b22a"), looks := false }, kinds := [], alts := [], laidByText := true, laidKinds := [.data, .data, .data, .data, .pinned], laidTests := true, laidLooks := .later }
def MeasureRoundsCardSaid : Prop := Claim7.holds Tryz.pinned (.plain (OpenSpec.ofChange measureRoundsSpec)) measureRoundsCard

/-- THE TIED CARD OF 'kingpostlaw07.MeasureExact'. -/
def measureExactCard : Claim7 := { stood := { row := measureExactRow, standIns := [], harness := (true, "e83237fe1d32a67e69489fa5d428e91fcbefff28134093e16c4167d40775b22a"), looks := false }, kinds := [], alts := [], laidByText := true, laidKinds := [.data, .data, .data, .data, .pinned], laidTests := true, laidLooks := .later }
def MeasureExactCardSaid : Prop := Claim7.holds Tryz.pinned (.plain (OpenSpec.ofChange measureExactSpec)) measureExactCard

/-- THE TIED CARD OF 'kingpostlaw07.MeasureReads'. -/
def measureReadsCard : Claim7 := { stood := { row := measureReadsRow, standIns := [], harness := (true, "e83237fe1d32a67e69489fa5d428e91fcbefff28134093e16c4167d40775b22a"), looks := false }, kinds := [], alts := [], laidByText := true, laidKinds := [.data, .data, .data, .data, .pinned], laidTests := true, laidLooks := .later }
def MeasureReadsCardSaid : Prop := Claim7.holds Tryz.pinned (.plain (OpenSpec.ofChange measureReadsSpec)) measureReadsCard

/-- THE TIED CARD OF 'kingpostlaw07.MeasureFeet'. -/
def measureFeetCard : Claim7 := { stood := { row := measureFeetRow, standIns := [], harness := (true, "e83237fe1d32a67e69489fa5d428e91fcbefff28134093e16c4167d40775b22a"), looks := false }, kinds := [], alts := [], laidByText := true, laidKinds := [.data, .data, .data], laidTests := true, laidLooks := .later }
def MeasureFeetCardSaid : Prop := Claim7.holds Tryz.pinned (.plain (OpenSpec.ofChange measureFeetSpec)) measureFeetCard

/-- THE TIED CARD OF 'kingpostlaw07.MeasureWords'. -/
def measureWordsCard : Claim7 := { stood := { row := measureWordsRow, standIns := [], harness := (true, "e83237fe1d32a67e69489fa5d428e91fcbefff28134093e16c4167d40775b22a"), looks := false }, kinds := [], alts := [], laidByText := true, laidKinds := [.data, .data, .data], laidTests := true, laidLooks := .later }
def MeasureWordsCardSaid : Prop := Claim7.holds Tryz.pinned (.plain (OpenSpec.ofChange measureWordsSpec)) measureWordsCard

/-- THE TIED CARD OF 'kingpostlaw07.MeasureNames'. -/
def measureNamesCard : Claim7 := { stood := { row := measureNamesRow, standIns := [], harness := (true, "e83237fe1d32a67e69489fa5d428e91fcbefff28134093e16c4167d40775b22a"), looks := false }, kinds := [], alts := [], laidByText := true, laidKinds := [.data, .data, .data, .data, .pinned, .pinned], laidTests := true, laidLooks := .later }
def MeasureNamesCardSaid : Prop := Claim7.holds Tryz.pinned (.plain (OpenSpec.ofChange measureNamesSpec)) measureNamesCard

/-- THE TIED CARD OF 'kingpostlaw07.MeasureOrder'. -/
def measureOrderCard : Claim7 := { stood := { row := measureOrderRow, standIns := [], harness := (true, "e83237fe1d32a67e69489fa5d428e91fcbefff28134093e16c4167d40775b22a"), looks := false }, kinds := [], alts := [], laidByText := true, laidKinds := [.data, .data, .data, .data, .pinned], laidTests := true, laidLooks := .later }
def MeasureOrderCardSaid : Prop := Claim7.holds Tryz.pinned (.plain (OpenSpec.ofChange measureOrderSpec)) measureOrderCard

/-- THE SECOND FORM's CARD OF 'kingpostlaw07.MeasureRounds'. -/
def measureRoundsUptoCard : Claim7 := { stood := { row := measureRoundsUptoRow, standIns := [], harness := (true, "e83237fe1d32a67e69489fa5d428e91fcbefff28134093e16c4167d40775b22a"), looks := false }, kinds := [], alts := [], laidByText := true, laidKinds := [.data, .data, .data, .data, .pinned], laidTests := true, laidLooks := .later }
def MeasureRoundsUptoCardSaid : Prop := Claim7.holds Tryz.pinned (.plain (OpenSpec.upto measureRoundsSpec)) measureRoundsUptoCard

/-- THE SECOND FORM's CARD OF 'kingpostlaw07.MeasureExact'. -/
def measureExactUptoCard : Claim7 := { stood := { row := measureExactUptoRow, standIns := [], harness := (true, "e83237fe1d32a67e69489fa5d428e91fcbefff28134093e16c4167d40775b22a"), looks := false }, kinds := [], alts := [], laidByText := true, laidKinds := [.data, .data, .data, .data, .pinned], laidTests := true, laidLooks := .later }
def MeasureExactUptoCardSaid : Prop := Claim7.holds Tryz.pinned (.plain (OpenSpec.upto measureExactSpec)) measureExactUptoCard

/-- THE SECOND FORM's CARD OF 'kingpostlaw07.MeasureReads'. -/
def measureReadsUptoCard : Claim7 := { stood := { row := measureReadsUptoRow, standIns := [], harness := (true, "e83237fe1d32a67e69489fa5d428e91fcbefff28134093e16c4167d40775b22a"), looks := false }, kinds := [], alts := [], laidByText := true, laidKinds := [.data, .data, .data, .data, .pinned], laidTests := true, laidLooks := .later }
def MeasureReadsUptoCardSaid : Prop := Claim7.holds Tryz.pinned (.plain (OpenSpec.upto measureReadsSpec)) measureReadsUptoCard

/-- THE SECOND FORM's CARD OF 'kingpostlaw07.MeasureFeet'. -/
def measureFeetUptoCard : Claim7 := { stood := { row := measureFeetUptoRow, standIns := [], harness := (true, "e83237fe1d32a67e69489fa5d428e91fcbefff28134093e16c4167d40775b22a"), looks := false }, kinds := [], alts := [], laidByText := true, laidKinds := [.data, .data, .data], laidTests := true, laidLooks := .later }
def MeasureFeetUptoCardSaid : Prop := Claim7.holds Tryz.pinned (.plain (OpenSpec.upto measureFeetSpec)) measureFeetUptoCard

/-- THE SECOND FORM's CARD OF 'kingpostlaw07.MeasureWords'. -/
def measureWordsUptoCard : Claim7 := { stood := { row := measureWordsUptoRow, standIns := [], harness := (true, "e83237fe1d32a67e69489fa5d428e91fcbefff28134093e16c4167d40775b22a"), looks := false }, kinds := [], alts := [], laidByText := true, laidKinds := [.data, .data, .data], laidTests := true, laidLooks := .later }
def MeasureWordsUptoCardSaid : Prop := Claim7.holds Tryz.pinned (.plain (OpenSpec.upto measureWordsSpec)) measureWordsUptoCard

/-- THE SECOND FORM's CARD OF 'kingpostlaw07.MeasureNames'. -/
def measureNamesUptoCard : Claim7 := { stood := { row := measureNamesUptoRow, standIns := [], harness := (true, "e83237fe1d32a67e69489fa5d428e91fcbefff28134093e16c4167d40775b22a"), looks := false }, kinds := [], alts := [], laidByText := true, laidKinds := [.data, .data, .data, .data, .pinned, .pinned], laidTests := true, laidLooks := .later }
def MeasureNamesUptoCardSaid : Prop := Claim7.holds Tryz.pinned (.plain (OpenSpec.upto measureNamesSpec)) measureNamesUptoCard

/-- THE SECOND FORM's CARD OF 'kingpostlaw07.MeasureOrder'. -/
def measureOrderUptoCard : Claim7 := { stood := { row := measureOrderUptoRow, standIns := [], harness := (true, "e83237fe1d32a67e69489fa5d428e91fcbefff28134093e16c4167d40775b22a"), looks := false }, kinds := [], alts := [], laidByText := true, laidKinds := [.data, .data, .data, .data, .pinned], laidTests := true, laidLooks := .later }
def MeasureOrderUptoCardSaid : Prop := Claim7.holds Tryz.pinned (.plain (OpenSpec.upto measureOrderSpec)) measureOrderUptoCard
end Rows
end Go.Proofs.YtkjhaengllpaoaaGreatDoor
