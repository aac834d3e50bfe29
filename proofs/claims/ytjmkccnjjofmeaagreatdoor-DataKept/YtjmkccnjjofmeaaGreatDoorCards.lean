/-
  DERIVED. GIVEN WITH THE SEED: THE CARDS: each row of YtjmkccnjjofmeaaGreatDoorRows.lean that lists a variable, with what it lists TIED to the program's text (the seventh form; the later family's looks); each row that meets fmt, with fmt's text TOLD by the authors' own Lean function (tested against real Go, not proved from fmt's source: count such statements apart). THE CARD IS WHAT COUNTS. Prove the row's statement (the work); the ties are given (YtjmkccnjjofmeaaGreatDoorTie.lean); close each card by the builder's one call (the guide's Derived/Test/ToyasCard.lean, 'card_holds'). Laid BY PROGRAM, IN A SANDBOX (cutbox-door.mjs). By AI agents, Wed Nov 11 2026. No macro, syntax, notation, axiom, sorry.
-/
import Derived.Test.YtjmkccnjjofmeaaGreatDoorRows
import GoSem.ClaimSeven
namespace Go.Proofs.YtjmkccnjjofmeaaGreatDoor
namespace Rows

/-- THE TIED CARD OF 'ostiarylaw7.DataNumbers'. -/
def dataNumbersCard : Claim7 := { stood := { row := dataNumbersRow, standIns := [], harness := (true, "19cfa9eb509919962ee771264e677c961875d7edd9732af1a69c9182af376ed9"), looks := false }, kinds := [], alts := [], laidByText := true, laidKinds := [.data, .data, .data, .data, .pinned], laidTests := true, laidLooks := .later }
def DataNumbersCardSaid : Prop := Claim7.holds Tryz.pinned (.plain (OpenSpec.ofChange dataNumbersSpec)) dataNumbersCard

/-- THE TIED CARD OF 'ostiarylaw7.DataReads'. -/
def dataReadsCard : Claim7 := { stood := { row := dataReadsRow, standIns := [], harness := (true, "19cfa9eb509919962ee771264e677c961875d7edd9732af1a69c9182af376ed9"), looks := false }, kinds := [], alts := [], laidByText := true, laidKinds := [.data, .data, .data, .data, .pinned], laidTests := true, laidLooks := .later }
def DataReadsCardSaid : Prop := Claim7.holds Tryz.pinned (.plain (OpenSpec.ofChange dataReadsSpec)) dataReadsCard

/-- THE TIED CARD OF 'ostiarylaw7.DataBack'. -/
def dataBackCard : Claim7 := { stood := { row := dataBackRow, standIns := [], harness := (true, "19cfa9eb509919962ee771264e677c961875d7edd9732af1a69c9182af376ed9"), looks := false }, kinds := [], alts := [], laidByText := true, laidKinds := [.data, .data, .data, .data, .pinned], laidTests := true, laidLooks := .later }
def DataBackCardSaid : Prop := Claim7.holds Tryz.pinned (.plain (OpenSpec.ofChange dataBackSpec)) dataBackCard

/-- THE TIED CARD OF 'ostiarylaw7.DataKept'. -/
def dataKeptCard : Claim7 := { stood := { row := dataKeptRow, standIns := [], harness := (true, "19cfa9eb509919962ee771264e677c961875d7edd9732af1a69c9182af376ed9"), looks := false }, kinds := [], alts := [], laidByText := true, laidKinds := [.data, .data, .data, .data, .pinned], laidTests := true, laidLooks := .later }
def DataKeptCardSaid : Prop := Claim7.holds Tryz.pinned (.plain (OpenSpec.ofChange dataKeptSpec)) dataKeptCard

/-- THE TIED CARD OF 'ostiarylaw7.DataPlain'. -/
def dataPlainCard : Claim7 := { stood := { row := dataPlainRow, standIns := [], harness := (true, "19cfa9eb509919962ee771264e677c961875d7edd9732af1a69c9182af376ed9"), looks := false }, kinds := [], alts := [], laidByText := true, laidKinds := [.data, .data, .data, .data, .pinned], laidTests := true, laidLooks := .later }
def DataPlainCardSaid : Prop := Claim7.holds Tryz.pinned (.plain (OpenSpec.ofChange dataPlainSpec)) dataPlainCard

/-- THE SECOND FORM's CARD OF 'ostiarylaw7.DataNumbers'. -/
def dataNumbersUptoCard : Claim7 := { stood := { row := dataNumbersUptoRow, standIns := [], harness := (true, "19cfa9eb509919962ee771264e677c961875d7edd9732af1a69c9182af376ed9"), looks := false }, kinds := [], alts := [], laidByText := true, laidKinds := [.data, .data, .data, .data, .pinned], laidTests := true, laidLooks := .later }
def DataNumbersUptoCardSaid : Prop := Claim7.holds Tryz.pinned (.plain (OpenSpec.upto dataNumbersSpec)) dataNumbersUptoCard

/-- THE SECOND FORM's CARD OF 'ostiarylaw7.DataReads'. -/
def dataReadsUptoCard : Claim7 := { stood := { row := dataReadsUptoRow, standIns := [], harness := (true, "19cfa9eb509919962ee771264e677c961875d7edd9732af1a69c9182af376ed9"), looks := false }, kinds := [], alts := [], laidByText := true, laidKinds := [.data, .data, .data, .data, .pinned], laidTests := true, laidLooks := .later }
def DataReadsUptoCardSaid : Prop := Claim7.holds Tryz.pinned (.plain (OpenSpec.upto dataReadsSpec)) dataReadsUptoCard

/-- THE SECOND FORM's CARD OF 'ostiarylaw7.DataBack'. -/
def dataBackUptoCard : Claim7 := { stood := { row := dataBackUptoRow, standIns := [], harness := (true, "19cfa9eb509919962ee771264e677c961875d7edd9732af1a69c9182af376ed9"), looks := false }, kinds := [], alts := [], laidByText := true, laidKinds := [.data, .data, .data, .data, .pinned], laidTests := true, laidLooks := .later }
def DataBackUptoCardSaid : Prop := Claim7.holds Tryz.pinned (.plain (OpenSpec.upto dataBackSpec)) dataBackUptoCard

/-- THE SECOND FORM's CARD OF 'ostiarylaw7.DataKept'. -/
def dataKeptUptoCard : Claim7 := { stood := { row := dataKeptUptoRow, standIns := [], harness := (true, "19cfa9eb509919962ee771264e677c961875d7edd9732af1a69c9182af376ed9"), looks := false }, kinds := [], alts := [], laidByText := true, laidKinds := [.data, .data, .data, .data, .pinned], laidTests := true, laidLooks := .later }
def DataKeptUptoCardSaid : Prop := Claim7.holds Tryz.pinned (.plain (OpenSpec.upto dataKeptSpec)) dataKeptUptoCard

/-- THE SECOND FORM's CARD OF 'ostiarylaw7.DataPlain'. -/
def dataPlainUptoCard : Claim7 := { stood := { row := dataPlainUptoRow, standIns := [], harness := (true, "19cfa9eb509919962ee771264e677c961875d7edd9732af1a69c9182af376ed9"), looks := false }, kinds := [], alts := [], laidByText := true, laidKinds := [.data, .data, .data, .data, .pinned], laidTests := true, laidLooks := .later }
def DataPlainUptoCardSaid : Prop := Claim7.holds Tryz.pinned (.plain (OpenSpec.upto dataPlainSpec)) dataPlainUptoCard
end Rows
end Go.Proofs.YtjmkccnjjofmeaaGreatDoor
