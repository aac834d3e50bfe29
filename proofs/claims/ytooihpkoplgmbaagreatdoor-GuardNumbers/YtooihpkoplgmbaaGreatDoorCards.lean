/-
  DERIVED. GIVEN WITH THE SEED: THE CARDS: each row of YtooihpkoplgmbaaGreatDoorRows.lean that lists a variable, with what it lists TIED to the program's text (the seventh form; the later family's looks); each row that meets fmt, with fmt's text TOLD by the authors' own Lean function (tested against real Go, not proved from fmt's source: count such statements apart). THE CARD IS WHAT COUNTS. Prove the row's statement (the work); the ties are given (YtooihpkoplgmbaaGreatDoorTie.lean); close each card by the builder's one call (the guide's Derived/Test/ToyasCard.lean, 'card_holds'). Laid BY PROGRAM, IN A SANDBOX (cutbox-door.mjs). By AI agents, Wed Nov 11 2026. No macro, syntax, notation, axiom, sorry.
-/
import Derived.Test.YtooihpkoplgmbaaGreatDoorRows
import GoSem.ClaimSeven
namespace Go.Proofs.YtooihpkoplgmbaaGreatDoor
namespace Rows

/-- THE TIED CARD OF 'ostiarylaw12.GuardNumbers'. -/
def guardNumbersCard : Claim7 := { stood := { row := guardNumbersRow, standIns := [], harness := (true, "d93fb1f1cce2255783bd6c6cf79e2a2c17982a07c12d64932d23759659e41db4"), looks := false }, kinds := [], alts := [], laidByText := true, laidKinds := [.data, .data, .data, .data, .pinned], laidTests := true, laidLooks := .later }
def GuardNumbersCardSaid : Prop := Claim7.holds Tryz.pinned (.plain (OpenSpec.ofChange guardNumbersSpec)) guardNumbersCard

/-- THE TIED CARD OF 'ostiarylaw12.GuardMore'. -/
def guardMoreCard : Claim7 := { stood := { row := guardMoreRow, standIns := [], harness := (true, "d93fb1f1cce2255783bd6c6cf79e2a2c17982a07c12d64932d23759659e41db4"), looks := false }, kinds := [], alts := [], laidByText := true, laidKinds := [.data, .data, .data, .data, .pinned], laidTests := true, laidLooks := .later }
def GuardMoreCardSaid : Prop := Claim7.holds Tryz.pinned (.plain (OpenSpec.ofChange guardMoreSpec)) guardMoreCard

/-- THE TIED CARD OF 'ostiarylaw12.GuardNonces'. -/
def guardNoncesCard : Claim7 := { stood := { row := guardNoncesRow, standIns := [], harness := (true, "d93fb1f1cce2255783bd6c6cf79e2a2c17982a07c12d64932d23759659e41db4"), looks := false }, kinds := [], alts := [], laidByText := true, laidKinds := [.data, .data, .data, .data, .pinned], laidTests := true, laidLooks := .later }
def GuardNoncesCardSaid : Prop := Claim7.holds Tryz.pinned (.plain (OpenSpec.ofChange guardNoncesSpec)) guardNoncesCard

/-- THE TIED CARD OF 'ostiarylaw16.AgeReckons'. -/
def ageReckonsCard : Claim7 := { stood := { row := ageReckonsRow, standIns := [], harness := (true, "d93fb1f1cce2255783bd6c6cf79e2a2c17982a07c12d64932d23759659e41db4"), looks := false }, kinds := [], alts := [], laidByText := true, laidKinds := [.data, .pinned], laidTests := true, laidLooks := .later }
def AgeReckonsCardSaid : Prop := Claim7.holds Tryz.pinned (.plain (OpenSpec.ofChange ageReckonsSpec)) ageReckonsCard

/-- THE SECOND FORM's CARD OF 'ostiarylaw12.GuardNumbers'. -/
def guardNumbersUptoCard : Claim7 := { stood := { row := guardNumbersUptoRow, standIns := [], harness := (true, "d93fb1f1cce2255783bd6c6cf79e2a2c17982a07c12d64932d23759659e41db4"), looks := false }, kinds := [], alts := [], laidByText := true, laidKinds := [.data, .data, .data, .data, .pinned], laidTests := true, laidLooks := .later }
def GuardNumbersUptoCardSaid : Prop := Claim7.holds Tryz.pinned (.plain (OpenSpec.upto guardNumbersSpec)) guardNumbersUptoCard

/-- THE SECOND FORM's CARD OF 'ostiarylaw12.GuardMore'. -/
def guardMoreUptoCard : Claim7 := { stood := { row := guardMoreUptoRow, standIns := [], harness := (true, "d93fb1f1cce2255783bd6c6cf79e2a2c17982a07c12d64932d23759659e41db4"), looks := false }, kinds := [], alts := [], laidByText := true, laidKinds := [.data, .data, .data, .data, .pinned], laidTests := true, laidLooks := .later }
def GuardMoreUptoCardSaid : Prop := Claim7.holds Tryz.pinned (.plain (OpenSpec.upto guardMoreSpec)) guardMoreUptoCard

/-- THE SECOND FORM's CARD OF 'ostiarylaw12.GuardNonces'. -/
def guardNoncesUptoCard : Claim7 := { stood := { row := guardNoncesUptoRow, standIns := [], harness := (true, "d93fb1f1cce2255783bd6c6cf79e2a2c17982a07c12d64932d23759659e41db4"), looks := false }, kinds := [], alts := [], laidByText := true, laidKinds := [.data, .data, .data, .data, .pinned], laidTests := true, laidLooks := .later }
def GuardNoncesUptoCardSaid : Prop := Claim7.holds Tryz.pinned (.plain (OpenSpec.upto guardNoncesSpec)) guardNoncesUptoCard

/-- THE SECOND FORM's CARD OF 'ostiarylaw16.AgeReckons'. -/
def ageReckonsUptoCard : Claim7 := { stood := { row := ageReckonsUptoRow, standIns := [], harness := (true, "d93fb1f1cce2255783bd6c6cf79e2a2c17982a07c12d64932d23759659e41db4"), looks := false }, kinds := [], alts := [], laidByText := true, laidKinds := [.data, .pinned], laidTests := true, laidLooks := .later }
def AgeReckonsUptoCardSaid : Prop := Claim7.holds Tryz.pinned (.plain (OpenSpec.upto ageReckonsSpec)) ageReckonsUptoCard
end Rows
end Go.Proofs.YtooihpkoplgmbaaGreatDoor
