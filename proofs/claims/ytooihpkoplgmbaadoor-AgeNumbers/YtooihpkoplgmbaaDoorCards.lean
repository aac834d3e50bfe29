/-
  DERIVED. GIVEN WITH THE SEED: THE CARDS: each row of YtooihpkoplgmbaaDoorRows.lean that lists a variable, with what it lists TIED to the program's text (the seventh form; the later family's looks); each row that meets fmt, with fmt's text TOLD by the authors' own Lean function (tested against real Go, not proved from fmt's source: count such statements apart). THE CARD IS WHAT COUNTS. Prove the row's statement (the work); the ties are given (YtooihpkoplgmbaaDoorTie.lean); close each card by the builder's one call (the guide's Derived/Test/ToyasCard.lean, 'card_holds'). Laid BY PROGRAM, IN A SANDBOX (cutbox-door.mjs). By AI agents, Wed Nov 11 2026. No macro, syntax, notation, axiom, sorry.
-/
import Derived.Test.YtooihpkoplgmbaaDoorRows
import GoSem.ClaimSeven
namespace Go.Proofs.YtooihpkoplgmbaaDoor
namespace Rows

/-- THE TIED CARD OF 'ostiarylaw16.AgeNumbers'. -/
def ageNumbersCard : Claim7 := { stood := { row := ageNumbersRow, standIns := [], harness := (true, "9ed8270f8d3b59edef7226b6fbe1e3b08e88fcef711b3d4217c70fd7a13f036d"), looks := false }, kinds := [], alts := [], laidByText := true, laidKinds := [.data, .pinned], laidTests := true, laidLooks := .later }
def AgeNumbersCardSaid : Prop := Claim7.holds Tryd.pinned (.plain (OpenSpec.ofChange ageNumbersSpec)) ageNumbersCard

/-- THE TIED CARD OF 'ostiarylaw16.AgeBefore'. -/
def ageBeforeCard : Claim7 := { stood := { row := ageBeforeRow, standIns := [], harness := (true, "9ed8270f8d3b59edef7226b6fbe1e3b08e88fcef711b3d4217c70fd7a13f036d"), looks := false }, kinds := [], alts := [], laidByText := true, laidKinds := [.data, .pinned], laidTests := true, laidLooks := .later }
def AgeBeforeCardSaid : Prop := Claim7.holds Tryd.pinned (.plain (OpenSpec.ofChange ageBeforeSpec)) ageBeforeCard

/-- THE TIED CARD OF 'ostiarylaw16.AgeLives'. -/
def ageLivesCard : Claim7 := { stood := { row := ageLivesRow, standIns := [], harness := (true, "9ed8270f8d3b59edef7226b6fbe1e3b08e88fcef711b3d4217c70fd7a13f036d"), looks := false }, kinds := [], alts := [], laidByText := true, laidKinds := [.data, .pinned], laidTests := true, laidLooks := .later }
def AgeLivesCardSaid : Prop := Claim7.holds Tryd.pinned (.plain (OpenSpec.ofChange ageLivesSpec)) ageLivesCard

/-- THE SECOND FORM's CARD OF 'ostiarylaw16.AgeNumbers'. -/
def ageNumbersUptoCard : Claim7 := { stood := { row := ageNumbersUptoRow, standIns := [], harness := (true, "9ed8270f8d3b59edef7226b6fbe1e3b08e88fcef711b3d4217c70fd7a13f036d"), looks := false }, kinds := [], alts := [], laidByText := true, laidKinds := [.data, .pinned], laidTests := true, laidLooks := .later }
def AgeNumbersUptoCardSaid : Prop := Claim7.holds Tryd.pinned (.plain (OpenSpec.upto ageNumbersSpec)) ageNumbersUptoCard

/-- THE SECOND FORM's CARD OF 'ostiarylaw16.AgeBefore'. -/
def ageBeforeUptoCard : Claim7 := { stood := { row := ageBeforeUptoRow, standIns := [], harness := (true, "9ed8270f8d3b59edef7226b6fbe1e3b08e88fcef711b3d4217c70fd7a13f036d"), looks := false }, kinds := [], alts := [], laidByText := true, laidKinds := [.data, .pinned], laidTests := true, laidLooks := .later }
def AgeBeforeUptoCardSaid : Prop := Claim7.holds Tryd.pinned (.plain (OpenSpec.upto ageBeforeSpec)) ageBeforeUptoCard

/-- THE SECOND FORM's CARD OF 'ostiarylaw16.AgeLives'. -/
def ageLivesUptoCard : Claim7 := { stood := { row := ageLivesUptoRow, standIns := [], harness := (true, "9ed8270f8d3b59edef7226b6fbe1e3b08e88fcef711b3d4217c70fd7a13f036d"), looks := false }, kinds := [], alts := [], laidByText := true, laidKinds := [.data, .pinned], laidTests := true, laidLooks := .later }
def AgeLivesUptoCardSaid : Prop := Claim7.holds Tryd.pinned (.plain (OpenSpec.upto ageLivesSpec)) ageLivesUptoCard
end Rows
end Go.Proofs.YtooihpkoplgmbaaDoor
