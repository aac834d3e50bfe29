/-
  DERIVED. GIVEN WITH THE SEED: THE CARDS: each row of YtolioccofbhliaaGreatDoorRows.lean that lists a variable, with what it lists TIED to the program's text (the seventh form; the later family's looks); each row that meets fmt, with fmt's text TOLD by the authors' own Lean function (tested against real Go, not proved from fmt's source: count such statements apart). THE CARD IS WHAT COUNTS. Prove the row's statement (the work); the ties are given (YtolioccofbhliaaGreatDoorTie.lean); close each card by the builder's one call (the guide's Derived/Test/ToyasCard.lean, 'card_holds'). Laid BY PROGRAM, IN A SANDBOX (cutbox-door.mjs). By AI agents, Wed Nov 11 2026. No macro, syntax, notation, axiom, sorry.
-/
import Derived.Test.YtolioccofbhliaaGreatDoorRows
import GoSem.ClaimSeven
namespace Go.Proofs.YtolioccofbhliaaGreatDoor
namespace Rows

/-- THE TIED CARD OF 'ostiarylaw17.CachePlays'. -/
def cachePlaysCard : Claim7 := { stood := { row := cachePlaysRow, standIns := [], harness := (true, "cf713cee8ca3da35ad22a8fc621c5a9c82f54a979a767f0a89b58d29af394807"), looks := false }, kinds := [], alts := [], laidByText := true, laidKinds := [.data, .data, .data, .data, .pinned], laidTests := true, laidLooks := .later }
def CachePlaysCardSaid : Prop := Claim7.holds Tryz.pinned (.plain (OpenSpec.ofChange cachePlaysSpec)) cachePlaysCard

/-- THE TIED CARD OF 'ostiarylaw19.PreflightNumbers'. -/
def preflightNumbersCard : Claim7 := { stood := { row := preflightNumbersRow, standIns := [], harness := (true, "cf713cee8ca3da35ad22a8fc621c5a9c82f54a979a767f0a89b58d29af394807"), looks := false }, kinds := [], alts := [], laidByText := true, laidKinds := [.data, .data, .data, .data, .pinned], laidTests := true, laidLooks := .later }
def PreflightNumbersCardSaid : Prop := Claim7.holds Tryz.pinned (.plain (OpenSpec.ofChange preflightNumbersSpec)) preflightNumbersCard

/-- THE TIED CARD OF 'ostiarylaw19.PreflightGrants'. -/
def preflightGrantsCard : Claim7 := { stood := { row := preflightGrantsRow, standIns := [], harness := (true, "cf713cee8ca3da35ad22a8fc621c5a9c82f54a979a767f0a89b58d29af394807"), looks := false }, kinds := [], alts := [], laidByText := true, laidKinds := [.data, .data, .data, .data, .pinned], laidTests := true, laidLooks := .later }
def PreflightGrantsCardSaid : Prop := Claim7.holds Tryz.pinned (.plain (OpenSpec.ofChange preflightGrantsSpec)) preflightGrantsCard

/-- THE TIED CARD OF 'ostiarylaw19.PreflightKept'. -/
def preflightKeptCard : Claim7 := { stood := { row := preflightKeptRow, standIns := [], harness := (true, "cf713cee8ca3da35ad22a8fc621c5a9c82f54a979a767f0a89b58d29af394807"), looks := false }, kinds := [], alts := [], laidByText := true, laidKinds := [.data, .data, .data, .data, .pinned], laidTests := true, laidLooks := .later }
def PreflightKeptCardSaid : Prop := Claim7.holds Tryz.pinned (.plain (OpenSpec.ofChange preflightKeptSpec)) preflightKeptCard

/-- THE TIED CARD OF 'ostiarylaw19.PreflightRows'. -/
def preflightRowsCard : Claim7 := { stood := { row := preflightRowsRow, standIns := [], harness := (true, "cf713cee8ca3da35ad22a8fc621c5a9c82f54a979a767f0a89b58d29af394807"), looks := false }, kinds := [], alts := [], laidByText := true, laidKinds := [.data, .data, .data, .data, .pinned], laidTests := true, laidLooks := .later }
def PreflightRowsCardSaid : Prop := Claim7.holds Tryz.pinned (.plain (OpenSpec.ofChange preflightRowsSpec)) preflightRowsCard

/-- THE SECOND FORM's CARD OF 'ostiarylaw17.CachePlays'. -/
def cachePlaysUptoCard : Claim7 := { stood := { row := cachePlaysUptoRow, standIns := [], harness := (true, "cf713cee8ca3da35ad22a8fc621c5a9c82f54a979a767f0a89b58d29af394807"), looks := false }, kinds := [], alts := [], laidByText := true, laidKinds := [.data, .data, .data, .data, .pinned], laidTests := true, laidLooks := .later }
def CachePlaysUptoCardSaid : Prop := Claim7.holds Tryz.pinned (.plain (OpenSpec.upto cachePlaysSpec)) cachePlaysUptoCard

/-- THE SECOND FORM's CARD OF 'ostiarylaw19.PreflightNumbers'. -/
def preflightNumbersUptoCard : Claim7 := { stood := { row := preflightNumbersUptoRow, standIns := [], harness := (true, "cf713cee8ca3da35ad22a8fc621c5a9c82f54a979a767f0a89b58d29af394807"), looks := false }, kinds := [], alts := [], laidByText := true, laidKinds := [.data, .data, .data, .data, .pinned], laidTests := true, laidLooks := .later }
def PreflightNumbersUptoCardSaid : Prop := Claim7.holds Tryz.pinned (.plain (OpenSpec.upto preflightNumbersSpec)) preflightNumbersUptoCard

/-- THE SECOND FORM's CARD OF 'ostiarylaw19.PreflightGrants'. -/
def preflightGrantsUptoCard : Claim7 := { stood := { row := preflightGrantsUptoRow, standIns := [], harness := (true, "cf713cee8ca3da35ad22a8fc621c5a9c82f54a979a767f0a89b58d29af394807"), looks := false }, kinds := [], alts := [], laidByText := true, laidKinds := [.data, .data, .data, .data, .pinned], laidTests := true, laidLooks := .later }
def PreflightGrantsUptoCardSaid : Prop := Claim7.holds Tryz.pinned (.plain (OpenSpec.upto preflightGrantsSpec)) preflightGrantsUptoCard

/-- THE SECOND FORM's CARD OF 'ostiarylaw19.PreflightKept'. -/
def preflightKeptUptoCard : Claim7 := { stood := { row := preflightKeptUptoRow, standIns := [], harness := (true, "cf713cee8ca3da35ad22a8fc621c5a9c82f54a979a767f0a89b58d29af394807"), looks := false }, kinds := [], alts := [], laidByText := true, laidKinds := [.data, .data, .data, .data, .pinned], laidTests := true, laidLooks := .later }
def PreflightKeptUptoCardSaid : Prop := Claim7.holds Tryz.pinned (.plain (OpenSpec.upto preflightKeptSpec)) preflightKeptUptoCard

/-- THE SECOND FORM's CARD OF 'ostiarylaw19.PreflightRows'. -/
def preflightRowsUptoCard : Claim7 := { stood := { row := preflightRowsUptoRow, standIns := [], harness := (true, "cf713cee8ca3da35ad22a8fc621c5a9c82f54a979a767f0a89b58d29af394807"), looks := false }, kinds := [], alts := [], laidByText := true, laidKinds := [.data, .data, .data, .data, .pinned], laidTests := true, laidLooks := .later }
def PreflightRowsUptoCardSaid : Prop := Claim7.holds Tryz.pinned (.plain (OpenSpec.upto preflightRowsSpec)) preflightRowsUptoCard
end Rows
end Go.Proofs.YtolioccofbhliaaGreatDoor
