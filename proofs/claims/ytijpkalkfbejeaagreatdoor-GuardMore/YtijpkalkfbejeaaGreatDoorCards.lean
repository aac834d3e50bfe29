/-
  DERIVED. GIVEN WITH THE SEED: THE CARDS: each row of YtijpkalkfbejeaaGreatDoorRows.lean that lists a variable, with what it lists TIED to the program's text (the seventh form; the later family's looks); each row that meets fmt, with fmt's text TOLD by the authors' own Lean function (tested against real Go, not proved from fmt's source: count such statements apart). THE CARD IS WHAT COUNTS. Prove the row's statement (the work); the ties are given (YtijpkalkfbejeaaGreatDoorTie.lean); close each card by the builder's one call (the guide's Derived/Test/ToyasCard.lean, 'card_holds'). Laid BY PROGRAM, IN A SANDBOX (cutbox-door.mjs). By AI agents, Wed Nov 11 2026. No macro, syntax, notation, axiom, sorry.
-/
import Derived.Test.YtijpkalkfbejeaaGreatDoorRows
import GoSem.ClaimSeven
namespace Go.Proofs.YtijpkalkfbejeaaGreatDoor
namespace Rows

/-- THE TIED CARD OF 'ostiarylaw12.GuardMore'. -/
def guardMoreCard : Claim7 := { stood := { row := guardMoreRow, standIns := [], harness := (true, "ac4553337c5526a2eb6f5a8a43eacb35191fed5175470b3210f6090fdbf90651"), looks := false }, kinds := [], alts := [], laidByText := true, laidKinds := [.data, .data, .data, .data, .pinned], laidTests := true, laidLooks := .later }
def GuardMoreCardSaid : Prop := Claim7.holds Tryz.pinned (.plain (OpenSpec.ofChange guardMoreSpec)) guardMoreCard

/-- THE SECOND FORM's CARD OF 'ostiarylaw12.GuardMore'. -/
def guardMoreUptoCard : Claim7 := { stood := { row := guardMoreUptoRow, standIns := [], harness := (true, "ac4553337c5526a2eb6f5a8a43eacb35191fed5175470b3210f6090fdbf90651"), looks := false }, kinds := [], alts := [], laidByText := true, laidKinds := [.data, .data, .data, .data, .pinned], laidTests := true, laidLooks := .later }
def GuardMoreUptoCardSaid : Prop := Claim7.holds Tryz.pinned (.plain (OpenSpec.upto guardMoreSpec)) guardMoreUptoCard
end Rows
end Go.Proofs.YtijpkalkfbejeaaGreatDoor
