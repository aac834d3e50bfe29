/-
  DERIVED. GIVEN WITH THE SEED: THE CARDS: each row of YtiemggepdeaogaaGreatDoorRows.lean that lists a variable, with what it lists TIED to the program's text (the seventh form; the later family's looks); each row that meets fmt, with fmt's text TOLD by the authors' own Lean function (tested against real Go, not proved from fmt's source: count such statements apart). THE CARD IS WHAT COUNTS. Prove the row's statement (the work); the ties are given (YtiemggepdeaogaaGreatDoorTie.lean); close each card by the builder's one call (the guide's Derived/Test/ToyasCard.lean, 'card_holds'). Laid BY PROGRAM, IN A SANDBOX (cutbox-door.mjs). By AI agents, Wed Nov 11 2026. No macro, syntax, notation, axiom, sorry.
-/
import Derived.Test.YtiemggepdeaogaaGreatDoorRows
import GoSem.ClaimSeven
namespace Go.Proofs.YtiemggepdeaogaaGreatDoor
namespace Rows

/-- THE TIED CARD OF 'ostiarylaw6.MimeExtracts'. -/
def mimeExtractsCard : Claim7 := { stood := { row := mimeExtractsRow, standIns := [], harness := (true, "80e0bf83335c04f368d3511393485ce3e74d49a181340cb264878dcd22286f46"), looks := false }, kinds := [], alts := [], laidByText := true, laidKinds := [.data, .pinned], laidTests := true, laidLooks := .later }
def MimeExtractsCardSaid : Prop := Claim7.holds Tryz.pinned (.plain (OpenSpec.ofChange mimeExtractsSpec)) mimeExtractsCard

/-- THE SECOND FORM's CARD OF 'ostiarylaw6.MimeExtracts'. -/
def mimeExtractsUptoCard : Claim7 := { stood := { row := mimeExtractsUptoRow, standIns := [], harness := (true, "80e0bf83335c04f368d3511393485ce3e74d49a181340cb264878dcd22286f46"), looks := false }, kinds := [], alts := [], laidByText := true, laidKinds := [.data, .pinned], laidTests := true, laidLooks := .later }
def MimeExtractsUptoCardSaid : Prop := Claim7.holds Tryz.pinned (.plain (OpenSpec.upto mimeExtractsSpec)) mimeExtractsUptoCard
end Rows
end Go.Proofs.YtiemggepdeaogaaGreatDoor
