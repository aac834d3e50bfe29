/-
  DERIVED. GIVEN WITH THE SEED: THE CARDS: each row of YtplabofdcnpcpaaDoorRows.lean that lists a variable, with what it lists TIED to the program's text (the seventh form; the later family's looks); each row that meets fmt, with fmt's text TOLD by the authors' own Lean function (tested against real Go, not proved from fmt's source: count such statements apart). THE CARD IS WHAT COUNTS. Prove the row's statement (the work); the ties are given (YtplabofdcnpcpaaDoorTie.lean); close each card by the builder's one call (the guide's Derived/Test/ToyasCard.lean, 'card_holds'). Laid BY PROGRAM, IN A SANDBOX (cutbox-door.mjs). By AI agents, Wed Nov 11 2026. No macro, syntax, notation, axiom, sorry.
-/
import Derived.Test.YtplabofdcnpcpaaDoorRows
import GoSem.ClaimSeven
namespace Go.Proofs.YtplabofdcnpcpaaDoor
namespace Rows

/-- THE TIED CARD OF 'ostiarylaw5.HeadersKept'. -/
def headersKeptCard : Claim7 := { stood := { row := headersKeptRow, standIns := [], harness := (true, "7e86ae51c4d4df47b3d41c518635ccfaa43b608d47b90f72d055fd04b66f2974"), looks := false }, kinds := [], alts := [], laidByText := true, laidKinds := [.data, .pinned], laidTests := true, laidLooks := .later }
def HeadersKeptCardSaid : Prop := Claim7.holds Tryd.pinned (.plain (OpenSpec.ofChange headersKeptSpec)) headersKeptCard

/-- THE TIED CARD OF 'ostiarylaw6.MimeKept'. -/
def mimeKeptCard : Claim7 := { stood := { row := mimeKeptRow, standIns := [], harness := (true, "7e86ae51c4d4df47b3d41c518635ccfaa43b608d47b90f72d055fd04b66f2974"), looks := false }, kinds := [], alts := [], laidByText := true, laidKinds := [.data, .pinned], laidTests := true, laidLooks := .later }
def MimeKeptCardSaid : Prop := Claim7.holds Tryd.pinned (.plain (OpenSpec.ofChange mimeKeptSpec)) mimeKeptCard

/-- THE SECOND FORM's CARD OF 'ostiarylaw5.HeadersKept'. -/
def headersKeptUptoCard : Claim7 := { stood := { row := headersKeptUptoRow, standIns := [], harness := (true, "7e86ae51c4d4df47b3d41c518635ccfaa43b608d47b90f72d055fd04b66f2974"), looks := false }, kinds := [], alts := [], laidByText := true, laidKinds := [.data, .pinned], laidTests := true, laidLooks := .later }
def HeadersKeptUptoCardSaid : Prop := Claim7.holds Tryd.pinned (.plain (OpenSpec.upto headersKeptSpec)) headersKeptUptoCard

/-- THE SECOND FORM's CARD OF 'ostiarylaw6.MimeKept'. -/
def mimeKeptUptoCard : Claim7 := { stood := { row := mimeKeptUptoRow, standIns := [], harness := (true, "7e86ae51c4d4df47b3d41c518635ccfaa43b608d47b90f72d055fd04b66f2974"), looks := false }, kinds := [], alts := [], laidByText := true, laidKinds := [.data, .pinned], laidTests := true, laidLooks := .later }
def MimeKeptUptoCardSaid : Prop := Claim7.holds Tryd.pinned (.plain (OpenSpec.upto mimeKeptSpec)) mimeKeptUptoCard
end Rows
end Go.Proofs.YtplabofdcnpcpaaDoor
