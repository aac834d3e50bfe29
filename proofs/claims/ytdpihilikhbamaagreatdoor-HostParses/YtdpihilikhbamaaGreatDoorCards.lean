/-
  DERIVED. GIVEN WITH THE SEED: THE CARDS: each row of YtdpihilikhbamaaGreatDoorRows.lean that lists a variable, with what it lists TIED to the program's text (the seventh form; the later family's looks); each row that meets fmt, with fmt's text TOLD by the authors' own Lean function (tested against real Go, not proved from fmt's source: count such statements apart). THE CARD IS WHAT COUNTS. Prove the row's statement (the work); the ties are given (YtdpihilikhbamaaGreatDoorTie.lean); close each card by the builder's one call (the guide's Derived/Test/ToyasCard.lean, 'card_holds'). Laid BY PROGRAM, IN A SANDBOX (cutbox-door.mjs). By AI agents, Wed Nov 11 2026. No macro, syntax, notation, axiom, sorry.
-/
import Derived.Test.YtdpihilikhbamaaGreatDoorRows
import GoSem.ClaimSeven
namespace Go.Proofs.YtdpihilikhbamaaGreatDoor
namespace Rows

/-- THE TIED CARD OF 'ostiarylaw2.HostParses'. -/
def hostParsesCard : Claim7 := { stood := { row := hostParsesRow, standIns := [], harness := (true, "ea39c2860a1c69d0473f175240b0e4f5645af2d1b7d2cedae71e55c828f9b04f"), looks := false }, kinds := [], alts := [], laidByText := true, laidKinds := [.data, .data, .data], laidTests := true, laidLooks := .later }
def HostParsesCardSaid : Prop := Claim7.holds Tryz.pinned (.plain (OpenSpec.ofChange hostParsesSpec)) hostParsesCard

/-- THE SECOND FORM's CARD OF 'ostiarylaw2.HostParses'. -/
def hostParsesUptoCard : Claim7 := { stood := { row := hostParsesUptoRow, standIns := [], harness := (true, "ea39c2860a1c69d0473f175240b0e4f5645af2d1b7d2cedae71e55c828f9b04f"), looks := false }, kinds := [], alts := [], laidByText := true, laidKinds := [.data, .data, .data], laidTests := true, laidLooks := .later }
def HostParsesUptoCardSaid : Prop := Claim7.holds Tryz.pinned (.plain (OpenSpec.upto hostParsesSpec)) hostParsesUptoCard
end Rows
end Go.Proofs.YtdpihilikhbamaaGreatDoor
