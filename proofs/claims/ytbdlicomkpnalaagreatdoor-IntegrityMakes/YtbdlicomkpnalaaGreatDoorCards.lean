/-
  DERIVED. GIVEN WITH THE SEED: THE CARDS: each row of YtbdlicomkpnalaaGreatDoorRows.lean that lists a variable, with what it lists TIED to the program's text (the seventh form; the later family's looks); each row that meets fmt, with fmt's text TOLD by the authors' own Lean function (tested against real Go, not proved from fmt's source: count such statements apart). THE CARD IS WHAT COUNTS. Prove the row's statement (the work); the ties are given (YtbdlicomkpnalaaGreatDoorTie.lean); close each card by the builder's one call (the guide's Derived/Test/ToyasCard.lean, 'card_holds'). Laid BY PROGRAM, IN A SANDBOX (cutbox-door.mjs). By AI agents, Wed Nov 11 2026. No macro, syntax, notation, axiom, sorry.
-/
import Derived.Test.YtbdlicomkpnalaaGreatDoorRows
import GoSem.ClaimSeven
namespace Go.Proofs.YtbdlicomkpnalaaGreatDoor
namespace Rows

/-- THE TIED CARD OF 'ostiarylaw9.IntegrityMakes'. -/
def integrityMakesCard : Claim7 := { stood := { row := integrityMakesRow, standIns := [], harness := (true, "c3e7e20d64c92e12b0c08fe21af598951addf081590df52102609cf0697d9bf0"), looks := false }, kinds := [], alts := [], laidByText := true, laidKinds := [.data, .data, .data, .data, .data], laidTests := true, laidLooks := .later }
def IntegrityMakesCardSaid : Prop := Claim7.holds Tryz.pinned (.plain (OpenSpec.ofChange integrityMakesSpec)) integrityMakesCard

/-- THE SECOND FORM's CARD OF 'ostiarylaw9.IntegrityMakes'. -/
def integrityMakesUptoCard : Claim7 := { stood := { row := integrityMakesUptoRow, standIns := [], harness := (true, "c3e7e20d64c92e12b0c08fe21af598951addf081590df52102609cf0697d9bf0"), looks := false }, kinds := [], alts := [], laidByText := true, laidKinds := [.data, .data, .data, .data, .data], laidTests := true, laidLooks := .later }
def IntegrityMakesUptoCardSaid : Prop := Claim7.holds Tryz.pinned (.plain (OpenSpec.upto integrityMakesSpec)) integrityMakesUptoCard
end Rows
end Go.Proofs.YtbdlicomkpnalaaGreatDoor
