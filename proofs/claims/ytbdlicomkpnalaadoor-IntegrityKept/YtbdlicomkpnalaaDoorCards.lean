/-
  DERIVED. GIVEN WITH THE SEED: THE CARDS: each row of YtbdlicomkpnalaaDoorRows.lean that lists a variable, with what it lists TIED to the program's text (the seventh form; the later family's looks); each row that meets fmt, with fmt's text TOLD by the authors' own Lean function (tested against real Go, not proved from fmt's source: count such statements apart). THE CARD IS WHAT COUNTS. Prove the row's statement (the work); the ties are given (YtbdlicomkpnalaaDoorTie.lean); close each card by the builder's one call (the guide's Derived/Test/ToyasCard.lean, 'card_holds'). Laid BY PROGRAM, IN A SANDBOX (cutbox-door.mjs). By AI agents, Wed Nov 11 2026. No macro, syntax, notation, axiom, sorry.
-/
import Derived.Test.YtbdlicomkpnalaaDoorRows
import GoSem.ClaimSeven
namespace Go.Proofs.YtbdlicomkpnalaaDoor
namespace Rows

/-- THE TIED CARD OF 'ostiarylaw8.DigestSums'. -/
def digestSumsCard : Claim7 := { stood := { row := digestSumsRow, standIns := [], harness := (true, "b05d3f48c2f1bf746d87789420fdfbab8a10e7fd84c4ae475e0f4254dff8917c"), looks := false }, kinds := [], alts := [], laidByText := true, laidKinds := [.data, .data], laidTests := true, laidLooks := .later }
def DigestSumsCardSaid : Prop := Claim7.holds Tryd.pinned (.plain (OpenSpec.ofChange digestSumsSpec)) digestSumsCard

/-- THE TIED CARD OF 'ostiarylaw8.DigestEdges'. -/
def digestEdgesCard : Claim7 := { stood := { row := digestEdgesRow, standIns := [], harness := (true, "b05d3f48c2f1bf746d87789420fdfbab8a10e7fd84c4ae475e0f4254dff8917c"), looks := false }, kinds := [], alts := [], laidByText := true, laidKinds := [.data, .data], laidTests := true, laidLooks := .later }
def DigestEdgesCardSaid : Prop := Claim7.holds Tryd.pinned (.plain (OpenSpec.ofChange digestEdgesSpec)) digestEdgesCard

/-- THE TIED CARD OF 'ostiarylaw9.IntegrityNumbers'. -/
def integrityNumbersCard : Claim7 := { stood := { row := integrityNumbersRow, standIns := [], harness := (true, "b05d3f48c2f1bf746d87789420fdfbab8a10e7fd84c4ae475e0f4254dff8917c"), looks := false }, kinds := [], alts := [], laidByText := true, laidKinds := [.data, .data, .data, .data, .data], laidTests := true, laidLooks := .later }
def IntegrityNumbersCardSaid : Prop := Claim7.holds Tryd.pinned (.plain (OpenSpec.ofChange integrityNumbersSpec)) integrityNumbersCard

/-- THE TIED CARD OF 'ostiarylaw9.IntegrityChecks'. -/
def integrityChecksCard : Claim7 := { stood := { row := integrityChecksRow, standIns := [], harness := (true, "b05d3f48c2f1bf746d87789420fdfbab8a10e7fd84c4ae475e0f4254dff8917c"), looks := false }, kinds := [], alts := [], laidByText := true, laidKinds := [.data, .data], laidTests := true, laidLooks := .later }
def IntegrityChecksCardSaid : Prop := Claim7.holds Tryd.pinned (.plain (OpenSpec.ofChange integrityChecksSpec)) integrityChecksCard

/-- THE TIED CARD OF 'ostiarylaw9.IntegrityKept'. -/
def integrityKeptCard : Claim7 := { stood := { row := integrityKeptRow, standIns := [], harness := (true, "b05d3f48c2f1bf746d87789420fdfbab8a10e7fd84c4ae475e0f4254dff8917c"), looks := false }, kinds := [], alts := [], laidByText := true, laidKinds := [.data, .data], laidTests := true, laidLooks := .later }
def IntegrityKeptCardSaid : Prop := Claim7.holds Tryd.pinned (.plain (OpenSpec.ofChange integrityKeptSpec)) integrityKeptCard

/-- THE SECOND FORM's CARD OF 'ostiarylaw8.DigestSums'. -/
def digestSumsUptoCard : Claim7 := { stood := { row := digestSumsUptoRow, standIns := [], harness := (true, "b05d3f48c2f1bf746d87789420fdfbab8a10e7fd84c4ae475e0f4254dff8917c"), looks := false }, kinds := [], alts := [], laidByText := true, laidKinds := [.data, .data], laidTests := true, laidLooks := .later }
def DigestSumsUptoCardSaid : Prop := Claim7.holds Tryd.pinned (.plain (OpenSpec.upto digestSumsSpec)) digestSumsUptoCard

/-- THE SECOND FORM's CARD OF 'ostiarylaw8.DigestEdges'. -/
def digestEdgesUptoCard : Claim7 := { stood := { row := digestEdgesUptoRow, standIns := [], harness := (true, "b05d3f48c2f1bf746d87789420fdfbab8a10e7fd84c4ae475e0f4254dff8917c"), looks := false }, kinds := [], alts := [], laidByText := true, laidKinds := [.data, .data], laidTests := true, laidLooks := .later }
def DigestEdgesUptoCardSaid : Prop := Claim7.holds Tryd.pinned (.plain (OpenSpec.upto digestEdgesSpec)) digestEdgesUptoCard

/-- THE SECOND FORM's CARD OF 'ostiarylaw9.IntegrityNumbers'. -/
def integrityNumbersUptoCard : Claim7 := { stood := { row := integrityNumbersUptoRow, standIns := [], harness := (true, "b05d3f48c2f1bf746d87789420fdfbab8a10e7fd84c4ae475e0f4254dff8917c"), looks := false }, kinds := [], alts := [], laidByText := true, laidKinds := [.data, .data, .data, .data, .data], laidTests := true, laidLooks := .later }
def IntegrityNumbersUptoCardSaid : Prop := Claim7.holds Tryd.pinned (.plain (OpenSpec.upto integrityNumbersSpec)) integrityNumbersUptoCard

/-- THE SECOND FORM's CARD OF 'ostiarylaw9.IntegrityChecks'. -/
def integrityChecksUptoCard : Claim7 := { stood := { row := integrityChecksUptoRow, standIns := [], harness := (true, "b05d3f48c2f1bf746d87789420fdfbab8a10e7fd84c4ae475e0f4254dff8917c"), looks := false }, kinds := [], alts := [], laidByText := true, laidKinds := [.data, .data], laidTests := true, laidLooks := .later }
def IntegrityChecksUptoCardSaid : Prop := Claim7.holds Tryd.pinned (.plain (OpenSpec.upto integrityChecksSpec)) integrityChecksUptoCard

/-- THE SECOND FORM's CARD OF 'ostiarylaw9.IntegrityKept'. -/
def integrityKeptUptoCard : Claim7 := { stood := { row := integrityKeptUptoRow, standIns := [], harness := (true, "b05d3f48c2f1bf746d87789420fdfbab8a10e7fd84c4ae475e0f4254dff8917c"), looks := false }, kinds := [], alts := [], laidByText := true, laidKinds := [.data, .data], laidTests := true, laidLooks := .later }
def IntegrityKeptUptoCardSaid : Prop := Claim7.holds Tryd.pinned (.plain (OpenSpec.upto integrityKeptSpec)) integrityKeptUptoCard
end Rows
end Go.Proofs.YtbdlicomkpnalaaDoor
