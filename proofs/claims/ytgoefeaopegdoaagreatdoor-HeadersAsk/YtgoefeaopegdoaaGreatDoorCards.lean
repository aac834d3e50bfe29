/-
  DERIVED. GIVEN WITH THE SEED: THE CARDS: each row of YtgoefeaopegdoaaGreatDoorRows.lean that lists a variable, with what it lists TIED to the program's text (the seventh form; the later family's looks); each row that meets fmt, with fmt's text TOLD by the authors' own Lean function (tested against real Go, not proved from fmt's source: count such statements apart). THE CARD IS WHAT COUNTS. Prove the row's statement (the work); the ties are given (YtgoefeaopegdoaaGreatDoorTie.lean); close each card by the builder's one call (the guide's Derived/Test/ToyasCard.lean, 'card_holds'). Laid BY PROGRAM, IN A SANDBOX (cutbox-door.mjs). By AI agents, Wed Nov 11 2026. No macro, syntax, notation, axiom, sorry.
-/
import Derived.Test.YtgoefeaopegdoaaGreatDoorRows
import GoSem.ClaimSeven
namespace Go.Proofs.YtgoefeaopegdoaaGreatDoor
namespace Rows

/-- THE TIED CARD OF 'ostiarylaw15.MetaNumbers'. -/
def metaNumbersCard : Claim7 := { stood := { row := metaNumbersRow, standIns := [], harness := (true, "a174efd3e05e5847c0b2e77b4dfaf88e55863bb28dc89719a08daa2a37af5255"), looks := false }, kinds := [], alts := [], laidByText := true, laidKinds := [.data, .data, .data, .data, .pinned], laidTests := true, laidLooks := .later }
def MetaNumbersCardSaid : Prop := Claim7.holds Tryz.pinned (.plain (OpenSpec.ofChange metaNumbersSpec)) metaNumbersCard

/-- THE TIED CARD OF 'ostiarylaw15.MetaStays'. -/
def metaStaysCard : Claim7 := { stood := { row := metaStaysRow, standIns := [], harness := (true, "a174efd3e05e5847c0b2e77b4dfaf88e55863bb28dc89719a08daa2a37af5255"), looks := false }, kinds := [], alts := [], laidByText := true, laidKinds := [.data, .data, .data, .data, .pinned], laidTests := true, laidLooks := .later }
def MetaStaysCardSaid : Prop := Claim7.holds Tryz.pinned (.plain (OpenSpec.ofChange metaStaysSpec)) metaStaysCard

/-- THE TIED CARD OF 'ostiarylaw15.MetaKept'. -/
def metaKeptCard : Claim7 := { stood := { row := metaKeptRow, standIns := [], harness := (true, "a174efd3e05e5847c0b2e77b4dfaf88e55863bb28dc89719a08daa2a37af5255"), looks := false }, kinds := [], alts := [], laidByText := true, laidKinds := [.data, .data, .data, .data, .pinned], laidTests := true, laidLooks := .later }
def MetaKeptCardSaid : Prop := Claim7.holds Tryz.pinned (.plain (OpenSpec.ofChange metaKeptSpec)) metaKeptCard

/-- THE TIED CARD OF 'ostiarylaw4.OriginQueries'. -/
def originQueriesCard : Claim7 := { stood := { row := originQueriesRow, standIns := [], harness := (true, "a174efd3e05e5847c0b2e77b4dfaf88e55863bb28dc89719a08daa2a37af5255"), looks := false }, kinds := [], alts := [], laidByText := true, laidKinds := [.data, .data, .data, .data, .pinned], laidTests := true, laidLooks := .later }
def OriginQueriesCardSaid : Prop := Claim7.holds Tryz.pinned (.plain (OpenSpec.ofChange originQueriesSpec)) originQueriesCard

/-- THE TIED CARD OF 'ostiarylaw4.OriginBack'. -/
def originBackCard : Claim7 := { stood := { row := originBackRow, standIns := [], harness := (true, "a174efd3e05e5847c0b2e77b4dfaf88e55863bb28dc89719a08daa2a37af5255"), looks := false }, kinds := [], alts := [], laidByText := true, laidKinds := [.data, .data, .data, .data, .pinned], laidTests := true, laidLooks := .later }
def OriginBackCardSaid : Prop := Claim7.holds Tryz.pinned (.plain (OpenSpec.ofChange originBackSpec)) originBackCard

/-- THE TIED CARD OF 'ostiarylaw5.HeadersAsk'. -/
def headersAskCard : Claim7 := { stood := { row := headersAskRow, standIns := [], harness := (true, "a174efd3e05e5847c0b2e77b4dfaf88e55863bb28dc89719a08daa2a37af5255"), looks := false }, kinds := [], alts := [], laidByText := true, laidKinds := [.data, .pinned], laidTests := true, laidLooks := .later }
def HeadersAskCardSaid : Prop := Claim7.holds Tryz.pinned (.plain (OpenSpec.ofChange headersAskSpec)) headersAskCard

/-- THE TIED CARD OF 'ostiarylaw12.GuardNumbers'. -/
def guardNumbersCard : Claim7 := { stood := { row := guardNumbersRow, standIns := [], harness := (true, "a174efd3e05e5847c0b2e77b4dfaf88e55863bb28dc89719a08daa2a37af5255"), looks := false }, kinds := [], alts := [], laidByText := true, laidKinds := [.data, .data, .data, .data, .pinned], laidTests := true, laidLooks := .later }
def GuardNumbersCardSaid : Prop := Claim7.holds Tryz.pinned (.plain (OpenSpec.ofChange guardNumbersSpec)) guardNumbersCard

/-- THE TIED CARD OF 'ostiarylaw12.GuardMore'. -/
def guardMoreCard : Claim7 := { stood := { row := guardMoreRow, standIns := [], harness := (true, "a174efd3e05e5847c0b2e77b4dfaf88e55863bb28dc89719a08daa2a37af5255"), looks := false }, kinds := [], alts := [], laidByText := true, laidKinds := [.data, .data, .data, .data, .pinned], laidTests := true, laidLooks := .later }
def GuardMoreCardSaid : Prop := Claim7.holds Tryz.pinned (.plain (OpenSpec.ofChange guardMoreSpec)) guardMoreCard

/-- THE TIED CARD OF 'ostiarylaw12.GuardNonces'. -/
def guardNoncesCard : Claim7 := { stood := { row := guardNoncesRow, standIns := [], harness := (true, "a174efd3e05e5847c0b2e77b4dfaf88e55863bb28dc89719a08daa2a37af5255"), looks := false }, kinds := [], alts := [], laidByText := true, laidKinds := [.data, .data, .data, .data, .pinned], laidTests := true, laidLooks := .later }
def GuardNoncesCardSaid : Prop := Claim7.holds Tryz.pinned (.plain (OpenSpec.ofChange guardNoncesSpec)) guardNoncesCard

/-- THE SECOND FORM's CARD OF 'ostiarylaw15.MetaNumbers'. -/
def metaNumbersUptoCard : Claim7 := { stood := { row := metaNumbersUptoRow, standIns := [], harness := (true, "a174efd3e05e5847c0b2e77b4dfaf88e55863bb28dc89719a08daa2a37af5255"), looks := false }, kinds := [], alts := [], laidByText := true, laidKinds := [.data, .data, .data, .data, .pinned], laidTests := true, laidLooks := .later }
def MetaNumbersUptoCardSaid : Prop := Claim7.holds Tryz.pinned (.plain (OpenSpec.upto metaNumbersSpec)) metaNumbersUptoCard

/-- THE SECOND FORM's CARD OF 'ostiarylaw15.MetaStays'. -/
def metaStaysUptoCard : Claim7 := { stood := { row := metaStaysUptoRow, standIns := [], harness := (true, "a174efd3e05e5847c0b2e77b4dfaf88e55863bb28dc89719a08daa2a37af5255"), looks := false }, kinds := [], alts := [], laidByText := true, laidKinds := [.data, .data, .data, .data, .pinned], laidTests := true, laidLooks := .later }
def MetaStaysUptoCardSaid : Prop := Claim7.holds Tryz.pinned (.plain (OpenSpec.upto metaStaysSpec)) metaStaysUptoCard

/-- THE SECOND FORM's CARD OF 'ostiarylaw15.MetaKept'. -/
def metaKeptUptoCard : Claim7 := { stood := { row := metaKeptUptoRow, standIns := [], harness := (true, "a174efd3e05e5847c0b2e77b4dfaf88e55863bb28dc89719a08daa2a37af5255"), looks := false }, kinds := [], alts := [], laidByText := true, laidKinds := [.data, .data, .data, .data, .pinned], laidTests := true, laidLooks := .later }
def MetaKeptUptoCardSaid : Prop := Claim7.holds Tryz.pinned (.plain (OpenSpec.upto metaKeptSpec)) metaKeptUptoCard

/-- THE SECOND FORM's CARD OF 'ostiarylaw4.OriginQueries'. -/
def originQueriesUptoCard : Claim7 := { stood := { row := originQueriesUptoRow, standIns := [], harness := (true, "a174efd3e05e5847c0b2e77b4dfaf88e55863bb28dc89719a08daa2a37af5255"), looks := false }, kinds := [], alts := [], laidByText := true, laidKinds := [.data, .data, .data, .data, .pinned], laidTests := true, laidLooks := .later }
def OriginQueriesUptoCardSaid : Prop := Claim7.holds Tryz.pinned (.plain (OpenSpec.upto originQueriesSpec)) originQueriesUptoCard

/-- THE SECOND FORM's CARD OF 'ostiarylaw4.OriginBack'. -/
def originBackUptoCard : Claim7 := { stood := { row := originBackUptoRow, standIns := [], harness := (true, "a174efd3e05e5847c0b2e77b4dfaf88e55863bb28dc89719a08daa2a37af5255"), looks := false }, kinds := [], alts := [], laidByText := true, laidKinds := [.data, .data, .data, .data, .pinned], laidTests := true, laidLooks := .later }
def OriginBackUptoCardSaid : Prop := Claim7.holds Tryz.pinned (.plain (OpenSpec.upto originBackSpec)) originBackUptoCard

/-- THE SECOND FORM's CARD OF 'ostiarylaw5.HeadersAsk'. -/
def headersAskUptoCard : Claim7 := { stood := { row := headersAskUptoRow, standIns := [], harness := (true, "a174efd3e05e5847c0b2e77b4dfaf88e55863bb28dc89719a08daa2a37af5255"), looks := false }, kinds := [], alts := [], laidByText := true, laidKinds := [.data, .pinned], laidTests := true, laidLooks := .later }
def HeadersAskUptoCardSaid : Prop := Claim7.holds Tryz.pinned (.plain (OpenSpec.upto headersAskSpec)) headersAskUptoCard

/-- THE SECOND FORM's CARD OF 'ostiarylaw12.GuardNumbers'. -/
def guardNumbersUptoCard : Claim7 := { stood := { row := guardNumbersUptoRow, standIns := [], harness := (true, "a174efd3e05e5847c0b2e77b4dfaf88e55863bb28dc89719a08daa2a37af5255"), looks := false }, kinds := [], alts := [], laidByText := true, laidKinds := [.data, .data, .data, .data, .pinned], laidTests := true, laidLooks := .later }
def GuardNumbersUptoCardSaid : Prop := Claim7.holds Tryz.pinned (.plain (OpenSpec.upto guardNumbersSpec)) guardNumbersUptoCard

/-- THE SECOND FORM's CARD OF 'ostiarylaw12.GuardMore'. -/
def guardMoreUptoCard : Claim7 := { stood := { row := guardMoreUptoRow, standIns := [], harness := (true, "a174efd3e05e5847c0b2e77b4dfaf88e55863bb28dc89719a08daa2a37af5255"), looks := false }, kinds := [], alts := [], laidByText := true, laidKinds := [.data, .data, .data, .data, .pinned], laidTests := true, laidLooks := .later }
def GuardMoreUptoCardSaid : Prop := Claim7.holds Tryz.pinned (.plain (OpenSpec.upto guardMoreSpec)) guardMoreUptoCard

/-- THE SECOND FORM's CARD OF 'ostiarylaw12.GuardNonces'. -/
def guardNoncesUptoCard : Claim7 := { stood := { row := guardNoncesUptoRow, standIns := [], harness := (true, "a174efd3e05e5847c0b2e77b4dfaf88e55863bb28dc89719a08daa2a37af5255"), looks := false }, kinds := [], alts := [], laidByText := true, laidKinds := [.data, .data, .data, .data, .pinned], laidTests := true, laidLooks := .later }
def GuardNoncesUptoCardSaid : Prop := Claim7.holds Tryz.pinned (.plain (OpenSpec.upto guardNoncesSpec)) guardNoncesUptoCard
end Rows
end Go.Proofs.YtgoefeaopegdoaaGreatDoor
