/-
  DERIVED. GIVEN WITH THE SEED: THE CARDS: each row of YtmhooefajdndjaaGreatDoorRows.lean that lists a variable, with what it lists TIED to the program's text (the seventh form; the later family's looks); each row that meets fmt, with fmt's text TOLD by the authors' own Lean function (tested against real Go, not proved from fmt's source: count such statements apart). THE CARD IS WHAT COUNTS. Prove the row's statement (the work); the ties are given (YtmhooefajdndjaaGreatDoorTie.lean); close each card by the builder's one call (the guide's Derived/Test/ToyasCard.lean, 'card_holds'). Laid BY PROGRAM, IN A SANDBOX (cutbox-door.mjs). By AI agents, Wed Nov 11 2026. No macro, syntax, notation, axiom, sorry.
-/
import Derived.Test.YtmhooefajdndjaaGreatDoorRows
import GoSem.ClaimSeven
namespace Go.Proofs.YtmhooefajdndjaaGreatDoor
namespace Rows

/-- THE TIED CARD OF 'ostiarylaw4.OriginNumbers'. -/
def originNumbersCard : Claim7 := { stood := { row := originNumbersRow, standIns := [], harness := (true, "6500bbecdaa7ab1cbbdf60d7f2c42e1991a38db9a083faaad7a8bbaff07b0a01"), looks := false }, kinds := [], alts := [], laidByText := true, laidKinds := [.data, .data, .data, .data, .pinned], laidTests := true, laidLooks := .later }
def OriginNumbersCardSaid : Prop := Claim7.holds Tryz.pinned (.plain (OpenSpec.ofChange originNumbersSpec)) originNumbersCard

/-- THE TIED CARD OF 'ostiarylaw4.OriginQueries'. -/
def originQueriesCard : Claim7 := { stood := { row := originQueriesRow, standIns := [], harness := (true, "6500bbecdaa7ab1cbbdf60d7f2c42e1991a38db9a083faaad7a8bbaff07b0a01"), looks := false }, kinds := [], alts := [], laidByText := true, laidKinds := [.data, .data, .data, .data, .pinned], laidTests := true, laidLooks := .later }
def OriginQueriesCardSaid : Prop := Claim7.holds Tryz.pinned (.plain (OpenSpec.ofChange originQueriesSpec)) originQueriesCard

/-- THE TIED CARD OF 'ostiarylaw4.OriginBack'. -/
def originBackCard : Claim7 := { stood := { row := originBackRow, standIns := [], harness := (true, "6500bbecdaa7ab1cbbdf60d7f2c42e1991a38db9a083faaad7a8bbaff07b0a01"), looks := false }, kinds := [], alts := [], laidByText := true, laidKinds := [.data, .data, .data, .data, .pinned], laidTests := true, laidLooks := .later }
def OriginBackCardSaid : Prop := Claim7.holds Tryz.pinned (.plain (OpenSpec.ofChange originBackSpec)) originBackCard

/-- THE TIED CARD OF 'ostiarylaw14.MixedNumbers'. -/
def mixedNumbersCard : Claim7 := { stood := { row := mixedNumbersRow, standIns := [], harness := (true, "6500bbecdaa7ab1cbbdf60d7f2c42e1991a38db9a083faaad7a8bbaff07b0a01"), looks := false }, kinds := [], alts := [], laidByText := true, laidKinds := [.data, .data, .data, .data, .pinned], laidTests := true, laidLooks := .later }
def MixedNumbersCardSaid : Prop := Claim7.holds Tryz.pinned (.plain (OpenSpec.ofChange mixedNumbersSpec)) mixedNumbersCard

/-- THE TIED CARD OF 'ostiarylaw14.MixedJudges'. -/
def mixedJudgesCard : Claim7 := { stood := { row := mixedJudgesRow, standIns := [], harness := (true, "6500bbecdaa7ab1cbbdf60d7f2c42e1991a38db9a083faaad7a8bbaff07b0a01"), looks := false }, kinds := [], alts := [], laidByText := true, laidKinds := [.data, .data, .data, .data, .pinned], laidTests := true, laidLooks := .later }
def MixedJudgesCardSaid : Prop := Claim7.holds Tryz.pinned (.plain (OpenSpec.ofChange mixedJudgesSpec)) mixedJudgesCard

/-- THE TIED CARD OF 'ostiarylaw14.MixedRaised'. -/
def mixedRaisedCard : Claim7 := { stood := { row := mixedRaisedRow, standIns := [], harness := (true, "6500bbecdaa7ab1cbbdf60d7f2c42e1991a38db9a083faaad7a8bbaff07b0a01"), looks := false }, kinds := [], alts := [], laidByText := true, laidKinds := [.data, .data, .data, .data, .pinned], laidTests := true, laidLooks := .later }
def MixedRaisedCardSaid : Prop := Claim7.holds Tryz.pinned (.plain (OpenSpec.ofChange mixedRaisedSpec)) mixedRaisedCard

/-- THE TIED CARD OF 'ostiarylaw14.MixedPages'. -/
def mixedPagesCard : Claim7 := { stood := { row := mixedPagesRow, standIns := [], harness := (true, "6500bbecdaa7ab1cbbdf60d7f2c42e1991a38db9a083faaad7a8bbaff07b0a01"), looks := false }, kinds := [], alts := [], laidByText := true, laidKinds := [.data, .data, .data, .data, .pinned], laidTests := true, laidLooks := .later }
def MixedPagesCardSaid : Prop := Claim7.holds Tryz.pinned (.plain (OpenSpec.ofChange mixedPagesSpec)) mixedPagesCard

/-- THE SECOND FORM's CARD OF 'ostiarylaw4.OriginNumbers'. -/
def originNumbersUptoCard : Claim7 := { stood := { row := originNumbersUptoRow, standIns := [], harness := (true, "6500bbecdaa7ab1cbbdf60d7f2c42e1991a38db9a083faaad7a8bbaff07b0a01"), looks := false }, kinds := [], alts := [], laidByText := true, laidKinds := [.data, .data, .data, .data, .pinned], laidTests := true, laidLooks := .later }
def OriginNumbersUptoCardSaid : Prop := Claim7.holds Tryz.pinned (.plain (OpenSpec.upto originNumbersSpec)) originNumbersUptoCard

/-- THE SECOND FORM's CARD OF 'ostiarylaw4.OriginQueries'. -/
def originQueriesUptoCard : Claim7 := { stood := { row := originQueriesUptoRow, standIns := [], harness := (true, "6500bbecdaa7ab1cbbdf60d7f2c42e1991a38db9a083faaad7a8bbaff07b0a01"), looks := false }, kinds := [], alts := [], laidByText := true, laidKinds := [.data, .data, .data, .data, .pinned], laidTests := true, laidLooks := .later }
def OriginQueriesUptoCardSaid : Prop := Claim7.holds Tryz.pinned (.plain (OpenSpec.upto originQueriesSpec)) originQueriesUptoCard

/-- THE SECOND FORM's CARD OF 'ostiarylaw4.OriginBack'. -/
def originBackUptoCard : Claim7 := { stood := { row := originBackUptoRow, standIns := [], harness := (true, "6500bbecdaa7ab1cbbdf60d7f2c42e1991a38db9a083faaad7a8bbaff07b0a01"), looks := false }, kinds := [], alts := [], laidByText := true, laidKinds := [.data, .data, .data, .data, .pinned], laidTests := true, laidLooks := .later }
def OriginBackUptoCardSaid : Prop := Claim7.holds Tryz.pinned (.plain (OpenSpec.upto originBackSpec)) originBackUptoCard

/-- THE SECOND FORM's CARD OF 'ostiarylaw14.MixedNumbers'. -/
def mixedNumbersUptoCard : Claim7 := { stood := { row := mixedNumbersUptoRow, standIns := [], harness := (true, "6500bbecdaa7ab1cbbdf60d7f2c42e1991a38db9a083faaad7a8bbaff07b0a01"), looks := false }, kinds := [], alts := [], laidByText := true, laidKinds := [.data, .data, .data, .data, .pinned], laidTests := true, laidLooks := .later }
def MixedNumbersUptoCardSaid : Prop := Claim7.holds Tryz.pinned (.plain (OpenSpec.upto mixedNumbersSpec)) mixedNumbersUptoCard

/-- THE SECOND FORM's CARD OF 'ostiarylaw14.MixedJudges'. -/
def mixedJudgesUptoCard : Claim7 := { stood := { row := mixedJudgesUptoRow, standIns := [], harness := (true, "6500bbecdaa7ab1cbbdf60d7f2c42e1991a38db9a083faaad7a8bbaff07b0a01"), looks := false }, kinds := [], alts := [], laidByText := true, laidKinds := [.data, .data, .data, .data, .pinned], laidTests := true, laidLooks := .later }
def MixedJudgesUptoCardSaid : Prop := Claim7.holds Tryz.pinned (.plain (OpenSpec.upto mixedJudgesSpec)) mixedJudgesUptoCard

/-- THE SECOND FORM's CARD OF 'ostiarylaw14.MixedRaised'. -/
def mixedRaisedUptoCard : Claim7 := { stood := { row := mixedRaisedUptoRow, standIns := [], harness := (true, "6500bbecdaa7ab1cbbdf60d7f2c42e1991a38db9a083faaad7a8bbaff07b0a01"), looks := false }, kinds := [], alts := [], laidByText := true, laidKinds := [.data, .data, .data, .data, .pinned], laidTests := true, laidLooks := .later }
def MixedRaisedUptoCardSaid : Prop := Claim7.holds Tryz.pinned (.plain (OpenSpec.upto mixedRaisedSpec)) mixedRaisedUptoCard

/-- THE SECOND FORM's CARD OF 'ostiarylaw14.MixedPages'. -/
def mixedPagesUptoCard : Claim7 := { stood := { row := mixedPagesUptoRow, standIns := [], harness := (true, "6500bbecdaa7ab1cbbdf60d7f2c42e1991a38db9a083faaad7a8bbaff07b0a01"), looks := false }, kinds := [], alts := [], laidByText := true, laidKinds := [.data, .data, .data, .data, .pinned], laidTests := true, laidLooks := .later }
def MixedPagesUptoCardSaid : Prop := Claim7.holds Tryz.pinned (.plain (OpenSpec.upto mixedPagesSpec)) mixedPagesUptoCard
end Rows
end Go.Proofs.YtmhooefajdndjaaGreatDoor
