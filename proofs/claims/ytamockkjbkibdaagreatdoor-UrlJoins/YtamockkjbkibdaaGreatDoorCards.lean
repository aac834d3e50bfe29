/-
  DERIVED. GIVEN WITH THE SEED: THE CARDS: each row of YtamockkjbkibdaaGreatDoorRows.lean that lists a variable, with what it lists TIED to the program's text (the seventh form; the later family's looks); each row that meets fmt, with fmt's text TOLD by the authors' own Lean function (tested against real Go, not proved from fmt's source: count such statements apart). THE CARD IS WHAT COUNTS. Prove the row's statement (the work); the ties are given (YtamockkjbkibdaaGreatDoorTie.lean); close each card by the builder's one call (the guide's Derived/Test/ToyasCard.lean, 'card_holds'). Laid BY PROGRAM, IN A SANDBOX (cutbox-door.mjs). By AI agents, Wed Nov 11 2026. No macro, syntax, notation, axiom, sorry.
-/
import Derived.Test.YtamockkjbkibdaaGreatDoorRows
import GoSem.ClaimSeven
namespace Go.Proofs.YtamockkjbkibdaaGreatDoor
namespace Rows

/-- THE TIED CARD OF 'ostiarylaw3.UrlJoins'. -/
def urlJoinsCard : Claim7 := { stood := { row := urlJoinsRow, standIns := [], harness := (true, "adc708c0174d821f30678e23f4e66e705277cb72979a2dbc69c034232302cc5e"), looks := false }, kinds := [], alts := [], laidByText := true, laidKinds := [.data, .data, .data, .data, .pinned], laidTests := true, laidLooks := .later }
def UrlJoinsCardSaid : Prop := Claim7.holds Tryz.pinned (.plain (OpenSpec.ofChange urlJoinsSpec)) urlJoinsCard

/-- THE TIED CARD OF 'ostiarylaw4.OriginNumbers'. -/
def originNumbersCard : Claim7 := { stood := { row := originNumbersRow, standIns := [], harness := (true, "adc708c0174d821f30678e23f4e66e705277cb72979a2dbc69c034232302cc5e"), looks := false }, kinds := [], alts := [], laidByText := true, laidKinds := [.data, .data, .data, .data, .pinned], laidTests := true, laidLooks := .later }
def OriginNumbersCardSaid : Prop := Claim7.holds Tryz.pinned (.plain (OpenSpec.ofChange originNumbersSpec)) originNumbersCard

/-- THE TIED CARD OF 'ostiarylaw4.OriginQueries'. -/
def originQueriesCard : Claim7 := { stood := { row := originQueriesRow, standIns := [], harness := (true, "adc708c0174d821f30678e23f4e66e705277cb72979a2dbc69c034232302cc5e"), looks := false }, kinds := [], alts := [], laidByText := true, laidKinds := [.data, .data, .data, .data, .pinned], laidTests := true, laidLooks := .later }
def OriginQueriesCardSaid : Prop := Claim7.holds Tryz.pinned (.plain (OpenSpec.ofChange originQueriesSpec)) originQueriesCard

/-- THE TIED CARD OF 'ostiarylaw4.OriginBack'. -/
def originBackCard : Claim7 := { stood := { row := originBackRow, standIns := [], harness := (true, "adc708c0174d821f30678e23f4e66e705277cb72979a2dbc69c034232302cc5e"), looks := false }, kinds := [], alts := [], laidByText := true, laidKinds := [.data, .data, .data, .data, .pinned], laidTests := true, laidLooks := .later }
def OriginBackCardSaid : Prop := Claim7.holds Tryz.pinned (.plain (OpenSpec.ofChange originBackSpec)) originBackCard

/-- THE TIED CARD OF 'ostiarylaw4.OriginParsed'. -/
def originParsedCard : Claim7 := { stood := { row := originParsedRow, standIns := [], harness := (true, "adc708c0174d821f30678e23f4e66e705277cb72979a2dbc69c034232302cc5e"), looks := false }, kinds := [], alts := [], laidByText := true, laidKinds := [.data, .data, .data, .data, .pinned], laidTests := true, laidLooks := .later }
def OriginParsedCardSaid : Prop := Claim7.holds Tryz.pinned (.plain (OpenSpec.ofChange originParsedSpec)) originParsedCard

/-- THE TIED CARD OF 'ostiarylaw4.OriginSites'. -/
def originSitesCard : Claim7 := { stood := { row := originSitesRow, standIns := [], harness := (true, "adc708c0174d821f30678e23f4e66e705277cb72979a2dbc69c034232302cc5e"), looks := false }, kinds := [], alts := [], laidByText := true, laidKinds := [.data, .data, .data, .data, .pinned], laidTests := true, laidLooks := .later }
def OriginSitesCardSaid : Prop := Claim7.holds Tryz.pinned (.plain (OpenSpec.ofChange originSitesSpec)) originSitesCard

/-- THE TIED CARD OF 'ostiarylaw4.OriginBlobs'. -/
def originBlobsCard : Claim7 := { stood := { row := originBlobsRow, standIns := [], harness := (true, "adc708c0174d821f30678e23f4e66e705277cb72979a2dbc69c034232302cc5e"), looks := false }, kinds := [], alts := [], laidByText := true, laidKinds := [.data, .data, .data, .data, .pinned], laidTests := true, laidLooks := .later }
def OriginBlobsCardSaid : Prop := Claim7.holds Tryz.pinned (.plain (OpenSpec.ofChange originBlobsSpec)) originBlobsCard

/-- THE TIED CARD OF 'ostiarylaw13.ReferrerNumbers'. -/
def referrerNumbersCard : Claim7 := { stood := { row := referrerNumbersRow, standIns := [], harness := (true, "adc708c0174d821f30678e23f4e66e705277cb72979a2dbc69c034232302cc5e"), looks := false }, kinds := [], alts := [], laidByText := true, laidKinds := [.data, .data, .data, .data, .pinned], laidTests := true, laidLooks := .later }
def ReferrerNumbersCardSaid : Prop := Claim7.holds Tryz.pinned (.plain (OpenSpec.ofChange referrerNumbersSpec)) referrerNumbersCard

/-- THE TIED CARD OF 'ostiarylaw13.ReferrerLess'. -/
def referrerLessCard : Claim7 := { stood := { row := referrerLessRow, standIns := [], harness := (true, "adc708c0174d821f30678e23f4e66e705277cb72979a2dbc69c034232302cc5e"), looks := false }, kinds := [], alts := [], laidByText := true, laidKinds := [.data, .data, .data, .data, .pinned], laidTests := true, laidLooks := .later }
def ReferrerLessCardSaid : Prop := Claim7.holds Tryz.pinned (.plain (OpenSpec.ofChange referrerLessSpec)) referrerLessCard

/-- THE TIED CARD OF 'ostiarylaw13.ReferrerPolicies'. -/
def referrerPoliciesCard : Claim7 := { stood := { row := referrerPoliciesRow, standIns := [], harness := (true, "adc708c0174d821f30678e23f4e66e705277cb72979a2dbc69c034232302cc5e"), looks := false }, kinds := [], alts := [], laidByText := true, laidKinds := [.data, .data, .data, .data, .pinned], laidTests := true, laidLooks := .later }
def ReferrerPoliciesCardSaid : Prop := Claim7.holds Tryz.pinned (.plain (OpenSpec.ofChange referrerPoliciesSpec)) referrerPoliciesCard

/-- THE SECOND FORM's CARD OF 'ostiarylaw3.UrlJoins'. -/
def urlJoinsUptoCard : Claim7 := { stood := { row := urlJoinsUptoRow, standIns := [], harness := (true, "adc708c0174d821f30678e23f4e66e705277cb72979a2dbc69c034232302cc5e"), looks := false }, kinds := [], alts := [], laidByText := true, laidKinds := [.data, .data, .data, .data, .pinned], laidTests := true, laidLooks := .later }
def UrlJoinsUptoCardSaid : Prop := Claim7.holds Tryz.pinned (.plain (OpenSpec.upto urlJoinsSpec)) urlJoinsUptoCard

/-- THE SECOND FORM's CARD OF 'ostiarylaw4.OriginNumbers'. -/
def originNumbersUptoCard : Claim7 := { stood := { row := originNumbersUptoRow, standIns := [], harness := (true, "adc708c0174d821f30678e23f4e66e705277cb72979a2dbc69c034232302cc5e"), looks := false }, kinds := [], alts := [], laidByText := true, laidKinds := [.data, .data, .data, .data, .pinned], laidTests := true, laidLooks := .later }
def OriginNumbersUptoCardSaid : Prop := Claim7.holds Tryz.pinned (.plain (OpenSpec.upto originNumbersSpec)) originNumbersUptoCard

/-- THE SECOND FORM's CARD OF 'ostiarylaw4.OriginQueries'. -/
def originQueriesUptoCard : Claim7 := { stood := { row := originQueriesUptoRow, standIns := [], harness := (true, "adc708c0174d821f30678e23f4e66e705277cb72979a2dbc69c034232302cc5e"), looks := false }, kinds := [], alts := [], laidByText := true, laidKinds := [.data, .data, .data, .data, .pinned], laidTests := true, laidLooks := .later }
def OriginQueriesUptoCardSaid : Prop := Claim7.holds Tryz.pinned (.plain (OpenSpec.upto originQueriesSpec)) originQueriesUptoCard

/-- THE SECOND FORM's CARD OF 'ostiarylaw4.OriginBack'. -/
def originBackUptoCard : Claim7 := { stood := { row := originBackUptoRow, standIns := [], harness := (true, "adc708c0174d821f30678e23f4e66e705277cb72979a2dbc69c034232302cc5e"), looks := false }, kinds := [], alts := [], laidByText := true, laidKinds := [.data, .data, .data, .data, .pinned], laidTests := true, laidLooks := .later }
def OriginBackUptoCardSaid : Prop := Claim7.holds Tryz.pinned (.plain (OpenSpec.upto originBackSpec)) originBackUptoCard

/-- THE SECOND FORM's CARD OF 'ostiarylaw4.OriginParsed'. -/
def originParsedUptoCard : Claim7 := { stood := { row := originParsedUptoRow, standIns := [], harness := (true, "adc708c0174d821f30678e23f4e66e705277cb72979a2dbc69c034232302cc5e"), looks := false }, kinds := [], alts := [], laidByText := true, laidKinds := [.data, .data, .data, .data, .pinned], laidTests := true, laidLooks := .later }
def OriginParsedUptoCardSaid : Prop := Claim7.holds Tryz.pinned (.plain (OpenSpec.upto originParsedSpec)) originParsedUptoCard

/-- THE SECOND FORM's CARD OF 'ostiarylaw4.OriginSites'. -/
def originSitesUptoCard : Claim7 := { stood := { row := originSitesUptoRow, standIns := [], harness := (true, "adc708c0174d821f30678e23f4e66e705277cb72979a2dbc69c034232302cc5e"), looks := false }, kinds := [], alts := [], laidByText := true, laidKinds := [.data, .data, .data, .data, .pinned], laidTests := true, laidLooks := .later }
def OriginSitesUptoCardSaid : Prop := Claim7.holds Tryz.pinned (.plain (OpenSpec.upto originSitesSpec)) originSitesUptoCard

/-- THE SECOND FORM's CARD OF 'ostiarylaw4.OriginBlobs'. -/
def originBlobsUptoCard : Claim7 := { stood := { row := originBlobsUptoRow, standIns := [], harness := (true, "adc708c0174d821f30678e23f4e66e705277cb72979a2dbc69c034232302cc5e"), looks := false }, kinds := [], alts := [], laidByText := true, laidKinds := [.data, .data, .data, .data, .pinned], laidTests := true, laidLooks := .later }
def OriginBlobsUptoCardSaid : Prop := Claim7.holds Tryz.pinned (.plain (OpenSpec.upto originBlobsSpec)) originBlobsUptoCard

/-- THE SECOND FORM's CARD OF 'ostiarylaw13.ReferrerNumbers'. -/
def referrerNumbersUptoCard : Claim7 := { stood := { row := referrerNumbersUptoRow, standIns := [], harness := (true, "adc708c0174d821f30678e23f4e66e705277cb72979a2dbc69c034232302cc5e"), looks := false }, kinds := [], alts := [], laidByText := true, laidKinds := [.data, .data, .data, .data, .pinned], laidTests := true, laidLooks := .later }
def ReferrerNumbersUptoCardSaid : Prop := Claim7.holds Tryz.pinned (.plain (OpenSpec.upto referrerNumbersSpec)) referrerNumbersUptoCard

/-- THE SECOND FORM's CARD OF 'ostiarylaw13.ReferrerLess'. -/
def referrerLessUptoCard : Claim7 := { stood := { row := referrerLessUptoRow, standIns := [], harness := (true, "adc708c0174d821f30678e23f4e66e705277cb72979a2dbc69c034232302cc5e"), looks := false }, kinds := [], alts := [], laidByText := true, laidKinds := [.data, .data, .data, .data, .pinned], laidTests := true, laidLooks := .later }
def ReferrerLessUptoCardSaid : Prop := Claim7.holds Tryz.pinned (.plain (OpenSpec.upto referrerLessSpec)) referrerLessUptoCard

/-- THE SECOND FORM's CARD OF 'ostiarylaw13.ReferrerPolicies'. -/
def referrerPoliciesUptoCard : Claim7 := { stood := { row := referrerPoliciesUptoRow, standIns := [], harness := (true, "adc708c0174d821f30678e23f4e66e705277cb72979a2dbc69c034232302cc5e"), looks := false }, kinds := [], alts := [], laidByText := true, laidKinds := [.data, .data, .data, .data, .pinned], laidTests := true, laidLooks := .later }
def ReferrerPoliciesUptoCardSaid : Prop := Claim7.holds Tryz.pinned (.plain (OpenSpec.upto referrerPoliciesSpec)) referrerPoliciesUptoCard
end Rows
end Go.Proofs.YtamockkjbkibdaaGreatDoor
