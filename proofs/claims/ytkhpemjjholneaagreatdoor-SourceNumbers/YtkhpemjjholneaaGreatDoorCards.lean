/-
  DERIVED. GIVEN WITH THE SEED: THE CARDS: each row of YtkhpemjjholneaaGreatDoorRows.lean that lists a variable, with what it lists TIED to the program's text (the seventh form; the later family's looks); each row that meets fmt, with fmt's text TOLD by the authors' own Lean function (tested against real Go, not proved from fmt's source: count such statements apart). THE CARD IS WHAT COUNTS. Prove the row's statement (the work); the ties are given (YtkhpemjjholneaaGreatDoorTie.lean); close each card by the builder's one call (the guide's Derived/Test/ToyasCard.lean, 'card_holds'). Laid BY PROGRAM, IN A SANDBOX (cutbox-door.mjs). By AI agents, Wed Nov 11 2026. No macro, syntax, notation, axiom, sorry.
-/
import Derived.Test.YtkhpemjjholneaaGreatDoorRows
import GoSem.ClaimSeven
namespace Go.Proofs.YtkhpemjjholneaaGreatDoor
namespace Rows

/-- THE TIED CARD OF 'ostiarylaw4.OriginNumbers'. -/
def originNumbersCard : Claim7 := { stood := { row := originNumbersRow, standIns := [], harness := (true, "c318878f51bf404f54745e8bb22ef8c07f5c1e5af8ae7e4d474c64f2a9f3adc8"), looks := false }, kinds := [], alts := [], laidByText := true, laidKinds := [.data, .data, .data, .data, .pinned], laidTests := true, laidLooks := .later }
def OriginNumbersCardSaid : Prop := Claim7.holds Tryz.pinned (.plain (OpenSpec.ofChange originNumbersSpec)) originNumbersCard

/-- THE TIED CARD OF 'ostiarylaw4.OriginQueries'. -/
def originQueriesCard : Claim7 := { stood := { row := originQueriesRow, standIns := [], harness := (true, "c318878f51bf404f54745e8bb22ef8c07f5c1e5af8ae7e4d474c64f2a9f3adc8"), looks := false }, kinds := [], alts := [], laidByText := true, laidKinds := [.data, .data, .data, .data, .pinned], laidTests := true, laidLooks := .later }
def OriginQueriesCardSaid : Prop := Claim7.holds Tryz.pinned (.plain (OpenSpec.ofChange originQueriesSpec)) originQueriesCard

/-- THE TIED CARD OF 'ostiarylaw4.OriginBack'. -/
def originBackCard : Claim7 := { stood := { row := originBackRow, standIns := [], harness := (true, "c318878f51bf404f54745e8bb22ef8c07f5c1e5af8ae7e4d474c64f2a9f3adc8"), looks := false }, kinds := [], alts := [], laidByText := true, laidKinds := [.data, .data, .data, .data, .pinned], laidTests := true, laidLooks := .later }
def OriginBackCardSaid : Prop := Claim7.holds Tryz.pinned (.plain (OpenSpec.ofChange originBackSpec)) originBackCard

/-- THE TIED CARD OF 'ostiarylaw4.OriginParsed'. -/
def originParsedCard : Claim7 := { stood := { row := originParsedRow, standIns := [], harness := (true, "c318878f51bf404f54745e8bb22ef8c07f5c1e5af8ae7e4d474c64f2a9f3adc8"), looks := false }, kinds := [], alts := [], laidByText := true, laidKinds := [.data, .data, .data, .data, .pinned], laidTests := true, laidLooks := .later }
def OriginParsedCardSaid : Prop := Claim7.holds Tryz.pinned (.plain (OpenSpec.ofChange originParsedSpec)) originParsedCard

/-- THE TIED CARD OF 'ostiarylaw4.OriginSites'. -/
def originSitesCard : Claim7 := { stood := { row := originSitesRow, standIns := [], harness := (true, "c318878f51bf404f54745e8bb22ef8c07f5c1e5af8ae7e4d474c64f2a9f3adc8"), looks := false }, kinds := [], alts := [], laidByText := true, laidKinds := [.data, .data, .data, .data, .pinned], laidTests := true, laidLooks := .later }
def OriginSitesCardSaid : Prop := Claim7.holds Tryz.pinned (.plain (OpenSpec.ofChange originSitesSpec)) originSitesCard

/-- THE TIED CARD OF 'ostiarylaw4.OriginBlobs'. -/
def originBlobsCard : Claim7 := { stood := { row := originBlobsRow, standIns := [], harness := (true, "c318878f51bf404f54745e8bb22ef8c07f5c1e5af8ae7e4d474c64f2a9f3adc8"), looks := false }, kinds := [], alts := [], laidByText := true, laidKinds := [.data, .data, .data, .data, .pinned], laidTests := true, laidLooks := .later }
def OriginBlobsCardSaid : Prop := Claim7.holds Tryz.pinned (.plain (OpenSpec.ofChange originBlobsSpec)) originBlobsCard

/-- THE TIED CARD OF 'ostiarylaw11.SourceNumbers'. -/
def sourceNumbersCard : Claim7 := { stood := { row := sourceNumbersRow, standIns := [], harness := (true, "c318878f51bf404f54745e8bb22ef8c07f5c1e5af8ae7e4d474c64f2a9f3adc8"), looks := false }, kinds := [], alts := [], laidByText := true, laidKinds := [.data, .data, .data, .data, .pinned], laidTests := true, laidLooks := .later }
def SourceNumbersCardSaid : Prop := Claim7.holds Tryz.pinned (.plain (OpenSpec.ofChange sourceNumbersSpec)) sourceNumbersCard

/-- THE TIED CARD OF 'ostiarylaw11.SourceWider'. -/
def sourceWiderCard : Claim7 := { stood := { row := sourceWiderRow, standIns := [], harness := (true, "c318878f51bf404f54745e8bb22ef8c07f5c1e5af8ae7e4d474c64f2a9f3adc8"), looks := false }, kinds := [], alts := [], laidByText := true, laidKinds := [.data, .data, .data, .data, .pinned], laidTests := true, laidLooks := .later }
def SourceWiderCardSaid : Prop := Claim7.holds Tryz.pinned (.plain (OpenSpec.ofChange sourceWiderSpec)) sourceWiderCard

/-- THE TIED CARD OF 'ostiarylaw11.SourceHosts'. -/
def sourceHostsCard : Claim7 := { stood := { row := sourceHostsRow, standIns := [], harness := (true, "c318878f51bf404f54745e8bb22ef8c07f5c1e5af8ae7e4d474c64f2a9f3adc8"), looks := false }, kinds := [], alts := [], laidByText := true, laidKinds := [.data, .data, .data, .data, .pinned], laidTests := true, laidLooks := .later }
def SourceHostsCardSaid : Prop := Claim7.holds Tryz.pinned (.plain (OpenSpec.ofChange sourceHostsSpec)) sourceHostsCard

/-- THE TIED CARD OF 'ostiarylaw11.SourcePaths'. -/
def sourcePathsCard : Claim7 := { stood := { row := sourcePathsRow, standIns := [], harness := (true, "c318878f51bf404f54745e8bb22ef8c07f5c1e5af8ae7e4d474c64f2a9f3adc8"), looks := false }, kinds := [], alts := [], laidByText := true, laidKinds := [.data, .data, .data, .data, .pinned], laidTests := true, laidLooks := .later }
def SourcePathsCardSaid : Prop := Claim7.holds Tryz.pinned (.plain (OpenSpec.ofChange sourcePathsSpec)) sourcePathsCard

/-- THE SECOND FORM's CARD OF 'ostiarylaw4.OriginNumbers'. -/
def originNumbersUptoCard : Claim7 := { stood := { row := originNumbersUptoRow, standIns := [], harness := (true, "c318878f51bf404f54745e8bb22ef8c07f5c1e5af8ae7e4d474c64f2a9f3adc8"), looks := false }, kinds := [], alts := [], laidByText := true, laidKinds := [.data, .data, .data, .data, .pinned], laidTests := true, laidLooks := .later }
def OriginNumbersUptoCardSaid : Prop := Claim7.holds Tryz.pinned (.plain (OpenSpec.upto originNumbersSpec)) originNumbersUptoCard

/-- THE SECOND FORM's CARD OF 'ostiarylaw4.OriginQueries'. -/
def originQueriesUptoCard : Claim7 := { stood := { row := originQueriesUptoRow, standIns := [], harness := (true, "c318878f51bf404f54745e8bb22ef8c07f5c1e5af8ae7e4d474c64f2a9f3adc8"), looks := false }, kinds := [], alts := [], laidByText := true, laidKinds := [.data, .data, .data, .data, .pinned], laidTests := true, laidLooks := .later }
def OriginQueriesUptoCardSaid : Prop := Claim7.holds Tryz.pinned (.plain (OpenSpec.upto originQueriesSpec)) originQueriesUptoCard

/-- THE SECOND FORM's CARD OF 'ostiarylaw4.OriginBack'. -/
def originBackUptoCard : Claim7 := { stood := { row := originBackUptoRow, standIns := [], harness := (true, "c318878f51bf404f54745e8bb22ef8c07f5c1e5af8ae7e4d474c64f2a9f3adc8"), looks := false }, kinds := [], alts := [], laidByText := true, laidKinds := [.data, .data, .data, .data, .pinned], laidTests := true, laidLooks := .later }
def OriginBackUptoCardSaid : Prop := Claim7.holds Tryz.pinned (.plain (OpenSpec.upto originBackSpec)) originBackUptoCard

/-- THE SECOND FORM's CARD OF 'ostiarylaw4.OriginParsed'. -/
def originParsedUptoCard : Claim7 := { stood := { row := originParsedUptoRow, standIns := [], harness := (true, "c318878f51bf404f54745e8bb22ef8c07f5c1e5af8ae7e4d474c64f2a9f3adc8"), looks := false }, kinds := [], alts := [], laidByText := true, laidKinds := [.data, .data, .data, .data, .pinned], laidTests := true, laidLooks := .later }
def OriginParsedUptoCardSaid : Prop := Claim7.holds Tryz.pinned (.plain (OpenSpec.upto originParsedSpec)) originParsedUptoCard

/-- THE SECOND FORM's CARD OF 'ostiarylaw4.OriginSites'. -/
def originSitesUptoCard : Claim7 := { stood := { row := originSitesUptoRow, standIns := [], harness := (true, "c318878f51bf404f54745e8bb22ef8c07f5c1e5af8ae7e4d474c64f2a9f3adc8"), looks := false }, kinds := [], alts := [], laidByText := true, laidKinds := [.data, .data, .data, .data, .pinned], laidTests := true, laidLooks := .later }
def OriginSitesUptoCardSaid : Prop := Claim7.holds Tryz.pinned (.plain (OpenSpec.upto originSitesSpec)) originSitesUptoCard

/-- THE SECOND FORM's CARD OF 'ostiarylaw4.OriginBlobs'. -/
def originBlobsUptoCard : Claim7 := { stood := { row := originBlobsUptoRow, standIns := [], harness := (true, "c318878f51bf404f54745e8bb22ef8c07f5c1e5af8ae7e4d474c64f2a9f3adc8"), looks := false }, kinds := [], alts := [], laidByText := true, laidKinds := [.data, .data, .data, .data, .pinned], laidTests := true, laidLooks := .later }
def OriginBlobsUptoCardSaid : Prop := Claim7.holds Tryz.pinned (.plain (OpenSpec.upto originBlobsSpec)) originBlobsUptoCard

/-- THE SECOND FORM's CARD OF 'ostiarylaw11.SourceNumbers'. -/
def sourceNumbersUptoCard : Claim7 := { stood := { row := sourceNumbersUptoRow, standIns := [], harness := (true, "c318878f51bf404f54745e8bb22ef8c07f5c1e5af8ae7e4d474c64f2a9f3adc8"), looks := false }, kinds := [], alts := [], laidByText := true, laidKinds := [.data, .data, .data, .data, .pinned], laidTests := true, laidLooks := .later }
def SourceNumbersUptoCardSaid : Prop := Claim7.holds Tryz.pinned (.plain (OpenSpec.upto sourceNumbersSpec)) sourceNumbersUptoCard

/-- THE SECOND FORM's CARD OF 'ostiarylaw11.SourceWider'. -/
def sourceWiderUptoCard : Claim7 := { stood := { row := sourceWiderUptoRow, standIns := [], harness := (true, "c318878f51bf404f54745e8bb22ef8c07f5c1e5af8ae7e4d474c64f2a9f3adc8"), looks := false }, kinds := [], alts := [], laidByText := true, laidKinds := [.data, .data, .data, .data, .pinned], laidTests := true, laidLooks := .later }
def SourceWiderUptoCardSaid : Prop := Claim7.holds Tryz.pinned (.plain (OpenSpec.upto sourceWiderSpec)) sourceWiderUptoCard

/-- THE SECOND FORM's CARD OF 'ostiarylaw11.SourceHosts'. -/
def sourceHostsUptoCard : Claim7 := { stood := { row := sourceHostsUptoRow, standIns := [], harness := (true, "c318878f51bf404f54745e8bb22ef8c07f5c1e5af8ae7e4d474c64f2a9f3adc8"), looks := false }, kinds := [], alts := [], laidByText := true, laidKinds := [.data, .data, .data, .data, .pinned], laidTests := true, laidLooks := .later }
def SourceHostsUptoCardSaid : Prop := Claim7.holds Tryz.pinned (.plain (OpenSpec.upto sourceHostsSpec)) sourceHostsUptoCard

/-- THE SECOND FORM's CARD OF 'ostiarylaw11.SourcePaths'. -/
def sourcePathsUptoCard : Claim7 := { stood := { row := sourcePathsUptoRow, standIns := [], harness := (true, "c318878f51bf404f54745e8bb22ef8c07f5c1e5af8ae7e4d474c64f2a9f3adc8"), looks := false }, kinds := [], alts := [], laidByText := true, laidKinds := [.data, .data, .data, .data, .pinned], laidTests := true, laidLooks := .later }
def SourcePathsUptoCardSaid : Prop := Claim7.holds Tryz.pinned (.plain (OpenSpec.upto sourcePathsSpec)) sourcePathsUptoCard
end Rows
end Go.Proofs.YtkhpemjjholneaaGreatDoor
