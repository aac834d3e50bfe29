/-
  DERIVED. GIVEN WITH THE SEED: THE CARDS: each row of YtpopljcmkbchcaaGreatDoorRows.lean that lists a variable, with what it lists TIED to the program's text (the seventh form; the later family's looks); each row that meets fmt, with fmt's text TOLD by the authors' own Lean function (tested against real Go, not proved from fmt's source: count such statements apart). THE CARD IS WHAT COUNTS. Prove the row's statement (the work); the ties are given (YtpopljcmkbchcaaGreatDoorTie.lean); close each card by the builder's one call (the guide's Derived/Test/ToyasCard.lean, 'card_holds'). Laid BY PROGRAM, IN A SANDBOX (cutbox-door.mjs). By AI agents, Wed Nov 11 2026. No macro, syntax, notation, axiom, sorry.
-/
import Derived.Test.YtpopljcmkbchcaaGreatDoorRows
import GoSem.ClaimSeven
namespace Go.Proofs.YtpopljcmkbchcaaGreatDoor
namespace Rows

/-- THE TIED CARD OF 'ostiarylaw17.CachePlays'. -/
def cachePlaysCard : Claim7 := { stood := { row := cachePlaysRow, standIns := [], harness := (true, "27e270856b664dd060c1cef9330769d94e6f34b2d08c434066a4385a03e3b02f"), looks := false }, kinds := [], alts := [], laidByText := true, laidKinds := [.data, .data, .data, .data, .pinned], laidTests := true, laidLooks := .later }
def CachePlaysCardSaid : Prop := Claim7.holds Tryz.pinned (.plain (OpenSpec.ofChange cachePlaysSpec)) cachePlaysCard

/-- THE TIED CARD OF 'ostiarylaw17.CacheKept'. -/
def cacheKeptCard : Claim7 := { stood := { row := cacheKeptRow, standIns := [], harness := (true, "27e270856b664dd060c1cef9330769d94e6f34b2d08c434066a4385a03e3b02f"), looks := false }, kinds := [], alts := [], laidByText := true, laidKinds := [.data, .data, .data, .data, .pinned], laidTests := true, laidLooks := .later }
def CacheKeptCardSaid : Prop := Claim7.holds Tryz.pinned (.plain (OpenSpec.ofChange cacheKeptSpec)) cacheKeptCard

/-- THE TIED CARD OF 'ostiarylaw18.CorsNumbers'. -/
def corsNumbersCard : Claim7 := { stood := { row := corsNumbersRow, standIns := [], harness := (true, "27e270856b664dd060c1cef9330769d94e6f34b2d08c434066a4385a03e3b02f"), looks := false }, kinds := [], alts := [], laidByText := true, laidKinds := [.data, .data, .data, .data, .pinned, .pinned], laidTests := true, laidLooks := .later }
def CorsNumbersCardSaid : Prop := Claim7.holds Tryz.pinned (.plain (OpenSpec.ofChange corsNumbersSpec)) corsNumbersCard

/-- THE TIED CARD OF 'ostiarylaw18.CorsChecks'. -/
def corsChecksCard : Claim7 := { stood := { row := corsChecksRow, standIns := [], harness := (true, "27e270856b664dd060c1cef9330769d94e6f34b2d08c434066a4385a03e3b02f"), looks := false }, kinds := [], alts := [], laidByText := true, laidKinds := [.data, .data, .data, .data, .pinned, .pinned], laidTests := true, laidLooks := .later }
def CorsChecksCardSaid : Prop := Claim7.holds Tryz.pinned (.plain (OpenSpec.ofChange corsChecksSpec)) corsChecksCard

/-- THE TIED CARD OF 'ostiarylaw18.CorsMany'. -/
def corsManyCard : Claim7 := { stood := { row := corsManyRow, standIns := [], harness := (true, "27e270856b664dd060c1cef9330769d94e6f34b2d08c434066a4385a03e3b02f"), looks := false }, kinds := [], alts := [], laidByText := true, laidKinds := [.data, .data, .data, .data, .pinned, .pinned], laidTests := true, laidLooks := .later }
def CorsManyCardSaid : Prop := Claim7.holds Tryz.pinned (.plain (OpenSpec.ofChange corsManySpec)) corsManyCard

/-- THE TIED CARD OF 'ostiarylaw18.CorsNames'. -/
def corsNamesCard : Claim7 := { stood := { row := corsNamesRow, standIns := [], harness := (true, "27e270856b664dd060c1cef9330769d94e6f34b2d08c434066a4385a03e3b02f"), looks := false }, kinds := [], alts := [], laidByText := true, laidKinds := [.data, .data, .data, .data, .pinned, .pinned], laidTests := true, laidLooks := .later }
def CorsNamesCardSaid : Prop := Claim7.holds Tryz.pinned (.plain (OpenSpec.ofChange corsNamesSpec)) corsNamesCard

/-- THE SECOND FORM's CARD OF 'ostiarylaw17.CachePlays'. -/
def cachePlaysUptoCard : Claim7 := { stood := { row := cachePlaysUptoRow, standIns := [], harness := (true, "27e270856b664dd060c1cef9330769d94e6f34b2d08c434066a4385a03e3b02f"), looks := false }, kinds := [], alts := [], laidByText := true, laidKinds := [.data, .data, .data, .data, .pinned], laidTests := true, laidLooks := .later }
def CachePlaysUptoCardSaid : Prop := Claim7.holds Tryz.pinned (.plain (OpenSpec.upto cachePlaysSpec)) cachePlaysUptoCard

/-- THE SECOND FORM's CARD OF 'ostiarylaw17.CacheKept'. -/
def cacheKeptUptoCard : Claim7 := { stood := { row := cacheKeptUptoRow, standIns := [], harness := (true, "27e270856b664dd060c1cef9330769d94e6f34b2d08c434066a4385a03e3b02f"), looks := false }, kinds := [], alts := [], laidByText := true, laidKinds := [.data, .data, .data, .data, .pinned], laidTests := true, laidLooks := .later }
def CacheKeptUptoCardSaid : Prop := Claim7.holds Tryz.pinned (.plain (OpenSpec.upto cacheKeptSpec)) cacheKeptUptoCard

/-- THE SECOND FORM's CARD OF 'ostiarylaw18.CorsNumbers'. -/
def corsNumbersUptoCard : Claim7 := { stood := { row := corsNumbersUptoRow, standIns := [], harness := (true, "27e270856b664dd060c1cef9330769d94e6f34b2d08c434066a4385a03e3b02f"), looks := false }, kinds := [], alts := [], laidByText := true, laidKinds := [.data, .data, .data, .data, .pinned, .pinned], laidTests := true, laidLooks := .later }
def CorsNumbersUptoCardSaid : Prop := Claim7.holds Tryz.pinned (.plain (OpenSpec.upto corsNumbersSpec)) corsNumbersUptoCard

/-- THE SECOND FORM's CARD OF 'ostiarylaw18.CorsChecks'. -/
def corsChecksUptoCard : Claim7 := { stood := { row := corsChecksUptoRow, standIns := [], harness := (true, "27e270856b664dd060c1cef9330769d94e6f34b2d08c434066a4385a03e3b02f"), looks := false }, kinds := [], alts := [], laidByText := true, laidKinds := [.data, .data, .data, .data, .pinned, .pinned], laidTests := true, laidLooks := .later }
def CorsChecksUptoCardSaid : Prop := Claim7.holds Tryz.pinned (.plain (OpenSpec.upto corsChecksSpec)) corsChecksUptoCard

/-- THE SECOND FORM's CARD OF 'ostiarylaw18.CorsMany'. -/
def corsManyUptoCard : Claim7 := { stood := { row := corsManyUptoRow, standIns := [], harness := (true, "27e270856b664dd060c1cef9330769d94e6f34b2d08c434066a4385a03e3b02f"), looks := false }, kinds := [], alts := [], laidByText := true, laidKinds := [.data, .data, .data, .data, .pinned, .pinned], laidTests := true, laidLooks := .later }
def CorsManyUptoCardSaid : Prop := Claim7.holds Tryz.pinned (.plain (OpenSpec.upto corsManySpec)) corsManyUptoCard

/-- THE SECOND FORM's CARD OF 'ostiarylaw18.CorsNames'. -/
def corsNamesUptoCard : Claim7 := { stood := { row := corsNamesUptoRow, standIns := [], harness := (true, "27e270856b664dd060c1cef9330769d94e6f34b2d08c434066a4385a03e3b02f"), looks := false }, kinds := [], alts := [], laidByText := true, laidKinds := [.data, .data, .data, .data, .pinned, .pinned], laidTests := true, laidLooks := .later }
def CorsNamesUptoCardSaid : Prop := Claim7.holds Tryz.pinned (.plain (OpenSpec.upto corsNamesSpec)) corsNamesUptoCard
end Rows
end Go.Proofs.YtpopljcmkbchcaaGreatDoor
