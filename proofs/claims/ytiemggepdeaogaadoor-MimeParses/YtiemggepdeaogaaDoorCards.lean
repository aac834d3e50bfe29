/-
  DERIVED. GIVEN WITH THE SEED: THE CARDS: each row of YtiemggepdeaogaaDoorRows.lean that lists a variable, with what it lists TIED to the program's text (the seventh form; the later family's looks); each row that meets fmt, with fmt's text TOLD by the authors' own Lean function (tested against real Go, not proved from fmt's source: count such statements apart). THE CARD IS WHAT COUNTS. Prove the row's statement (the work); the ties are given (YtiemggepdeaogaaDoorTie.lean); close each card by the builder's one call (the guide's Derived/Test/ToyasCard.lean, 'card_holds'). Laid BY PROGRAM, IN A SANDBOX (cutbox-door.mjs). By AI agents, Wed Nov 11 2026. No macro, syntax, notation, axiom, sorry.
-/
import Derived.Test.YtiemggepdeaogaaDoorRows
import GoSem.ClaimSeven
namespace Go.Proofs.YtiemggepdeaogaaDoor
namespace Rows

/-- THE TIED CARD OF 'ostiarylaw6.MimeNumbers'. -/
def mimeNumbersCard : Claim7 := { stood := { row := mimeNumbersRow, standIns := [], harness := (true, "e831b5ac8e7f3b7486feb100701f22ce2ae90a802b2065a24db0d4fa241198c7"), looks := false }, kinds := [], alts := [], laidByText := true, laidKinds := [.data, .pinned], laidTests := true, laidLooks := .later }
def MimeNumbersCardSaid : Prop := Claim7.holds Tryd.pinned (.plain (OpenSpec.ofChange mimeNumbersSpec)) mimeNumbersCard

/-- THE TIED CARD OF 'ostiarylaw6.MimeParses'. -/
def mimeParsesCard : Claim7 := { stood := { row := mimeParsesRow, standIns := [], harness := (true, "e831b5ac8e7f3b7486feb100701f22ce2ae90a802b2065a24db0d4fa241198c7"), looks := false }, kinds := [], alts := [], laidByText := true, laidKinds := [.data, .pinned], laidTests := true, laidLooks := .later }
def MimeParsesCardSaid : Prop := Claim7.holds Tryd.pinned (.plain (OpenSpec.ofChange mimeParsesSpec)) mimeParsesCard

/-- THE TIED CARD OF 'ostiarylaw6.MimeBack'. -/
def mimeBackCard : Claim7 := { stood := { row := mimeBackRow, standIns := [], harness := (true, "e831b5ac8e7f3b7486feb100701f22ce2ae90a802b2065a24db0d4fa241198c7"), looks := false }, kinds := [], alts := [], laidByText := true, laidKinds := [.data, .pinned], laidTests := true, laidLooks := .later }
def MimeBackCardSaid : Prop := Claim7.holds Tryd.pinned (.plain (OpenSpec.ofChange mimeBackSpec)) mimeBackCard

/-- THE TIED CARD OF 'ostiarylaw6.MimeKept'. -/
def mimeKeptCard : Claim7 := { stood := { row := mimeKeptRow, standIns := [], harness := (true, "e831b5ac8e7f3b7486feb100701f22ce2ae90a802b2065a24db0d4fa241198c7"), looks := false }, kinds := [], alts := [], laidByText := true, laidKinds := [.data, .pinned], laidTests := true, laidLooks := .later }
def MimeKeptCardSaid : Prop := Claim7.holds Tryd.pinned (.plain (OpenSpec.ofChange mimeKeptSpec)) mimeKeptCard

/-- THE TIED CARD OF 'ostiarylaw6.MimeCharset'. -/
def mimeCharsetCard : Claim7 := { stood := { row := mimeCharsetRow, standIns := [], harness := (true, "e831b5ac8e7f3b7486feb100701f22ce2ae90a802b2065a24db0d4fa241198c7"), looks := false }, kinds := [], alts := [], laidByText := true, laidKinds := [.data, .pinned], laidTests := true, laidLooks := .later }
def MimeCharsetCardSaid : Prop := Claim7.holds Tryd.pinned (.plain (OpenSpec.ofChange mimeCharsetSpec)) mimeCharsetCard

/-- THE TIED CARD OF 'ostiarylaw6.MimeParams'. -/
def mimeParamsCard : Claim7 := { stood := { row := mimeParamsRow, standIns := [], harness := (true, "e831b5ac8e7f3b7486feb100701f22ce2ae90a802b2065a24db0d4fa241198c7"), looks := false }, kinds := [], alts := [], laidByText := true, laidKinds := [.data, .pinned], laidTests := true, laidLooks := .later }
def MimeParamsCardSaid : Prop := Claim7.holds Tryd.pinned (.plain (OpenSpec.ofChange mimeParamsSpec)) mimeParamsCard

/-- THE SECOND FORM's CARD OF 'ostiarylaw6.MimeNumbers'. -/
def mimeNumbersUptoCard : Claim7 := { stood := { row := mimeNumbersUptoRow, standIns := [], harness := (true, "e831b5ac8e7f3b7486feb100701f22ce2ae90a802b2065a24db0d4fa241198c7"), looks := false }, kinds := [], alts := [], laidByText := true, laidKinds := [.data, .pinned], laidTests := true, laidLooks := .later }
def MimeNumbersUptoCardSaid : Prop := Claim7.holds Tryd.pinned (.plain (OpenSpec.upto mimeNumbersSpec)) mimeNumbersUptoCard

/-- THE SECOND FORM's CARD OF 'ostiarylaw6.MimeParses'. -/
def mimeParsesUptoCard : Claim7 := { stood := { row := mimeParsesUptoRow, standIns := [], harness := (true, "e831b5ac8e7f3b7486feb100701f22ce2ae90a802b2065a24db0d4fa241198c7"), looks := false }, kinds := [], alts := [], laidByText := true, laidKinds := [.data, .pinned], laidTests := true, laidLooks := .later }
def MimeParsesUptoCardSaid : Prop := Claim7.holds Tryd.pinned (.plain (OpenSpec.upto mimeParsesSpec)) mimeParsesUptoCard

/-- THE SECOND FORM's CARD OF 'ostiarylaw6.MimeBack'. -/
def mimeBackUptoCard : Claim7 := { stood := { row := mimeBackUptoRow, standIns := [], harness := (true, "e831b5ac8e7f3b7486feb100701f22ce2ae90a802b2065a24db0d4fa241198c7"), looks := false }, kinds := [], alts := [], laidByText := true, laidKinds := [.data, .pinned], laidTests := true, laidLooks := .later }
def MimeBackUptoCardSaid : Prop := Claim7.holds Tryd.pinned (.plain (OpenSpec.upto mimeBackSpec)) mimeBackUptoCard

/-- THE SECOND FORM's CARD OF 'ostiarylaw6.MimeKept'. -/
def mimeKeptUptoCard : Claim7 := { stood := { row := mimeKeptUptoRow, standIns := [], harness := (true, "e831b5ac8e7f3b7486feb100701f22ce2ae90a802b2065a24db0d4fa241198c7"), looks := false }, kinds := [], alts := [], laidByText := true, laidKinds := [.data, .pinned], laidTests := true, laidLooks := .later }
def MimeKeptUptoCardSaid : Prop := Claim7.holds Tryd.pinned (.plain (OpenSpec.upto mimeKeptSpec)) mimeKeptUptoCard

/-- THE SECOND FORM's CARD OF 'ostiarylaw6.MimeCharset'. -/
def mimeCharsetUptoCard : Claim7 := { stood := { row := mimeCharsetUptoRow, standIns := [], harness := (true, "e831b5ac8e7f3b7486feb100701f22ce2ae90a802b2065a24db0d4fa241198c7"), looks := false }, kinds := [], alts := [], laidByText := true, laidKinds := [.data, .pinned], laidTests := true, laidLooks := .later }
def MimeCharsetUptoCardSaid : Prop := Claim7.holds Tryd.pinned (.plain (OpenSpec.upto mimeCharsetSpec)) mimeCharsetUptoCard

/-- THE SECOND FORM's CARD OF 'ostiarylaw6.MimeParams'. -/
def mimeParamsUptoCard : Claim7 := { stood := { row := mimeParamsUptoRow, standIns := [], harness := (true, "e831b5ac8e7f3b7486feb100701f22ce2ae90a802b2065a24db0d4fa241198c7"), looks := false }, kinds := [], alts := [], laidByText := true, laidKinds := [.data, .pinned], laidTests := true, laidLooks := .later }
def MimeParamsUptoCardSaid : Prop := Claim7.holds Tryd.pinned (.plain (OpenSpec.upto mimeParamsSpec)) mimeParamsUptoCard
end Rows
end Go.Proofs.YtiemggepdeaogaaDoor
