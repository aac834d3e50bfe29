/-
  NARROWER THAN 'FOR EVERY INPUT', by the rows' own cells (each row's printed sentence says how): MimeNumbers: laid · MimeParses: laid · MimeBack: laid · MimeKept: laid · MimeCharset: laid · MimeParams: laid.
  DERIVED. THE GIVEN ROWS OF THIS SEAT. 6 by the template 'for every input the law returns true; each argument reads behind the call as it read before'; 0 by the template 'total and deterministic' (their statements: YtiemggepdeaogaaDoorTotals.lean).
  GIVEN WITH THE SEED: the statements are not yours to turn. If you find one false, say at which input.
  Laid BY PROGRAM, IN A SANDBOX (cutbox-rows.mjs): the forced cells as the released guide's own fill.sh prints them over the translation a9d9585dd48172ef… (all of the seat's roots in one cut). By AI agents, Wed Nov 11 2026. No macro, syntax, notation, axiom, sorry.
-/
import Derived.Test.YtiemggepdeaogaaDoorChecked
import GoSem.PinnedTables
import GoSem.Claim
import GoSem.ClaimJoined
import GoSem.ClaimMapViews
import Derived.JoinedTies
import Derived.KernelRfl
namespace Go.Proofs.YtiemggepdeaogaaDoor
/- THE CELL 'sum', in the pinned program and in every row, IS THE sha256 OF THE DUMP (.gsa) THAT YtiemggepdeaogaaDoorProg.lean LOADS. Nothing in Lean hashes anything: it is a label: what it is worth is what the hold of that sum in a sandbox is worth. -/
noncomputable def Tryd.pinned : Pinned := { name := "ytiemggepdeaogaadoor", sum := "a9d9585dd48172ef0c9d7fddbfa7abb2f7644a7e4bed807c74a87f5f17033ef1", checked := Tryd.checked }
namespace Rows
def none {H : Type} : Left H := { results := [], args := [] }

/- WHAT THE LISTED PACKAGE-LEVEL VARIABLES READ AS WHEN THE CALL BEGINS. Each datum BY PROGRAM (the guide's laid-datum.mjs) off the statement by which the dump's own 'gosem.cut.vars' lays the variable. In a bare row this is a premise. The card (YtiemggepdeaogaaDoorCards.lean) ties it to the program's text. -/
def laid_unicode_utf8_acceptRanges {H : Type} : DataW H := .agg [.agg [.lit (.int .u8 128), .lit (.int .u8 191)], .agg [.lit (.int .u8 160), .lit (.int .u8 191)], .agg [.lit (.int .u8 128), .lit (.int .u8 159)], .agg [.lit (.int .u8 144), .lit (.int .u8 191)], .agg [.lit (.int .u8 128), .lit (.int .u8 143)], .agg [.lit (.int .u8 0), .lit (.int .u8 0)], .agg [.lit (.int .u8 0), .lit (.int .u8 0)], .agg [.lit (.int .u8 0), .lit (.int .u8 0)], .agg [.lit (.int .u8 0), .lit (.int .u8 0)], .agg [.lit (.int .u8 0), .lit (.int .u8 0)], .agg [.lit (.int .u8 0), .lit (.int .u8 0)], .agg [.lit (.int .u8 0), .lit (.int .u8 0)], .agg [.lit (.int .u8 0), .lit (.int .u8 0)], .agg [.lit (.int .u8 0), .lit (.int .u8 0)], .agg [.lit (.int .u8 0), .lit (.int .u8 0)], .agg [.lit (.int .u8 0), .lit (.int .u8 0)]]
/-- One of Go's own tables, pinned by name: the form's constant. -/
def laid_unicode_utf8_first : DataW Unit := Go.Pinned.utf8First

/-- 'ostiarylaw6.MimeNumbers': WHATEVER THE INPUT: true; the input reads as it did. -/
def mimeNumbersSpec : ChangeSpec := { name := "mimeNumbers", fn := fun _ => fun
  | [] => { results := [.lit (.bool true)], args := [] }
  | _ => none }
def mimeNumbersRow : OpenClaim := { program := "ytiemggepdeaogaadoor", sum := "a9d9585dd48172ef0c9d7fddbfa7abb2f7644a7e4bed807c74a87f5f17033ef1", func := "ostiary/ostiarylaw6.MimeNumbers", spec := "mimeNumbers", inPlace := ["internal/abi.NoEscape", "internal/bytealg.MakeNoZero", "internal/bytealg.IndexByteString", "internal/bytealg.IndexString", "internal/bytealg.CountString"], named := ["unicode/utf8.first", "unicode/utf8.acceptRanges", "internal/bytealg.MaxLen"], apart := false, laid := [("unicode/utf8.acceptRanges", laid_unicode_utf8_acceptRanges), ("unicode/utf8.first", laid_unicode_utf8_first)] }
def MimeNumbersSaid : Prop := mimeNumbersRow.holds Tryd.pinned (OpenSpec.ofChange mimeNumbersSpec)

/-- ITS FALSE NEIGHBOUR: 'it returns false'. Refute it at one input. -/
def mimeNumbersWrong : ChangeSpec := { name := "mimeNumbers", fn := fun _ => fun
  | [] => { results := [.lit (.bool false)], args := [] }
  | _ => none }
def MimeNumbersWrongFalsely : Prop := mimeNumbersRow.holds Tryd.pinned (OpenSpec.ofChange mimeNumbersWrong)

/-- 'ostiarylaw6.MimeParses': WHATEVER THE INPUT: true; the input reads as it did. -/
def mimeParsesSpec : ChangeSpec := { name := "mimeParses", fn := fun _ => fun
  | [d] => { results := [.lit (.bool true)], args := [d] }
  | _ => none }
def mimeParsesRow : OpenClaim := { program := "ytiemggepdeaogaadoor", sum := "a9d9585dd48172ef0c9d7fddbfa7abb2f7644a7e4bed807c74a87f5f17033ef1", func := "ostiary/ostiarylaw6.MimeParses", spec := "mimeParses", inPlace := ["internal/bytealg.IndexByteString", "internal/bytealg.IndexString", "internal/abi.NoEscape", "internal/bytealg.CountString", "internal/bytealg.MakeNoZero"], named := ["unicode/utf8.first", "unicode/utf8.acceptRanges", "internal/bytealg.MaxLen"], apart := false, laid := [("unicode/utf8.acceptRanges", laid_unicode_utf8_acceptRanges), ("unicode/utf8.first", laid_unicode_utf8_first)] }
def MimeParsesSaid : Prop := mimeParsesRow.holds Tryd.pinned (OpenSpec.ofChange mimeParsesSpec)

/-- ITS FALSE NEIGHBOUR: 'it returns false'. Refute it at one input. -/
def mimeParsesWrong : ChangeSpec := { name := "mimeParses", fn := fun _ => fun
  | [d] => { results := [.lit (.bool false)], args := [d] }
  | _ => none }
def MimeParsesWrongFalsely : Prop := mimeParsesRow.holds Tryd.pinned (OpenSpec.ofChange mimeParsesWrong)

/-- 'ostiarylaw6.MimeBack': WHATEVER THE INPUT: true; the input reads as it did. -/
def mimeBackSpec : ChangeSpec := { name := "mimeBack", fn := fun _ => fun
  | [d] => { results := [.lit (.bool true)], args := [d] }
  | _ => none }
def mimeBackRow : OpenClaim := { program := "ytiemggepdeaogaadoor", sum := "a9d9585dd48172ef0c9d7fddbfa7abb2f7644a7e4bed807c74a87f5f17033ef1", func := "ostiary/ostiarylaw6.MimeBack", spec := "mimeBack", inPlace := ["internal/bytealg.IndexByteString", "internal/bytealg.IndexString", "internal/abi.NoEscape", "internal/bytealg.MakeNoZero", "internal/bytealg.CountString"], named := ["unicode/utf8.first", "unicode/utf8.acceptRanges", "internal/bytealg.MaxLen"], apart := false, laid := [("unicode/utf8.acceptRanges", laid_unicode_utf8_acceptRanges), ("unicode/utf8.first", laid_unicode_utf8_first)] }
def MimeBackSaid : Prop := mimeBackRow.holds Tryd.pinned (OpenSpec.ofChange mimeBackSpec)

/-- ITS FALSE NEIGHBOUR: 'it returns false'. Refute it at one input. -/
def mimeBackWrong : ChangeSpec := { name := "mimeBack", fn := fun _ => fun
  | [d] => { results := [.lit (.bool false)], args := [d] }
  | _ => none }
def MimeBackWrongFalsely : Prop := mimeBackRow.holds Tryd.pinned (OpenSpec.ofChange mimeBackWrong)

/-- 'ostiarylaw6.MimeKept': WHATEVER THE INPUT: true; the input reads as it did. -/
def mimeKeptSpec : ChangeSpec := { name := "mimeKept", fn := fun _ => fun
  | [d] => { results := [.lit (.bool true)], args := [d] }
  | _ => none }
def mimeKeptRow : OpenClaim := { program := "ytiemggepdeaogaadoor", sum := "a9d9585dd48172ef0c9d7fddbfa7abb2f7644a7e4bed807c74a87f5f17033ef1", func := "ostiary/ostiarylaw6.MimeKept", spec := "mimeKept", inPlace := ["internal/bytealg.IndexByteString", "internal/bytealg.IndexString", "internal/abi.NoEscape", "internal/bytealg.MakeNoZero", "internal/bytealg.CountString"], unfollowed := true, recurses := true, named := ["unicode/utf8.first", "unicode/utf8.acceptRanges", "internal/bytealg.MaxLen"], apart := false, laid := [("unicode/utf8.acceptRanges", laid_unicode_utf8_acceptRanges), ("unicode/utf8.first", laid_unicode_utf8_first)] }
def MimeKeptSaid : Prop := mimeKeptRow.holds Tryd.pinned (OpenSpec.ofChange mimeKeptSpec)

/-- ITS FALSE NEIGHBOUR: 'it returns false'. Refute it at one input. -/
def mimeKeptWrong : ChangeSpec := { name := "mimeKept", fn := fun _ => fun
  | [d] => { results := [.lit (.bool false)], args := [d] }
  | _ => none }
def MimeKeptWrongFalsely : Prop := mimeKeptRow.holds Tryd.pinned (OpenSpec.ofChange mimeKeptWrong)

/-- 'ostiarylaw6.MimeCharset': WHATEVER THE INPUT: true; the input reads as it did. -/
def mimeCharsetSpec : ChangeSpec := { name := "mimeCharset", fn := fun _ => fun
  | [d1, d2, d3] => { results := [.lit (.bool true)], args := [d1, d2, d3] }
  | _ => none }
def mimeCharsetRow : OpenClaim := { program := "ytiemggepdeaogaadoor", sum := "a9d9585dd48172ef0c9d7fddbfa7abb2f7644a7e4bed807c74a87f5f17033ef1", func := "ostiary/ostiarylaw6.MimeCharset", spec := "mimeCharset", inPlace := ["internal/abi.NoEscape", "internal/bytealg.MakeNoZero", "internal/bytealg.IndexByteString", "internal/bytealg.IndexString", "internal/bytealg.CountString"], named := ["unicode/utf8.first", "unicode/utf8.acceptRanges", "internal/bytealg.MaxLen"], apart := false, laid := [("unicode/utf8.acceptRanges", laid_unicode_utf8_acceptRanges), ("unicode/utf8.first", laid_unicode_utf8_first)] }
def MimeCharsetSaid : Prop := mimeCharsetRow.holds Tryd.pinned (OpenSpec.ofChange mimeCharsetSpec)

/-- ITS FALSE NEIGHBOUR: 'it returns false'. Refute it at one input. -/
def mimeCharsetWrong : ChangeSpec := { name := "mimeCharset", fn := fun _ => fun
  | [d1, d2, d3] => { results := [.lit (.bool false)], args := [d1, d2, d3] }
  | _ => none }
def MimeCharsetWrongFalsely : Prop := mimeCharsetRow.holds Tryd.pinned (OpenSpec.ofChange mimeCharsetWrong)

/-- 'ostiarylaw6.MimeParams': WHATEVER THE INPUT: true; the input reads as it did. -/
def mimeParamsSpec : ChangeSpec := { name := "mimeParams", fn := fun _ => fun
  | [d1, d2] => { results := [.lit (.bool true)], args := [d1, d2] }
  | _ => none }
def mimeParamsRow : OpenClaim := { program := "ytiemggepdeaogaadoor", sum := "a9d9585dd48172ef0c9d7fddbfa7abb2f7644a7e4bed807c74a87f5f17033ef1", func := "ostiary/ostiarylaw6.MimeParams", spec := "mimeParams", inPlace := ["internal/abi.NoEscape", "internal/bytealg.CountString", "internal/bytealg.IndexByteString", "internal/bytealg.IndexString", "internal/bytealg.MakeNoZero"], named := ["internal/bytealg.MaxLen", "unicode/utf8.first", "unicode/utf8.acceptRanges"], apart := false, laid := [("unicode/utf8.acceptRanges", laid_unicode_utf8_acceptRanges), ("unicode/utf8.first", laid_unicode_utf8_first)] }
def MimeParamsSaid : Prop := mimeParamsRow.holds Tryd.pinned (OpenSpec.ofChange mimeParamsSpec)

/-- ITS FALSE NEIGHBOUR: 'it returns false'. Refute it at one input. -/
def mimeParamsWrong : ChangeSpec := { name := "mimeParams", fn := fun _ => fun
  | [d1, d2] => { results := [.lit (.bool false)], args := [d1, d2] }
  | _ => none }
def MimeParamsWrongFalsely : Prop := mimeParamsRow.holds Tryd.pinned (OpenSpec.ofChange mimeParamsWrong)

/- THE SECOND FORM. 'bulk': how many values and letters a reading holds, each counted each time it is reached (what is shared counts as often as it is met; a slice's spare places count too). A statement '..UptoSaid' is the law's where the arguments, and the package variables that the reading takes, are together of bulk at most 1048576: NARROWER than '..Said'. Prove '..Said' where nothing that the law and all that it calls make is longer than what came in: it says more and counts as full. Else prove '..UptoSaid'. A law counts once. -/
mutual
def uptoBulk {H : Type} : DataW H → Nat
  | .lit (.string bytes) => bytes.length + 1
  | .lit _ => 1
  | .nil => 1
  | .ptr d => uptoBulk d + 1
  | .slice elems spare => uptoBulkAll elems + uptoBulkAll spare + 1
  | .agg parts => uptoBulkAll parts + 1
  | .iface _ d => uptoBulk d + 1
  | .map entries => uptoBulkEntries entries + 1
  | .held _ => 1
def uptoBulkAll {H : Type} : List (DataW H) → Nat
  | [] => 0
  | d :: r => uptoBulk d + uptoBulkAll r
def uptoBulkEntries {H : Type} : List (Lit × DataW H) → Nat
  | [] => 0
  | x :: r => uptoBulkEntry x + uptoBulkEntries r
def uptoBulkEntry {H : Type} : Lit × DataW H → Nat
  | (.string bytes, d) => bytes.length + uptoBulk d + 1
  | (_, d) => uptoBulk d + 1
 end
def uptoSmall : (H : Type) → List (DataW H) → Bool := fun _ ds => decide (uptoBulkAll ds ≤ 1048576)
def OpenSpec.upto (s : _root_.Go.ChangeSpec) : _root_.Go.OpenSpec := { _root_.Go.OpenSpec.ofChange s with cond := some uptoSmall }

/-- 'ostiarylaw6.MimeNumbers', WHERE WHAT IT READS IS OF BULK AT MOST 1048576: true; the input reads as it did. -/
def mimeNumbersUptoRow : OpenClaim := { program := "ytiemggepdeaogaadoor", sum := "a9d9585dd48172ef0c9d7fddbfa7abb2f7644a7e4bed807c74a87f5f17033ef1", func := "ostiary/ostiarylaw6.MimeNumbers", spec := "mimeNumbers", inPlace := ["internal/abi.NoEscape", "internal/bytealg.MakeNoZero", "internal/bytealg.IndexByteString", "internal/bytealg.IndexString", "internal/bytealg.CountString"], named := ["unicode/utf8.first", "unicode/utf8.acceptRanges", "internal/bytealg.MaxLen"], apart := false, laid := [("unicode/utf8.acceptRanges", laid_unicode_utf8_acceptRanges), ("unicode/utf8.first", laid_unicode_utf8_first)], narrowed := true }
def MimeNumbersUptoSaid : Prop := mimeNumbersUptoRow.holds Tryd.pinned (OpenSpec.upto mimeNumbersSpec)

/-- 'ostiarylaw6.MimeParses', WHERE WHAT IT READS IS OF BULK AT MOST 1048576: true; the input reads as it did. -/
def mimeParsesUptoRow : OpenClaim := { program := "ytiemggepdeaogaadoor", sum := "a9d9585dd48172ef0c9d7fddbfa7abb2f7644a7e4bed807c74a87f5f17033ef1", func := "ostiary/ostiarylaw6.MimeParses", spec := "mimeParses", inPlace := ["internal/bytealg.IndexByteString", "internal/bytealg.IndexString", "internal/abi.NoEscape", "internal/bytealg.CountString", "internal/bytealg.MakeNoZero"], named := ["unicode/utf8.first", "unicode/utf8.acceptRanges", "internal/bytealg.MaxLen"], apart := false, laid := [("unicode/utf8.acceptRanges", laid_unicode_utf8_acceptRanges), ("unicode/utf8.first", laid_unicode_utf8_first)], narrowed := true }
def MimeParsesUptoSaid : Prop := mimeParsesUptoRow.holds Tryd.pinned (OpenSpec.upto mimeParsesSpec)

/-- 'ostiarylaw6.MimeBack', WHERE WHAT IT READS IS OF BULK AT MOST 1048576: true; the input reads as it did. -/
def mimeBackUptoRow : OpenClaim := { program := "ytiemggepdeaogaadoor", sum := "a9d9585dd48172ef0c9d7fddbfa7abb2f7644a7e4bed807c74a87f5f17033ef1", func := "ostiary/ostiarylaw6.MimeBack", spec := "mimeBack", inPlace := ["internal/bytealg.IndexByteString", "internal/bytealg.IndexString", "internal/abi.NoEscape", "internal/bytealg.MakeNoZero", "internal/bytealg.CountString"], named := ["unicode/utf8.first", "unicode/utf8.acceptRanges", "internal/bytealg.MaxLen"], apart := false, laid := [("unicode/utf8.acceptRanges", laid_unicode_utf8_acceptRanges), ("unicode/utf8.first", laid_unicode_utf8_first)], narrowed := true }
def MimeBackUptoSaid : Prop := mimeBackUptoRow.holds Tryd.pinned (OpenSpec.upto mimeBackSpec)

/-- 'ostiarylaw6.MimeKept', WHERE WHAT IT READS IS OF BULK AT MOST 1048576: true; the input reads as it did. -/
def mimeKeptUptoRow : OpenClaim := { program := "ytiemggepdeaogaadoor", sum := "a9d9585dd48172ef0c9d7fddbfa7abb2f7644a7e4bed807c74a87f5f17033ef1", func := "ostiary/ostiarylaw6.MimeKept", spec := "mimeKept", inPlace := ["internal/bytealg.IndexByteString", "internal/bytealg.IndexString", "internal/abi.NoEscape", "internal/bytealg.MakeNoZero", "internal/bytealg.CountString"], unfollowed := true, recurses := true, named := ["unicode/utf8.first", "unicode/utf8.acceptRanges", "internal/bytealg.MaxLen"], apart := false, laid := [("unicode/utf8.acceptRanges", laid_unicode_utf8_acceptRanges), ("unicode/utf8.first", laid_unicode_utf8_first)], narrowed := true }
def MimeKeptUptoSaid : Prop := mimeKeptUptoRow.holds Tryd.pinned (OpenSpec.upto mimeKeptSpec)

/-- 'ostiarylaw6.MimeCharset', WHERE WHAT IT READS IS OF BULK AT MOST 1048576: true; the input reads as it did. -/
def mimeCharsetUptoRow : OpenClaim := { program := "ytiemggepdeaogaadoor", sum := "a9d9585dd48172ef0c9d7fddbfa7abb2f7644a7e4bed807c74a87f5f17033ef1", func := "ostiary/ostiarylaw6.MimeCharset", spec := "mimeCharset", inPlace := ["internal/abi.NoEscape", "internal/bytealg.MakeNoZero", "internal/bytealg.IndexByteString", "internal/bytealg.IndexString", "internal/bytealg.CountString"], named := ["unicode/utf8.first", "unicode/utf8.acceptRanges", "internal/bytealg.MaxLen"], apart := false, laid := [("unicode/utf8.acceptRanges", laid_unicode_utf8_acceptRanges), ("unicode/utf8.first", laid_unicode_utf8_first)], narrowed := true }
def MimeCharsetUptoSaid : Prop := mimeCharsetUptoRow.holds Tryd.pinned (OpenSpec.upto mimeCharsetSpec)

/-- 'ostiarylaw6.MimeParams', WHERE WHAT IT READS IS OF BULK AT MOST 1048576: true; the input reads as it did. -/
def mimeParamsUptoRow : OpenClaim := { program := "ytiemggepdeaogaadoor", sum := "a9d9585dd48172ef0c9d7fddbfa7abb2f7644a7e4bed807c74a87f5f17033ef1", func := "ostiary/ostiarylaw6.MimeParams", spec := "mimeParams", inPlace := ["internal/abi.NoEscape", "internal/bytealg.CountString", "internal/bytealg.IndexByteString", "internal/bytealg.IndexString", "internal/bytealg.MakeNoZero"], named := ["internal/bytealg.MaxLen", "unicode/utf8.first", "unicode/utf8.acceptRanges"], apart := false, laid := [("unicode/utf8.acceptRanges", laid_unicode_utf8_acceptRanges), ("unicode/utf8.first", laid_unicode_utf8_first)], narrowed := true }
def MimeParamsUptoSaid : Prop := mimeParamsUptoRow.holds Tryd.pinned (OpenSpec.upto mimeParamsSpec)

end Rows
end Go.Proofs.YtiemggepdeaogaaDoor
