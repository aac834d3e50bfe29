/-
  Walks and plain facts that this claim leans on, put together out of 1 texts: Ysr.
-/
import Derived.Test.YtkhpemjjholneaaGreatDoorProg
import Derived.Test.YtkhpemjjholneaaGreatDoorQa1
import Derived.Test.YtkhpemjjholneaaGreatDoorQa2
import Derived.Test.YtkhpemjjholneaaGreatDoorQa3
import Derived.Test.YtkhpemjjholneaaGreatDoorQa4
import Derived.Test.YtkhpemjjholneaaGreatDoorQa5
import Derived.Test.YtkhpemjjholneaaGreatDoorQa6
import Derived.Test.YtkhpemjjholneaaGreatDoorQa7
import Derived.Test.YtkhpemjjholneaaGreatDoorQa8
import Derived.Test.YtkhpemjjholneaaGreatDoorQa9
import Derived.Test.YtkhpemjjholneaaGreatDoorQa10
import Derived.Test.YtkhpemjjholneaaGreatDoorQa11
import Derived.Test.YtkhpemjjholneaaGreatDoorQa12
import Derived.Test.YtkhpemjjholneaaGreatDoorQa13
import Derived.Test.YtkhpemjjholneaaGreatDoorQa14
import Derived.Test.YtkhpemjjholneaaGreatDoorQa15
import Derived.Test.YtkhpemjjholneaaGreatDoorQa16
import Derived.Test.YtkhpemjjholneaaGreatDoorQa17
import Derived.Test.YtkhpemjjholneaaGreatDoorQa18
import Derived.Test.YtkhpemjjholneaaGreatDoorQa19
import Derived.Test.YtkhpemjjholneaaGreatDoorQa20
import Derived.Test.YtkhpemjjholneaaGreatDoorQa21
import Derived.Test.YtkhpemjjholneaaGreatDoorQa22
import Derived.Test.YtkhpemjjholneaaGreatDoorQa23
import Derived.Test.YtkhpemjjholneaaGreatDoorQa24
import Derived.Test.YtkhpemjjholneaaGreatDoorQa25
import Derived.Test.YtkhpemjjholneaaGreatDoorQa26
import Derived.Test.YtkhpemjjholneaaGreatDoorQa27
import Derived.Test.YtkhpemjjholneaaGreatDoorQa28
import Derived.Test.YtkhpemjjholneaaGreatDoorQa29
import Derived.Test.YtkhpemjjholneaaGreatDoorQa30
import Derived.Test.YtkhpemjjholneaaGreatDoorQa31
import Derived.Test.YtkhpemjjholneaaGreatDoorQn1
import Derived.Test.YtkhpemjjholneaaGreatDoorQn2
import Derived.Test.YtkhpemjjholneaaGreatDoorQn3
import Derived.Test.YtkhpemjjholneaaGreatDoorQn4
import Derived.WalkKit
import Derived.WalkSpells
import Derived.WalkLawsBesides
import Derived.Laws.Runes
import Derived.Laws.RangeAny
import Derived.Lib.DecodeN
import Derived.Lib.OthersKept
import Derived.Deep.LoopGhost
import Derived.RegionTactic
import Derived.Deep.RegionWith
import Derived.Deep.QuietTactic
import Derived.BigQuiet
import Derived.Lib.FrozenHead2
import Derived.Lib.Builder
import Derived.Deep.RegionHeldLaw
import Derived.Laws.CopyOwn
import Derived.Laws.ResultCell
import Derived.Deep.MidRow
import Derived.Laws.AppendOwnNone
import Derived.Scope
import Derived.ScopeJumps
import Derived.WalkMore
import Derived.Lib.AppendIntMem
import Derived.Deep.WholeRow
import Derived.Lib.AppendStr
import Derived.LoopN
import Derived.Maps.OwnSet
import Derived.Maps.OwnOps
import Derived.Maps.AppendAt
import Derived.StringKeys
import Derived.Lib.LastIndexByte
import Derived.Lib.Replace
import Derived.Lib.Bytealg
import Derived.Lib.TrimByte
import Derived.Lib.BufferRead
import Derived.Lib.RuneBytes
import Derived.Laws.BitsAllLaws
import Derived.Deep.RegionHeld
import Derived.Lib.IndexMore
import Derived.Lib.Join
import Derived.Laws.AppendOwn
import Derived.OwnWalk
import Derived.Deep.RegionLaw
import Derived.Lib.IndexAny
import Derived.Lib.ItoaNum
import Derived.Laws.OwnMore
import Derived.Below
import Derived.WalkSmall
import Derived.Lib.FieldsP
import Derived.Lib.SmallJoins
import Derived.Lib.UnsafeStr
import Derived.BigRegion
import Derived.Deep.Cut
import Derived.Shelf.Strings.Builder1
import Derived.Shelf.Strings.Builder2
import Derived.Shelf.Strings.OnBuilder
import Derived.Shelf.Strings.Trim
import Derived.Shelf.Small.Utf8
import Derived.Shelf.Small.Bits
import Derived.Shelf.Small.Strs
import Derived.Shelf.Small.Wraps
import Derived.Shelf.Strings.BuilderF
import Derived.Shelf.Strings.BuilderK
import Derived.Shelf.Strings.BuilderRune
import Derived.Shelf.Utf8.AppendRune
import Derived.Shelf.Utf8.AppendRunePlain
import Derived.Shelf.Strings.Builder2Cap
import Derived.Shelf.Strconv.Itoa0
import Derived.Shelf.Strconv.Itoa1
import Derived.Shelf.LaysM
import Derived.Shelf.Strconv.Itoa2
import Derived.Shelf.Strconv.Itoa3
import Derived.Shelf.Strings.Search1
import Derived.Shelf.Strings.Search2
import Derived.Shelf.Strings.Search3
import Derived.Shelf.Strings.Cut
import Derived.Shelf.Strings.Count
import Derived.Shelf.Strings.Shaped
import Derived.Shelf.Sort.Plain
import Derived.Shelf.Strings.LastIndex
import Derived.Shelf.Strings.Prefix
import Derived.Shelf.Strings.Split
import Derived.Shelf.Strings.Replace
import Derived.Shelf.Strings.Runes
import Derived.Shelf.Strings.IndexAny
import Derived.Shelf.Strings.AsciiSet
import Derived.Shelf.Strings.IndexAnyAll
import Derived.Shelf.Unicode.DecodeSlow
import Derived.Shelf.Unicode.DecodeAny
import Derived.Shelf.Unicode.DecodeLast
import Derived.Shelf.Strings.FieldsFuncAny
import Derived.Shelf.Strings.FieldsFuncGrows
import Derived.Shelf.Slices.Equal
import Derived.Ground.Names2Prog
import Derived.Shelf.Slices.Clone
import Derived.Ground.SlgnProg
import Derived.Shelf.SlicesE.Equal
import Derived.Shelf.SlicesE.Clone
import Derived.Laws.EntriesVeiled
import Derived.Laws.IdiomStrings
import Derived.Laws.BytesString
import Derived.Shelf.GgClosure.GivesRunes
import Derived.Shelf.Spec.SearchS
import Derived.Sort.Walk0
import Derived.Shelf.Strings.SlTrimAscii
import Derived.Lib.Strings
import Derived.Lib.BufferMore
import Derived.Lib.SlTrimSet
import Derived.Shelf.Slices.In.SortNone
import Derived.Sort.OwnSorted
set_option linter.unusedSimpArgs false
set_option linter.unusedVariables false

namespace Go.Proofs.YtkhpemjjholneaaGreatDoor
open Go.RowKit

theorem tx_lone11 (X : World) (s : ByteArray) : TxAt (X.alloc (.cells #[.string s] 9)) (.slice (some ⟨X.heap.size, 0, none⟩) 1 1) [s.data.toList] :=
  tx_of (L := [s.data.toList]) (by simp) (by decide) (fun j hj => by
    have h := heap_alloc_new X (.cells #[.string s] 9)
    have hj0 : j = 0 := by simp at hj; exact hj
    subst hj0
    rw [Lib.cell_of_heap h]; rfl)

/-- The address that the law asks Any about. -/
def bU11 : List UInt8 := [104, 116, 116, 112, 115, 58, 47, 47, 98, 46, 99, 111, 109, 47, 120]

theorem any11_at (v : Value) (T : List (List UInt8)) (u : Adr) (uv : Value) (n m : ByteArray) (b : Bool) (w : World) (hg : Gd w) (hu : UrlAt w u uv) (hz : Sized11 u) (hv : TxAt w v T) (hl : T.length ≤ 1000000) (hs : ∀ x ∈ T, x.length ≤ 1000000) (hn : n.size ≤ 1000000) (hm : m.size ≤ 1000000) (h : (T.any (oneV u u 0) || namedV T n.data.toList m.data.toList) = b) :
    Calls Tryz.prog 31 #[v, adrVal u uv, adrVal u uv, .int .i64 0, .string n, .string m] w fun e w' => e = .returned (.bool b) ∧ Below w.heap.size w w' := by
  rw [← h]
  exact any11_any v T u u uv uv 0 n m w hg hu hu hz hv hl hs hn hm

theorem num11_0 : lawOne [39, 78, 79, 78, 69, 39] [104, 116, 116, 112, 115, 58, 47, 47, 97, 47] [104, 116, 116, 112, 115, 58, 47, 47, 97, 47] 0 = false := by decide +kernel

theorem num11_1 : lawOne [42, 58, 42] [104, 116, 116, 112, 115, 58, 47, 47, 97, 58, 53, 47] [104, 116, 116, 112, 115, 58, 47, 47, 112, 47] 0 = true := by decide +kernel

theorem num11_2 : lawOne [42, 58, 42] [104, 116, 116, 112, 58, 47, 47, 97, 58, 53, 47] [104, 116, 116, 112, 115, 58, 47, 47, 112, 47] 0 = false := by decide +kernel

theorem num11_3 : lawOne [97, 46, 99, 111, 109, 47, 121] [104, 116, 116, 112, 115, 58, 47, 47, 97, 46, 99, 111, 109, 47, 120] [104, 116, 116, 112, 115, 58, 47, 47, 112, 47] 1 = true := by decide +kernel

theorem num11_4 : lawOne [97, 46, 99, 111, 109, 47, 121] [104, 116, 116, 112, 115, 58, 47, 47, 97, 46, 99, 111, 109, 47, 120] [104, 116, 116, 112, 115, 58, 47, 47, 112, 47] 0 = false := by decide +kernel

theorem num11_5 : lawOne [39, 83, 69, 76, 70, 39] [104, 116, 116, 112, 115, 58, 47, 47, 112, 47, 120] [104, 116, 116, 112, 58, 47, 47, 112, 47] 0 = true := by decide +kernel

theorem num11_6 : lawOne [39, 115, 101, 108, 102, 39] [104, 116, 116, 112, 115, 58, 47, 47, 112, 58, 49, 47] [104, 116, 116, 112, 115, 58, 47, 47, 112, 47] 0 = false := by decide +kernel

theorem num11_7 : lawOne [42] [104, 116, 116, 112, 58, 47, 47, 97, 47] [104, 116, 116, 112, 115, 58, 47, 47, 112, 47] 0 = true := by decide +kernel

theorem num11_8 : lawOne [42] [100, 97, 116, 97, 58, 120] [104, 116, 116, 112, 115, 58, 47, 47, 112, 47] 0 = false := by decide +kernel

theorem num11_9 : lawOne [100, 97, 116, 97, 58] [100, 97, 116, 97, 58, 120] [104, 116, 116, 112, 115, 58, 47, 47, 112, 47] 0 = true := by decide +kernel

theorem num11_10 : lawOne [104, 116, 116, 112, 58, 47, 47, 97, 58, 56, 48] [104, 116, 116, 112, 115, 58, 47, 47, 97, 47] [104, 116, 116, 112, 115, 58, 47, 47, 112, 47] 0 = true := by decide +kernel

theorem num11_11 : lawOne [] [104, 116, 116, 112, 115, 58, 47, 47, 97, 47] [104, 116, 116, 112, 115, 58, 47, 47, 112, 47] 0 = false := by decide +kernel

theorem num11_12 : lawOne [98, 46, 99, 111, 109, 58] [104, 116, 116, 112, 115, 58, 47, 47, 98, 46, 99, 111, 109, 47] [104, 116, 116, 112, 115, 58, 47, 47, 112, 47] 0 = false := by decide +kernel

theorem num11_13 : lawOne [97, 46, 99, 111, 109, 47, 37, 55, 56] [104, 116, 116, 112, 115, 58, 47, 47, 97, 46, 99, 111, 109, 47, 120] [104, 116, 116, 112, 115, 58, 47, 47, 112, 47] 0 = true := by decide +kernel

theorem ask11_0 : (([[39, 110, 111, 110, 99, 101, 45, 65, 98, 39]] : List (List UInt8)).any (oneV (adrOf (urlV bU11)) (adrOf (urlV bU11)) 0) || namedV [[39, 110, 111, 110, 99, 101, 45, 65, 98, 39]] [65, 98] []) = true := by decide +kernel

theorem ask11_1 : (([[39, 110, 111, 110, 99, 101, 45, 65, 98, 39]] : List (List UInt8)).any (oneV (adrOf (urlV bU11)) (adrOf (urlV bU11)) 0) || namedV [[39, 110, 111, 110, 99, 101, 45, 65, 98, 39]] [97, 98] []) = false := by decide +kernel

theorem ask11_2 : (([[39, 110, 111, 110, 99, 101, 45, 39]] : List (List UInt8)).any (oneV (adrOf (urlV bU11)) (adrOf (urlV bU11)) 0) || namedV [[39, 110, 111, 110, 99, 101, 45, 39]] [] []) = false := by decide +kernel

theorem ask11_3 : (([[39, 83, 72, 65, 50, 53, 54, 45, 120, 39]] : List (List UInt8)).any (oneV (adrOf (urlV bU11)) (adrOf (urlV bU11)) 0) || namedV [[39, 83, 72, 65, 50, 53, 54, 45, 120, 39]] [] [115, 104, 97, 50, 53, 54, 45, 120, 63, 121]) = true := by decide +kernel

theorem ask11_4 : (([[39, 115, 104, 97, 50, 53, 54, 45, 120, 39]] : List (List UInt8)).any (oneV (adrOf (urlV bU11)) (adrOf (urlV bU11)) 0) || namedV [[39, 115, 104, 97, 50, 53, 54, 45, 120, 39]] [] [115, 104, 97, 50, 53, 54, 45, 120, 32, 115, 104, 97, 50, 53, 54, 45, 121]) = false := by decide +kernel

theorem ask11_5 : (([] : List (List UInt8)).any (oneV (adrOf (urlV bU11)) (adrOf (urlV bU11)) 0) || namedV [] [110] []) = false := by decide +kernel

theorem sch11_0 : schM [104, 116, 116, 112] [119, 115, 115] = true := by decide +kernel

theorem sch11_1 : schM [104, 116, 116, 112, 115] [104, 116, 116, 112] = false := by decide +kernel

theorem scheme11_at (a b : ByteArray) (r : Bool) (w : World) (h : schM a.data.toList b.data.toList = r) :
    Calls Tryz.prog 32 #[.string a, .string b] w fun e w' => e = .returned (.bool r) ∧ w = w' := by
  rw [← h]
  exact scheme11_any a b w

set_option maxHeartbeats 16000000 in
set_option maxRecDepth 100000 in
theorem sourceNumbers_walk (w : World) (hg : Gd w) :
    Calls Tryz.prog 9 #[] w fun e w' => e = .returned (.bool true) ∧ Below w.heap.size w w' := by
  have HU := hid (url_k ⟨#[104, 116, 116, 112, 115, 58, 47, 47, 98, 46, 99, 111, 109, 47, 120]⟩ w (by decide))
  have H0 := hid (fun w hg => lawOne_at ⟨#[39, 78, 79, 78, 69, 39]⟩ ⟨#[104, 116, 116, 112, 115, 58, 47, 47, 97, 47]⟩ ⟨#[104, 116, 116, 112, 115, 58, 47, 47, 97, 47]⟩ 0 false w hg (by decide) (by decide) (by decide) num11_0)
  have H1 := hid (fun w hg => lawOne_at ⟨#[42, 58, 42]⟩ ⟨#[104, 116, 116, 112, 115, 58, 47, 47, 97, 58, 53, 47]⟩ ⟨#[104, 116, 116, 112, 115, 58, 47, 47, 112, 47]⟩ 0 true w hg (by decide) (by decide) (by decide) num11_1)
  have H2 := hid (fun w hg => lawOne_at ⟨#[42, 58, 42]⟩ ⟨#[104, 116, 116, 112, 58, 47, 47, 97, 58, 53, 47]⟩ ⟨#[104, 116, 116, 112, 115, 58, 47, 47, 112, 47]⟩ 0 false w hg (by decide) (by decide) (by decide) num11_2)
  have H3 := hid (fun w hg => lawOne_at ⟨#[97, 46, 99, 111, 109, 47, 121]⟩ ⟨#[104, 116, 116, 112, 115, 58, 47, 47, 97, 46, 99, 111, 109, 47, 120]⟩ ⟨#[104, 116, 116, 112, 115, 58, 47, 47, 112, 47]⟩ 1 true w hg (by decide) (by decide) (by decide) num11_3)
  have H4 := hid (fun w hg => lawOne_at ⟨#[97, 46, 99, 111, 109, 47, 121]⟩ ⟨#[104, 116, 116, 112, 115, 58, 47, 47, 97, 46, 99, 111, 109, 47, 120]⟩ ⟨#[104, 116, 116, 112, 115, 58, 47, 47, 112, 47]⟩ 0 false w hg (by decide) (by decide) (by decide) num11_4)
  have H5 := hid (fun w hg => lawOne_at ⟨#[39, 83, 69, 76, 70, 39]⟩ ⟨#[104, 116, 116, 112, 115, 58, 47, 47, 112, 47, 120]⟩ ⟨#[104, 116, 116, 112, 58, 47, 47, 112, 47]⟩ 0 true w hg (by decide) (by decide) (by decide) num11_5)
  have H6 := hid (fun w hg => lawOne_at ⟨#[39, 115, 101, 108, 102, 39]⟩ ⟨#[104, 116, 116, 112, 115, 58, 47, 47, 112, 58, 49, 47]⟩ ⟨#[104, 116, 116, 112, 115, 58, 47, 47, 112, 47]⟩ 0 false w hg (by decide) (by decide) (by decide) num11_6)
  have H7 := hid (fun w hg => lawOne_at ⟨#[42]⟩ ⟨#[104, 116, 116, 112, 58, 47, 47, 97, 47]⟩ ⟨#[104, 116, 116, 112, 115, 58, 47, 47, 112, 47]⟩ 0 true w hg (by decide) (by decide) (by decide) num11_7)
  have H8 := hid (fun w hg => lawOne_at ⟨#[42]⟩ ⟨#[100, 97, 116, 97, 58, 120]⟩ ⟨#[104, 116, 116, 112, 115, 58, 47, 47, 112, 47]⟩ 0 false w hg (by decide) (by decide) (by decide) num11_8)
  have H9 := hid (fun w hg => lawOne_at ⟨#[100, 97, 116, 97, 58]⟩ ⟨#[100, 97, 116, 97, 58, 120]⟩ ⟨#[104, 116, 116, 112, 115, 58, 47, 47, 112, 47]⟩ 0 true w hg (by decide) (by decide) (by decide) num11_9)
  have H10 := hid (fun w hg => lawOne_at ⟨#[104, 116, 116, 112, 58, 47, 47, 97, 58, 56, 48]⟩ ⟨#[104, 116, 116, 112, 115, 58, 47, 47, 97, 47]⟩ ⟨#[104, 116, 116, 112, 115, 58, 47, 47, 112, 47]⟩ 0 true w hg (by decide) (by decide) (by decide) num11_10)
  have H11 := hid (fun w hg => lawOne_at ⟨#[]⟩ ⟨#[104, 116, 116, 112, 115, 58, 47, 47, 97, 47]⟩ ⟨#[104, 116, 116, 112, 115, 58, 47, 47, 112, 47]⟩ 0 false w hg (by decide) (by decide) (by decide) num11_11)
  have H12 := hid (fun w hg => lawOne_at ⟨#[98, 46, 99, 111, 109, 58]⟩ ⟨#[104, 116, 116, 112, 115, 58, 47, 47, 98, 46, 99, 111, 109, 47]⟩ ⟨#[104, 116, 116, 112, 115, 58, 47, 47, 112, 47]⟩ 0 false w hg (by decide) (by decide) (by decide) num11_12)
  have H13 := hid (fun w hg => lawOne_at ⟨#[97, 46, 99, 111, 109, 47, 37, 55, 56]⟩ ⟨#[104, 116, 116, 112, 115, 58, 47, 47, 97, 46, 99, 111, 109, 47, 120]⟩ ⟨#[104, 116, 116, 112, 115, 58, 47, 47, 112, 47]⟩ 0 true w hg (by decide) (by decide) (by decide) num11_13)
  have HN0 := hid (fun (v : Value) (uv : Value) (X : World) (hg : Gd X) (hu : UrlAt X (adrOf (urlV bU11)) uv) (hz : Sized11 (adrOf (urlV bU11))) (hv : TxAt X v [[39, 110, 111, 110, 99, 101, 45, 65, 98, 39]]) => any11_at v [[39, 110, 111, 110, 99, 101, 45, 65, 98, 39]] (adrOf (urlV bU11)) uv ⟨#[65, 98]⟩ ⟨#[]⟩ true X hg hu hz hv (by decide) (fun x hx => by rw [List.mem_singleton.1 hx]; decide) (by decide) (by decide) ask11_0)
  have HN1 := hid (fun (v : Value) (uv : Value) (X : World) (hg : Gd X) (hu : UrlAt X (adrOf (urlV bU11)) uv) (hz : Sized11 (adrOf (urlV bU11))) (hv : TxAt X v [[39, 110, 111, 110, 99, 101, 45, 65, 98, 39]]) => any11_at v [[39, 110, 111, 110, 99, 101, 45, 65, 98, 39]] (adrOf (urlV bU11)) uv ⟨#[97, 98]⟩ ⟨#[]⟩ false X hg hu hz hv (by decide) (fun x hx => by rw [List.mem_singleton.1 hx]; decide) (by decide) (by decide) ask11_1)
  have HN2 := hid (fun (v : Value) (uv : Value) (X : World) (hg : Gd X) (hu : UrlAt X (adrOf (urlV bU11)) uv) (hz : Sized11 (adrOf (urlV bU11))) (hv : TxAt X v [[39, 110, 111, 110, 99, 101, 45, 39]]) => any11_at v [[39, 110, 111, 110, 99, 101, 45, 39]] (adrOf (urlV bU11)) uv ⟨#[]⟩ ⟨#[]⟩ false X hg hu hz hv (by decide) (fun x hx => by rw [List.mem_singleton.1 hx]; decide) (by decide) (by decide) ask11_2)
  have HN3 := hid (fun (v : Value) (uv : Value) (X : World) (hg : Gd X) (hu : UrlAt X (adrOf (urlV bU11)) uv) (hz : Sized11 (adrOf (urlV bU11))) (hv : TxAt X v [[39, 83, 72, 65, 50, 53, 54, 45, 120, 39]]) => any11_at v [[39, 83, 72, 65, 50, 53, 54, 45, 120, 39]] (adrOf (urlV bU11)) uv ⟨#[]⟩ ⟨#[115, 104, 97, 50, 53, 54, 45, 120, 63, 121]⟩ true X hg hu hz hv (by decide) (fun x hx => by rw [List.mem_singleton.1 hx]; decide) (by decide) (by decide) ask11_3)
  have HN4 := hid (fun (v : Value) (uv : Value) (X : World) (hg : Gd X) (hu : UrlAt X (adrOf (urlV bU11)) uv) (hz : Sized11 (adrOf (urlV bU11))) (hv : TxAt X v [[39, 115, 104, 97, 50, 53, 54, 45, 120, 39]]) => any11_at v [[39, 115, 104, 97, 50, 53, 54, 45, 120, 39]] (adrOf (urlV bU11)) uv ⟨#[]⟩ ⟨#[115, 104, 97, 50, 53, 54, 45, 120, 32, 115, 104, 97, 50, 53, 54, 45, 121]⟩ false X hg hu hz hv (by decide) (fun x hx => by rw [List.mem_singleton.1 hx]; decide) (by decide) (by decide) ask11_4)
  have HN5 := hid (fun (v : Value) (uv : Value) (X : World) (hg : Gd X) (hu : UrlAt X (adrOf (urlV bU11)) uv) (hz : Sized11 (adrOf (urlV bU11))) (hv : TxAt X v []) => any11_at v [] (adrOf (urlV bU11)) uv ⟨#[110]⟩ ⟨#[]⟩ false X hg hu hz hv (by decide) (fun x hx => by cases hx) (by decide) (by decide) ask11_5)
  have HC0 := hid (fun w => scheme11_at ⟨#[104, 116, 116, 112]⟩ ⟨#[119, 115, 115]⟩ true w sch11_0)
  have HC1 := hid (fun w => scheme11_at ⟨#[104, 116, 116, 112, 115]⟩ ⟨#[104, 116, 116, 112]⟩ false w sch11_1)
  have HSl := hid (fun (w : World) (B : Nat) (pv : Value) (h : w.ownsRow B 9 1 pv (adrOf (urlV bU11)).path.length (cellsS (adrOf (urlV bU11)).path)) => slim_any h)
  rw [show (⟨#[104, 116, 116, 112, 115, 58, 47, 47, 98, 46, 99, 111, 109, 47, 120]⟩ : ByteArray).data.toList = bU11 from rfl] at HU
  unfold UPost at HU
  obtain ⟨A, hA⟩ : ∃ A, adrOf (urlV bU11) = A := ⟨_, rfl⟩
  rw [hA] at HU HSl
  rw [hA] at HN0
  rw [hA] at HN1
  rw [hA] at HN2
  rw [hA] at HN3
  rw [hA] at HN4
  rw [hA] at HN5
  obtain ⟨k0, hk0⟩ : ∃ k, isOk (urlV bU11) = k := ⟨_, rfl⟩
  rw [hk0] at HU
  have HG := hid hg
  clear hg hA hk0
  go_enter Tryz.func9, Tryz.ntmps9
  go_wp2_with fail
  refine HU.out.mono ?_
  rintro e w1 ⟨uv, rfl, hown1, hb1⟩
  have hS1 := HSl.out _ _ _ hown1
  obtain ⟨ua, un, uc, rfl⟩ := hS1.1.sl
  obtain ⟨u0, u1, u2, u3, u4, u5, u6, u8, u9, u10, u11, hx, -, -, -, -⟩ := adr_named A ua un uc
  have hva : adrVal A (.slice ua un uc) = .agg #[.string u0, .string u1, .string u2, .string u3, .bool u4, .int .i64 u5, .bool u6, .slice ua un uc, .string u8, .string u9, .bool u10, .bool u11] := by unfold adrVal; rw [hx]
  rw [hva]
  have HN0 := hid (fun (v : Value) => HN0.out v (.slice ua un uc))
  have HN1 := hid (fun (v : Value) => HN1.out v (.slice ua un uc))
  have HN2 := hid (fun (v : Value) => HN2.out v (.slice ua un uc))
  have HN3 := hid (fun (v : Value) => HN3.out v (.slice ua un uc))
  have HN4 := hid (fun (v : Value) => HN4.out v (.slice ua un uc))
  have HN5 := hid (fun (v : Value) => HN5.out v (.slice ua un uc))
  simp only [hva] at HN0 HN1 HN2 HN3 HN4 HN5
  obtain ⟨W2, hW2⟩ : ∃ W2, (w1.alloc (.cells #[.string u0, .string u1, .string u2, .string u3, .bool u4, .int .i64 u5, .bool u6, .slice ua un uc, .string u8, .string u9, .bool u10, .bool u11] 45)) = W2 := ⟨_, rfl⟩
  have hb2 : Below w1.heap.size w1 W2 := by rw [← hW2]; exact (Below.refl _ w1).alloc (Nat.le_refl _) _
  have hA2 : AdrIn W2 w1.heap.size A (.slice ua un uc) := by
    unfold AdrIn
    rw [hx, ← hW2]
    exact heap_alloc_new w1 _
  have HX := hid hx
  have HU2 := hid (hS1.1.kept hb2)
  have HZ := hid hS1.2
  have HB2 := hid (below2 hb1 hb2)
  have HGW := hid (fun (X : World) (hX : Below W2.heap.size W2 X) => (HG.out.kept HB2.out).kept hX)
  have HFF := hid (show ∀ Z, Below W2.heap.size W2 Z → Z.cell? ⟨w1.heap.size, 0, none⟩ = some (.string u0) ∧ Z.cell? ⟨w1.heap.size, 1, none⟩ = some (.string u1) ∧ Z.cell? ⟨w1.heap.size, 2, none⟩ = some (.string u2) ∧ Z.cell? ⟨w1.heap.size, 3, none⟩ = some (.string u3) ∧ Z.cell? ⟨w1.heap.size, 4, none⟩ = some (.bool u4) ∧ Z.cell? ⟨w1.heap.size, 5, none⟩ = some (.int .i64 u5) ∧ Z.cell? ⟨w1.heap.size, 6, none⟩ = some (.bool u6) ∧ Z.cell? ⟨w1.heap.size, 7, none⟩ = some (.slice ua un uc) ∧ Z.cell? ⟨w1.heap.size, 8, none⟩ = some (.string u8) ∧ Z.cell? ⟨w1.heap.size, 9, none⟩ = some (.string u9) ∧ Z.cell? ⟨w1.heap.size, 10, none⟩ = some (.bool u10) ∧ Z.cell? ⟨w1.heap.size, 11, none⟩ = some (.bool u11) from fun Z hZ => by
    have hr := range_row (show Z.heap[w1.heap.size]? = some (.cells (adrCells A (.slice ua un uc)).toArray 45 (0, 0)) from hA2.kept hZ)
    rw [HX.out] at hr
    have hf : ∀ j v, [.string u0, .string u1, .string u2, .string u3, .bool u4, .int .i64 u5, .bool u6, .slice ua un uc, .string u8, .string u9, .bool u10, .bool u11][j]? = some v → Z.cell? ⟨w1.heap.size, j, none⟩ = some v := fun j v h => by
      have := hr j v h
      rwa [Nat.zero_add] at this
    exact ⟨hf 0 _ rfl, hf 1 _ rfl, hf 2 _ rfl, hf 3 _ rfl, hf 4 _ rfl, hf 5 _ rfl, hf 6 _ rfl, hf 7 _ rfl, hf 8 _ rfl, hf 9 _ rfl, hf 10 _ rfl, hf 11 _ rfl⟩)
  have HQ := hid (Below.refl W2.heap.size W2)
  clear hS1 hown1 hb1 hb2 hA2 hx hva
  go_wp2_with fail
  refine (H0.out _ (HGW.out _ HQ.out)).mono ?_
  rintro e x0 ⟨rfl, hbn⟩
  have HQ := hid (below2 HQ.out hbn)
  clear hbn
  go_wp2_with fail
  refine (H1.out _ (HGW.out _ HQ.out)).mono ?_
  rintro e x1 ⟨rfl, hbn⟩
  have HQ := hid (below2 HQ.out hbn)
  clear hbn
  go_wp2_with fail
  refine (H2.out _ (HGW.out _ HQ.out)).mono ?_
  rintro e x2 ⟨rfl, hbn⟩
  have HQ := hid (below2 HQ.out hbn)
  clear hbn
  go_wp2_with fail
  refine (H3.out _ (HGW.out _ HQ.out)).mono ?_
  rintro e x3 ⟨rfl, hbn⟩
  have HQ := hid (below2 HQ.out hbn)
  clear hbn
  go_wp2_with fail
  refine (H4.out _ (HGW.out _ HQ.out)).mono ?_
  rintro e x4 ⟨rfl, hbn⟩
  have HQ := hid (below2 HQ.out hbn)
  clear hbn
  go_wp2_with fail
  refine (H5.out _ (HGW.out _ HQ.out)).mono ?_
  rintro e x5 ⟨rfl, hbn⟩
  have HQ := hid (below2 HQ.out hbn)
  clear hbn
  go_wp2_with fail
  refine (H6.out _ (HGW.out _ HQ.out)).mono ?_
  rintro e x6 ⟨rfl, hbn⟩
  have HQ := hid (below2 HQ.out hbn)
  clear hbn
  go_wp2_with fail
  refine (H7.out _ (HGW.out _ HQ.out)).mono ?_
  rintro e x7 ⟨rfl, hbn⟩
  have HQ := hid (below2 HQ.out hbn)
  clear hbn
  go_wp2_with fail
  refine (H8.out _ (HGW.out _ HQ.out)).mono ?_
  rintro e x8 ⟨rfl, hbn⟩
  have HQ := hid (below2 HQ.out hbn)
  clear hbn
  go_wp2_with fail
  refine (H9.out _ (HGW.out _ HQ.out)).mono ?_
  rintro e x9 ⟨rfl, hbn⟩
  have HQ := hid (below2 HQ.out hbn)
  clear hbn
  go_wp2_with fail
  refine (H10.out _ (HGW.out _ HQ.out)).mono ?_
  rintro e x10 ⟨rfl, hbn⟩
  have HQ := hid (below2 HQ.out hbn)
  clear hbn
  go_wp2_with fail
  refine (H11.out _ (HGW.out _ HQ.out)).mono ?_
  rintro e x11 ⟨rfl, hbn⟩
  have HQ := hid (below2 HQ.out hbn)
  clear hbn
  go_wp2_with fail
  refine (H12.out _ (HGW.out _ HQ.out)).mono ?_
  rintro e x12 ⟨rfl, hbn⟩
  have HQ := hid (below2 HQ.out hbn)
  clear hbn
  go_wp2_with fail
  refine (H13.out _ (HGW.out _ HQ.out)).mono ?_
  rintro e x13 ⟨rfl, hbn⟩
  have HQ := hid (below2 HQ.out hbn)
  clear hbn
  have HQ := hid (below2 HQ.out ((Below.refl _ x13).alloc (Nat.le_refl _) (.cells #[.string ⟨#[39, 110, 111, 110, 99, 101, 45, 65, 98, 39]⟩] 9)))
  obtain ⟨y0, y1, y2, y3, y4, y5, y6, y7, y8, y9, y10, y11⟩ := HFF.out _ HQ.out
  go_wp2_with fail
  refine (HN0.out _ _ (HGW.out _ HQ.out) (HU2.out.kept HQ.out) HZ.out (tx_lone11 x13 ⟨#[39, 110, 111, 110, 99, 101, 45, 65, 98, 39]⟩)).mono ?_
  rintro e z0 ⟨rfl, hbn⟩
  have HQ := hid (below2 HQ.out hbn)
  clear hbn
  clear y0 y1 y2 y3 y4 y5 y6 y7 y8 y9 y10 y11
  have HQ := hid (below2 HQ.out ((Below.refl _ z0).alloc (Nat.le_refl _) (.cells #[.string ⟨#[39, 110, 111, 110, 99, 101, 45, 65, 98, 39]⟩] 9)))
  obtain ⟨y0, y1, y2, y3, y4, y5, y6, y7, y8, y9, y10, y11⟩ := HFF.out _ HQ.out
  go_wp2_with fail
  refine (HN1.out _ _ (HGW.out _ HQ.out) (HU2.out.kept HQ.out) HZ.out (tx_lone11 z0 ⟨#[39, 110, 111, 110, 99, 101, 45, 65, 98, 39]⟩)).mono ?_
  rintro e z1 ⟨rfl, hbn⟩
  have HQ := hid (below2 HQ.out hbn)
  clear hbn
  clear y0 y1 y2 y3 y4 y5 y6 y7 y8 y9 y10 y11
  have HQ := hid (below2 HQ.out ((Below.refl _ z1).alloc (Nat.le_refl _) (.cells #[.string ⟨#[39, 110, 111, 110, 99, 101, 45, 39]⟩] 9)))
  obtain ⟨y0, y1, y2, y3, y4, y5, y6, y7, y8, y9, y10, y11⟩ := HFF.out _ HQ.out
  go_wp2_with fail
  refine (HN2.out _ _ (HGW.out _ HQ.out) (HU2.out.kept HQ.out) HZ.out (tx_lone11 z1 ⟨#[39, 110, 111, 110, 99, 101, 45, 39]⟩)).mono ?_
  rintro e z2 ⟨rfl, hbn⟩
  have HQ := hid (below2 HQ.out hbn)
  clear hbn
  clear y0 y1 y2 y3 y4 y5 y6 y7 y8 y9 y10 y11
  have HQ := hid (below2 HQ.out ((Below.refl _ z2).alloc (Nat.le_refl _) (.cells #[.string ⟨#[39, 83, 72, 65, 50, 53, 54, 45, 120, 39]⟩] 9)))
  obtain ⟨y0, y1, y2, y3, y4, y5, y6, y7, y8, y9, y10, y11⟩ := HFF.out _ HQ.out
  go_wp2_with fail
  refine (HN3.out _ _ (HGW.out _ HQ.out) (HU2.out.kept HQ.out) HZ.out (tx_lone11 z2 ⟨#[39, 83, 72, 65, 50, 53, 54, 45, 120, 39]⟩)).mono ?_
  rintro e z3 ⟨rfl, hbn⟩
  have HQ := hid (below2 HQ.out hbn)
  clear hbn
  clear y0 y1 y2 y3 y4 y5 y6 y7 y8 y9 y10 y11
  have HQ := hid (below2 HQ.out ((Below.refl _ z3).alloc (Nat.le_refl _) (.cells #[.string ⟨#[39, 115, 104, 97, 50, 53, 54, 45, 120, 39]⟩] 9)))
  obtain ⟨y0, y1, y2, y3, y4, y5, y6, y7, y8, y9, y10, y11⟩ := HFF.out _ HQ.out
  go_wp2_with fail
  refine (HN4.out _ _ (HGW.out _ HQ.out) (HU2.out.kept HQ.out) HZ.out (tx_lone11 z3 ⟨#[39, 115, 104, 97, 50, 53, 54, 45, 120, 39]⟩)).mono ?_
  rintro e z4 ⟨rfl, hbn⟩
  have HQ := hid (below2 HQ.out hbn)
  clear hbn
  clear y0 y1 y2 y3 y4 y5 y6 y7 y8 y9 y10 y11
  obtain ⟨y0, y1, y2, y3, y4, y5, y6, y7, y8, y9, y10, y11⟩ := HFF.out _ HQ.out
  go_wp2_with fail
  refine (HN5.out _ _ (HGW.out _ HQ.out) (HU2.out.kept HQ.out) HZ.out (tx_nil _)).mono ?_
  rintro e z5 ⟨rfl, hbn⟩
  have HQ := hid (below2 HQ.out hbn)
  clear hbn
  clear y0 y1 y2 y3 y4 y5 y6 y7 y8 y9 y10 y11
  go_wp2_with fail
  refine (HC0.out _).mono ?_
  rintro e v0 ⟨rfl, hvn⟩
  rw [← hvn]
  clear hvn
  go_wp2_with fail
  refine (HC1.out _).mono ?_
  rintro e v1 ⟨rfl, hvn⟩
  rw [← hvn]
  clear hvn
  go_wp2_with fail
  refine (known11_any _ (HGW.out _ HQ.out)).mono ?_
  rintro e x99 ⟨rfl, hbn⟩
  have HQ := hid (below2 HQ.out hbn)
  clear hbn
  go_wp2
  go_ret
  exact ⟨rfl, below2 HB2.out HQ.out⟩

end Go.Proofs.YtkhpemjjholneaaGreatDoor
