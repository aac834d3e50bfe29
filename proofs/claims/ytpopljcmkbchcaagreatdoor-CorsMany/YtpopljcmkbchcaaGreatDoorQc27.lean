/-
  Walks and plain facts that this claim leans on, put together out of 5 texts: Eit, Pm, Ert, Eru, Erua.
-/
import Derived.Test.YtpopljcmkbchcaaGreatDoorProg
import Derived.Test.YtpopljcmkbchcaaGreatDoorQc1
import Derived.Test.YtpopljcmkbchcaaGreatDoorQc2
import Derived.Test.YtpopljcmkbchcaaGreatDoorQc3
import Derived.Test.YtpopljcmkbchcaaGreatDoorQc4
import Derived.Test.YtpopljcmkbchcaaGreatDoorQc5
import Derived.Test.YtpopljcmkbchcaaGreatDoorQc6
import Derived.Test.YtpopljcmkbchcaaGreatDoorQc8
import Derived.Test.YtpopljcmkbchcaaGreatDoorQc9
import Derived.Test.YtpopljcmkbchcaaGreatDoorQc10
import Derived.Test.YtpopljcmkbchcaaGreatDoorQc11
import Derived.Test.YtpopljcmkbchcaaGreatDoorQc12
import Derived.Test.YtpopljcmkbchcaaGreatDoorQc16
import Derived.Test.YtpopljcmkbchcaaGreatDoorQc20
import Derived.Test.YtpopljcmkbchcaaGreatDoorQc22
import Derived.Test.YtpopljcmkbchcaaGreatDoorQc23
import Derived.Test.YtpopljcmkbchcaaGreatDoorQc24
import Derived.Test.YtpopljcmkbchcaaGreatDoorQc25
import Derived.Test.YtpopljcmkbchcaaGreatDoorQc26
import Derived.BigRegion
import Derived.Deep.RegionHeld
import Derived.Deep.RegionHeldLaw
import Derived.Lib.IndexAny
import Derived.WalkKit
import Derived.Lib.UnsafeStr
import Derived.Lib.BufferRead
import Derived.Lib.RuneBytes
import Derived.Laws.RangeAny
import Derived.Deep.LoopGhost
import Derived.Maps.OwnSet
import Derived.Maps.OwnOps
import Derived.Maps.AppendAt
import Derived.StringKeys
import Derived.BigQuiet
import Derived.Deep.QuietTactic
import Derived.LoopN
import Derived.RegionTactic
import Derived.Deep.RegionLaw
import Derived.Deep.RegionWith
import Derived.WalkSpells
import Derived.WalkLawsBesides
import Derived.Lib.FieldsP
import Derived.Lib.DecodeN
import Derived.Lib.IndexMore
import Derived.Lib.Join
import Derived.Lib.SmallJoins
import Derived.Laws.CopyOwn
import Derived.Laws.ResultCell
import Derived.Deep.MidRow
import Derived.Laws.OwnMore
import Derived.Below
import Derived.WalkSmall
import Derived.Lib.LaidTab
import Derived.Lib.AppendIntMem
import Derived.Laws.AppendOwn
import Derived.Laws.Runes
import Derived.Lib.OthersKept
import Derived.Lib.FrozenHead2
import Derived.Lib.Builder
import Derived.Lib.AppendStr
import Derived.Lib.Replace
import Derived.Shelf.GgClosure.GivesRunes
import Derived.Laws.BitsAll
import Derived.Laws.Shifts
import Derived.Deep.DeepAppendRoom
import Derived.Laws.IdiomStrings
import Derived.Laws.BytesString
import Derived.Laws.CopyRow
import Derived.Sort.OwnSorted
import Derived.Lib.SlicesCompact
import Derived.Sort.KeysCollected
import Derived.Lib.Case
import Derived.Maps.RangeWalk
import Derived.Lib.SlMapMerge
import Derived.Laws.IdiomRangeMap
import Derived.Deep.Cut
import Derived.Lib.LastIndexByte
import Derived.Shelf.SlIter.Nil
import Derived.Shelf.SortM.Plain
import Derived.Shelf.SortM.SortNone
import Derived.Lib.Strings
import Derived.Laws.BitsAllLaws
import Derived.Lib.Bytealg
import Derived.Lib.BufferMore
import Derived.OwnWalk
import Derived.Shelf.Strings.Builder1
import Derived.Shelf.Strings.Builder2
import Derived.Shelf.Strings.OnBuilder
import Derived.Shelf.Strings.Trim
import Derived.Shelf.Small.Utf8
import Derived.Shelf.Small.Bits
import Derived.Shelf.Small.Strs
import Derived.Shelf.Small.Wraps
import Derived.Shelf.Strings.BuilderF
import Derived.Shelf.Strings.BuilderK
import Derived.Shelf.Strings.BuilderRune
import Derived.Shelf.Utf8.AppendRune
import Derived.Shelf.Utf8.AppendRunePlain
import Derived.Shelf.Strings.Builder2Cap
import Derived.Shelf.Strconv.Itoa0
import Derived.Shelf.Strconv.Itoa1
import Derived.Shelf.LaysM
import Derived.Shelf.Strconv.Itoa2
import Derived.Shelf.Strconv.Itoa3
import Derived.Shelf.Strings.Search1
import Derived.Shelf.Strings.Search2
import Derived.Shelf.Strings.Cut
import Derived.Shelf.Strings.Shaped
import Derived.Shelf.Sort.Plain
import Derived.Shelf.Strings.Prefix
import Derived.Shelf.Unicode.Latin
import Derived.Shelf.Strings.Runes
import Derived.Shelf.Strings.IndexAny
import Derived.Shelf.Strings.AsciiSet
import Derived.Shelf.Strings.IndexAnyAll
import Derived.Shelf.Unicode.DecodeSlow
import Derived.Shelf.Unicode.DecodeAny
import Derived.Shelf.Unicode.DecodeLast
import Derived.Shelf.Unicode.CaseLookup
import Derived.Shelf.Unicode.CaseConvert
import Derived.Shelf.Unicode.CaseTo
import Derived.Shelf.Unicode.CaseLaid
import Derived.Shelf.Slices.CompactS
import Derived.Shelf.Slices.In.SortNone
import Derived.Laws.AppendOwnNone
import Derived.Scope
import Derived.ScopeJumps
import Derived.WalkMore
import Derived.Lib.TrimByte
import Derived.Lib.ItoaNum
import Derived.Deep.WholeRow
import Derived.Lib.SlTrimSet
import Derived.Shelf.Strings.SlTrimAscii
import Derived.Deep.CutRange
import Derived.Laws.Rows
import Derived.Laws.MakeOwn
set_option linter.unusedSimpArgs false
set_option linter.unusedVariables false

namespace Go.Proofs.YtpopljcmkbchcaaGreatDoor
open Go.RowKit

theorem hd_lit18 (w : World) (L : List Hd) (n : Nat) (hn : L.length = n) (h : n ≤ 1000) : HdAt (w.alloc (.cells (cellsH L).toArray 45)) (.slice (some ⟨w.heap.size, 0, none⟩) n n) L := by
 subst hn
 have h1 := World.ownsRow_lit (base := w.heap.size) (e := 45) (size := 2) w (cellsH L).toArray L.length (Nat.le_refl _) (by unfold maxLen; omega) (by rw [List.size_toArray, cellsH_len])
 rw [List.toList_toArray] at h1
 exact own_hd h1

theorem txl_lit18 (w : World) (L : List (List UInt8)) (n : Nat) (hn : L.length = n) (h : n ≤ 1000) : TxAt (w.alloc (.cells (cellsT L).toArray 9)) (.slice (some ⟨w.heap.size, 0, none⟩) n n) L := by
 subst hn
 have h1 := World.ownsRow_lit (base := w.heap.size) (e := 9) (size := 1) w (cellsT L).toArray L.length (Nat.le_refl _) (by unfold maxLen; omega) (by rw [List.size_toArray, cellsT_len, Nat.mul_one])
 rw [List.toList_toArray] at h1
 exact own_txt' h1

def ExQ (A : Bool) (T : List (List UInt8)) (w : World) (e : Ending) (w' : World) : Prop :=
 ∃ a c, e = .returned (.tuple #[.slice a T.length c, .bool A]) ∧ w'.ownsRow w.heap.size 9 1 (.slice a T.length c) T.length (cellsT T) ∧ Below w.heap.size w w'

theorem exposed18_at (L : List Hd) (c : Bool) (A : Bool) (T : List (List UInt8)) (hA : exAll L c = A) (hT : exT L c = T) (hz : (L.all fun x => decide (x.name.length ≤ 10000) && decide (x.value.length ≤ 10000)) = true) (hl : L.length ≤ 1000) (hz2 : ((exPs L).all fun x => decide (x.length ≤ 1000000)) = true) (hpl : (exPs L).length ≤ 100000) :
  ∀ (v : Value) (w : World), HdAt w v L → Calls Tryz.prog 37 #[v, .bool c] w (ExQ A T w) := fun v w h => by
 have hs := szd_all hz
 have hb := hs.bulk
 have hm : (10000 + 2) * L.length ≤ 10002 * 1000 := Nat.mul_le_mul_left _ hl
 have := exposed18_any v L c w h (hs.mono (by decide)) (by omega) (by omega) (fun x hx => by simpa using List.all_eq_true.1 hz2 x hx) hpl
 unfold ExP at this
 rw [hA, hT] at this
 refine this.mono ?_
 rintro e w' ⟨u, rfl, ho, hb⟩
 obtain ⟨a, n, c', rfl⟩ := ownsRow_slice ho
 obtain rfl : n = T.length := by
  have := own_txt' ho
  obtain ⟨_, _, e, _⟩ := this.view
  simp only [Value.slice.injEq] at e
  exact e.2.1
 exact ⟨a, c', rfl, ho, hb⟩

def UnQ (T : List (List UInt8)) (w : World) (e : Ending) (w' : World) : Prop :=
 ∃ a c, e = .returned (.slice a T.length c) ∧ w'.ownsRow w.heap.size 9 1 (.slice a T.length c) T.length (cellsT T) ∧ Below w.heap.size w w'

theorem unsafe18_at (L : List Hd) (T : List (List UInt8)) (hT : unsV L = T) (hz : Szd 1000000 L) (hl : L.length ≤ 1000) :
  ∀ (v : Value) (w : World), G5 w → HdAt w v L → Calls Tryz.prog 38 #[v] w (UnQ T w) := fun v w hg h => by
 have := unsafe18_any v L w hg h hl hz
 rw [hT] at this
 refine this.mono ?_
 rintro e w' ⟨u, rfl, ho, hb⟩
 obtain ⟨a, n, c', rfl⟩ := ownsRow_slice ho
 obtain rfl : n = T.length := by
  have := own_txt' ho
  obtain ⟨_, _, e, _⟩ := this.view
  simp only [Value.slice.injEq] at e
  exact e.2.1
 exact ⟨a, c', rfl, ho, hb⟩

theorem cn18_1 : chkC (textO (ofT [104, 116, 116, 112, 115, 58, 47, 47, 97])) false [] = false := by decide +kernel

theorem cn18_2 : chkC (textO (ofT [104, 116, 116, 112, 115, 58, 47, 47, 97])) true [⟨nAllow, [104, 116, 116, 112, 115, 58, 47, 47, 97]⟩, ⟨[97, 99, 99, 101, 115, 115, 45, 99, 111, 110, 116, 114, 111, 108, 45, 97, 108, 108, 111, 119, 45, 99, 114, 101, 100, 101, 110, 116, 105, 97, 108, 115], [116, 114, 117, 101]⟩] = true := by decide +kernel

theorem cn18_3 : chkC (textO (ofT [104, 116, 116, 112, 115, 58, 47, 47, 97])) true [⟨nAllow, [104, 116, 116, 112, 115, 58, 47, 47, 97]⟩] = false := by decide +kernel

theorem cn18_4 : chkC (textO (ofT [104, 116, 116, 112, 115, 58, 47, 47, 98])) false [⟨nAllow, [104, 116, 116, 112, 115, 58, 47, 47, 97]⟩, ⟨[97, 99, 99, 101, 115, 115, 45, 99, 111, 110, 116, 114, 111, 108, 45, 97, 108, 108, 111, 119, 45, 99, 114, 101, 100, 101, 110, 116, 105, 97, 108, 115], [116, 114, 117, 101]⟩] = false := by decide +kernel

theorem cn18_5 : chkC (textO (ofT [100, 97, 116, 97, 58, 120])) false [⟨nAllow, [110, 117, 108, 108]⟩] = true := by decide +kernel

theorem cn18_6 : exAll [⟨[65, 99, 99, 101, 115, 115, 45, 67, 111, 110, 116, 114, 111, 108, 45, 69, 120, 112, 111, 115, 101, 45, 72, 101, 97, 100, 101, 114, 115], [88, 44, 32, 97, 44, 32, 120]⟩] true = false := by decide +kernel

theorem cn18_7 : exT [⟨[65, 99, 99, 101, 115, 115, 45, 67, 111, 110, 116, 114, 111, 108, 45, 69, 120, 112, 111, 115, 101, 45, 72, 101, 97, 100, 101, 114, 115], [88, 44, 32, 97, 44, 32, 120]⟩] true = [[97], [120]] := by decide +kernel

theorem cn18_8 : exAll [⟨[65, 99, 99, 101, 115, 115, 45, 67, 111, 110, 116, 114, 111, 108, 45, 69, 120, 112, 111, 115, 101, 45, 72, 101, 97, 100, 101, 114, 115], [88, 44, 32, 42]⟩] false = true := by decide +kernel

theorem cn18_9 : exT [⟨[65, 99, 99, 101, 115, 115, 45, 67, 111, 110, 116, 114, 111, 108, 45, 69, 120, 112, 111, 115, 101, 45, 72, 101, 97, 100, 101, 114, 115], [88, 44, 32, 42]⟩] false = [] := by decide +kernel

theorem cn18_10 : exAll [] false = false := by decide +kernel

theorem cn18_11 : exT [] false = [] := by decide +kernel

theorem cn18_12 : unsV [⟨[88, 45, 98], [49]⟩, ⟨[65, 99, 99, 101, 112, 116], [120]⟩, ⟨[120, 45, 65], [50]⟩, ⟨[88, 45, 66], [51]⟩] = [[120, 45, 97], [120, 45, 98]] := by decide +kernel

theorem cn18_13 : OrgOk (ofT [104, 116, 116, 112, 115, 58, 47, 47, 98]) := orgOk_of (by decide +kernel)

theorem cn18_14 : OrgOk (ofT [100, 97, 116, 97, 58, 120]) := orgOk_of (by decide +kernel)

set_option maxHeartbeats 16000000 in
set_option maxRecDepth 100000 in
theorem corsNumbers_walk (w : World) (hg : Gd w) (hg5 : G5 w) : Calls Tryz.prog 5 #[] w fun e w' => e = .returned (.bool true) ∧ Below w.heap.size w w' := by
 obtain ⟨i0, hi, hz0, hz1, hz2⟩ := info3 infoHd
 have HM1 := hid (method18_at (⟨#[]⟩ : ByteArray) [] false (by decide) (by decide) (by decide))
 have HM2 := hid (method18_at (⟨#[97, 32, 98]⟩ : ByteArray) [] false (by decide) (by decide) (by decide))
 have HOa := hid (of18_at (⟨#[104, 116, 116, 112, 115, 58, 47, 47, 97]⟩ : ByteArray) _ rfl (by decide))
 have HOb := hid (of18_at (⟨#[104, 116, 116, 112, 115, 58, 47, 47, 98]⟩ : ByteArray) _ rfl (by decide))
 have HOd := hid (of18_at (⟨#[100, 97, 116, 97, 58, 120]⟩ : ByteArray) _ rfl (by decide))
 have k1 := cn18_1
 have k2 := cn18_2
 have k3 := cn18_3
 have k4 := cn18_4
 have k5 := cn18_5
 have q1 := kn18_3
 have q2 := cn18_13
 have q3 := cn18_14
 generalize ofT (⟨#[104, 116, 116, 112, 115, 58, 47, 47, 97]⟩ : ByteArray).data.toList = Oa at *
 generalize ofT (⟨#[104, 116, 116, 112, 115, 58, 47, 47, 98]⟩ : ByteArray).data.toList = Ob at *
 generalize ofT (⟨#[100, 97, 116, 97, 58, 120]⟩ : ByteArray).data.toList = Od at *
 have HC1 := hid (check18_at Oa false [] false k1 q1 (by decide) (by decide))
 have HC2 := hid (check18_at Oa true [⟨nAllow, [104, 116, 116, 112, 115, 58, 47, 47, 97]⟩, ⟨[97, 99, 99, 101, 115, 115, 45, 99, 111, 110, 116, 114, 111, 108, 45, 97, 108, 108, 111, 119, 45, 99, 114, 101, 100, 101, 110, 116, 105, 97, 108, 115], [116, 114, 117, 101]⟩] true k2 q1 (by decide) (by decide))
 have HC3 := hid (check18_at Oa true [⟨nAllow, [104, 116, 116, 112, 115, 58, 47, 47, 97]⟩] false k3 q1 (by decide) (by decide))
 have HC4 := hid (check18_at Ob false [⟨nAllow, [104, 116, 116, 112, 115, 58, 47, 47, 97]⟩, ⟨[97, 99, 99, 101, 115, 115, 45, 99, 111, 110, 116, 114, 111, 108, 45, 97, 108, 108, 111, 119, 45, 99, 114, 101, 100, 101, 110, 116, 105, 97, 108, 115], [116, 114, 117, 101]⟩] false k4 q2 (by decide) (by decide))
 have HC5 := hid (check18_at Od false [⟨nAllow, [110, 117, 108, 108]⟩] true k5 q3 (by decide) (by decide))
 have HE1 := hid (exposed18_at [⟨[65, 99, 99, 101, 115, 115, 45, 67, 111, 110, 116, 114, 111, 108, 45, 69, 120, 112, 111, 115, 101, 45, 72, 101, 97, 100, 101, 114, 115], [88, 44, 32, 97, 44, 32, 120]⟩] true _ _ cn18_6 cn18_7 (by decide) (by decide) (by decide +kernel) (by decide +kernel))
 have HE2 := hid (exposed18_at [⟨[65, 99, 99, 101, 115, 115, 45, 67, 111, 110, 116, 114, 111, 108, 45, 69, 120, 112, 111, 115, 101, 45, 72, 101, 97, 100, 101, 114, 115], [88, 44, 32, 42]⟩] false _ _ cn18_8 cn18_9 (by decide) (by decide) (by decide +kernel) (by decide +kernel))
 have HE3 := hid (exposed18_at [] false _ _ cn18_10 cn18_11 (by decide) (by decide) (by decide +kernel) (by decide +kernel))
 have HU := hid (unsafe18_at [⟨[88, 45, 98], [49]⟩, ⟨[65, 99, 99, 101, 112, 116], [120]⟩, ⟨[120, 45, 65], [50]⟩, ⟨[88, 45, 66], [51]⟩] _ cn18_12 (szd_all (by decide)) (by decide))
 unfold ExQ at HE1 HE2 HE3
 unfold UnQ at HU
 have HA1 := hid (fun w => allow18_any (⟨#[104, 116, 116, 112, 115, 58, 47, 47, 97]⟩ : ByteArray) w)
 have HA2 := hid (fun w => allow18_any (⟨#[110, 117, 108, 108]⟩ : ByteArray) w)
 have HS1 := hid (fun w => simple18_any (⟨#[72, 69, 65, 68]⟩ : ByteArray) w)
 have HS2 := hid (fun w => simple18_any (⟨#[104, 101, 97, 100]⟩ : ByteArray) w)
 rw [show simM (⟨#[72, 69, 65, 68]⟩ : ByteArray).data.toList = true from by decide] at HS1
 rw [show simM (⟨#[104, 101, 97, 100]⟩ : ByteArray).data.toList = false from by decide] at HS2
 have HK := hid (fun w hg => known18_any w hg)
 have HSa := hid (fun (v1 v2 : Value) (w : World) (h1 : TxAt w v1 [[97], [120]]) (h2 : TxAt w v2 [[97], [120]]) => sameT_any v1 v2 _ _ w h1 h2 (by decide) (by decide))
 have HSb := hid (fun (v1 v2 : Value) (w : World) (h1 : TxAt w v1 [[120, 45, 97], [120, 45, 98]]) (h2 : TxAt w v2 [[120, 45, 97], [120, 45, 98]]) => sameT_any v1 v2 _ _ w h1 h2 (by decide) (by decide))
 simp only [decide_true] at HSa HSb
 have HG := hid hg
 have HG5 := hid hg5
 clear k1 k2 k3 k4 k5 q1 q2 q3 hg hg5
 go_enter Tryz.func5, Tryz.ntmps5
 go_wp2_with fail
 refine (HM1.out _).mono ?_
 rintro e w1 ⟨rfl, hb⟩
 have HB1w := hid (below2 (Below.refl w.heap.size w) hb)
 clear hb
 go_wp2_with fail
 refine (HM2.out _).mono ?_
 rintro e w2 ⟨rfl, hb⟩
 have HB2w := hid (below2 HB1w.out hb)
 clear hb
 go_wp2_with fail
 refine (HA1.out _).mono ?_
 rintro e w3 ⟨aa, ca, rfl, hown, hb⟩
 have HB3w := hid (below2 HB2w.out hb)
 have HOw := hid hown
 have hw23 := hb.size
 have HAB := hid (show Below w2.heap.size w2 (w3.alloc (.cells #[.string ⟨#[97, 99, 99, 101, 115, 115, 45, 99, 111, 110, 116, 114, 111, 108, 45, 97, 108, 108, 111, 119, 45, 99, 114, 101, 100, 101, 110, 116, 105, 97, 108, 115]⟩, .string ⟨#[116, 114, 117, 101]⟩] 45)) from hb.alloc hb.size _)
 clear hown
 clear hb
 go_wp2_with (at_builtin; go_must (refine wpList_append_own _ rfl _ _ 27 rfl w2.heap.size 45 i0 (.agg #[.string ByteArray.empty, .string ByteArray.empty]) 2 32 Tryz.underlying27 hi hz0 hz1 hz2 rfl (by decide) _ _ _ rfl (HOw.out.alloc _) ⟨w3.heap.size, 0, none⟩ 1 1 [.string ⟨#[97, 99, 99, 101, 115, 115, 45, 99, 111, 110, 116, 114, 111, 108, 45, 97, 108, 108, 111, 119, 45, 99, 114, 101, 100, 101, 110, 116, 105, 97, 108, 115]⟩, .string ⟨#[116, 114, 117, 101]⟩] rfl rfl ?c1 ?c2 ?c3 ?c4 ?c5 ?_))
 case c1 =>
  intro q u hq
  match q, hq with
  | 0, hq => simp at hq; subst hq; simp [Addr.add]
  | 1, hq => simp at hq; subst hq; simp [Addr.add]
 case c2 => intro u hu; simp at hu; rcases hu with rfl | rfl <;> rfl
 case c3 => decide
 case c4 => decide
 case c5 => simp; omega
 intro v4 w4 hown4 hgrow4 hnil4
 have hown4' : w4.ownsRow w2.heap.size 45 2 v4 2 (cellsH [⟨nAllow, [104, 116, 116, 112, 115, 58, 47, 47, 97]⟩, ⟨[97, 99, 99, 101, 115, 115, 45, 99, 111, 110, 116, 114, 111, 108, 45, 97, 108, 108, 111, 119, 45, 99, 114, 101, 100, 101, 110, 116, 105, 97, 108, 115], [116, 114, 117, 101]⟩]) := hown4
 obtain ⟨a4, c4, rfl⟩ : ∃ a c, v4 = .slice a 2 c := by
  have h := own_hd hown4'
  obtain ⟨a, c, e, _⟩ := h.view
  exact ⟨a, c, e⟩
 have HBo := hid (own_hd hown4')
 have HB4w := hid (show Below w.heap.size w w4 from (below2 HB2w.out (((Below.refl w2.heap.size w2).trans HAB.out).grown hgrow4 (by simp; omega) (fun g hg => (HOw.out.lt g hg).1))))
 clear hown4 hown4' hgrow4 hnil4
 go_wp2_with fail
 refine (HE1.out _ _ (hd_lit18 w4 [⟨[65, 99, 99, 101, 115, 115, 45, 67, 111, 110, 116, 114, 111, 108, 45, 69, 120, 112, 111, 115, 101, 45, 72, 101, 97, 100, 101, 114, 115], [88, 44, 32, 97, 44, 32, 120]⟩] 1 rfl (by decide))).mono ?_
 rintro e w5 ⟨a5, c5, rfl, hown, hb⟩
 have HB5w := hid (below2 (below2 HB4w.out ((Below.refl _ w4).alloc (Nat.le_refl _) _)) hb)
 have HB5w4 := hid (below2 (below2 (Below.refl w4.heap.size w4) ((Below.refl _ w4).alloc (Nat.le_refl _) _)) hb)
 have HTl := hid (own_txt' hown)
 clear hown
 clear hb
 go_wp2_with fail
 refine (HE2.out _ _ (hd_lit18 w5 [⟨[65, 99, 99, 101, 115, 115, 45, 67, 111, 110, 116, 114, 111, 108, 45, 69, 120, 112, 111, 115, 101, 45, 72, 101, 97, 100, 101, 114, 115], [88, 44, 32, 42]⟩] 1 rfl (by decide))).mono ?_
 rintro e w6 ⟨a6, c6, rfl, hown, hb⟩
 have HB6w := hid (below2 (below2 HB5w.out ((Below.refl _ w5).alloc (Nat.le_refl _) _)) hb)
 have HB6w4 := hid (below2 (below2 HB5w4.out ((Below.refl _ w5).alloc (Nat.le_refl _) _)) hb)
 have HB6w5 := hid (below2 (below2 (Below.refl w5.heap.size w5) ((Below.refl _ w5).alloc (Nat.le_refl _) _)) hb)
 clear hown
 clear hb
 go_wp2_with fail
 refine (HE3.out _ _ (hd_nil _)).mono ?_
 rintro e w7 ⟨a7, c7, rfl, hown, hb⟩
 have HB7w := hid (below2 HB6w.out hb)
 have HB7w4 := hid (below2 HB6w4.out hb)
 have HB7w5 := hid (below2 HB6w5.out hb)
 clear hown
 clear hb
 go_wp2_with fail
 refine (HU.out _ _ (HG5.out.kept (below2 HB7w.out ((Below.refl _ w7).alloc (Nat.le_refl _) _))) (hd_lit18 w7 [⟨[88, 45, 98], [49]⟩, ⟨[65, 99, 99, 101, 112, 116], [120]⟩, ⟨[120, 45, 65], [50]⟩, ⟨[88, 45, 66], [51]⟩] 4 rfl (by decide))).mono ?_
 rintro e w8 ⟨a8, c8, rfl, hown, hb⟩
 have HB8w := hid (below2 (below2 HB7w.out ((Below.refl _ w7).alloc (Nat.le_refl _) _)) hb)
 have HB8w4 := hid (below2 (below2 HB7w4.out ((Below.refl _ w7).alloc (Nat.le_refl _) _)) hb)
 have HB8w5 := hid (below2 (below2 HB7w5.out ((Below.refl _ w7).alloc (Nat.le_refl _) _)) hb)
 have HTu := hid (own_txt' hown)
 clear hown
 clear hb
 go_wp2_with fail
 refine (HOa.out _).mono ?_
 rintro e w9 ⟨rfl, hb⟩
 have HB9w := hid (below2 HB8w.out hb)
 have HB9w4 := hid (below2 HB8w4.out hb)
 have HB9w5 := hid (below2 HB8w5.out hb)
 have HB9w8 := hid (below2 (Below.refl w8.heap.size w8) hb)
 clear hb
 go_wp2_with fail
 refine (HC1.out _ _ (HG.out.kept HB9w.out) (hd_nil _)).mono ?_
 rintro e w10 ⟨rfl, hb⟩
 have HB10w := hid (below2 HB9w.out hb)
 have HB10w4 := hid (below2 HB9w4.out hb)
 have HB10w5 := hid (below2 HB9w5.out hb)
 have HB10w8 := hid (below2 HB9w8.out hb)
 clear hb
 go_wp2_with fail
 refine (HOa.out _).mono ?_
 rintro e w11 ⟨rfl, hb⟩
 have HB11w := hid (below2 HB10w.out hb)
 have HB11w4 := hid (below2 HB10w4.out hb)
 have HB11w5 := hid (below2 HB10w5.out hb)
 have HB11w8 := hid (below2 HB10w8.out hb)
 clear hb
 go_wp2_with fail
 refine (HC2.out _ _ (HG.out.kept HB11w.out) (HBo.out.kept HB11w4.out)).mono ?_
 rintro e w12 ⟨rfl, hb⟩
 have HB12w := hid (below2 HB11w.out hb)
 have HB12w4 := hid (below2 HB11w4.out hb)
 have HB12w5 := hid (below2 HB11w5.out hb)
 have HB12w8 := hid (below2 HB11w8.out hb)
 clear hb
 go_wp2_with fail
 refine (HOa.out _).mono ?_
 rintro e w13 ⟨rfl, hb⟩
 have HB13w := hid (below2 HB12w.out hb)
 have HB13w4 := hid (below2 HB12w4.out hb)
 have HB13w5 := hid (below2 HB12w5.out hb)
 have HB13w8 := hid (below2 HB12w8.out hb)
 clear hb
 go_wp2_with fail
 refine (HA1.out _).mono ?_
 rintro e w14 ⟨a9, c9, rfl, hown, hb⟩
 have HB14w := hid (below2 HB13w.out hb)
 have HB14w4 := hid (below2 HB13w4.out hb)
 have HB14w5 := hid (below2 HB13w5.out hb)
 have HB14w8 := hid (below2 HB13w8.out hb)
 have HH9 := hid (own_hd hown)
 clear hown
 clear hb
 go_wp2_with fail
 refine (HC3.out _ _ (HG.out.kept HB14w.out) HH9.out).mono ?_
 rintro e w15 ⟨rfl, hb⟩
 have HB15w := hid (below2 HB14w.out hb)
 have HB15w4 := hid (below2 HB14w4.out hb)
 have HB15w5 := hid (below2 HB14w5.out hb)
 have HB15w8 := hid (below2 HB14w8.out hb)
 clear hb
 go_wp2_with fail
 refine (HOb.out _).mono ?_
 rintro e w16 ⟨rfl, hb⟩
 have HB16w := hid (below2 HB15w.out hb)
 have HB16w4 := hid (below2 HB15w4.out hb)
 have HB16w5 := hid (below2 HB15w5.out hb)
 have HB16w8 := hid (below2 HB15w8.out hb)
 clear hb
 go_wp2_with fail
 refine (HC4.out _ _ (HG.out.kept HB16w.out) (HBo.out.kept HB16w4.out)).mono ?_
 rintro e w17 ⟨rfl, hb⟩
 have HB17w := hid (below2 HB16w.out hb)
 have HB17w4 := hid (below2 HB16w4.out hb)
 have HB17w5 := hid (below2 HB16w5.out hb)
 have HB17w8 := hid (below2 HB16w8.out hb)
 clear hb
 go_wp2_with fail
 refine (HOd.out _).mono ?_
 rintro e w18 ⟨rfl, hb⟩
 have HB18w := hid (below2 HB17w.out hb)
 have HB18w4 := hid (below2 HB17w4.out hb)
 have HB18w5 := hid (below2 HB17w5.out hb)
 have HB18w8 := hid (below2 HB17w8.out hb)
 clear hb
 go_wp2_with fail
 refine (HA2.out _).mono ?_
 rintro e w19 ⟨b9, d9, rfl, hown, hb⟩
 have HB19w := hid (below2 HB18w.out hb)
 have HB19w4 := hid (below2 HB18w4.out hb)
 have HB19w5 := hid (below2 HB18w5.out hb)
 have HB19w8 := hid (below2 HB18w8.out hb)
 have HH8 := hid (own_hd hown)
 clear hown
 clear hb
 go_wp2_with fail
 refine (HC5.out _ _ (HG.out.kept HB19w.out) HH8.out).mono ?_
 rintro e w20 ⟨rfl, hb⟩
 have HB20w := hid (below2 HB19w.out hb)
 have HB20w4 := hid (below2 HB19w4.out hb)
 have HB20w5 := hid (below2 HB19w5.out hb)
 have HB20w8 := hid (below2 HB19w8.out hb)
 clear hb
 go_wp2_with fail
 refine (HSa.out _ _ _ (HTl.out.kept (below2 HB20w5.out ((Below.refl _ w20).alloc (Nat.le_refl _) _))) (txl_lit18 w20 [[97], [120]] 2 rfl (by decide))).mono ?_
 rintro e w21 ⟨rfl, hb⟩
 have HB21w := hid (below2 (below2 HB20w.out ((Below.refl _ w20).alloc (Nat.le_refl _) _)) hb)
 have HB21w4 := hid (below2 (below2 HB20w4.out ((Below.refl _ w20).alloc (Nat.le_refl _) _)) hb)
 have HB21w5 := hid (below2 (below2 HB20w5.out ((Below.refl _ w20).alloc (Nat.le_refl _) _)) hb)
 have HB21w8 := hid (below2 (below2 HB20w8.out ((Below.refl _ w20).alloc (Nat.le_refl _) _)) hb)
 clear hb
 go_wp2_with fail
 refine (HSb.out _ _ _ (HTu.out.kept (below2 HB21w8.out ((Below.refl _ w21).alloc (Nat.le_refl _) _))) (txl_lit18 w21 [[120, 45, 97], [120, 45, 98]] 2 rfl (by decide))).mono ?_
 rintro e w22 ⟨rfl, hb⟩
 have HB22w := hid (below2 (below2 HB21w.out ((Below.refl _ w21).alloc (Nat.le_refl _) _)) hb)
 have HB22w4 := hid (below2 (below2 HB21w4.out ((Below.refl _ w21).alloc (Nat.le_refl _) _)) hb)
 have HB22w5 := hid (below2 (below2 HB21w5.out ((Below.refl _ w21).alloc (Nat.le_refl _) _)) hb)
 have HB22w8 := hid (below2 (below2 HB21w8.out ((Below.refl _ w21).alloc (Nat.le_refl _) _)) hb)
 clear hb
 go_wp2_with fail
 refine (HS1.out _).mono ?_
 rintro e wz ⟨rfl, hwz⟩
 rw [← hwz]
 clear hwz
 go_wp2_with fail
 refine (HS2.out _).mono ?_
 rintro e wz ⟨rfl, hwz⟩
 rw [← hwz]
 clear hwz
 go_wp2_with fail
 refine (HK.out _ (HG.out.kept HB22w.out)).mono ?_
 rintro e w23 ⟨rfl, hb⟩
 have HB23w := hid (below2 HB22w.out hb)
 have HB23w4 := hid (below2 HB22w4.out hb)
 have HB23w5 := hid (below2 HB22w5.out hb)
 have HB23w8 := hid (below2 HB22w8.out hb)
 clear hb
 go_wp2_with fail
 go_ret
 exact ⟨rfl, HB23w.out⟩

end Go.Proofs.YtpopljcmkbchcaaGreatDoor

namespace Go.Proofs.YtpopljcmkbchcaaGreatDoor
theorem hexD_facts : ∀ k, k < 16 → is16I (hexD k).toNat = true ∧ val16I (hexD k).toNat = k := by decide +kernel

theorem unpct_esc (c : UInt8) (r : List UInt8) : unpct (esc c ++ r) = c :: unpct r := by
 have hc := c.toNat_lt
 have h1 := hexD_facts (c.toNat / 16) (by omega)
 have h2 := hexD_facts (c.toNat % 16) (by omega)
 have e : pcd (37 :: hexD (c.toNat / 16) :: hexD (c.toNat % 16) :: r) = (c, true) := by
  rw [pcd_three, h1.1, h2.1, h1.2, h2.2]
  simp only [Bool.and_self, if_true]
  congr 1
  apply UInt8.toNat_inj.1
  simp
  omega
 show unpct (37 :: (hexD (c.toNat / 16) :: hexD (c.toNat % 16) :: r)) = _
 rw [unpct_cons, e]
 rfl

end Go.Proofs.YtpopljcmkbchcaaGreatDoor

namespace Go.Proofs.YtpopljcmkbchcaaGreatDoor
theorem is16_5 (c : UInt8) (h : is16I c.toNat = true) : inSetI c.toNat 5 = false := by
 have := u8_all (P := fun c => !is16I c.toNat || !inSetI c.toNat 5) (by decide +kernel) c
 simp only [Bool.or_eq_true, Bool.not_eq_true'] at this
 rcases this with h' | h'
 ·rw [h] at h'; cases h'
 ·exact h'

theorem is16_37 : is16I (37 : UInt8).toNat = false := by decide

theorem pct_cons (k : Int) (c : UInt8) (l : List UInt8) : pct k (c :: l) = pct1 k c ++ pct k l := rfl

theorem pct1_in {k : Int} {c : UInt8} (h : inSetI c.toNat k = true) : pct1 k c = [37, hexD (c.toNat / 16), hexD (c.toNat % 16)] := by unfold pct1; rw [if_pos h]; rfl

theorem pct1_out {k : Int} {c : UInt8} (h : inSetI c.toNat k = false) : pct1 k c = [c] := by unfold pct1; rw [h]; rfl

theorem unpct_ne {c : UInt8} {l : List UInt8} (h : c ≠ 37) : unpct (c :: l) = c :: unpct l := by rw [unpct_cons, pcd_other l c h]; rfl

theorem unpct_37_no {l : List UInt8} (h : pcd (37 :: l) = (37, false)) : unpct (37 :: l) = 37 :: unpct l := by
 rw [unpct_cons, h]; rfl

theorem unpct_pct5 : ∀ (n : Nat) (p : List UInt8), p.length ≤ n → unpct (pct 5 p) = unpct p := by
 intro n
 induction n with
 | zero =>
  intro p h
  have : p = [] := List.eq_nil_of_length_eq_zero (by omega)
  subst this; rfl
 | succ n ih =>
  intro p h
  match p, h with
  | [], _ => rfl
  | c :: l, h =>
   have hl : l.length ≤ n := by simp at h; omega
   by_cases hc : inSetI c.toNat 5 = true
   ·have hne : c ≠ 37 := fun e => by subst e; exact absurd hc (by decide)
    rw [pct_cons]
    unfold pct1
    rw [if_pos hc, unpct_esc, ih l hl, unpct_ne hne]
   ·have hc' : inSetI c.toNat 5 = false := by simpa using hc
    rw [pct_cons, pct1_out hc', List.singleton_append]
    by_cases h37 : c = 37
    ·subst h37
     by_cases hb : ∃ a b r, l = a :: b :: r ∧ (is16I a.toNat && is16I b.toNat) = true
     ·obtain ⟨a, b, r, rfl, hab⟩ := hb
      have hab' := hab
      rw [Bool.and_eq_true] at hab'
      rw [pct_cons, pct1_out (is16_5 a hab'.1), pct_cons, pct1_out (is16_5 b hab'.2), List.singleton_append, List.singleton_append]
      rw [unpct_cons, unpct_cons, pcd_three, pcd_three, hab]
      simp only [if_true]
      rw [List.drop_succ_cons, List.drop_succ_cons, List.drop_zero, List.drop_succ_cons, List.drop_succ_cons, List.drop_zero, ih r (by simp at hl; omega)]
     ·have h1 : pcd (37 :: l) = (37, false) := by
       match l, hb with
       | [], _ => exact pcd_short [] 37 (by simp)
       | [a], _ => exact pcd_short [a] 37 (by simp)
       | a :: b :: r, hb =>
        rw [pcd_three, if_neg (fun e => hb ⟨a, b, r, rfl, e⟩)]
      have h2 : pcd (37 :: pct 5 l) = (37, false) := by
       match l, hb with
       | [], _ => exact pcd_short [] 37 (by simp)
       | a :: l', hb =>
        by_cases ha : inSetI a.toNat 5 = true
        ·rw [pct_cons, pct1_in ha]
         show pcd (37 :: 37 :: hexD (a.toNat / 16) :: (hexD (a.toNat % 16) :: pct 5 l')) = _
         rw [pcd_three, is16_37, Bool.false_and]; rfl
        ·have ha' : inSetI a.toNat 5 = false := by simpa using ha
         rw [pct_cons, pct1_out ha', List.singleton_append]
         match l', hb with
         | [], _ => exact pcd_short [a] 37 (by simp)
         | b :: r, hb =>
          by_cases hbs : inSetI b.toNat 5 = true
          ·rw [pct_cons, pct1_in hbs]
           show pcd (37 :: a :: 37 :: (hexD (b.toNat / 16) :: hexD (b.toNat % 16) :: pct 5 r)) = _
           rw [pcd_three, is16_37, Bool.and_false]; rfl
          ·have hb' : inSetI b.toNat 5 = false := by simpa using hbs
           rw [pct_cons, pct1_out hb', List.singleton_append, pcd_three, if_neg (fun e => hb ⟨a, b, r, rfl, e⟩)]
      rw [unpct_37_no h1, unpct_37_no h2, ih l hl]
    ·rw [unpct_ne h37, unpct_ne h37, ih l hl]

theorem dots_pct5 (p : List UInt8) : dotsV (pct 5 p) = dotsV p := by
 unfold dotsV
 rw [unpct_pct5 p.length p (Nat.le_refl _)]

def Part2 (p : List UInt8) : Prop := dotsV p = 0 ∧ pct 5 p = p ∧ 47 ∉ p

theorem pathL_back : ∀ (L out : List (List UInt8)), (∀ p ∈ L, Part2 p) → pathL out L = out ++ L
 | [], out, _ => by rw [pathL, List.append_nil]
 | [p], out, h => by
  have hp := h p (by simp)
  rw [pathL_last, stepP0 hp.1, hp.2.1]
 | p :: q :: r, out, h => by
  have hp := h p (by simp)
  rw [pathL_more out p (q :: r) (by simp), stepP0 hp.1, hp.2.1, pathL_back (q :: r) _ fun x hx => h x (by simp [hx])]
  simp

theorem cut_back : ∀ (p : List UInt8) (L : List (List UInt8)), 47 ∉ p → (∀ q ∈ L, Part2 q) → cutL 47 (p ++ L.flatMap (fun q => 47 :: q)) = p :: L
 | p, [], hp, _ => by rw [List.flatMap_nil, List.append_nil, cutL_none 47 p hp]
 | p, q :: L, hp, h => by
  rw [List.flatMap_cons, List.cons_append, cutL_some 47 p _ hp, cut_back q L (h q (by simp)).2.2 fun x hx => h x (by simp [hx])]

theorem path_back (sp : Bool) (L : List (List UInt8)) (h : ∀ p ∈ L, Part2 p) (hsp : sp = true → L ≠ []) : pathV sp [] (L.flatMap (fun q => 47 :: q)) = L := by
 cases L with
 | nil =>
  cases sp with
  | true => exact absurd rfl (hsp rfl)
  | false => rfl
 | cons p L =>
  unfold pathV
  rw [if_neg (by simp), List.flatMap_cons]
  have : over1 (47 :: p ++ L.flatMap (fun q => 47 :: q)) = p ++ L.flatMap (fun q => 47 :: q) := by simp [over1]
  rw [this, cut_back p L (h p (by simp)).2.2 (fun x hx => h x (by simp [hx])), pathL_back _ _ h, List.nil_append]



theorem text6_gen (P : UInt8 → Bool) (h58 : P 58 = true) (hd : ∀ n < 16, P (digC n) = true) : ∀ (x : List Nat), ∀ c ∈ text6 x, P c = true := by
 have hN : ∀ (f n : Nat) (acc : List UInt8), (∀ c ∈ acc, P c = true) → ∀ c ∈ digsN 16 f n acc, P c = true := by
  intro f
  induction f with
  | zero => intro n acc h; exact h
  | succ f ih =>
   intro n acc h
   rw [digsN]
   split
   ·intro c hc
    rcases List.mem_cons.1 hc with rfl | hc
    ·exact hd n (by omega)
    ·exact h c hc
   ·refine ih _ _ fun c hc => ?_
    rcases List.mem_cons.1 hc with rfl | hc
    ·exact hd _ (Nat.mod_lt _ (by omega))
    ·exact h c hc
 have hj : ∀ (x : List Nat), ∀ c ∈ joined x, P c = true := by
  intro x
  induction x with
  | nil => rw [joined_nil]; simp
  | cons a l ih =>
   cases l with
   | nil => rw [joined_one]; exact hN 4 a [] (by simp)
   | cons b l =>
    rw [joined_cons]
    intro c hc
    rcases List.mem_append.1 hc with hc | hc
    ·exact hN 4 a [] (by simp) c hc
    ·rcases List.mem_append.1 hc with hc | hc
     ·obtain rfl := List.mem_singleton.1 hc; exact h58
     ·exact ih c hc
 intro x
 unfold text6
 split
 ·exact hj x
 ·intro c hc
  rcases List.mem_append.1 hc with hc | hc
  ·exact hj _ c hc
  ·rcases List.mem_append.1 hc with hc | hc
   ·rcases List.mem_cons.1 hc with rfl | hc
    ·exact h58
    ·obtain rfl := List.mem_singleton.1 hc; exact h58
   ·exact hj _ c hc

def HostCol (h : List UInt8) : Prop := (∀ c ∈ h, c ≠ 58 ∧ c ≠ 91) ∨ ∃ t, h = 91 :: (t ++ [93]) ∧ 93 ∉ t

theorem dec8_gen (n : Nat) (h : n < 256) : ∀ c ∈ dec8 n, c ≠ 58 ∧ c ≠ 91 := by
 have : ∀ n < 256, ∀ c ∈ dec8 n, c ≠ 58 ∧ c ≠ 91 := by decide +kernel
 exact this n h

theorem host_col {l a : List UInt8} {b : Bool} (h : parseV l b = some a) : HostCol a := by
 unfold parseV at h
 split at h
 ·unfold bracketV at h
  split at h
  ·cases hs : sixV (Lib.trimSuffix (l.drop 1) [93]) with
   | none => rw [hs] at h; cases h
   | some x =>
    rw [hs] at h
    simp only [Option.map_some, Option.some.injEq] at h
    refine .inr ⟨text6 x, h.symm, fun e => ?_⟩
    have := text6_gen (fun c => c != 93) (by decide) (by decide +kernel) x 93 e
    exact absurd this (by decide)
  ·cases h
 ·split at h
  ·unfold nameV at h
   split at h
   ·cases h
   ·rename_i hn
    split at h
    ·cases hf : fourV (low (unpct l)) with
     | none => rw [hf] at h; cases h
     | some n =>
      rw [hf] at h
      simp only [Option.map_some, Option.some.injEq] at h
      rw [← h]
      refine .inl fun c hc => ?_
      have hm : ∀ k : Nat, k % 256 < 256 := fun k => Nat.mod_lt _ (by decide)
      unfold text4 at hc
      rcases List.mem_append.1 hc with hc | hc
      ·exact dec8_gen _ (hm _) c hc
      ·rcases List.mem_cons.1 hc with rfl | hc
       ·decide
       ·rcases List.mem_append.1 hc with hc | hc
        ·exact dec8_gen _ (hm _) c hc
        ·rcases List.mem_cons.1 hc with rfl | hc
         ·decide
         ·rcases List.mem_append.1 hc with hc | hc
          ·exact dec8_gen _ (hm _) c hc
          ·rcases List.mem_cons.1 hc with rfl | hc
           ·decide
           ·exact dec8_gen _ (hm _) c hc
    ·simp only [Option.some.injEq] at h
     rw [← h]
     refine .inl fun c hc => ?_
     have hall : allN (low (unpct l)) = true := by
      cases he : allN (low (unpct l)) with
      | true => rfl
      | false => exact absurd (.inr (.inl he)) hn
     have h1 := List.all_eq_true.1 hall c hc
     constructor
     ·rintro rfl; exact absurd h1 (by decide)
     ·rintro rfl; exact absurd h1 (by decide)
  ·unfold otherV at h
   split at h
   ·cases h
   ·rename_i hn
    simp only [Option.some.injEq] at h
    have hf := pct_forb l (by simpa using hn)
    rw [h] at hf
    refine .inl fun c hc => ?_
    have h1 : forb c = false := by
     cases he : forb c with
     | false => rfl
     | true => rw [List.any_eq_true.2 ⟨c, hc, he⟩] at hf; cases hf
    constructor
    ·rintro rfl; exact absurd h1 (by decide)
    ·rintro rfl; exact absurd h1 (by decide)

theorem colN_true : ∀ (t r : List UInt8) (i k : Nat), 93 ∉ t → colN true i k (t ++ 93 :: r) = colN false (i + t.length + 1) k r
 | [], r, i, k, _ => by rw [List.nil_append, colN, if_pos rfl]; rfl
 | c :: t, r, i, k, h => by
  rw [List.cons_append, colN, if_neg (fun e => h (by rw [e]; simp)), colN_true t r (i + 1) k fun e => h (by simp [e])]
  congr 1
  simp; omega

theorem col_host (h pt : List UInt8) (hc : HostCol h) (hp : pt = [] ∨ ∃ t, pt = 58 :: t ∧ ∀ c ∈ t, c ≠ 58 ∧ c ≠ 91) : colV (h ++ pt) = h.length := by
 have key : ∀ (i k : Nat), (pt = [] → colN false i k pt = k) ∧ (pt ≠ [] → colN false i k pt = i) := by
  intro i k
  rcases hp with rfl | ⟨t, rfl, ht⟩
  ·exact ⟨fun _ => rfl, fun e => absurd rfl e⟩
  ·refine ⟨fun e => (by cases e), fun _ => ?_⟩
   rw [colN, if_pos rfl, colN_plain t _ _ ht]
 rcases hc with hc | ⟨t, rfl, ht⟩
 ·rcases hp with rfl | ⟨t, rfl, ht⟩
  ·rw [List.append_nil, colV, colN_plain h _ _ hc]
  ·rw [colV, colN_at11 h t 0 _ hc ht, Nat.zero_add]
 ·unfold colV
  rw [List.cons_append, colN, if_neg (by decide), if_pos rfl, List.append_assoc, List.singleton_append, colN_true t pt _ _ ht]
  by_cases he : pt = []
  ·(rw [(key _ _).1 he, he]) <;> (try simp)
  ·(rw [(key _ _).2 he]) <;> (try simp) <;> (try omega)

end Go.Proofs.YtpopljcmkbchcaaGreatDoor

namespace Go.Proofs.YtpopljcmkbchcaaGreatDoor
theorem pct_keep (k : Int) (P : UInt8 → Bool) (h37 : P 37 = true) (hh : ∀ n < 16, P (hexD n) = true) (l : List UInt8) (hl : ∀ c ∈ l, P c = true) : ∀ c ∈ pct k l, P c = true := by
 intro c hc
 unfold pct at hc
 obtain ⟨d, hd, hc⟩ := List.mem_flatMap.1 hc
 unfold pct1 at hc
 split at hc
 ·unfold esc at hc
  rcases List.mem_cons.1 hc with rfl | hc
  ·exact h37
  ·rcases List.mem_cons.1 hc with rfl | hc
   ·exact hh _ (by have := d.toNat_lt; omega)
   ·obtain rfl := List.mem_singleton.1 hc
    exact hh _ (Nat.mod_lt _ (by omega))
 ·obtain rfl := List.mem_singleton.1 hc
  exact hl _ hd

theorem pct_no (k : Int) (x : UInt8) (hx : x ≠ 37) (hh : ∀ n < 16, hexD n ≠ x) (l : List UInt8) (hl : x ∉ l) : x ∉ pct k l := fun e => by
 have := pct_keep k (fun c => c != x) (by simpa using hx.symm) (fun n hn => by simpa using hh n hn) l (fun c hc => by simp; intro e2; exact hl (e2 ▸ hc)) x e
 simp at this

theorem hexD_no : (∀ n < 16, hexD n ≠ 47) ∧ (∀ n < 16, hexD n ≠ 92) ∧ (∀ n < 16, hexD n ≠ 63) ∧ (∀ n < 16, hexD n ≠ 35) := by decide +kernel

theorem cutL_mem : ∀ (n : Nat) (l : List UInt8), l.length ≤ n → ∀ q ∈ cutL 47 l, 47 ∉ q ∧ ∀ c ∈ q, c ∈ l := by
 intro n
 induction n with
 | zero =>
  intro l h q hq
  have : l = [] := List.eq_nil_of_length_eq_zero (by omega)
  subst this
  rw [cutL_none 47 [] (by simp)] at hq
  obtain rfl := List.mem_singleton.1 hq
  exact ⟨by simp, by simp⟩
 | succ n ih =>
  intro l h q hq
  by_cases h47 : 47 ∈ l
  ·obtain ⟨a, r, rfl, ha⟩ : ∃ a r, l = a ++ 47 :: r ∧ 47 ∉ a := by
    obtain ⟨a, r, e, ha⟩ := List.eq_append_cons_of_mem h47
    exact ⟨a, r, e, ha⟩
   rw [cutL_some 47 a r ha] at hq
   rcases List.mem_cons.1 hq with rfl | hq
   ·exact ⟨ha, fun c hc => by simp [hc]⟩
   ·obtain ⟨h1, h2⟩ := ih r (by simp at h; omega) q hq
    exact ⟨h1, fun c hc => by simp [h2 c hc]⟩
  ·rw [cutL_none 47 l h47] at hq
   obtain rfl := List.mem_singleton.1 hq
   exact ⟨h47, fun c hc => hc⟩

theorem stepP_mem {out : List (List UInt8)} {p : List UInt8} {mo : Bool} {q : List UInt8} (h : q ∈ stepP out p mo) : q ∈ out ∨ q = [] ∨ (q = pct 5 p ∧ dotsV p = 0) := by
 rcases dotsV_cases p with h0 | h0 | h0
 ·rw [stepP0 h0] at h
  rcases List.mem_append.1 h with h | h
  ·exact .inl h
  ·exact .inr (.inr ⟨List.mem_singleton.1 h, h0⟩)
 ·cases mo with
  | true => rw [stepP1 h0] at h; exact .inl h
  | false =>
   rw [stepP1' h0] at h
   rcases List.mem_append.1 h with h | h
   ·exact .inl h
   ·exact .inr (.inl (List.mem_singleton.1 h))
 ·cases mo with
  | true => rw [stepP2 h0] at h; exact .inl (List.dropLast_subset _ h)
  | false =>
   rw [stepP2' h0] at h
   rcases List.mem_append.1 h with h | h
   ·exact .inl (List.dropLast_subset _ h)
   ·exact .inr (.inl (List.mem_singleton.1 h))

theorem pathL_mem : ∀ (L out : List (List UInt8)) (q : List UInt8), q ∈ pathL out L → q ∈ out ∨ q = [] ∨ ∃ r ∈ L, q = pct 5 r ∧ dotsV r = 0
 | [], out, q, h => by rw [pathL] at h; exact .inl h
 | [p], out, q, h => by
  rw [pathL_last] at h
  rcases stepP_mem h with h | h | h
  ·exact .inl h
  ·exact .inr (.inl h)
  ·exact .inr (.inr ⟨p, by simp, h⟩)
 | p :: q' :: r, out, q, h => by
  rw [pathL_more out p (q' :: r) (by simp)] at h
  rcases pathL_mem (q' :: r) _ q h with h | h | ⟨x, hx, h⟩
  ·rcases stepP_mem h with h | h | h
   ·exact .inl h
   ·exact .inr (.inl h)
   ·exact .inr (.inr ⟨p, by simp, h⟩)
  ·exact .inr (.inl h)
  ·exact .inr (.inr ⟨x, by simp at hx ⊢; exact .inr hx, h⟩)

theorem part2_nil : Part2 [] := ⟨dots0.1, dots0.2, by simp⟩

theorem pathV_parts (sp : Bool) (l : List UInt8) (q : List UInt8) (h : q ∈ pathV sp [] l) : Part2 q ∧ (92 ∉ l → 92 ∉ q) := by
 unfold pathV at h
 split at h
 ·simp at h
 ·rcases pathL_mem _ _ q h with h | rfl | ⟨r, hr, rfl, hd⟩
  ·simp at h
  ·exact ⟨part2_nil, fun _ => by simp⟩
  ·obtain ⟨h1, h2⟩ := cutL_mem _ _ (Nat.le_refl _) r hr
   refine ⟨⟨by rw [dots_pct5]; exact hd, pct_idem 5 r, pct_no 5 47 (by decide) hexD_no.1 r h1⟩, fun h92 => pct_no 5 92 (by decide) hexD_no.2.1 r fun e => h92 ?_⟩
   have := h2 92 e
   unfold over1 at this
   split at this
   ·simp at this
   ·split at this
    ·simp [this]
    ·exact this

end Go.Proofs.YtpopljcmkbchcaaGreatDoor

namespace Go.Proofs.YtpopljcmkbchcaaGreatDoor
structure Str0 (u : Adr) : Prop where
 sch : schOk u.scheme = true ∧ low u.scheme = u.scheme
 usr : pct 6 u.user = u.user
 pas : pct 6 u.pass = u.pass
 qry : querV (specV u.scheme) u.query = u.query
 frg : pct 2 u.fragment = u.fragment
 hst : u.hasHost = true → parseV u.host (specV u.scheme) = some u.host ∧ HostCol u.host ∧ (u.host = [] → u.user = [] ∧ u.pass = [] ∧ u.port = -1)
 noh : u.hasHost = false → u.user = [] ∧ u.pass = [] ∧ u.host = [] ∧ u.port = -1
 prt : u.port = -1 ∨ (0 ≤ u.port ∧ u.port ≤ 65535 ∧ u.port ≠ ownV u.scheme)

structure Str (u : Adr) : Prop where
 pre : Str0 u
 par : u.opq = false → ∀ p ∈ u.path, Part2 p ∧ (specV u.scheme = true → 92 ∉ p)
 pne : u.hasHost = false → u.opq = false → u.path ≠ []
 opq : u.opq = true → u.hasHost = false ∧ specV u.scheme = false ∧ ∃ x, u.path = [x] ∧ pct 1 x = x ∧ x.head? ≠ some 47 ∧ 63 ∉ x ∧ 35 ∉ x

theorem querV_idem (sp : Bool) (q : List UInt8) : querV sp (querV sp q) = querV sp q := by
 unfold querV; exact pct_idem _ _

theorem Str.query {u : Adr} (h : Str u) (q : List UInt8) : Str (withQuery u q) := by
 rcases withQuery_cases u q with e | e
 ·rw [e]; exact h
 ·rw [e]
  exact ⟨⟨h.pre.sch, h.pre.usr, h.pre.pas, querV_idem _ _, h.pre.frg, h.pre.hst, h.pre.noh, h.pre.prt⟩, h.par, h.pne, h.opq⟩

theorem Str.path {u : Adr} (h : Str0 u) (ho : u.opq = false) (r : List UInt8) (h92 : specV u.scheme = true → 92 ∉ (aheadV [63] r).1) (hne : u.hasHost = false → (aheadV [63] r).1 ≠ []) : Str (withPath u [] r) := by
 unfold withPath
 refine Str.query (u := { u with path := pathV (specV u.scheme) [] (aheadV [63] r).1 }) ⟨⟨h.sch, h.usr, h.pas, h.qry, h.frg, h.hst, h.noh, h.prt⟩, ?_, ?_, ?_⟩ _
 ·intro _ p hp
  obtain ⟨h1, h2⟩ := pathV_parts (specV u.scheme) (aheadV [63] r).1 p hp
  exact ⟨h1, fun hs => h2 (h92 hs)⟩
 ·intro hh _
  show pathV (specV u.scheme) [] (aheadV [63] r).1 ≠ []
  unfold pathV
  rw [if_neg (fun e => hne hh e.1)]
  exact pathL_ne _ _ (cutL_ne _ _)
 ·intro e
  have e' : u.opq = true := e
  rw [ho] at e'; cases e'

theorem auth_str {sc s a b h : List UInt8} {p : Int} (e : authV sc s = .ok (a, b, h, p)) : pct 6 a = a ∧ pct 6 b = b ∧ parseV h (specV sc) = some h ∧ HostCol h ∧ (h = [] → a = [] ∧ b = [] ∧ p = -1) ∧ (p = -1 ∨ (0 ≤ p ∧ p ≤ 65535 ∧ p ≠ ownV sc)) := by
 unfold authV at e
 split at e
 ·cases e
 ·rename_i po hpo
  split at e
  ·cases e
  ·rename_i hh hhe
   split at e
   ·cases e
   ·rename_i hcond
    injection e with e
    injection e with e1 e
    injection e with e2 e
    injection e with e3 e4
    subst e1 e2 e3 e4
    refine ⟨pct_idem 6 _, pct_idem 6 _, parse_back _ _ _ hhe, host_col hhe, fun h0 => ?_, port_own hpo⟩
    have hc : ¬ (pct 6 (part 58 (atV s).1).1 ≠ [] ∨ pct 6 (part 58 (atV s).1).2.1 ≠ [] ∨ ((atV s).2.drop (colV (atV s).2)).drop 1 ≠ []) := fun e => hcond ⟨h0, e⟩
    have h1 : pct 6 (part 58 (atV s).1).1 = [] := Classical.byContradiction fun e => hc (.inl e)
    have h2 : pct 6 (part 58 (atV s).1).2.1 = [] := Classical.byContradiction fun e => hc (.inr (.inl e))
    have h3 : ((atV s).2.drop (colV (atV s).2)).drop 1 = [] := Classical.byContradiction fun e => hc (.inr (.inr e))
    rw [h3] at hpo
    refine ⟨h1, h2, ?_⟩
    unfold portV at hpo
    rw [if_pos rfl] at hpo
    injection hpo with hpo
    exact hpo.symm

theorem withAuth_str {u v : Adr} {r : List UInt8} (h : Str0 u) (ho : u.opq = false) (h92 : specV u.scheme = true → 92 ∉ (aheadV [63] (aheadV [47, 63] r).2).1) (e : withAuth u r = .ok v) : Str v := by
 unfold withAuth at e
 split at e
 ·cases e
 ·rename_i a b hh p hau
  injection e with e
  rw [← e]
  obtain ⟨h1, h2, h3, h4, h5, h6⟩ := auth_str hau
  exact Str.path (u := { u with user := a, pass := b, host := hh, hasHost := true, port := p }) ⟨h.sch, h1, h2, h.qry, h.frg, fun _ => ⟨h3, h4, h5⟩, fun e => (by cases e), h6⟩ ho _ h92 (fun e => by cases e)

theorem take_no63 (l : List UInt8) : 63 ∉ (aheadV [63] l).1 := fun e => by
 have h := List.all_eq_true.1 (List.all_takeWhile (p := fun c : UInt8 => !([63] : List UInt8).contains c) (l := l)) 63 e
 simp at h

theorem slash_no92 (l : List UInt8) : 92 ∉ (aheadV [63] l).1.map slC := fun e => by
 obtain ⟨d, -, hd⟩ := List.mem_map.1 e
 have := u8_all (P := fun c => slC c != 92) (by decide +kernel) d
 rw [hd] at this
 cases this

theorem ahead_rest (l : List UInt8) : (aheadV [63] l).2 = [] ∨ ∃ q, (aheadV [63] l).2 = 63 :: q := by
 cases h : (aheadV [63] l).2 with
 | nil => exact .inl rfl
 | cons x r =>
  refine .inr ⟨r, ?_⟩
  have h3 : l.dropWhile (fun c => !([63] : List UInt8).contains c) = x :: r := h
  have h4 := List.head?_dropWhile_not (fun c => !([63] : List UInt8).contains c) l
  rw [h3] at h4
  have : x = 63 := by simpa using h4
  rw [this]

theorem drop_q (p : UInt8 → Bool) (hp : p 63 = false) (M Q : List UInt8) (hQ : Q = [] ∨ ∃ q, Q = 63 :: q) : (M ++ Q).dropWhile p = M.dropWhile p ++ Q := by
 rcases hQ with rfl | ⟨q, rfl⟩
 ·simp
 ·exact drop_stop p 63 hp q M

theorem ahead_q (M Q : List UInt8) (hM : 63 ∉ M) (hQ : Q = [] ∨ ∃ q, Q = 63 :: q) : aheadV [63] (M ++ Q) = (M, Q) := by
 have hno : ∀ c ∈ M, c ∉ ([63] : List UInt8) := fun c hc => by simp; exact fun e => hM (e ▸ hc)
 rcases hQ with rfl | ⟨q, rfl⟩
 ·rw [List.append_nil]; exact ahead_all _ _ hno
 ·exact ahead_at _ _ _ _ hno (by simp)

theorem spec_no92 (rest : List UInt8) : 92 ∉ (aheadV [63] (aheadV [47, 63] (skip47 (slashV rest))).2).1 := by
 have hQ := ahead_rest rest
 have hM : 63 ∉ (aheadV [63] rest).1.map slC := fun e => by
  obtain ⟨d, hd, h2⟩ := List.mem_map.1 e
  have h3 := u8_all (P := fun c => slC c != 63 || c == 63) (by decide +kernel) d
  rw [h2] at h3
  have : d = 63 := by simpa using h3
  subst this
  exact take_no63 rest hd
 have h92 := slash_no92 rest
 unfold slashV
 generalize (aheadV [63] rest).1.map slC = M at hM h92 ⊢
 generalize (aheadV [63] rest).2 = Q at hQ ⊢
 unfold skip47
 rw [drop_q _ (by decide) M Q hQ]
 have e2 : (aheadV [47, 63] (M.dropWhile (fun x => x == 47) ++ Q)).2 = (M.dropWhile (fun x => x == 47)).dropWhile (fun c => !([47, 63] : List UInt8).contains c) ++ Q := by
  unfold aheadV
  exact drop_q _ (by decide) _ Q hQ
 rw [e2]
 have hsub : ∀ c ∈ (M.dropWhile (fun x => x == 47)).dropWhile (fun c => !([47, 63] : List UInt8).contains c), c ∈ M := fun c hc => (List.dropWhile_suffix _).subset ((List.dropWhile_suffix _).subset hc)
 rw [ahead_q _ Q (fun e => hM (hsub 63 e)) hQ]
 exact fun e => h92 (hsub 92 e)

theorem start_str {u v : Adr} {r : List UInt8} (h : Str0 u) (ho : u.opq = false) (hh : u.hasHost = false) (h35 : 35 ∉ r) (e : startV u r = .ok v) : Str v := by
 unfold startV at e
 split at e
 ·exact withAuth_str h ho (fun _ => spec_no92 r) e
 ·rename_i hsp
  split at e
  ·exact withAuth_str h ho (fun e => absurd e hsp) e
  ·split at e
   ·rename_i h47
    injection e with e
    rw [← e]
    refine Str.path h ho r (fun e => absurd e hsp) (fun _ => ?_)
    cases r with
    | nil => cases h47
    | cons c r =>
     have hc : c = 47 := by
      unfold Lib.hasPrefix at h47
      simp at h47
      exact h47.symm
     subst hc
     unfold aheadV
     rw [List.takeWhile_cons, if_pos (by decide)]
     simp
   ·rename_i h47
    injection e with e
    rw [← e]
    refine Str.query (u := { u with opq := true, path := [pct 1 (aheadV [63] r).1] }) ⟨⟨h.sch, h.usr, h.pas, h.qry, h.frg, h.hst, h.noh, h.prt⟩, ?_, ?_, ?_⟩ _
    ·intro e; cases e
    ·intro _ e; cases e
    ·intro _
     refine ⟨hh, by simpa using hsp, _, rfl, pct_idem 1 _, ?_, pct_no 1 63 (by decide) hexD_no.2.2.1 _ (take_no63 r), pct_no 1 35 (by decide) hexD_no.2.2.2 _ (fun e => h35 ((List.takeWhile_prefix _).subset e))⟩
     cases r with
     | nil => simp [aheadV, pct]
     | cons c r =>
      have hc : c ≠ 47 := fun e => by
       subst e
       apply h47
       unfold Lib.hasPrefix
       simp
      unfold aheadV
      rw [List.takeWhile_cons]
      split
      ·show (pct1 1 c ++ _).head? ≠ some 47
       unfold pct1
       split
       ·simp [esc]
       ·simpa using hc
      ·simp [pct]

theorem part_no (c : UInt8) : ∀ l : List UInt8, c ∉ (part c l).1
 | [] => by simp [part]
 | x :: l => by
  rw [part]
  split
  ·simp
  ·rename_i hx
   intro e
   rcases List.mem_cons.1 e with e | e
   ·exact hx e.symm
   ·exact part_no c l e

theorem low_sch {l : List UInt8} (h : schOk l = true) : schOk (low l) = true ∧ low (low l) = low l := by
 refine ⟨?_, low_low l⟩
 unfold schOk at h ⊢
 rw [Bool.and_eq_true] at h ⊢
 refine ⟨?_, ?_⟩
 ·cases l with
  | nil => exact h.1
  | cons c l =>
   have := u8_all (P := fun c => !letterI c.toNat || letterI (lowC c).toNat) (by decide +kernel) c
   show letterI (lowC c).toNat = true
   have hc : letterI c.toNat = true := h.1
   rw [hc] at this
   simpa using this
 ·rw [List.all_eq_true]
  intro d hd
  obtain ⟨c, hc, rfl⟩ := List.mem_map.1 (show d ∈ l.map lowC from hd)
  have h1 := List.all_eq_true.1 h.2 c hc
  have := u8_all (P := fun c => !schC c || schC (lowC c)) (by decide +kernel) c
  rw [h1] at this
  simpa using this

theorem part_sub (c : UInt8) : ∀ (l : List UInt8), ∀ x ∈ (part c l).2.1, x ∈ l
 | [] => by simp [part]
 | y :: l => by
  rw [part]
  split
  ·intro x hx; simp [show x ∈ l from hx]
  ·intro x hx
   have := part_sub c l x hx
   simp [this]

theorem read_str {s : List UInt8} {u : Adr} (e : readV s none = .ok u) : Str u := by
 unfold readV at e
 split at e
 ·cases e
 ·simp only at e
  split at e
  ·cases e
  ·rename_i hne
   have hrest : 35 ∉ (beginU s).2 ∧ schOk (beginU s).1.scheme = true ∧ low (beginU s).1.scheme = (beginU s).1.scheme := by
    have h0 := part_no 35 (cleanV s)
    unfold beginU at hne ⊢
    simp only at hne ⊢
    revert hne
    unfold schemeV
    split
    ·rename_i hc
     rw [Bool.and_eq_true] at hc
     intro _
     exact ⟨fun e => h0 (part_sub 58 _ _ e), low_sch hc.2⟩
    ·intro hne
     exact absurd rfl hne
   refine start_str ⟨hrest.2, rfl, rfl, ?_, pct_idem 2 _, fun e => (by cases e), fun _ => ⟨rfl, rfl, rfl, rfl⟩, .inl rfl⟩ rfl rfl hrest.1 e
   show querV _ [] = []
   unfold querV
   split <;> rfl

end Go.Proofs.YtpopljcmkbchcaaGreatDoor
