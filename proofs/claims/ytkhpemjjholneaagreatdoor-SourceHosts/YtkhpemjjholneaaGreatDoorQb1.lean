/-
  Walks and plain facts that this claim leans on, put together out of 1 texts: Ysp.
-/
import Derived.Test.YtkhpemjjholneaaGreatDoorProg
import Derived.Test.YtkhpemjjholneaaGreatDoorQa1
import Derived.Test.YtkhpemjjholneaaGreatDoorQa2
import Derived.Test.YtkhpemjjholneaaGreatDoorQa3
import Derived.Test.YtkhpemjjholneaaGreatDoorQa4
import Derived.Test.YtkhpemjjholneaaGreatDoorQa5
import Derived.Test.YtkhpemjjholneaaGreatDoorQa6
import Derived.Test.YtkhpemjjholneaaGreatDoorQa7
import Derived.Test.YtkhpemjjholneaaGreatDoorQa8
import Derived.Test.YtkhpemjjholneaaGreatDoorQa9
import Derived.Test.YtkhpemjjholneaaGreatDoorQa10
import Derived.Test.YtkhpemjjholneaaGreatDoorQa11
import Derived.Test.YtkhpemjjholneaaGreatDoorQa12
import Derived.Test.YtkhpemjjholneaaGreatDoorQa13
import Derived.Test.YtkhpemjjholneaaGreatDoorQa14
import Derived.Test.YtkhpemjjholneaaGreatDoorQa15
import Derived.Test.YtkhpemjjholneaaGreatDoorQa16
import Derived.Test.YtkhpemjjholneaaGreatDoorQa17
import Derived.Test.YtkhpemjjholneaaGreatDoorQa18
import Derived.Test.YtkhpemjjholneaaGreatDoorQa19
import Derived.Test.YtkhpemjjholneaaGreatDoorQa20
import Derived.Test.YtkhpemjjholneaaGreatDoorQa21
import Derived.Test.YtkhpemjjholneaaGreatDoorQa22
import Derived.Test.YtkhpemjjholneaaGreatDoorQa23
import Derived.Test.YtkhpemjjholneaaGreatDoorQa24
import Derived.Test.YtkhpemjjholneaaGreatDoorQa25
import Derived.Test.YtkhpemjjholneaaGreatDoorQa26
import Derived.Test.YtkhpemjjholneaaGreatDoorQa27
import Derived.Test.YtkhpemjjholneaaGreatDoorQa28
import Derived.Test.YtkhpemjjholneaaGreatDoorQa29
import Derived.Test.YtkhpemjjholneaaGreatDoorQa30
import Derived.Test.YtkhpemjjholneaaGreatDoorQa31
import Derived.Test.YtkhpemjjholneaaGreatDoorQa32
import Derived.Test.YtkhpemjjholneaaGreatDoorQa33
import Derived.Lib.Strings
import Derived.Lib.UnsafeStr
import Derived.Laws.IdiomStrings
import Derived.Laws.AppendOwn
import Derived.OwnWalk
import Derived.Deep.LoopGhost
import Derived.Shelf.Strings.Builder1
import Derived.Shelf.Strings.Builder2
import Derived.Shelf.Strings.OnBuilder
import Derived.Shelf.Strings.Trim
import Derived.Shelf.Small.Utf8
import Derived.Shelf.Small.Bits
import Derived.Shelf.Small.Strs
import Derived.Shelf.Small.Wraps
import Derived.Shelf.Strings.BuilderF
import Derived.Shelf.Strings.BuilderK
import Derived.Shelf.Strings.BuilderRune
import Derived.Shelf.Utf8.AppendRune
import Derived.Shelf.Utf8.AppendRunePlain
import Derived.Shelf.Strings.Builder2Cap
import Derived.Shelf.Strconv.Itoa0
import Derived.Shelf.Strconv.Itoa1
import Derived.Shelf.LaysM
import Derived.Shelf.Strconv.Itoa2
import Derived.Shelf.Strconv.Itoa3
import Derived.Shelf.Strings.Search1
import Derived.Shelf.Strings.Search2
import Derived.Shelf.Strings.Search3
import Derived.Shelf.Strings.Cut
import Derived.Shelf.Strings.Count
import Derived.Shelf.Strings.Shaped
import Derived.Shelf.Sort.Plain
import Derived.Shelf.Strings.LastIndex
import Derived.Shelf.Strings.Prefix
import Derived.Shelf.Strings.Split
import Derived.Shelf.Strings.Replace
import Derived.Shelf.Strings.Runes
import Derived.Shelf.Strings.IndexAny
import Derived.Shelf.Strings.AsciiSet
import Derived.Shelf.Strings.IndexAnyAll
import Derived.Shelf.Unicode.DecodeSlow
import Derived.Shelf.Unicode.DecodeAny
import Derived.Shelf.Unicode.DecodeLast
import Derived.Shelf.Strings.FieldsFuncAny
import Derived.Shelf.Strings.FieldsFuncGrows
import Derived.Shelf.Slices.Equal
import Derived.Ground.Names2Prog
import Derived.Shelf.Slices.Clone
import Derived.Ground.SlgnProg
import Derived.Shelf.SlicesE.Equal
import Derived.Shelf.SlicesE.Clone
import Derived.Lib.AppendStr
import Derived.Lib.Replace
import Derived.Deep.RegionWith
import Derived.Laws.OwnMore
import Derived.Below
import Derived.WalkSmall
import Derived.Lib.SmallJoins
import Derived.Lib.IndexMore
import Derived.Lib.Join
import Derived.Lib.SlTrimSet
import Derived.Laws.Runes
import Derived.Laws.RangeAny
import Derived.Lib.DecodeN
import Derived.Lib.OthersKept
import Derived.RegionTactic
import Derived.Deep.QuietTactic
import Derived.BigQuiet
import Derived.WalkKit
import Derived.WalkSpells
import Derived.WalkLawsBesides
import Derived.Lib.FrozenHead2
import Derived.Lib.Builder
import Derived.Deep.MidRow
import Derived.Laws.AppendOwnNone
import Derived.Laws.BytesString
import Derived.Lib.LastIndexByte
import Derived.Shelf.Strings.SlTrimAscii
import Derived.BigRegion
import Derived.Deep.RegionHeldLaw
import Derived.Lib.BufferRead
import Derived.Lib.RuneBytes
import Derived.Deep.WholeRow
import Derived.LoopN
import Derived.Lib.TrimByte
import Derived.Lib.Bytealg
import Derived.Deep.RegionHeld
import Derived.Lib.IndexAny
import Derived.Lib.ItoaNum
import Derived.Deep.RegionLaw
import Derived.Laws.CopyOwn
import Derived.Laws.ResultCell
import Derived.Deep.Cut
import Derived.WalkMore
import Derived.Laws.BitsAllLaws
import Derived.Lib.AppendIntMem
import Derived.Lib.BufferMore
import Derived.Scope
import Derived.ScopeJumps
import Derived.Maps.OwnSet
import Derived.Maps.OwnOps
import Derived.Maps.AppendAt
import Derived.StringKeys
set_option linter.unusedSimpArgs false
set_option linter.unusedVariables false

namespace Go.Proofs.YtkhpemjjholneaaGreatDoor
open Go.RowKit

theorem urlV_of {s : List UInt8} {r : Except Int Adr} (h : readV s none = r) (hl : s.length ≤ 300) : urlV s = r := by unfold urlV; rw [List.take_of_length_le hl]; exact h

theorem page_url : urlV [104, 116, 116, 112, 115, 58, 47, 47, 112, 47] = .ok pageS := by kernel_rfl

theorem pageH_url : urlV [104, 116, 116, 112, 58, 47, 47, 112, 47] = .ok pageH := by kernel_rfl

set_option maxHeartbeats 4000000 in
set_option maxRecDepth 100000 in
theorem sourcePaths_walk (a b : ByteArray) (w : World) (ha : a.size ≤ 140737488351232) (hb : b.size ≤ 140737488351232) (hg : Gd w) :
    Calls Tryz.prog 12 #[.string a, .string b] w fun e w' => e = .returned (.bool true) ∧ Below w.heap.size w w' := by
  have HW1 := hid (fun w => word11_any a w (by omega))
  have HW2 := hid (fun w => word11_any b w (by omega))
  have HG := hid hg
  clear hg ha hb
  go_enter Tryz.func12, Tryz.ntmps12
  go_wp2_with fail
  refine (HW1.out _).mono ?_
  rintro e w' ⟨T1, rfl, hT1, hT1l, rfl⟩
  obtain ⟨X, hX⟩ : ∃ Z0 : ByteArray, Z0 = ⟨T1.toArray⟩ := ⟨_, rfl⟩
  have Xl : X.data.toList = T1 := by rw [hX]
  rw [← hX]
  clear hX
  have HXl := hid Xl
  clear Xl
  go_wp2_with fail
  refine (HW2.out _).mono ?_
  rintro e w' ⟨T2, rfl, hT2, hT2l, rfl⟩
  obtain ⟨Y, hY⟩ : ∃ Z0 : ByteArray, Z0 = ⟨T2.toArray⟩ := ⟨_, rfl⟩
  have Yl : Y.data.toList = T2 := by rw [hY]
  rw [← hY]
  have Xl := HXl.out
  have Xs : X.size ≤ 12 := by rw [Lib.size_eq, Xl]; exact hT1l
  have Ys : Y.size ≤ 12 := by rw [Lib.size_eq, Yl]; exact hT2l
  clear hY HW1 HW2 HXl
  obtain ⟨U1, hU1⟩ : ∃ Z0 : ByteArray, (⟨#[104, 116, 116, 112, 115, 58, 47, 47, 104, 47]⟩ : ByteArray) ++ X = Z0 := ⟨_, rfl⟩
  have U1l : U1.data.toList = ([104, 116, 116, 112, 115, 58, 47, 47, 104, 47] ++ T1) := by rw [← hU1, ByteArray.data_append, Array.toList_append, show (⟨#[104, 116, 116, 112, 115, 58, 47, 47, 104, 47]⟩ : ByteArray).data.toList = [104, 116, 116, 112, 115, 58, 47, 47, 104, 47] from rfl, Xl]
  have U1s : U1.size ≤ 30 := by rw [Lib.size_eq, U1l]; simp [List.length_append]; omega
  obtain ⟨U2, hU2⟩ : ∃ Z0 : ByteArray, U1 ++ (⟨#[47]⟩ : ByteArray) = Z0 := ⟨_, rfl⟩
  have U2l : U2.data.toList = (([104, 116, 116, 112, 115, 58, 47, 47, 104, 47] ++ T1) ++ [47]) := by rw [← hU2, ByteArray.data_append, Array.toList_append, U1l, show (⟨#[47]⟩ : ByteArray).data.toList = [47] from rfl]
  have U2s : U2.size ≤ 31 := by rw [Lib.size_eq, U2l]; simp [List.length_append]; omega
  obtain ⟨U, hU⟩ : ∃ Z0 : ByteArray, U2 ++ Y = Z0 := ⟨_, rfl⟩
  have Ul : U.data.toList = ((([104, 116, 116, 112, 115, 58, 47, 47, 104, 47] ++ T1) ++ [47]) ++ T2) := by rw [← hU, ByteArray.data_append, Array.toList_append, U2l, Yl]
  have Us : U.size ≤ 45 := by rw [Lib.size_eq, Ul]; simp [List.length_append]; omega
  obtain ⟨A1, hA1⟩ : ∃ Z0 : ByteArray, (⟨#[104, 47]⟩ : ByteArray) ++ X = Z0 := ⟨_, rfl⟩
  have A1l : A1.data.toList = ([104, 47] ++ T1) := by rw [← hA1, ByteArray.data_append, Array.toList_append, show (⟨#[104, 47]⟩ : ByteArray).data.toList = [104, 47] from rfl, Xl]
  have A1s : A1.size ≤ 20 := by rw [Lib.size_eq, A1l]; simp [List.length_append]; omega
  obtain ⟨A2, hA2⟩ : ∃ Z0 : ByteArray, A1 ++ (⟨#[47]⟩ : ByteArray) = Z0 := ⟨_, rfl⟩
  have A2l : A2.data.toList = (([104, 47] ++ T1) ++ [47]) := by rw [← hA2, ByteArray.data_append, Array.toList_append, A1l, show (⟨#[47]⟩ : ByteArray).data.toList = [47] from rfl]
  have A2s : A2.size ≤ 21 := by rw [Lib.size_eq, A2l]; simp [List.length_append]; omega
  obtain ⟨A3, hA3⟩ : ∃ Z0 : ByteArray, A2 ++ Y = Z0 := ⟨_, rfl⟩
  have A3l : A3.data.toList = ((([104, 47] ++ T1) ++ [47]) ++ T2) := by rw [← hA3, ByteArray.data_append, Array.toList_append, A2l, Yl]
  have A3s : A3.size ≤ 40 := by rw [Lib.size_eq, A3l]; simp [List.length_append]; omega
  obtain ⟨A4, hA4⟩ : ∃ Z0 : ByteArray, A3 ++ (⟨#[47]⟩ : ByteArray) = Z0 := ⟨_, rfl⟩
  have A4l : A4.data.toList = (((([104, 47] ++ T1) ++ [47]) ++ T2) ++ [47]) := by rw [← hA4, ByteArray.data_append, Array.toList_append, A3l, show (⟨#[47]⟩ : ByteArray).data.toList = [47] from rfl]
  have A4s : A4.size ≤ 41 := by rw [Lib.size_eq, A4l]; simp [List.length_append]; omega
  obtain ⟨B1, hB1⟩ : ∃ Z0 : ByteArray, (⟨#[104, 47, 119]⟩ : ByteArray) ++ Y = Z0 := ⟨_, rfl⟩
  have B1l : B1.data.toList = ([104, 47, 119] ++ T2) := by rw [← hB1, ByteArray.data_append, Array.toList_append, show (⟨#[104, 47, 119]⟩ : ByteArray).data.toList = [104, 47, 119] from rfl, Yl]
  have B1s : B1.size ≤ 20 := by rw [Lib.size_eq, B1l]; simp [List.length_append]; omega
  obtain ⟨B2, hB2⟩ : ∃ Z0 : ByteArray, B1 ++ (⟨#[47]⟩ : ByteArray) = Z0 := ⟨_, rfl⟩
  have B2l : B2.data.toList = (([104, 47, 119] ++ T2) ++ [47]) := by rw [← hB2, ByteArray.data_append, Array.toList_append, B1l, show (⟨#[47]⟩ : ByteArray).data.toList = [47] from rfl]
  have B2s : B2.size ≤ 21 := by rw [Lib.size_eq, B2l]; simp [List.length_append]; omega
  have hl12 : T1.length + T2.length ≤ 100 := by omega
  have hU : urlV U.data.toList = .ok (wAdr sHttps [104] (-1) [T1, T2]) := by
    have := two_url T1 T2 hT1.lets hT2.lets hl12
    rw [show sHttps ++ 58 :: 47 :: 47 :: ([104] ++ ([] ++ 47 :: (T1 ++ 47 :: T2))) = U.data.toList by rw [Ul]; simp [sHttps]] at this
    exact urlV_of this.1 this.2
  have K1 := hid (fun w hg => lawOne_at A2 U ⟨#[104, 116, 116, 112, 115, 58, 47, 47, 112, 47]⟩ 0 true w hg (by omega) (by omega) (by decide) (by
    rw [lawOne_ok hU page_url]
    rw [A2l]; simpa using sp_1 T1 T2 hT1.lets hT2.lets))
  have K2 := hid (fun w hg => lawOne_at A1 U ⟨#[104, 116, 116, 112, 115, 58, 47, 47, 112, 47]⟩ 0 false w hg (by omega) (by omega) (by decide) (by
    rw [lawOne_ok hU page_url]
    rw [A1l]; simpa using sp_2 T1 T2 hT1.lets hT2.lets))
  have K3 := hid (fun w hg => lawOne_at A3 U ⟨#[104, 116, 116, 112, 115, 58, 47, 47, 112, 47]⟩ 0 true w hg (by omega) (by omega) (by decide) (by
    rw [lawOne_ok hU page_url]
    rw [A3l]; simpa using sp_3 T1 T2 hT1.lets hT2.lets))
  have K4 := hid (fun w hg => lawOne_at A4 U ⟨#[104, 116, 116, 112, 115, 58, 47, 47, 112, 47]⟩ 0 false w hg (by omega) (by omega) (by decide) (by
    rw [lawOne_ok hU page_url]
    rw [A4l]; simpa using sp_4 T1 T2 hT1.lets hT2.lets))
  have K5 := hid (fun w hg => lawOne_at B2 U ⟨#[104, 116, 116, 112, 115, 58, 47, 47, 112, 47]⟩ 0 false w hg (by omega) (by omega) (by decide) (by
    rw [lawOne_ok hU page_url]
    rw [B2l]; simpa using (sp_56 T1 T2 hT1 hT2.lets).1))
  have K6 := hid (fun w hg => lawOne_at B2 U ⟨#[104, 116, 116, 112, 115, 58, 47, 47, 112, 47]⟩ 1 true w hg (by omega) (by omega) (by decide) (by
    rw [lawOne_ok hU page_url]
    rw [B2l]; simpa using (sp_56 T1 T2 hT1 hT2.lets).2))
  have K7 := hid (fun w hg => lawOne_at ⟨#[104, 47]⟩ U ⟨#[104, 116, 116, 112, 115, 58, 47, 47, 112, 47]⟩ 0 true w hg (by decide) (by omega) (by decide) (by
    rw [lawOne_ok hU page_url]
    exact sp_7 T1 T2))
  have KN := hid (fun w hg => known11_any w hg)
  clear U1l U2l Ul A1l A2l A3l A4l B1l B2l hl12 hU hT1 hT2 hT1l hT2l Xl Yl
  go_wp2_with fail
  refine (K1.out _ HG.out).mono ?_
  rintro e w1 ⟨rfl, hb1⟩
  have HB1 := hid hb1
  clear hb1
  go_wp2_with fail
  refine (K2.out _ (HG.out.kept HB1.out)).mono ?_
  rintro e w2 ⟨rfl, hb2⟩
  have HB2 := hid (below2 HB1.out hb2)
  clear hb2
  go_wp2_with fail
  refine (K3.out _ (HG.out.kept HB2.out)).mono ?_
  rintro e w3 ⟨rfl, hb3⟩
  have HB3 := hid (below2 HB2.out hb3)
  clear hb3
  go_wp2_with fail
  refine (K4.out _ (HG.out.kept HB3.out)).mono ?_
  rintro e w4 ⟨rfl, hb4⟩
  have HB4 := hid (below2 HB3.out hb4)
  clear hb4
  go_wp2_with fail
  refine (K5.out _ (HG.out.kept HB4.out)).mono ?_
  rintro e w5 ⟨rfl, hb5⟩
  have HB5 := hid (below2 HB4.out hb5)
  clear hb5
  go_wp2_with fail
  refine (K6.out _ (HG.out.kept HB5.out)).mono ?_
  rintro e w6 ⟨rfl, hb6⟩
  have HB6 := hid (below2 HB5.out hb6)
  clear hb6
  go_wp2_with fail
  refine (K7.out _ (HG.out.kept HB6.out)).mono ?_
  rintro e w7 ⟨rfl, hb7⟩
  have HB7 := hid (below2 HB6.out hb7)
  clear hb7
  go_wp2_with fail
  refine (KN.out _ (HG.out.kept HB7.out)).mono ?_
  rintro e w8 ⟨rfl, hb8⟩
  have HB8 := hid (below2 HB7.out hb8)
  clear hb8
  go_wp2
  go_ret
  exact ⟨rfl, HB8.out⟩

end Go.Proofs.YtkhpemjjholneaaGreatDoor
