/-
  Walks and plain facts that this claim leans on, put together out of 2 texts: Xg, Erm.
-/
import Derived.Test.YtdnginibhpnefaaGreatDoorProg
import Derived.Test.YtdnginibhpnefaaGreatDoorQa1
import Derived.Test.YtdnginibhpnefaaGreatDoorQa2
import Derived.Test.YtdnginibhpnefaaGreatDoorQa3
import Derived.Test.YtdnginibhpnefaaGreatDoorQa4
import Derived.Test.YtdnginibhpnefaaGreatDoorQa5
import Derived.Test.YtdnginibhpnefaaGreatDoorQa6
import Derived.Test.YtdnginibhpnefaaGreatDoorQa7
import Derived.Test.YtdnginibhpnefaaGreatDoorQa8
import Derived.Test.YtdnginibhpnefaaGreatDoorQa9
import Derived.Test.YtdnginibhpnefaaGreatDoorQa10
import Derived.Test.YtdnginibhpnefaaGreatDoorQa11
import Derived.Test.YtdnginibhpnefaaGreatDoorQa12
import Derived.Test.YtdnginibhpnefaaGreatDoorQa13
import Derived.Test.YtdnginibhpnefaaGreatDoorQa14
import Derived.Test.YtdnginibhpnefaaGreatDoorQa15
import Derived.Test.YtdnginibhpnefaaGreatDoorQa16
import Derived.Test.YtdnginibhpnefaaGreatDoorQa17
import Derived.Test.YtdnginibhpnefaaGreatDoorQa18
import Derived.Test.YtdnginibhpnefaaGreatDoorQa19
import Derived.Test.YtdnginibhpnefaaGreatDoorQa20
import Derived.Test.YtdnginibhpnefaaGreatDoorQa21
import Derived.Test.YtdnginibhpnefaaGreatDoorQa22
import Derived.Test.YtdnginibhpnefaaGreatDoorQa23
import Derived.Test.YtdnginibhpnefaaGreatDoorQa24
import Derived.Test.YtdnginibhpnefaaGreatDoorQa25
import Derived.Test.YtdnginibhpnefaaGreatDoorQa26
import Derived.Test.YtdnginibhpnefaaGreatDoorQa27
import Derived.Test.YtdnginibhpnefaaGreatDoorQa28
import Derived.Test.YtdnginibhpnefaaGreatDoorQa29
import Derived.Test.YtdnginibhpnefaaGreatDoorQa30
import Derived.Test.YtdnginibhpnefaaGreatDoorQa31
import Derived.Test.YtdnginibhpnefaaGreatDoorQa32
import Derived.Test.YtdnginibhpnefaaGreatDoorQa33
import Derived.Lib.BufferMore
import Derived.Lib.Bytealg
import Derived.Laws.OwnMore
import Derived.Below
import Derived.WalkSmall
import Derived.Lib.SmallJoins
import Derived.Deep.QuietTactic
import Derived.BigQuiet
import Derived.Deep.LoopGhost
import Derived.WalkKit
import Derived.WalkSpells
import Derived.WalkLawsBesides
import Derived.Laws.BitsAllLaws
import Derived.Lib.SlTrimSet
import Derived.Lib.Join
import Derived.Lib.IndexMore
import Derived.Lib.Strings
import Derived.Lib.UnsafeStr
import Derived.Laws.IdiomStrings
import Derived.Laws.AppendOwn
import Derived.Lib.AppendStr
import Derived.OwnWalk
import Derived.Deep.Cut
import Derived.BigRegion
import Derived.Deep.RegionHeld
import Derived.LoopN
import Derived.RegionTactic
import Derived.Deep.RegionWith
import Derived.Scope
import Derived.ScopeJumps
import Derived.WalkMore
import Derived.Laws.RangeAny
import Derived.Lib.DecodeN
import Derived.Lib.OthersKept
import Derived.Lib.LastIndexByte
import Derived.Shelf.Strings.Builder1
import Derived.Shelf.Strings.Builder2
import Derived.Shelf.Strings.OnBuilder
import Derived.Shelf.Strings.Trim
import Derived.Shelf.Small.Utf8
import Derived.Shelf.Small.Strs
import Derived.Shelf.Small.Wraps
import Derived.Shelf.Strings.BuilderF
import Derived.Shelf.Strings.BuilderK
import Derived.Shelf.Strings.Builder2Cap
import Derived.Shelf.Strconv.Itoa0
import Derived.Shelf.Strconv.Itoa1
import Derived.Shelf.LaysM
import Derived.Shelf.Strconv.Itoa2
import Derived.Shelf.Strconv.Itoa3
import Derived.Shelf.Strings.Search1
import Derived.Shelf.Strings.Search2
import Derived.Shelf.Strings.Search3
import Derived.Shelf.Strings.Cut
import Derived.Shelf.Strings.Count
import Derived.Shelf.Strings.Shaped
import Derived.Shelf.Strings.LastIndex
import Derived.Shelf.Strings.Prefix
import Derived.Shelf.Strings.Split
import Derived.Shelf.Strings.Replace
import Derived.Shelf.Strings.Runes
import Derived.Shelf.Strings.IndexAny
import Derived.Shelf.Strings.AsciiSet
import Derived.Shelf.Strings.IndexAnyAll
import Derived.Shelf.Unicode.DecodeSlow
import Derived.Ground.Names2Prog
import Derived.Shelf.Slices.Clone
import Derived.Ground.SlgnProg
import Derived.Shelf.SlicesE.Clone
import Derived.Laws.BytesString
import Derived.Deep.MidRow
import Derived.Lib.BufferRead
import Derived.Lib.RuneBytes
import Derived.Deep.RegionLaw
import Derived.Lib.IndexAny
import Derived.Lib.Replace
import Derived.Lib.TrimByte
import Derived.Lib.ItoaNum
import Derived.Deep.WholeRow
import Derived.Lib.FrozenHead2
import Derived.Lib.Builder
import Derived.Laws.CopyOwn
import Derived.Laws.ResultCell
import Derived.Laws.AppendOwnNone
import Derived.Lib.AppendIntMem
set_option linter.unusedSimpArgs false
set_option linter.unusedVariables false

namespace Go.Proofs.YtdnginibhpnefaaGreatDoor
open Go.RowKit

theorem xempty_no (s : ByteArray) (h : s.data.toList ≠ []) : s.toList.isEmpty = false := by
  rw [Lib.toList_data]
  cases hl : s.data.toList with
  | nil => exact absurd hl h
  | cons a b => rfl

end Go.Proofs.YtdnginibhpnefaaGreatDoor

namespace Go.Proofs.YtdnginibhpnefaaGreatDoor
open Go.RowKit

set_option maxHeartbeats 4000000 in
set_option maxRecDepth 100000 in
theorem urlDots_walk (a b : ByteArray) (w : World) (ha : a.size ≤ 140737488351232) (hb : b.size ≤ 140737488351232) (hg : Gd w) :
    Calls Tryz.prog 10 #[.string a, .string b] w fun e w' => e = .returned (.bool true) ∧ Below w.heap.size w w' := by
  have HW1 := hid (fun w => letters3_any a w (by omega))
  have HW2 := hid (fun w => letters3_any b w (by omega))
  have HG := hid hg
  clear hg ha hb
  go_enter Tryz.func10, Tryz.ntmps10
  go_wp2_with fail
  refine (HW1.out _).mono ?_
  rintro e w' ⟨T1, rfl, hT1, hT1l, rfl⟩
  obtain ⟨X, hX⟩ : ∃ Z0 : ByteArray, Z0 = ⟨T1.toArray⟩ := ⟨_, rfl⟩
  have Xl : X.data.toList = T1 := by rw [hX]
  rw [← hX]
  clear hX
  have HXl := hid Xl
  clear Xl
  go_wp2_with fail
  refine (HW2.out _).mono ?_
  rintro e w' ⟨T2, rfl, hT2, hT2l, rfl⟩
  obtain ⟨Y, hY⟩ : ∃ Z0 : ByteArray, Z0 = ⟨T2.toArray⟩ := ⟨_, rfl⟩
  have Yl : Y.data.toList = T2 := by rw [hY]
  rw [← hY]
  have Xl := HXl.out
  have Xs : X.size ≤ 20 := by rw [Lib.size_eq, Xl]; exact hT1l
  have Ys : Y.size ≤ 20 := by rw [Lib.size_eq, Yl]; exact hT2l
  clear hY HW1 HW2 HXl
  obtain ⟨U0, hU0⟩ : ∃ Z0 : ByteArray, (⟨#[104, 116, 116, 112, 58, 47, 47, 104, 47]⟩ : ByteArray) ++ Y = Z0 := ⟨_, rfl⟩
  have U0l : U0.data.toList = ([104, 116, 116, 112, 58, 47, 47, 104, 47] ++ T2) := by rw [← hU0, ByteArray.data_append, Array.toList_append, show (⟨#[104, 116, 116, 112, 58, 47, 47, 104, 47]⟩ : ByteArray).data.toList = [104, 116, 116, 112, 58, 47, 47, 104, 47] from rfl, Yl]
  have U0s : U0.size ≤ 60 := by rw [Lib.size_eq, U0l]; simp [List.length_append]; omega
  obtain ⟨U1, hU1⟩ : ∃ Z0 : ByteArray, (⟨#[104, 116, 116, 112, 58, 47, 47, 104, 47, 46, 47]⟩ : ByteArray) ++ Y = Z0 := ⟨_, rfl⟩
  have U1l : U1.data.toList = ([104, 116, 116, 112, 58, 47, 47, 104, 47, 46, 47] ++ T2) := by rw [← hU1, ByteArray.data_append, Array.toList_append, show (⟨#[104, 116, 116, 112, 58, 47, 47, 104, 47, 46, 47]⟩ : ByteArray).data.toList = [104, 116, 116, 112, 58, 47, 47, 104, 47, 46, 47] from rfl, Yl]
  have U1s : U1.size ≤ 60 := by rw [Lib.size_eq, U1l]; simp [List.length_append]; omega
  obtain ⟨P, hP⟩ : ∃ Z0 : ByteArray, (⟨#[104, 116, 116, 112, 58, 47, 47, 104, 47]⟩ : ByteArray) ++ X = Z0 := ⟨_, rfl⟩
  have Pl : P.data.toList = ([104, 116, 116, 112, 58, 47, 47, 104, 47] ++ T1) := by rw [← hP, ByteArray.data_append, Array.toList_append, show (⟨#[104, 116, 116, 112, 58, 47, 47, 104, 47]⟩ : ByteArray).data.toList = [104, 116, 116, 112, 58, 47, 47, 104, 47] from rfl, Xl]
  have Ps : P.size ≤ 60 := by rw [Lib.size_eq, Pl]; simp [List.length_append]; omega
  obtain ⟨P2, hP2⟩ : ∃ Z0 : ByteArray, P ++ (⟨#[47, 46, 46, 47]⟩ : ByteArray) = Z0 := ⟨_, rfl⟩
  have P2l : P2.data.toList = (([104, 116, 116, 112, 58, 47, 47, 104, 47] ++ T1) ++ [47, 46, 46, 47]) := by rw [← hP2, ByteArray.data_append, Array.toList_append, Pl, show (⟨#[47, 46, 46, 47]⟩ : ByteArray).data.toList = [47, 46, 46, 47] from rfl]
  have P2s : P2.size ≤ 70 := by rw [Lib.size_eq, P2l]; simp [List.length_append]; omega
  obtain ⟨U2, hU2⟩ : ∃ Z0 : ByteArray, P2 ++ Y = Z0 := ⟨_, rfl⟩
  have U2l : U2.data.toList = ((([104, 116, 116, 112, 58, 47, 47, 104, 47] ++ T1) ++ [47, 46, 46, 47]) ++ T2) := by rw [← hU2, ByteArray.data_append, Array.toList_append, P2l, Yl]
  have U2s : U2.size ≤ 90 := by rw [Lib.size_eq, U2l]; simp [List.length_append]; omega
  obtain ⟨P3, hP3⟩ : ∃ Z0 : ByteArray, P ++ (⟨#[47, 37, 50, 69, 37, 50, 101, 47]⟩ : ByteArray) = Z0 := ⟨_, rfl⟩
  have P3l : P3.data.toList = (([104, 116, 116, 112, 58, 47, 47, 104, 47] ++ T1) ++ [47, 37, 50, 69, 37, 50, 101, 47]) := by rw [← hP3, ByteArray.data_append, Array.toList_append, Pl, show (⟨#[47, 37, 50, 69, 37, 50, 101, 47]⟩ : ByteArray).data.toList = [47, 37, 50, 69, 37, 50, 101, 47] from rfl]
  have P3s : P3.size ≤ 70 := by rw [Lib.size_eq, P3l]; simp [List.length_append]; omega
  obtain ⟨U3, hU3⟩ : ∃ Z0 : ByteArray, P3 ++ Y = Z0 := ⟨_, rfl⟩
  have U3l : U3.data.toList = ((([104, 116, 116, 112, 58, 47, 47, 104, 47] ++ T1) ++ [47, 37, 50, 69, 37, 50, 101, 47]) ++ T2) := by rw [← hU3, ByteArray.data_append, Array.toList_append, P3l, Yl]
  have U3s : U3.size ≤ 90 := by rw [Lib.size_eq, U3l]; simp [List.length_append]; omega
  obtain ⟨U4, hU4⟩ : ∃ Z0 : ByteArray, (⟨#[104, 116, 116, 112, 58, 47, 47, 104, 47, 46, 46, 47, 46, 46, 47]⟩ : ByteArray) ++ Y = Z0 := ⟨_, rfl⟩
  have U4l : U4.data.toList = ([104, 116, 116, 112, 58, 47, 47, 104, 47, 46, 46, 47, 46, 46, 47] ++ T2) := by rw [← hU4, ByteArray.data_append, Array.toList_append, show (⟨#[104, 116, 116, 112, 58, 47, 47, 104, 47, 46, 46, 47, 46, 46, 47]⟩ : ByteArray).data.toList = [104, 116, 116, 112, 58, 47, 47, 104, 47, 46, 46, 47, 46, 46, 47] from rfl, Yl]
  have U4s : U4.size ≤ 60 := by rw [Lib.size_eq, U4l]; simp [List.length_append]; omega
  obtain ⟨U5, hU5⟩ : ∃ Z0 : ByteArray, (⟨#[104, 116, 116, 112, 58, 47, 47, 104, 47, 37, 50, 101, 47]⟩ : ByteArray) ++ Y = Z0 := ⟨_, rfl⟩
  have U5l : U5.data.toList = ([104, 116, 116, 112, 58, 47, 47, 104, 47, 37, 50, 101, 47] ++ T2) := by rw [← hU5, ByteArray.data_append, Array.toList_append, show (⟨#[104, 116, 116, 112, 58, 47, 47, 104, 47, 37, 50, 101, 47]⟩ : ByteArray).data.toList = [104, 116, 116, 112, 58, 47, 47, 104, 47, 37, 50, 101, 47] from rfl, Yl]
  have U5s : U5.size ≤ 60 := by rw [Lib.size_eq, U5l]; simp [List.length_append]; omega
  obtain ⟨Q1, hQ1⟩ : ∃ Z0 : ByteArray, P ++ (⟨#[47]⟩ : ByteArray) = Z0 := ⟨_, rfl⟩
  have Q1l : Q1.data.toList = (([104, 116, 116, 112, 58, 47, 47, 104, 47] ++ T1) ++ [47]) := by rw [← hQ1, ByteArray.data_append, Array.toList_append, Pl, show (⟨#[47]⟩ : ByteArray).data.toList = [47] from rfl]
  have Q1s : Q1.size ≤ 60 := by rw [Lib.size_eq, Q1l]; simp [List.length_append]; omega
  obtain ⟨Q2, hQ2⟩ : ∃ Z0 : ByteArray, Q1 ++ Y = Z0 := ⟨_, rfl⟩
  have Q2l : Q2.data.toList = ((([104, 116, 116, 112, 58, 47, 47, 104, 47] ++ T1) ++ [47]) ++ T2) := by rw [← hQ2, ByteArray.data_append, Array.toList_append, Q1l, Yl]
  have Q2s : Q2.size ≤ 80 := by rw [Lib.size_eq, Q2l]; simp [List.length_append]; omega
  obtain ⟨U6, hU6⟩ : ∃ Z0 : ByteArray, Q2 ++ (⟨#[47, 46, 46]⟩ : ByteArray) = Z0 := ⟨_, rfl⟩
  have U6l : U6.data.toList = (((([104, 116, 116, 112, 58, 47, 47, 104, 47] ++ T1) ++ [47]) ++ T2) ++ [47, 46, 46]) := by rw [← hU6, ByteArray.data_append, Array.toList_append, Q2l, show (⟨#[47, 46, 46]⟩ : ByteArray).data.toList = [47, 46, 46] from rfl]
  have U6s : U6.size ≤ 90 := by rw [Lib.size_eq, U6l]; simp [List.length_append]; omega
  obtain ⟨W0, hW0⟩ : ∃ Z0 : ByteArray, Z0 = ⟨(htb T2).toArray⟩ := ⟨_, rfl⟩
  have W0l : W0.data.toList = htb T2 := by rw [hW0]
  obtain ⟨V0, hV0⟩ : ∃ Z0 : ByteArray, Z0 = ⟨(htb (T1 ++ [47])).toArray⟩ := ⟨_, rfl⟩
  have V0l : V0.data.toList = htb (T1 ++ [47]) := by rw [hV0]
  have hn0 : W0.toList.isEmpty = false := xempty_no W0 (by rw [W0l]; unfold htb sHttp; simp)
  have HU0 := hid (fun (Z : World) (hZ : Gd Z) => text3_at U0 W0 (by rw [U0l, W0l]; have := dt_0 T2 hT2.lets hT2l; simpa [htb, sHttp, List.append_assoc] using this) (by omega) Z hZ)
  have HU1 := hid (fun (Z : World) (hZ : Gd Z) => text3_at U1 W0 (by rw [U1l, W0l]; have := dt_1 T2 hT2.lets hT2l; simpa [htb, sHttp, List.append_assoc] using this) (by omega) Z hZ)
  have HU2 := hid (fun (Z : World) (hZ : Gd Z) => text3_at U2 W0 (by rw [U2l, W0l]; have := dt_2 T1 T2 hT1.lets hT2.lets hT1l hT2l; simpa [htb, sHttp, List.append_assoc] using this) (by omega) Z hZ)
  have HU3 := hid (fun (Z : World) (hZ : Gd Z) => text3_at U3 W0 (by rw [U3l, W0l]; have := dt_3 T1 T2 hT1.lets hT2.lets hT1l hT2l; simpa [htb, sHttp, List.append_assoc] using this) (by omega) Z hZ)
  have HU4 := hid (fun (Z : World) (hZ : Gd Z) => text3_at U4 W0 (by rw [U4l, W0l]; have := dt_4 T2 hT2.lets hT2l; simpa [htb, sHttp, List.append_assoc] using this) (by omega) Z hZ)
  have HU5 := hid (fun (Z : World) (hZ : Gd Z) => text3_at U5 W0 (by rw [U5l, W0l]; have := dt_5 T2 hT2.lets hT2l; simpa [htb, sHttp, List.append_assoc] using this) (by omega) Z hZ)
  have HU6 := hid (fun (Z : World) (hZ : Gd Z) => text3_at U6 V0 (by rw [U6l, V0l]; have := dt_6 T1 T2 hT1.lets hT2.lets hT1l hT2l; simpa [htb, sHttp, List.append_assoc] using this) (by omega) Z hZ)
  have HQ1 := hid (fun (Z : World) (hZ : Gd Z) => text3_at Q1 V0 (by rw [Q1l, V0l]; have := dt_7 T1 hT1.lets hT1l; simpa [htb, sHttp, List.append_assoc] using this) (by omega) Z hZ)
  have HKn := hid (fun (Z : World) (hZ : Gd Z) => known3_any Z hZ)
  clear hT1 hT2 W0l V0l hW0 hV0 Xl Yl U0l U1l Pl P2l U2l P3l U3l U4l U5l Q1l Q2l U6l hT1l hT2l
  go_wp2_with fail
  refine (HU0.out _ HG.out).mono ?_
  rintro e w1 ⟨rfl, hb1⟩
  have HB1 := hid hb1
  clear hb1
  go_wp2_with fail
  refine (HU1.out _ (HG.out.kept HB1.out)).mono ?_
  rintro e w2 ⟨rfl, hb2⟩
  have HB2 := hid (below2 HB1.out hb2)
  clear hb2
  go_wp2_with fail
  refine (HU2.out _ (HG.out.kept HB2.out)).mono ?_
  rintro e w3 ⟨rfl, hb3⟩
  have HB3 := hid (below2 HB2.out hb3)
  clear hb3
  go_wp2_with fail
  refine (HU3.out _ (HG.out.kept HB3.out)).mono ?_
  rintro e w4 ⟨rfl, hb4⟩
  have HB4 := hid (below2 HB3.out hb4)
  clear hb4
  go_wp2_with fail
  refine (HU4.out _ (HG.out.kept HB4.out)).mono ?_
  rintro e w5 ⟨rfl, hb5⟩
  have HB5 := hid (below2 HB4.out hb5)
  clear hb5
  go_wp2_with fail
  refine (HU5.out _ (HG.out.kept HB5.out)).mono ?_
  rintro e w6 ⟨rfl, hb6⟩
  have HB6 := hid (below2 HB5.out hb6)
  clear hb6
  go_wp2_with fail
  refine (HU6.out _ (HG.out.kept HB6.out)).mono ?_
  rintro e w7 ⟨rfl, hb7⟩
  have HB7 := hid (below2 HB6.out hb7)
  clear hb7
  go_wp2_with fail
  refine (HQ1.out _ (HG.out.kept HB7.out)).mono ?_
  rintro e w8 ⟨rfl, hb8⟩
  have HB8 := hid (below2 HB7.out hb8)
  clear hb8
  go_wp2_with fail
  refine (HKn.out _ (HG.out.kept HB8.out)).mono ?_
  rintro e w9 ⟨rfl, hb9⟩
  have HB9 := hid (below2 HB8.out hb9)
  clear hb9
  go_wp2
  go_ret
  exact ⟨rfl, HB9.out⟩

end Go.Proofs.YtdnginibhpnefaaGreatDoor
