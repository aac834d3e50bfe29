/-
  Walks and plain facts that this claim leans on, put together out of 2 texts: Vq, Ysh.
-/
import Derived.Test.YtkhpemjjholneaaGreatDoorProg
import Derived.Test.YtkhpemjjholneaaGreatDoorQa1
import Derived.Test.YtkhpemjjholneaaGreatDoorQa2
import Derived.Test.YtkhpemjjholneaaGreatDoorQa3
import Derived.Test.YtkhpemjjholneaaGreatDoorQa4
import Derived.Test.YtkhpemjjholneaaGreatDoorQa5
import Derived.Test.YtkhpemjjholneaaGreatDoorQa6
import Derived.Test.YtkhpemjjholneaaGreatDoorQa7
import Derived.Test.YtkhpemjjholneaaGreatDoorQa8
import Derived.Test.YtkhpemjjholneaaGreatDoorQa9
import Derived.Test.YtkhpemjjholneaaGreatDoorQa10
import Derived.Test.YtkhpemjjholneaaGreatDoorQa11
import Derived.Test.YtkhpemjjholneaaGreatDoorQa12
import Derived.Test.YtkhpemjjholneaaGreatDoorQa13
import Derived.Test.YtkhpemjjholneaaGreatDoorQa14
import Derived.Test.YtkhpemjjholneaaGreatDoorQa15
import Derived.Test.YtkhpemjjholneaaGreatDoorQa16
import Derived.Test.YtkhpemjjholneaaGreatDoorQa17
import Derived.Test.YtkhpemjjholneaaGreatDoorQa18
import Derived.Test.YtkhpemjjholneaaGreatDoorQa19
import Derived.Test.YtkhpemjjholneaaGreatDoorQa20
import Derived.Test.YtkhpemjjholneaaGreatDoorQa21
import Derived.Test.YtkhpemjjholneaaGreatDoorQa22
import Derived.Test.YtkhpemjjholneaaGreatDoorQa23
import Derived.Test.YtkhpemjjholneaaGreatDoorQa24
import Derived.Test.YtkhpemjjholneaaGreatDoorQa25
import Derived.Test.YtkhpemjjholneaaGreatDoorQa26
import Derived.Test.YtkhpemjjholneaaGreatDoorQa27
import Derived.Test.YtkhpemjjholneaaGreatDoorQa28
import Derived.Test.YtkhpemjjholneaaGreatDoorQa29
import Derived.Test.YtkhpemjjholneaaGreatDoorQa30
import Derived.Test.YtkhpemjjholneaaGreatDoorQa31
import Derived.Test.YtkhpemjjholneaaGreatDoorQa32
import Derived.Test.YtkhpemjjholneaaGreatDoorQa33
import Derived.Test.YtkhpemjjholneaaGreatDoorQb1
import Derived.Lib.LastIndexByte
import Derived.Lib.BufferMore
import Derived.Lib.IndexMore
import Derived.Lib.Join
import Derived.WalkKit
import Derived.WalkSpells
import Derived.WalkLawsBesides
import Derived.Laws.BitsAllLaws
import Derived.Lib.Bytealg
import Derived.Lib.Strings
import Derived.Lib.UnsafeStr
import Derived.Laws.IdiomStrings
import Derived.Laws.AppendOwn
import Derived.Shelf.Strings.Builder1
import Derived.Shelf.Strings.Builder2
import Derived.Shelf.Strings.OnBuilder
import Derived.Shelf.Strings.Trim
import Derived.Shelf.Small.Utf8
import Derived.Shelf.Small.Bits
import Derived.Shelf.Small.Strs
import Derived.Shelf.Small.Wraps
import Derived.Shelf.Strings.BuilderF
import Derived.Shelf.Strings.BuilderK
import Derived.Shelf.Strings.BuilderRune
import Derived.Shelf.Utf8.AppendRune
import Derived.Shelf.Utf8.AppendRunePlain
import Derived.Shelf.Strings.Builder2Cap
import Derived.Shelf.Strconv.Itoa0
import Derived.Shelf.Strconv.Itoa1
import Derived.Shelf.LaysM
import Derived.Shelf.Strconv.Itoa2
import Derived.Shelf.Strconv.Itoa3
import Derived.Shelf.Strings.Search1
import Derived.Shelf.Strings.Search2
import Derived.Shelf.Strings.Search3
import Derived.Shelf.Strings.Cut
import Derived.Shelf.Strings.Count
import Derived.Shelf.Strings.Shaped
import Derived.Shelf.Sort.Plain
import Derived.Shelf.Strings.LastIndex
import Derived.Shelf.Strings.Prefix
import Derived.Shelf.Strings.Split
import Derived.Shelf.Strings.Replace
import Derived.Shelf.Strings.Runes
import Derived.Shelf.Strings.IndexAny
import Derived.Shelf.Strings.AsciiSet
import Derived.Shelf.Strings.IndexAnyAll
import Derived.Shelf.Unicode.DecodeSlow
import Derived.Shelf.Unicode.DecodeAny
import Derived.Shelf.Unicode.DecodeLast
import Derived.Shelf.Strings.FieldsFuncAny
import Derived.Shelf.Strings.FieldsFuncGrows
import Derived.Shelf.Slices.Equal
import Derived.Ground.Names2Prog
import Derived.Shelf.Slices.Clone
import Derived.Ground.SlgnProg
import Derived.Shelf.SlicesE.Equal
import Derived.Shelf.SlicesE.Clone
import Derived.Lib.AppendIntMem
import Derived.Lib.SmallJoins
import Derived.WalkSmall
import Derived.Deep.LoopGhost
import Derived.Deep.MidRow
import Derived.Laws.Runes
import Derived.Laws.RangeAny
import Derived.Lib.DecodeN
import Derived.Lib.OthersKept
import Derived.RegionTactic
import Derived.Deep.RegionWith
import Derived.Deep.QuietTactic
import Derived.BigQuiet
import Derived.Laws.BytesString
import Derived.BigRegion
import Derived.Scope
import Derived.ScopeJumps
import Derived.WalkMore
import Derived.Lib.TrimByte
import Derived.Lib.AppendStr
import Derived.Lib.Replace
import Derived.Maps.OwnSet
import Derived.Maps.OwnOps
import Derived.Maps.AppendAt
import Derived.StringKeys
import Derived.Lib.FrozenHead2
import Derived.Lib.Builder
import Derived.OwnWalk
import Derived.Laws.OwnMore
import Derived.Below
import Derived.LoopN
import Derived.Deep.RegionHeld
import Derived.Lib.IndexAny
import Derived.Lib.SlTrimSet
import Derived.Laws.CopyOwn
import Derived.Laws.ResultCell
import Derived.Laws.AppendOwnNone
import Derived.Shelf.Strings.SlTrimAscii
import Derived.Deep.RegionLaw
import Derived.Lib.ItoaNum
import Derived.Deep.Cut
import Derived.Deep.WholeRow
import Derived.Deep.RegionHeldLaw
import Derived.Lib.BufferRead
import Derived.Lib.RuneBytes
set_option linter.unusedSimpArgs false
set_option linter.unusedVariables false

namespace Go.Proofs.YtkhpemjjholneaaGreatDoor
open Go.RowKit

theorem within_mod (n m : Int) (hm : 0 < m) : -m < n.tmod m ∧ n.tmod m < m := by
  refine ⟨?_, Int.tmod_lt_of_pos n hm⟩
  have h1 := Int.tmod_lt_of_pos (-n) hm
  rw [Int.neg_tmod] at h1
  omega

end Go.Proofs.YtkhpemjjholneaaGreatDoor

namespace Go.Proofs.YtkhpemjjholneaaGreatDoor
open Go.RowKit

theorem wr_hn {T : List UInt8} (h : WrQ T) : ∀ c ∈ T, hnC c = true ∧ lowC c = c := fun c hc => ⟨(small_facts c (h.mem c hc)).2.1, (small_facts c (h.mem c hc)).1⟩

theorem two_hn {x y : List UInt8} (hx : WrQ x) (hy : WrQ y) : ∀ c ∈ y ++ 46 :: x, hnC c = true ∧ lowC c = c := fun c hc => by
  rcases List.mem_append.1 hc with hc | hc
  · exact wr_hn hy c hc
  · rcases List.mem_cons.1 hc with rfl | hc
    · decide
    · exact wr_hn hx c hc

theorem mod_num (n : Int) : -60000 < n.tmod 60000 ∧ n.tmod 60000 < 60000 := within_mod n 60000 (by decide)

set_option maxHeartbeats 4000000 in
set_option maxRecDepth 100000 in
theorem sourceHosts_walk (a b : ByteArray) (port : Int) (w : World) (ha : a.size ≤ 140737488351232) (hb : b.size ≤ 140737488351232) (hg : Gd w) :
    Calls Tryz.prog 11 #[.string a, .string b, .int .i64 port] w fun e w' => e = .returned (.bool true) ∧ Below w.heap.size w w' := by
  have HW1 := hid (fun w => word11_any a w (by omega))
  have HW2 := hid (fun w => word11_any b w (by omega))
  have HG := hid hg
  obtain ⟨r, hr⟩ : ∃ r, port.tmod 60000 = r := ⟨_, rfl⟩
  have hr1 := (mod_num port).1
  have hr2 := (mod_num port).2
  rw [hr] at hr1 hr2
  obtain ⟨N, hN1, hN2, hNr⟩ : ∃ N : Nat, 1 ≤ N ∧ N ≤ 60000 ∧ ((0 ≤ r ∧ 1 + r = (N : Int)) ∨ (r < 0 ∧ N = 1)) := by
    by_cases h : 0 ≤ r
    · exact ⟨(1 + r).toNat, by omega, by omega, .inl ⟨h, by omega⟩⟩
    · exact ⟨1, by omega, by omega, .inr ⟨by omega, rfl⟩⟩
  have HD := hid (fun w => digits11_any N w (by omega))
  clear hg ha hb
  go_enter Tryz.func11, Tryz.ntmps11
  go_wp2_with fail
  refine (HW1.out _).mono ?_
  rintro e w' ⟨T1, rfl, hT1, hT1l, rfl⟩
  obtain ⟨X, hX⟩ : ∃ Z0 : ByteArray, Z0 = ⟨T1.toArray⟩ := ⟨_, rfl⟩
  have HXl := hid (show X.data.toList = T1 by rw [hX])
  rw [← hX]
  clear hX
  go_wp2_with fail
  refine (HW2.out _).mono ?_
  rintro e w' ⟨T2, rfl, hT2, hT2l, rfl⟩
  obtain ⟨Y, hY⟩ : ∃ Z0 : ByteArray, Z0 = ⟨T2.toArray⟩ := ⟨_, rfl⟩
  have HYl := hid (show Y.data.toList = T2 by rw [hY])
  rw [← hY]
  clear hY HW1 HW2
  have HT1 := hid (And.intro hT1 hT1l)
  have HT2 := hid (And.intro hT2 hT2l)
  clear hT1 hT1l hT2 hT2l
  have HN := hid (And.intro hN1 hN2)
  have hcs : (wrap64 (1 + r) = (N : Int) ∧ ¬ ((N : Int) < 1)) ∨ (wrap64 (1 + r) = 1 + r ∧ 1 + r < 1 ∧ N = 1) := by
    have hwr : wrap64 (1 + r) = 1 + r := by unfold wrap64; omega
    rcases hNr with ⟨h0, h1⟩ | ⟨h0, h1⟩
    · left; rw [hwr]; exact ⟨h1, by omega⟩
    · right; exact ⟨hwr, by omega, h1⟩
  clear hNr hN1 hN2 hr1 hr2
  rcases hcs with ⟨h1, h2⟩ | ⟨h1, h2, rfl⟩
  · go_wp2_with fail
    clear h1 h2 hr
    refine (HD.out _).mono ?_
    rintro e w' ⟨T3, rfl, hT3, rfl⟩
    obtain ⟨P, hP⟩ : ∃ Z0 : ByteArray, Z0 = ⟨T3.toArray⟩ := ⟨_, rfl⟩
    have Pl : P.data.toList = T3 := by rw [hP]
    rw [← hP]
    have Xl := HXl.out
    have Yl := HYl.out
    obtain ⟨hT1, hT1l⟩ := HT1.out
    obtain ⟨hT2, hT2l⟩ := HT2.out
    obtain ⟨hN1, hN2⟩ := HN.out
    have hT3l : T3.length ≤ 40 := hT3.2.2.2
    have Xs : X.size ≤ 12 := by rw [Lib.size_eq, Xl]; exact hT1l
    have Ys : Y.size ≤ 12 := by rw [Lib.size_eq, Yl]; exact hT2l
    have Ps : P.size ≤ 40 := by rw [Lib.size_eq, Pl]; exact hT3l
    clear hP HXl HYl HT1 HT2 HN HD
    obtain ⟨C1, hC1⟩ : ∃ Z0 : ByteArray, (⟨#[42, 46]⟩ : ByteArray) ++ X = Z0 := ⟨_, rfl⟩
    have C1l : C1.data.toList = ([42, 46] ++ T1) := by rw [← hC1, ByteArray.data_append, Array.toList_append, show (⟨#[42, 46]⟩ : ByteArray).data.toList = [42, 46] from rfl, Xl]
    have C1s : C1.size ≤ 20 := by rw [Lib.size_eq, C1l]; simp [List.length_append]; omega
    obtain ⟨C2, hC2⟩ : ∃ Z0 : ByteArray, C1 ++ (⟨#[46, 99, 111, 109]⟩ : ByteArray) = Z0 := ⟨_, rfl⟩
    have C2l : C2.data.toList = (([42, 46] ++ T1) ++ [46, 99, 111, 109]) := by rw [← hC2, ByteArray.data_append, Array.toList_append, C1l, show (⟨#[46, 99, 111, 109]⟩ : ByteArray).data.toList = [46, 99, 111, 109] from rfl]
    have C2s : C2.size ≤ 30 := by rw [Lib.size_eq, C2l]; simp [List.length_append]; omega
    obtain ⟨D1, hD1⟩ : ∃ Z0 : ByteArray, (⟨#[104, 116, 116, 112, 115, 58, 47, 47]⟩ : ByteArray) ++ Y = Z0 := ⟨_, rfl⟩
    have D1l : D1.data.toList = ([104, 116, 116, 112, 115, 58, 47, 47] ++ T2) := by rw [← hD1, ByteArray.data_append, Array.toList_append, show (⟨#[104, 116, 116, 112, 115, 58, 47, 47]⟩ : ByteArray).data.toList = [104, 116, 116, 112, 115, 58, 47, 47] from rfl, Yl]
    have D1s : D1.size ≤ 30 := by rw [Lib.size_eq, D1l]; simp [List.length_append]; omega
    obtain ⟨D2, hD2⟩ : ∃ Z0 : ByteArray, D1 ++ (⟨#[46]⟩ : ByteArray) = Z0 := ⟨_, rfl⟩
    have D2l : D2.data.toList = (([104, 116, 116, 112, 115, 58, 47, 47] ++ T2) ++ [46]) := by rw [← hD2, ByteArray.data_append, Array.toList_append, D1l, show (⟨#[46]⟩ : ByteArray).data.toList = [46] from rfl]
    have D2s : D2.size ≤ 31 := by rw [Lib.size_eq, D2l]; simp [List.length_append]; omega
    obtain ⟨D3, hD3⟩ : ∃ Z0 : ByteArray, D2 ++ X = Z0 := ⟨_, rfl⟩
    have D3l : D3.data.toList = ((([104, 116, 116, 112, 115, 58, 47, 47] ++ T2) ++ [46]) ++ T1) := by rw [← hD3, ByteArray.data_append, Array.toList_append, D2l, Xl]
    have D3s : D3.size ≤ 50 := by rw [Lib.size_eq, D3l]; simp [List.length_append]; omega
    obtain ⟨D4, hD4⟩ : ∃ Z0 : ByteArray, D3 ++ (⟨#[46, 99, 111, 109, 47]⟩ : ByteArray) = Z0 := ⟨_, rfl⟩
    have D4l : D4.data.toList = (((([104, 116, 116, 112, 115, 58, 47, 47] ++ T2) ++ [46]) ++ T1) ++ [46, 99, 111, 109, 47]) := by rw [← hD4, ByteArray.data_append, Array.toList_append, D3l, show (⟨#[46, 99, 111, 109, 47]⟩ : ByteArray).data.toList = [46, 99, 111, 109, 47] from rfl]
    have D4s : D4.size ≤ 60 := by rw [Lib.size_eq, D4l]; simp [List.length_append]; omega
    obtain ⟨E1, hE1⟩ : ∃ Z0 : ByteArray, (⟨#[104, 116, 116, 112, 115, 58, 47, 47]⟩ : ByteArray) ++ X = Z0 := ⟨_, rfl⟩
    have E1l : E1.data.toList = ([104, 116, 116, 112, 115, 58, 47, 47] ++ T1) := by rw [← hE1, ByteArray.data_append, Array.toList_append, show (⟨#[104, 116, 116, 112, 115, 58, 47, 47]⟩ : ByteArray).data.toList = [104, 116, 116, 112, 115, 58, 47, 47] from rfl, Xl]
    have E1s : E1.size ≤ 30 := by rw [Lib.size_eq, E1l]; simp [List.length_append]; omega
    obtain ⟨E2, hE2⟩ : ∃ Z0 : ByteArray, E1 ++ (⟨#[46, 99, 111, 109, 47]⟩ : ByteArray) = Z0 := ⟨_, rfl⟩
    have E2l : E2.data.toList = (([104, 116, 116, 112, 115, 58, 47, 47] ++ T1) ++ [46, 99, 111, 109, 47]) := by rw [← hE2, ByteArray.data_append, Array.toList_append, E1l, show (⟨#[46, 99, 111, 109, 47]⟩ : ByteArray).data.toList = [46, 99, 111, 109, 47] from rfl]
    have E2s : E2.size ≤ 40 := by rw [Lib.size_eq, E2l]; simp [List.length_append]; omega
    obtain ⟨F1, hF1⟩ : ∃ Z0 : ByteArray, X ++ (⟨#[46, 99, 111, 109]⟩ : ByteArray) = Z0 := ⟨_, rfl⟩
    have F1l : F1.data.toList = (T1 ++ [46, 99, 111, 109]) := by rw [← hF1, ByteArray.data_append, Array.toList_append, Xl, show (⟨#[46, 99, 111, 109]⟩ : ByteArray).data.toList = [46, 99, 111, 109] from rfl]
    have F1s : F1.size ≤ 30 := by rw [Lib.size_eq, F1l]; simp [List.length_append]; omega
    obtain ⟨G1, hG1⟩ : ∃ Z0 : ByteArray, E1 ++ (⟨#[46, 67, 79, 77, 47]⟩ : ByteArray) = Z0 := ⟨_, rfl⟩
    have G1l : G1.data.toList = (([104, 116, 116, 112, 115, 58, 47, 47] ++ T1) ++ [46, 67, 79, 77, 47]) := by rw [← hG1, ByteArray.data_append, Array.toList_append, E1l, show (⟨#[46, 67, 79, 77, 47]⟩ : ByteArray).data.toList = [46, 67, 79, 77, 47] from rfl]
    have G1s : G1.size ≤ 40 := by rw [Lib.size_eq, G1l]; simp [List.length_append]; omega
    obtain ⟨H1, hH1⟩ : ∃ Z0 : ByteArray, (⟨#[104, 116, 116, 112, 58, 47, 47]⟩ : ByteArray) ++ X = Z0 := ⟨_, rfl⟩
    have H1l : H1.data.toList = ([104, 116, 116, 112, 58, 47, 47] ++ T1) := by rw [← hH1, ByteArray.data_append, Array.toList_append, show (⟨#[104, 116, 116, 112, 58, 47, 47]⟩ : ByteArray).data.toList = [104, 116, 116, 112, 58, 47, 47] from rfl, Xl]
    have H1s : H1.size ≤ 30 := by rw [Lib.size_eq, H1l]; simp [List.length_append]; omega
    obtain ⟨H2, hH2⟩ : ∃ Z0 : ByteArray, H1 ++ (⟨#[46, 99, 111, 109, 47]⟩ : ByteArray) = Z0 := ⟨_, rfl⟩
    have H2l : H2.data.toList = (([104, 116, 116, 112, 58, 47, 47] ++ T1) ++ [46, 99, 111, 109, 47]) := by rw [← hH2, ByteArray.data_append, Array.toList_append, H1l, show (⟨#[46, 99, 111, 109, 47]⟩ : ByteArray).data.toList = [46, 99, 111, 109, 47] from rfl]
    have H2s : H2.size ≤ 40 := by rw [Lib.size_eq, H2l]; simp [List.length_append]; omega
    obtain ⟨I1, hI1⟩ : ∃ Z0 : ByteArray, X ++ (⟨#[46, 99, 111, 109, 58]⟩ : ByteArray) = Z0 := ⟨_, rfl⟩
    have I1l : I1.data.toList = (T1 ++ [46, 99, 111, 109, 58]) := by rw [← hI1, ByteArray.data_append, Array.toList_append, Xl, show (⟨#[46, 99, 111, 109, 58]⟩ : ByteArray).data.toList = [46, 99, 111, 109, 58] from rfl]
    have I1s : I1.size ≤ 30 := by rw [Lib.size_eq, I1l]; simp [List.length_append]; omega
    obtain ⟨I2, hI2⟩ : ∃ Z0 : ByteArray, I1 ++ P = Z0 := ⟨_, rfl⟩
    have I2l : I2.data.toList = ((T1 ++ [46, 99, 111, 109, 58]) ++ T3) := by rw [← hI2, ByteArray.data_append, Array.toList_append, I1l, Pl]
    have I2s : I2.size ≤ 80 := by rw [Lib.size_eq, I2l]; simp [List.length_append]; omega
    obtain ⟨J1, hJ1⟩ : ∃ Z0 : ByteArray, E1 ++ (⟨#[46, 99, 111, 109, 58]⟩ : ByteArray) = Z0 := ⟨_, rfl⟩
    have J1l : J1.data.toList = (([104, 116, 116, 112, 115, 58, 47, 47] ++ T1) ++ [46, 99, 111, 109, 58]) := by rw [← hJ1, ByteArray.data_append, Array.toList_append, E1l, show (⟨#[46, 99, 111, 109, 58]⟩ : ByteArray).data.toList = [46, 99, 111, 109, 58] from rfl]
    have J1s : J1.size ≤ 40 := by rw [Lib.size_eq, J1l]; simp [List.length_append]; omega
    obtain ⟨J2, hJ2⟩ : ∃ Z0 : ByteArray, J1 ++ P = Z0 := ⟨_, rfl⟩
    have J2l : J2.data.toList = ((([104, 116, 116, 112, 115, 58, 47, 47] ++ T1) ++ [46, 99, 111, 109, 58]) ++ T3) := by rw [← hJ2, ByteArray.data_append, Array.toList_append, J1l, Pl]
    have J2s : J2.size ≤ 90 := by rw [Lib.size_eq, J2l]; simp [List.length_append]; omega
    obtain ⟨J3, hJ3⟩ : ∃ Z0 : ByteArray, J2 ++ (⟨#[47]⟩ : ByteArray) = Z0 := ⟨_, rfl⟩
    have J3l : J3.data.toList = (((([104, 116, 116, 112, 115, 58, 47, 47] ++ T1) ++ [46, 99, 111, 109, 58]) ++ T3) ++ [47]) := by rw [← hJ3, ByteArray.data_append, Array.toList_append, J2l, show (⟨#[47]⟩ : ByteArray).data.toList = [47] from rfl]
    have J3s : J3.size ≤ 91 := by rw [Lib.size_eq, J3l]; simp [List.length_append]; omega
    obtain ⟨Q1, hQ1⟩ : ∃ Z0 : ByteArray, X ++ (⟨#[46, 99, 111, 109, 58, 42]⟩ : ByteArray) = Z0 := ⟨_, rfl⟩
    have Q1l : Q1.data.toList = (T1 ++ [46, 99, 111, 109, 58, 42]) := by rw [← hQ1, ByteArray.data_append, Array.toList_append, Xl, show (⟨#[46, 99, 111, 109, 58, 42]⟩ : ByteArray).data.toList = [46, 99, 111, 109, 58, 42] from rfl]
    have Q1s : Q1.size ≤ 30 := by rw [Lib.size_eq, Q1l]; simp [List.length_append]; omega
    have u1 : urlV D4.data.toList = .ok (wAdr sHttps ((T2 ++ 46 :: T1) ++ tCom) (-1) [[]]) := by
      have := com_url sHttps (T2 ++ 46 :: T1) tCom [] (-1) (.inr rfl) (two_hn hT1 hT2) (by simp) (.inl rfl) (.inl ⟨rfl, rfl⟩) (by simp; omega)
      rw [show sHttps ++ 58 :: 47 :: 47 :: (((T2 ++ 46 :: T1) ++ tCom) ++ ([] ++ [47])) = D4.data.toList by rw [D4l]; simp [sHttps, sHttp, tCom, tCOM]] at this
      exact urlV_of this.1 this.2
    have u2 : urlV E2.data.toList = .ok (wAdr sHttps (T1 ++ tCom) (-1) [[]]) := by
      have := com_url sHttps T1 tCom [] (-1) (.inr rfl) (wr_hn hT1) hT1.ne (.inl rfl) (.inl ⟨rfl, rfl⟩) (by simp; omega)
      rw [show sHttps ++ 58 :: 47 :: 47 :: ((T1 ++ tCom) ++ ([] ++ [47])) = E2.data.toList by rw [E2l]; simp [sHttps, sHttp, tCom, tCOM]] at this
      exact urlV_of this.1 this.2
    have u3 : urlV G1.data.toList = .ok (wAdr sHttps (T1 ++ tCom) (-1) [[]]) := by
      have := com_url sHttps T1 tCOM [] (-1) (.inr rfl) (wr_hn hT1) hT1.ne (.inr rfl) (.inl ⟨rfl, rfl⟩) (by simp; omega)
      rw [show sHttps ++ 58 :: 47 :: 47 :: ((T1 ++ tCOM) ++ ([] ++ [47])) = G1.data.toList by rw [G1l]; simp [sHttps, sHttp, tCom, tCOM]] at this
      exact urlV_of this.1 this.2
    have u4 : urlV H2.data.toList = .ok (wAdr sHttp (T1 ++ tCom) (-1) [[]]) := by
      have := com_url sHttp T1 tCom [] (-1) (.inl rfl) (wr_hn hT1) hT1.ne (.inl rfl) (.inl ⟨rfl, rfl⟩) (by simp; omega)
      rw [show sHttp ++ 58 :: 47 :: 47 :: ((T1 ++ tCom) ++ ([] ++ [47])) = H2.data.toList by rw [H2l]; simp [sHttps, sHttp, tCom, tCOM]] at this
      exact urlV_of this.1 this.2
    have u5 : urlV J3.data.toList = .ok (wAdr sHttps (T1 ++ tCom) (prt N) [[]]) := by
      have := com_url sHttps T1 tCom (58 :: T3) (prt N) (.inr rfl) (wr_hn hT1) hT1.ne (.inl rfl) (.inr ⟨T3, rfl, List.all_eq_true.1 hT3.2.1, dec_port hT3 (by omega)⟩) (by simp; omega)
      rw [show sHttps ++ 58 :: 47 :: 47 :: ((T1 ++ tCom) ++ ((58 :: T3) ++ [47])) = J3.data.toList by rw [J3l]; simp [sHttps, sHttp, tCom, tCOM]] at this
      exact urlV_of this.1 this.2
    have K1 := hid (fun w hg => lawOne_at C2 D4 ⟨#[104, 116, 116, 112, 115, 58, 47, 47, 112, 47]⟩ 0 true w hg (by omega) (by omega) (by decide) (by
      rw [lawOne_ok u1 page_url]
      have h := sh_1 T1 T2 hT1 hT2
      rw [C2l]
      simpa [tCom] using h))
    have K2 := hid (fun w hg => lawOne_at C2 E2 ⟨#[104, 116, 116, 112, 115, 58, 47, 47, 112, 47]⟩ 0 false w hg (by omega) (by omega) (by decide) (by
      rw [lawOne_ok u2 page_url]
      have h := sh_2 T1 hT1
      rw [C2l]
      simpa [tCom] using h))
    have K3 := hid (fun w hg => lawOne_at F1 G1 ⟨#[104, 116, 116, 112, 58, 47, 47, 112, 47]⟩ 0 true w hg (by omega) (by omega) (by decide) (by
      rw [lawOne_ok u3 pageH_url]
      have h := sh_3 T1 hT1
      rw [F1l]
      simpa [tCom] using h))
    have K4 := hid (fun w hg => lawOne_at F1 H2 ⟨#[104, 116, 116, 112, 115, 58, 47, 47, 112, 47]⟩ 0 false w hg (by omega) (by omega) (by decide) (by
      rw [lawOne_ok u4 page_url]
      have h := sh_4 T1 hT1
      rw [F1l]
      simpa [tCom] using h))
    have K5 := hid (fun w hg => lawOne_at I2 J3 ⟨#[104, 116, 116, 112, 115, 58, 47, 47, 112, 47]⟩ 0 true w hg (by omega) (by omega) (by decide) (by
      rw [lawOne_ok u5 page_url]
      have h := sh_5 T1 T3 N hT1 hT3 (by omega)
      rw [I2l]
      simpa [tCom] using h))
    have K6 := hid (fun w hg => lawOne_at Q1 J3 ⟨#[104, 116, 116, 112, 115, 58, 47, 47, 112, 47]⟩ 0 true w hg (by omega) (by omega) (by decide) (by
      rw [lawOne_ok u5 page_url]
      have h := sh_6 T1 (prt N) hT1
      rw [Q1l]
      simpa [tCom] using h))
    have KN := hid (fun w hg => known11_any w hg)
    clear C1l C2l D1l D2l D3l D4l E1l E2l F1l G1l H1l H2l I1l I2l J1l J2l J3l Q1l u1 u2 u3 u4 u5 hT1 hT2 hT3 hT1l hT2l hT3l Xl Yl Pl hN1 hN2
    go_wp2_with fail
    refine (K1.out _ HG.out).mono ?_
    rintro e w1 ⟨rfl, hb1⟩
    have HB1 := hid hb1
    clear hb1
    go_wp2_with fail
    refine (K2.out _ (HG.out.kept HB1.out)).mono ?_
    rintro e w2 ⟨rfl, hb2⟩
    have HB2 := hid (below2 HB1.out hb2)
    clear hb2
    go_wp2_with fail
    refine (K3.out _ (HG.out.kept HB2.out)).mono ?_
    rintro e w3 ⟨rfl, hb3⟩
    have HB3 := hid (below2 HB2.out hb3)
    clear hb3
    go_wp2_with fail
    refine (K4.out _ (HG.out.kept HB3.out)).mono ?_
    rintro e w4 ⟨rfl, hb4⟩
    have HB4 := hid (below2 HB3.out hb4)
    clear hb4
    go_wp2_with fail
    refine (K5.out _ (HG.out.kept HB4.out)).mono ?_
    rintro e w5 ⟨rfl, hb5⟩
    have HB5 := hid (below2 HB4.out hb5)
    clear hb5
    go_wp2_with fail
    refine (K6.out _ (HG.out.kept HB5.out)).mono ?_
    rintro e w6 ⟨rfl, hb6⟩
    have HB6 := hid (below2 HB5.out hb6)
    clear hb6
    go_wp2_with fail
    refine (KN.out _ (HG.out.kept HB6.out)).mono ?_
    rintro e w7 ⟨rfl, hb7⟩
    have HB7 := hid (below2 HB6.out hb7)
    clear hb7
    go_wp2
    go_ret
    exact ⟨rfl, HB7.out⟩
  · go_wp2_with fail
    clear h1 h2 hr
    refine (HD.out _).mono ?_
    rintro e w' ⟨T3, rfl, hT3, rfl⟩
    obtain ⟨P, hP⟩ : ∃ Z0 : ByteArray, Z0 = ⟨T3.toArray⟩ := ⟨_, rfl⟩
    have Pl : P.data.toList = T3 := by rw [hP]
    rw [← hP]
    have Xl := HXl.out
    have Yl := HYl.out
    obtain ⟨hT1, hT1l⟩ := HT1.out
    obtain ⟨hT2, hT2l⟩ := HT2.out
    obtain ⟨hN1, hN2⟩ := HN.out
    have hT3l : T3.length ≤ 40 := hT3.2.2.2
    have Xs : X.size ≤ 12 := by rw [Lib.size_eq, Xl]; exact hT1l
    have Ys : Y.size ≤ 12 := by rw [Lib.size_eq, Yl]; exact hT2l
    have Ps : P.size ≤ 40 := by rw [Lib.size_eq, Pl]; exact hT3l
    clear hP HXl HYl HT1 HT2 HN HD
    obtain ⟨C1, hC1⟩ : ∃ Z0 : ByteArray, (⟨#[42, 46]⟩ : ByteArray) ++ X = Z0 := ⟨_, rfl⟩
    have C1l : C1.data.toList = ([42, 46] ++ T1) := by rw [← hC1, ByteArray.data_append, Array.toList_append, show (⟨#[42, 46]⟩ : ByteArray).data.toList = [42, 46] from rfl, Xl]
    have C1s : C1.size ≤ 20 := by rw [Lib.size_eq, C1l]; simp [List.length_append]; omega
    obtain ⟨C2, hC2⟩ : ∃ Z0 : ByteArray, C1 ++ (⟨#[46, 99, 111, 109]⟩ : ByteArray) = Z0 := ⟨_, rfl⟩
    have C2l : C2.data.toList = (([42, 46] ++ T1) ++ [46, 99, 111, 109]) := by rw [← hC2, ByteArray.data_append, Array.toList_append, C1l, show (⟨#[46, 99, 111, 109]⟩ : ByteArray).data.toList = [46, 99, 111, 109] from rfl]
    have C2s : C2.size ≤ 30 := by rw [Lib.size_eq, C2l]; simp [List.length_append]; omega
    obtain ⟨D1, hD1⟩ : ∃ Z0 : ByteArray, (⟨#[104, 116, 116, 112, 115, 58, 47, 47]⟩ : ByteArray) ++ Y = Z0 := ⟨_, rfl⟩
    have D1l : D1.data.toList = ([104, 116, 116, 112, 115, 58, 47, 47] ++ T2) := by rw [← hD1, ByteArray.data_append, Array.toList_append, show (⟨#[104, 116, 116, 112, 115, 58, 47, 47]⟩ : ByteArray).data.toList = [104, 116, 116, 112, 115, 58, 47, 47] from rfl, Yl]
    have D1s : D1.size ≤ 30 := by rw [Lib.size_eq, D1l]; simp [List.length_append]; omega
    obtain ⟨D2, hD2⟩ : ∃ Z0 : ByteArray, D1 ++ (⟨#[46]⟩ : ByteArray) = Z0 := ⟨_, rfl⟩
    have D2l : D2.data.toList = (([104, 116, 116, 112, 115, 58, 47, 47] ++ T2) ++ [46]) := by rw [← hD2, ByteArray.data_append, Array.toList_append, D1l, show (⟨#[46]⟩ : ByteArray).data.toList = [46] from rfl]
    have D2s : D2.size ≤ 31 := by rw [Lib.size_eq, D2l]; simp [List.length_append]; omega
    obtain ⟨D3, hD3⟩ : ∃ Z0 : ByteArray, D2 ++ X = Z0 := ⟨_, rfl⟩
    have D3l : D3.data.toList = ((([104, 116, 116, 112, 115, 58, 47, 47] ++ T2) ++ [46]) ++ T1) := by rw [← hD3, ByteArray.data_append, Array.toList_append, D2l, Xl]
    have D3s : D3.size ≤ 50 := by rw [Lib.size_eq, D3l]; simp [List.length_append]; omega
    obtain ⟨D4, hD4⟩ : ∃ Z0 : ByteArray, D3 ++ (⟨#[46, 99, 111, 109, 47]⟩ : ByteArray) = Z0 := ⟨_, rfl⟩
    have D4l : D4.data.toList = (((([104, 116, 116, 112, 115, 58, 47, 47] ++ T2) ++ [46]) ++ T1) ++ [46, 99, 111, 109, 47]) := by rw [← hD4, ByteArray.data_append, Array.toList_append, D3l, show (⟨#[46, 99, 111, 109, 47]⟩ : ByteArray).data.toList = [46, 99, 111, 109, 47] from rfl]
    have D4s : D4.size ≤ 60 := by rw [Lib.size_eq, D4l]; simp [List.length_append]; omega
    obtain ⟨E1, hE1⟩ : ∃ Z0 : ByteArray, (⟨#[104, 116, 116, 112, 115, 58, 47, 47]⟩ : ByteArray) ++ X = Z0 := ⟨_, rfl⟩
    have E1l : E1.data.toList = ([104, 116, 116, 112, 115, 58, 47, 47] ++ T1) := by rw [← hE1, ByteArray.data_append, Array.toList_append, show (⟨#[104, 116, 116, 112, 115, 58, 47, 47]⟩ : ByteArray).data.toList = [104, 116, 116, 112, 115, 58, 47, 47] from rfl, Xl]
    have E1s : E1.size ≤ 30 := by rw [Lib.size_eq, E1l]; simp [List.length_append]; omega
    obtain ⟨E2, hE2⟩ : ∃ Z0 : ByteArray, E1 ++ (⟨#[46, 99, 111, 109, 47]⟩ : ByteArray) = Z0 := ⟨_, rfl⟩
    have E2l : E2.data.toList = (([104, 116, 116, 112, 115, 58, 47, 47] ++ T1) ++ [46, 99, 111, 109, 47]) := by rw [← hE2, ByteArray.data_append, Array.toList_append, E1l, show (⟨#[46, 99, 111, 109, 47]⟩ : ByteArray).data.toList = [46, 99, 111, 109, 47] from rfl]
    have E2s : E2.size ≤ 40 := by rw [Lib.size_eq, E2l]; simp [List.length_append]; omega
    obtain ⟨F1, hF1⟩ : ∃ Z0 : ByteArray, X ++ (⟨#[46, 99, 111, 109]⟩ : ByteArray) = Z0 := ⟨_, rfl⟩
    have F1l : F1.data.toList = (T1 ++ [46, 99, 111, 109]) := by rw [← hF1, ByteArray.data_append, Array.toList_append, Xl, show (⟨#[46, 99, 111, 109]⟩ : ByteArray).data.toList = [46, 99, 111, 109] from rfl]
    have F1s : F1.size ≤ 30 := by rw [Lib.size_eq, F1l]; simp [List.length_append]; omega
    obtain ⟨G1, hG1⟩ : ∃ Z0 : ByteArray, E1 ++ (⟨#[46, 67, 79, 77, 47]⟩ : ByteArray) = Z0 := ⟨_, rfl⟩
    have G1l : G1.data.toList = (([104, 116, 116, 112, 115, 58, 47, 47] ++ T1) ++ [46, 67, 79, 77, 47]) := by rw [← hG1, ByteArray.data_append, Array.toList_append, E1l, show (⟨#[46, 67, 79, 77, 47]⟩ : ByteArray).data.toList = [46, 67, 79, 77, 47] from rfl]
    have G1s : G1.size ≤ 40 := by rw [Lib.size_eq, G1l]; simp [List.length_append]; omega
    obtain ⟨H1, hH1⟩ : ∃ Z0 : ByteArray, (⟨#[104, 116, 116, 112, 58, 47, 47]⟩ : ByteArray) ++ X = Z0 := ⟨_, rfl⟩
    have H1l : H1.data.toList = ([104, 116, 116, 112, 58, 47, 47] ++ T1) := by rw [← hH1, ByteArray.data_append, Array.toList_append, show (⟨#[104, 116, 116, 112, 58, 47, 47]⟩ : ByteArray).data.toList = [104, 116, 116, 112, 58, 47, 47] from rfl, Xl]
    have H1s : H1.size ≤ 30 := by rw [Lib.size_eq, H1l]; simp [List.length_append]; omega
    obtain ⟨H2, hH2⟩ : ∃ Z0 : ByteArray, H1 ++ (⟨#[46, 99, 111, 109, 47]⟩ : ByteArray) = Z0 := ⟨_, rfl⟩
    have H2l : H2.data.toList = (([104, 116, 116, 112, 58, 47, 47] ++ T1) ++ [46, 99, 111, 109, 47]) := by rw [← hH2, ByteArray.data_append, Array.toList_append, H1l, show (⟨#[46, 99, 111, 109, 47]⟩ : ByteArray).data.toList = [46, 99, 111, 109, 47] from rfl]
    have H2s : H2.size ≤ 40 := by rw [Lib.size_eq, H2l]; simp [List.length_append]; omega
    obtain ⟨I1, hI1⟩ : ∃ Z0 : ByteArray, X ++ (⟨#[46, 99, 111, 109, 58]⟩ : ByteArray) = Z0 := ⟨_, rfl⟩
    have I1l : I1.data.toList = (T1 ++ [46, 99, 111, 109, 58]) := by rw [← hI1, ByteArray.data_append, Array.toList_append, Xl, show (⟨#[46, 99, 111, 109, 58]⟩ : ByteArray).data.toList = [46, 99, 111, 109, 58] from rfl]
    have I1s : I1.size ≤ 30 := by rw [Lib.size_eq, I1l]; simp [List.length_append]; omega
    obtain ⟨I2, hI2⟩ : ∃ Z0 : ByteArray, I1 ++ P = Z0 := ⟨_, rfl⟩
    have I2l : I2.data.toList = ((T1 ++ [46, 99, 111, 109, 58]) ++ T3) := by rw [← hI2, ByteArray.data_append, Array.toList_append, I1l, Pl]
    have I2s : I2.size ≤ 80 := by rw [Lib.size_eq, I2l]; simp [List.length_append]; omega
    obtain ⟨J1, hJ1⟩ : ∃ Z0 : ByteArray, E1 ++ (⟨#[46, 99, 111, 109, 58]⟩ : ByteArray) = Z0 := ⟨_, rfl⟩
    have J1l : J1.data.toList = (([104, 116, 116, 112, 115, 58, 47, 47] ++ T1) ++ [46, 99, 111, 109, 58]) := by rw [← hJ1, ByteArray.data_append, Array.toList_append, E1l, show (⟨#[46, 99, 111, 109, 58]⟩ : ByteArray).data.toList = [46, 99, 111, 109, 58] from rfl]
    have J1s : J1.size ≤ 40 := by rw [Lib.size_eq, J1l]; simp [List.length_append]; omega
    obtain ⟨J2, hJ2⟩ : ∃ Z0 : ByteArray, J1 ++ P = Z0 := ⟨_, rfl⟩
    have J2l : J2.data.toList = ((([104, 116, 116, 112, 115, 58, 47, 47] ++ T1) ++ [46, 99, 111, 109, 58]) ++ T3) := by rw [← hJ2, ByteArray.data_append, Array.toList_append, J1l, Pl]
    have J2s : J2.size ≤ 90 := by rw [Lib.size_eq, J2l]; simp [List.length_append]; omega
    obtain ⟨J3, hJ3⟩ : ∃ Z0 : ByteArray, J2 ++ (⟨#[47]⟩ : ByteArray) = Z0 := ⟨_, rfl⟩
    have J3l : J3.data.toList = (((([104, 116, 116, 112, 115, 58, 47, 47] ++ T1) ++ [46, 99, 111, 109, 58]) ++ T3) ++ [47]) := by rw [← hJ3, ByteArray.data_append, Array.toList_append, J2l, show (⟨#[47]⟩ : ByteArray).data.toList = [47] from rfl]
    have J3s : J3.size ≤ 91 := by rw [Lib.size_eq, J3l]; simp [List.length_append]; omega
    obtain ⟨Q1, hQ1⟩ : ∃ Z0 : ByteArray, X ++ (⟨#[46, 99, 111, 109, 58, 42]⟩ : ByteArray) = Z0 := ⟨_, rfl⟩
    have Q1l : Q1.data.toList = (T1 ++ [46, 99, 111, 109, 58, 42]) := by rw [← hQ1, ByteArray.data_append, Array.toList_append, Xl, show (⟨#[46, 99, 111, 109, 58, 42]⟩ : ByteArray).data.toList = [46, 99, 111, 109, 58, 42] from rfl]
    have Q1s : Q1.size ≤ 30 := by rw [Lib.size_eq, Q1l]; simp [List.length_append]; omega
    have u1 : urlV D4.data.toList = .ok (wAdr sHttps ((T2 ++ 46 :: T1) ++ tCom) (-1) [[]]) := by
      have := com_url sHttps (T2 ++ 46 :: T1) tCom [] (-1) (.inr rfl) (two_hn hT1 hT2) (by simp) (.inl rfl) (.inl ⟨rfl, rfl⟩) (by simp; omega)
      rw [show sHttps ++ 58 :: 47 :: 47 :: (((T2 ++ 46 :: T1) ++ tCom) ++ ([] ++ [47])) = D4.data.toList by rw [D4l]; simp [sHttps, sHttp, tCom, tCOM]] at this
      exact urlV_of this.1 this.2
    have u2 : urlV E2.data.toList = .ok (wAdr sHttps (T1 ++ tCom) (-1) [[]]) := by
      have := com_url sHttps T1 tCom [] (-1) (.inr rfl) (wr_hn hT1) hT1.ne (.inl rfl) (.inl ⟨rfl, rfl⟩) (by simp; omega)
      rw [show sHttps ++ 58 :: 47 :: 47 :: ((T1 ++ tCom) ++ ([] ++ [47])) = E2.data.toList by rw [E2l]; simp [sHttps, sHttp, tCom, tCOM]] at this
      exact urlV_of this.1 this.2
    have u3 : urlV G1.data.toList = .ok (wAdr sHttps (T1 ++ tCom) (-1) [[]]) := by
      have := com_url sHttps T1 tCOM [] (-1) (.inr rfl) (wr_hn hT1) hT1.ne (.inr rfl) (.inl ⟨rfl, rfl⟩) (by simp; omega)
      rw [show sHttps ++ 58 :: 47 :: 47 :: ((T1 ++ tCOM) ++ ([] ++ [47])) = G1.data.toList by rw [G1l]; simp [sHttps, sHttp, tCom, tCOM]] at this
      exact urlV_of this.1 this.2
    have u4 : urlV H2.data.toList = .ok (wAdr sHttp (T1 ++ tCom) (-1) [[]]) := by
      have := com_url sHttp T1 tCom [] (-1) (.inl rfl) (wr_hn hT1) hT1.ne (.inl rfl) (.inl ⟨rfl, rfl⟩) (by simp; omega)
      rw [show sHttp ++ 58 :: 47 :: 47 :: ((T1 ++ tCom) ++ ([] ++ [47])) = H2.data.toList by rw [H2l]; simp [sHttps, sHttp, tCom, tCOM]] at this
      exact urlV_of this.1 this.2
    have u5 : urlV J3.data.toList = .ok (wAdr sHttps (T1 ++ tCom) (prt 1) [[]]) := by
      have := com_url sHttps T1 tCom (58 :: T3) (prt 1) (.inr rfl) (wr_hn hT1) hT1.ne (.inl rfl) (.inr ⟨T3, rfl, List.all_eq_true.1 hT3.2.1, dec_port hT3 (by omega)⟩) (by simp; omega)
      rw [show sHttps ++ 58 :: 47 :: 47 :: ((T1 ++ tCom) ++ ((58 :: T3) ++ [47])) = J3.data.toList by rw [J3l]; simp [sHttps, sHttp, tCom, tCOM]] at this
      exact urlV_of this.1 this.2
    have K1 := hid (fun w hg => lawOne_at C2 D4 ⟨#[104, 116, 116, 112, 115, 58, 47, 47, 112, 47]⟩ 0 true w hg (by omega) (by omega) (by decide) (by
      rw [lawOne_ok u1 page_url]
      have h := sh_1 T1 T2 hT1 hT2
      rw [C2l]
      simpa [tCom] using h))
    have K2 := hid (fun w hg => lawOne_at C2 E2 ⟨#[104, 116, 116, 112, 115, 58, 47, 47, 112, 47]⟩ 0 false w hg (by omega) (by omega) (by decide) (by
      rw [lawOne_ok u2 page_url]
      have h := sh_2 T1 hT1
      rw [C2l]
      simpa [tCom] using h))
    have K3 := hid (fun w hg => lawOne_at F1 G1 ⟨#[104, 116, 116, 112, 58, 47, 47, 112, 47]⟩ 0 true w hg (by omega) (by omega) (by decide) (by
      rw [lawOne_ok u3 pageH_url]
      have h := sh_3 T1 hT1
      rw [F1l]
      simpa [tCom] using h))
    have K4 := hid (fun w hg => lawOne_at F1 H2 ⟨#[104, 116, 116, 112, 115, 58, 47, 47, 112, 47]⟩ 0 false w hg (by omega) (by omega) (by decide) (by
      rw [lawOne_ok u4 page_url]
      have h := sh_4 T1 hT1
      rw [F1l]
      simpa [tCom] using h))
    have K5 := hid (fun w hg => lawOne_at I2 J3 ⟨#[104, 116, 116, 112, 115, 58, 47, 47, 112, 47]⟩ 0 true w hg (by omega) (by omega) (by decide) (by
      rw [lawOne_ok u5 page_url]
      have h := sh_5 T1 T3 1 hT1 hT3 (by omega)
      rw [I2l]
      simpa [tCom] using h))
    have K6 := hid (fun w hg => lawOne_at Q1 J3 ⟨#[104, 116, 116, 112, 115, 58, 47, 47, 112, 47]⟩ 0 true w hg (by omega) (by omega) (by decide) (by
      rw [lawOne_ok u5 page_url]
      have h := sh_6 T1 (prt 1) hT1
      rw [Q1l]
      simpa [tCom] using h))
    have KN := hid (fun w hg => known11_any w hg)
    clear C1l C2l D1l D2l D3l D4l E1l E2l F1l G1l H1l H2l I1l I2l J1l J2l J3l Q1l u1 u2 u3 u4 u5 hT1 hT2 hT3 hT1l hT2l hT3l Xl Yl Pl hN1 hN2
    go_wp2_with fail
    refine (K1.out _ HG.out).mono ?_
    rintro e w1 ⟨rfl, hb1⟩
    have HB1 := hid hb1
    clear hb1
    go_wp2_with fail
    refine (K2.out _ (HG.out.kept HB1.out)).mono ?_
    rintro e w2 ⟨rfl, hb2⟩
    have HB2 := hid (below2 HB1.out hb2)
    clear hb2
    go_wp2_with fail
    refine (K3.out _ (HG.out.kept HB2.out)).mono ?_
    rintro e w3 ⟨rfl, hb3⟩
    have HB3 := hid (below2 HB2.out hb3)
    clear hb3
    go_wp2_with fail
    refine (K4.out _ (HG.out.kept HB3.out)).mono ?_
    rintro e w4 ⟨rfl, hb4⟩
    have HB4 := hid (below2 HB3.out hb4)
    clear hb4
    go_wp2_with fail
    refine (K5.out _ (HG.out.kept HB4.out)).mono ?_
    rintro e w5 ⟨rfl, hb5⟩
    have HB5 := hid (below2 HB4.out hb5)
    clear hb5
    go_wp2_with fail
    refine (K6.out _ (HG.out.kept HB5.out)).mono ?_
    rintro e w6 ⟨rfl, hb6⟩
    have HB6 := hid (below2 HB5.out hb6)
    clear hb6
    go_wp2_with fail
    refine (KN.out _ (HG.out.kept HB6.out)).mono ?_
    rintro e w7 ⟨rfl, hb7⟩
    have HB7 := hid (below2 HB6.out hb7)
    clear hb7
    go_wp2
    go_ret
    exact ⟨rfl, HB7.out⟩

end Go.Proofs.YtkhpemjjholneaaGreatDoor
