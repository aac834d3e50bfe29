/-
  Walks and plain facts that this claim leans on, put together out of 1 texts: Ern.
-/
import Derived.Test.YtdnginibhpnefaaGreatDoorProg
import Derived.Test.YtdnginibhpnefaaGreatDoorQa1
import Derived.Test.YtdnginibhpnefaaGreatDoorQa2
import Derived.Test.YtdnginibhpnefaaGreatDoorQa3
import Derived.Test.YtdnginibhpnefaaGreatDoorQa4
import Derived.Test.YtdnginibhpnefaaGreatDoorQa5
import Derived.Test.YtdnginibhpnefaaGreatDoorQa6
import Derived.Test.YtdnginibhpnefaaGreatDoorQa7
import Derived.Test.YtdnginibhpnefaaGreatDoorQa8
import Derived.Test.YtdnginibhpnefaaGreatDoorQa9
import Derived.Test.YtdnginibhpnefaaGreatDoorQa10
import Derived.Test.YtdnginibhpnefaaGreatDoorQa11
import Derived.Test.YtdnginibhpnefaaGreatDoorQa12
import Derived.Test.YtdnginibhpnefaaGreatDoorQa13
import Derived.Test.YtdnginibhpnefaaGreatDoorQa14
import Derived.Test.YtdnginibhpnefaaGreatDoorQa15
import Derived.Test.YtdnginibhpnefaaGreatDoorQa16
import Derived.Test.YtdnginibhpnefaaGreatDoorQa17
import Derived.Test.YtdnginibhpnefaaGreatDoorQa18
import Derived.Test.YtdnginibhpnefaaGreatDoorQa19
import Derived.Test.YtdnginibhpnefaaGreatDoorQa20
import Derived.Test.YtdnginibhpnefaaGreatDoorQa21
import Derived.Test.YtdnginibhpnefaaGreatDoorQa22
import Derived.Test.YtdnginibhpnefaaGreatDoorQa23
import Derived.Test.YtdnginibhpnefaaGreatDoorQa24
import Derived.Test.YtdnginibhpnefaaGreatDoorQa25
import Derived.Test.YtdnginibhpnefaaGreatDoorQa26
import Derived.Test.YtdnginibhpnefaaGreatDoorQa27
import Derived.Test.YtdnginibhpnefaaGreatDoorQa28
import Derived.Test.YtdnginibhpnefaaGreatDoorQa29
import Derived.Test.YtdnginibhpnefaaGreatDoorQa30
import Derived.Test.YtdnginibhpnefaaGreatDoorQa31
import Derived.Test.YtdnginibhpnefaaGreatDoorQa32
import Derived.Test.YtdnginibhpnefaaGreatDoorQa33
import Derived.Laws.BitsAllLaws
import Derived.WalkMore
import Derived.Deep.LoopGhost
import Derived.Deep.RegionHeld
import Derived.Laws.CopyOwn
import Derived.Laws.ResultCell
import Derived.Deep.MidRow
import Derived.WalkKit
import Derived.WalkSpells
import Derived.WalkLawsBesides
import Derived.Lib.FrozenHead2
import Derived.Lib.OthersKept
import Derived.Lib.Builder
import Derived.Deep.RegionLaw
import Derived.Shelf.Strings.Builder1
import Derived.Shelf.Strings.Builder2
import Derived.Shelf.Strings.OnBuilder
import Derived.Shelf.Strings.Trim
import Derived.Shelf.Small.Utf8
import Derived.Shelf.Small.Strs
import Derived.Shelf.Small.Wraps
import Derived.Shelf.Strings.BuilderF
import Derived.Shelf.Strings.BuilderK
import Derived.Shelf.Strings.Builder2Cap
import Derived.Shelf.Strconv.Itoa0
import Derived.Shelf.Strconv.Itoa1
import Derived.Shelf.LaysM
import Derived.Shelf.Strconv.Itoa2
import Derived.Shelf.Strconv.Itoa3
import Derived.Shelf.Strings.Search1
import Derived.Shelf.Strings.Search2
import Derived.Shelf.Strings.Search3
import Derived.Shelf.Strings.Cut
import Derived.Shelf.Strings.Count
import Derived.Shelf.Strings.Shaped
import Derived.Shelf.Strings.LastIndex
import Derived.Shelf.Strings.Prefix
import Derived.Shelf.Strings.Split
import Derived.Shelf.Strings.Replace
import Derived.Shelf.Strings.Runes
import Derived.Shelf.Strings.IndexAny
import Derived.Shelf.Strings.AsciiSet
import Derived.Shelf.Strings.IndexAnyAll
import Derived.Shelf.Unicode.DecodeSlow
import Derived.Ground.Names2Prog
import Derived.Shelf.Slices.Clone
import Derived.Ground.SlgnProg
import Derived.Shelf.SlicesE.Clone
import Derived.Lib.LastIndexByte
import Derived.Lib.AppendStr
import Derived.Scope
import Derived.ScopeJumps
import Derived.Laws.AppendOwnNone
import Derived.Laws.OwnMore
import Derived.Below
import Derived.WalkSmall
import Derived.Lib.SmallJoins
import Derived.Laws.AppendOwn
import Derived.OwnWalk
import Derived.Deep.Cut
import Derived.Deep.QuietTactic
import Derived.BigQuiet
import Derived.BigRegion
import Derived.Lib.Strings
import Derived.Lib.UnsafeStr
import Derived.Laws.IdiomStrings
import Derived.LoopN
import Derived.Deep.RegionWith
import Derived.Lib.IndexAny
import Derived.Lib.Replace
import Derived.Lib.TrimByte
import Derived.Lib.ItoaNum
import Derived.Laws.BytesString
import Derived.Lib.AppendIntMem
import Derived.Lib.BufferRead
import Derived.Lib.RuneBytes
import Derived.Laws.RangeAny
import Derived.Lib.DecodeN
import Derived.RegionTactic
import Derived.Deep.WholeRow
import Derived.Lib.SlTrimSet
import Derived.Lib.Join
import Derived.Lib.IndexMore
import Derived.Lib.BufferMore
import Derived.Lib.Bytealg
set_option linter.unusedSimpArgs false
set_option linter.unusedVariables false

namespace Go.Proofs.YtdnginibhpnefaaGreatDoor
open Go.RowKit

/-- Slashes, by turns of either kind. -/
def slT (back : Bool) : Nat → List UInt8
  | 0 => []
  | k + 1 => slT back k ++ [if back && k % 2 == 0 then 92 else 47]

theorem slT_len (back : Bool) : ∀ k, (slT back k).length = k
  | 0 => rfl
  | k + 1 => by rw [slT, List.length_append, slT_len back k]; rfl

theorem slT_mem (back : Bool) : ∀ k, ∀ c ∈ slT back k, c = 47 ∨ c = 92
  | 0 => fun c hc => by simp [slT] at hc
  | k + 1 => fun c hc => by
    rw [slT] at hc
    rcases List.mem_append.1 hc with hc | hc
    · exact slT_mem back k c hc
    · obtain rfl := List.mem_singleton.1 hc
      split
      · exact .inr rfl
      · exact .inl rfl

theorem slT_a : ∀ back : Bool, ∀ N < 7, (textL (([97, 58] ++ slT back N) ++ [104]) == [97, 58, 47, 47, 104]) = (slT back N == [47, 47]) := by decide +kernel

theorem ba_one3 (T : List UInt8) (c : UInt8) : (⟨T.toArray⟩ : ByteArray) ++ ⟨#[c]⟩ = ⟨(T ++ [c]).toArray⟩ := by
  apply ByteArray.ext
  rw [ByteArray.data_append]
  simp

set_option maxHeartbeats 4000000 in
set_option maxRecDepth 100000 in
theorem urlSlashes_walk (n : Int) (back : Bool) (b : ByteArray) (w : World) (hn : (Lit.int .i64 n).wf = true) (hb : b.size ≤ 140737488351232) (hg : Gd w) :
    Calls Tryz.prog 13 #[.int .i64 n, .bool back, .string b] w fun e w' => e = .returned (.bool true) ∧ Below w.heap.size w w' := by
  have HW2 := hid (fun w => letters3_any b w (by omega))
  have HG := hid hg
  have hn' := bounds_i64 hn
  have HUp := hid (fun w => upto3_any n 6 w hn'.1 hn'.2 (by omega) (by omega))
  obtain ⟨hk0, hk1⟩ := uptoI_bounds n 6 (by omega)
  obtain ⟨N, hN⟩ := Int.eq_ofNat_of_zero_le hk0
  rw [hN] at hk1 HUp
  have hN6 : N ≤ 6 := by omega
  clear hg hb hn hn' hN hk0 hk1
  go_enter Tryz.func13, Tryz.ntmps13
  go_wp2_with fail
  refine (HUp.out _).mono ?_
  rintro e w' ⟨rfl, rfl⟩
  go_wp2_with fail
  go_loop [7, 8] (fun sv iv => ∃ k : Nat, k ≤ N ∧ iv = .int .i64 k ∧ sv = .string ⟨(slT back k).toArray⟩) (fun sv iv => N - (intOf iv).toNat)
  case atStart => exact ⟨0, Nat.zero_le _, rfl, rfl⟩
  case round =>
    obtain ⟨k, hk, rfl, rfl⟩ := hrel
    have hl := slT_len back k
    have HL := hid hl
    have hsz : (slT back k).length ≤ 6 := by omega
    by_cases hlt : k < N
    · have hlt' : (k : Int) < (N : Int) := by omega
      have H92 := hid (ba_one3 (slT back k) 92)
      have H47 := hid (ba_one3 (slT back k) 47)
      clear hl
      cases back with
      | false =>
        go_wp2_with fail
        go_round
        case rel => exact ⟨k + 1, by omega, by go_num, by rw [H47.out]; rfl⟩
        case measure => simp [intOf]; omega
      | true =>
        by_cases h2 : k % 2 = 0
        · have hm : ((k : Int) % 2 == 0) = true := by rw [beq_iff_eq]; omega
          have hm' : ((k : Int) % 2) = 0 := by omega
          have hm2 : (k : Int).tmod 2 = 0 := by rw [Int.tmod_eq_emod_of_nonneg (by omega)]; omega
          have HE := hid (show slT true (k + 1) = slT true k ++ [92] by rw [slT]; simp [h2])
          clear h2
          go_wp2_with fail
          go_round
          case rel => exact ⟨k + 1, by omega, by go_num, by rw [H92.out, HE.out]⟩
          case measure => simp [intOf]; omega
        · have hm : ((k : Int) % 2 == 0) = false := by rw [beq_eq_false_iff_ne]; omega
          have hm' : ¬ ((k : Int) % 2) = 0 := by omega
          have HE := hid (show slT true (k + 1) = slT true k ++ [47] by rw [slT]; simp [h2])
          clear h2
          go_wp2_with fail
          go_round
          case rel => exact ⟨k + 1, by omega, by go_num, by rw [H47.out, HE.out]⟩
          case measure => simp [intOf]; omega
    · have hlt' : decide ((k : Int) < (N : Int)) = false := by rw [decide_eq_false_iff_not]; omega
      obtain rfl : k = N := by omega
      have HMem := hid (slT_mem back k)
      have HA := hid (slT_a back k (by omega))
      clear hl hlt
      obtain ⟨S, hS⟩ : ∃ Z0 : ByteArray, Z0 = ⟨(slT back k).toArray⟩ := ⟨_, rfl⟩
      have Sl : S.data.toList = slT back k := by rw [hS]
      rw [← hS]
      have HSl := hid Sl
      clear hS Sl
      go_wp2_with fail
      refine (HW2.out _).mono ?_
      rintro e w' ⟨T2, rfl, hT2, hT2l, rfl⟩
      obtain ⟨Y, hY⟩ : ∃ Z0 : ByteArray, Z0 = ⟨T2.toArray⟩ := ⟨_, rfl⟩
      have Yl : Y.data.toList = T2 := by rw [hY]
      rw [← hY]
      have Sl := HSl.out
      have Ss : S.size ≤ 6 := by rw [Lib.size_eq, Sl]; exact hsz
      have Ys : Y.size ≤ 20 := by rw [Lib.size_eq, Yl]; exact hT2l
      clear hY HW2 HSl
      obtain ⟨U1, hU1⟩ : ∃ Z0 : ByteArray, (⟨#[104, 116, 116, 112, 58]⟩ : ByteArray) ++ S = Z0 := ⟨_, rfl⟩
      have U1l : U1.data.toList = ([104, 116, 116, 112, 58] ++ slT back k) := by rw [← hU1, ByteArray.data_append, Array.toList_append, show (⟨#[104, 116, 116, 112, 58]⟩ : ByteArray).data.toList = [104, 116, 116, 112, 58] from rfl, Sl]
      have U1s : U1.size ≤ 20 := by rw [Lib.size_eq, U1l]; simp [List.length_append]; omega
      obtain ⟨U2, hU2⟩ : ∃ Z0 : ByteArray, U1 ++ (⟨#[104, 47]⟩ : ByteArray) = Z0 := ⟨_, rfl⟩
      have U2l : U2.data.toList = (([104, 116, 116, 112, 58] ++ slT back k) ++ [104, 47]) := by rw [← hU2, ByteArray.data_append, Array.toList_append, U1l, show (⟨#[104, 47]⟩ : ByteArray).data.toList = [104, 47] from rfl]
      have U2s : U2.size ≤ 24 := by rw [Lib.size_eq, U2l]; simp [List.length_append]; omega
      obtain ⟨U3, hU3⟩ : ∃ Z0 : ByteArray, U2 ++ Y = Z0 := ⟨_, rfl⟩
      have U3l : U3.data.toList = ((([104, 116, 116, 112, 58] ++ slT back k) ++ [104, 47]) ++ T2) := by rw [← hU3, ByteArray.data_append, Array.toList_append, U2l, Yl]
      have U3s : U3.size ≤ 50 := by rw [Lib.size_eq, U3l]; simp [List.length_append]; omega
      obtain ⟨R1, hR1⟩ : ∃ Z0 : ByteArray, (⟨#[104, 116, 116, 112, 58, 47, 47, 104, 47]⟩ : ByteArray) ++ Y = Z0 := ⟨_, rfl⟩
      have R1l : R1.data.toList = ([104, 116, 116, 112, 58, 47, 47, 104, 47] ++ T2) := by rw [← hR1, ByteArray.data_append, Array.toList_append, show (⟨#[104, 116, 116, 112, 58, 47, 47, 104, 47]⟩ : ByteArray).data.toList = [104, 116, 116, 112, 58, 47, 47, 104, 47] from rfl, Yl]
      have R1s : R1.size ≤ 50 := by rw [Lib.size_eq, R1l]; simp [List.length_append]; omega
      obtain ⟨V1, hV1⟩ : ∃ Z0 : ByteArray, (⟨#[104, 116, 116, 112, 115, 58]⟩ : ByteArray) ++ S = Z0 := ⟨_, rfl⟩
      have V1l : V1.data.toList = ([104, 116, 116, 112, 115, 58] ++ slT back k) := by rw [← hV1, ByteArray.data_append, Array.toList_append, show (⟨#[104, 116, 116, 112, 115, 58]⟩ : ByteArray).data.toList = [104, 116, 116, 112, 115, 58] from rfl, Sl]
      have V1s : V1.size ≤ 20 := by rw [Lib.size_eq, V1l]; simp [List.length_append]; omega
      obtain ⟨V2, hV2⟩ : ∃ Z0 : ByteArray, V1 ++ (⟨#[104, 92]⟩ : ByteArray) = Z0 := ⟨_, rfl⟩
      have V2l : V2.data.toList = (([104, 116, 116, 112, 115, 58] ++ slT back k) ++ [104, 92]) := by rw [← hV2, ByteArray.data_append, Array.toList_append, V1l, show (⟨#[104, 92]⟩ : ByteArray).data.toList = [104, 92] from rfl]
      have V2s : V2.size ≤ 24 := by rw [Lib.size_eq, V2l]; simp [List.length_append]; omega
      obtain ⟨V3, hV3⟩ : ∃ Z0 : ByteArray, V2 ++ Y = Z0 := ⟨_, rfl⟩
      have V3l : V3.data.toList = ((([104, 116, 116, 112, 115, 58] ++ slT back k) ++ [104, 92]) ++ T2) := by rw [← hV3, ByteArray.data_append, Array.toList_append, V2l, Yl]
      have V3s : V3.size ≤ 50 := by rw [Lib.size_eq, V3l]; simp [List.length_append]; omega
      obtain ⟨R2, hR2⟩ : ∃ Z0 : ByteArray, (⟨#[104, 116, 116, 112, 115, 58, 47, 47, 104, 47]⟩ : ByteArray) ++ Y = Z0 := ⟨_, rfl⟩
      have R2l : R2.data.toList = ([104, 116, 116, 112, 115, 58, 47, 47, 104, 47] ++ T2) := by rw [← hR2, ByteArray.data_append, Array.toList_append, show (⟨#[104, 116, 116, 112, 115, 58, 47, 47, 104, 47]⟩ : ByteArray).data.toList = [104, 116, 116, 112, 115, 58, 47, 47, 104, 47] from rfl, Yl]
      have R2s : R2.size ≤ 50 := by rw [Lib.size_eq, R2l]; simp [List.length_append]; omega
      obtain ⟨A1, hA1⟩ : ∃ Z0 : ByteArray, (⟨#[97, 58]⟩ : ByteArray) ++ S = Z0 := ⟨_, rfl⟩
      have A1l : A1.data.toList = ([97, 58] ++ slT back k) := by rw [← hA1, ByteArray.data_append, Array.toList_append, show (⟨#[97, 58]⟩ : ByteArray).data.toList = [97, 58] from rfl, Sl]
      have A1s : A1.size ≤ 20 := by rw [Lib.size_eq, A1l]; simp [List.length_append]; omega
      obtain ⟨A2, hA2⟩ : ∃ Z0 : ByteArray, A1 ++ (⟨#[104]⟩ : ByteArray) = Z0 := ⟨_, rfl⟩
      have A2l : A2.data.toList = (([97, 58] ++ slT back k) ++ [104]) := by rw [← hA2, ByteArray.data_append, Array.toList_append, A1l, show (⟨#[104]⟩ : ByteArray).data.toList = [104] from rfl]
      have A2s : A2.size ≤ 24 := by rw [Lib.size_eq, A2l]; simp [List.length_append]; omega
      have HU := hid (fun (Z : World) (hZ : Gd Z) => text3_at U3 R1 (by rw [U3l, R1l]; have := h_text_one sHttp (slT back k) T2 47 (.inl rfl) (.inl rfl) HMem.out hT2.lets (by rw [HL.out]; omega); simpa [sHttp, List.append_assoc] using this) (by omega) Z hZ)
      have HV := hid (fun (Z : World) (hZ : Gd Z) => text3_at V3 R2 (by rw [V3l, R2l]; have := h_text_one sHttps (slT back k) T2 92 (.inr rfl) (.inr (.inl rfl)) HMem.out hT2.lets (by rw [HL.out]; omega); simpa [sHttps, List.append_assoc] using this) (by omega) Z hZ)
      obtain ⟨TA, hTA⟩ : ∃ Z0 : ByteArray, Z0 = ⟨(textL A2.data.toList).toArray⟩ := ⟨_, rfl⟩
      have HAt := hid (fun (Z : World) (hZ : Gd Z) => text3_any A2 Z hZ (by omega))
      rw [← hTA] at HAt
      have HKn := hid (fun (Z : World) (hZ : Gd Z) => known3_any Z hZ)
      obtain ⟨q, hq⟩ : ∃ q, (S.toList == [47, 47]) = q := ⟨_, rfl⟩
      have hq2 : (TA.toList == [97, 58, 47, 47, 104]) = q := by
        rw [← hq, Lib.toList_data, Lib.toList_data, hTA, Sl, A2l]
        exact HA.out
      clear hT2 hTA Sl Yl U1l U2l U3l R1l V1l V2l V3l R2l A1l A2l hT2l HA HMem
      go_wp2_with fail
      refine (HU.out _ HG.out).mono ?_
      rintro e w1 ⟨rfl, hb1⟩
      have HB1 := hid hb1
      clear hb1
      go_wp2_with fail
      refine (HV.out _ (HG.out.kept HB1.out)).mono ?_
      rintro e w2 ⟨rfl, hb2⟩
      have HB2 := hid (below2 HB1.out hb2)
      clear hb2
      go_wp2_with fail
      refine (HAt.out _ (HG.out.kept HB2.out)).mono ?_
      rintro e w3 ⟨rfl, hb3⟩
      have HB3 := hid (below2 HB2.out hb3)
      clear hb3
      go_wp2_with fail
      refine (HKn.out _ (HG.out.kept HB3.out)).mono ?_
      rintro e w4 ⟨rfl, hb4⟩
      have HB4 := hid (below2 HB3.out hb4)
      clear hb4
      go_wp2
      go_ret
      exact ⟨rfl, HB4.out⟩

end Go.Proofs.YtdnginibhpnefaaGreatDoor
