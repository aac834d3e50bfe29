/-
  Walks and plain facts that this claim leans on, put together out of 1 texts: Erq.
-/
import Derived.Test.YtdnginibhpnefaaGreatDoorProg
import Derived.Test.YtdnginibhpnefaaGreatDoorQa1
import Derived.Test.YtdnginibhpnefaaGreatDoorQa2
import Derived.Test.YtdnginibhpnefaaGreatDoorQa3
import Derived.Test.YtdnginibhpnefaaGreatDoorQa4
import Derived.Test.YtdnginibhpnefaaGreatDoorQa5
import Derived.Test.YtdnginibhpnefaaGreatDoorQa6
import Derived.Test.YtdnginibhpnefaaGreatDoorQa7
import Derived.Test.YtdnginibhpnefaaGreatDoorQa8
import Derived.Test.YtdnginibhpnefaaGreatDoorQa9
import Derived.Test.YtdnginibhpnefaaGreatDoorQa10
import Derived.Test.YtdnginibhpnefaaGreatDoorQa11
import Derived.Test.YtdnginibhpnefaaGreatDoorQa12
import Derived.Test.YtdnginibhpnefaaGreatDoorQa13
import Derived.Test.YtdnginibhpnefaaGreatDoorQa14
import Derived.Test.YtdnginibhpnefaaGreatDoorQa15
import Derived.Test.YtdnginibhpnefaaGreatDoorQa16
import Derived.Test.YtdnginibhpnefaaGreatDoorQa17
import Derived.Test.YtdnginibhpnefaaGreatDoorQa18
import Derived.Test.YtdnginibhpnefaaGreatDoorQa19
import Derived.Test.YtdnginibhpnefaaGreatDoorQa20
import Derived.Test.YtdnginibhpnefaaGreatDoorQa21
import Derived.Test.YtdnginibhpnefaaGreatDoorQa22
import Derived.Test.YtdnginibhpnefaaGreatDoorQa23
import Derived.Test.YtdnginibhpnefaaGreatDoorQa24
import Derived.Test.YtdnginibhpnefaaGreatDoorQa25
import Derived.Test.YtdnginibhpnefaaGreatDoorQa26
import Derived.Test.YtdnginibhpnefaaGreatDoorQa27
import Derived.Test.YtdnginibhpnefaaGreatDoorQa28
import Derived.Test.YtdnginibhpnefaaGreatDoorQa29
import Derived.Test.YtdnginibhpnefaaGreatDoorQa30
import Derived.Test.YtdnginibhpnefaaGreatDoorQa31
import Derived.Test.YtdnginibhpnefaaGreatDoorQa32
import Derived.Test.YtdnginibhpnefaaGreatDoorQa33
import Derived.Test.YtdnginibhpnefaaGreatDoorQq1
import Derived.Laws.RangeAny
import Derived.Lib.DecodeN
import Derived.Lib.OthersKept
import Derived.Deep.LoopGhost
import Derived.RegionTactic
import Derived.Deep.RegionWith
import Derived.Deep.QuietTactic
import Derived.BigQuiet
import Derived.Deep.RegionHeld
import Derived.Laws.IdiomStrings
import Derived.Laws.BytesString
import Derived.Laws.AppendOwnNone
import Derived.WalkKit
import Derived.WalkSpells
import Derived.WalkLawsBesides
import Derived.Scope
import Derived.ScopeJumps
import Derived.WalkMore
import Derived.OwnWalk
import Derived.Lib.Bytealg
import Derived.Laws.CopyOwn
import Derived.Laws.ResultCell
import Derived.Deep.MidRow
import Derived.Laws.BitsAllLaws
import Derived.Deep.Cut
import Derived.Deep.CutRange
import Derived.BigRegion
import Derived.LoopN
import Derived.Lib.IndexAny
import Derived.Lib.Replace
import Derived.Lib.TrimByte
import Derived.Lib.ItoaNum
import Derived.Deep.RegionLaw
import Derived.Deep.WholeRow
import Derived.Lib.AppendStr
import Derived.Lib.Strings
import Derived.Lib.UnsafeStr
import Derived.Laws.AppendOwn
import Derived.Lib.BufferMore
import Derived.Lib.AppendIntMem
import Derived.Lib.SmallJoins
import Derived.WalkSmall
import Derived.Shelf.Strings.Builder1
import Derived.Shelf.Strings.Builder2
import Derived.Shelf.Strings.OnBuilder
import Derived.Shelf.Strings.Trim
import Derived.Shelf.Small.Utf8
import Derived.Shelf.Small.Strs
import Derived.Shelf.Small.Wraps
import Derived.Shelf.Strings.BuilderF
import Derived.Shelf.Strings.BuilderK
import Derived.Shelf.Strings.Builder2Cap
import Derived.Shelf.Strconv.Itoa0
import Derived.Shelf.Strconv.Itoa1
import Derived.Shelf.LaysM
import Derived.Shelf.Strconv.Itoa2
import Derived.Shelf.Strconv.Itoa3
import Derived.Shelf.Strings.Search1
import Derived.Shelf.Strings.Search2
import Derived.Shelf.Strings.Search3
import Derived.Shelf.Strings.Cut
import Derived.Shelf.Strings.Count
import Derived.Shelf.Strings.Shaped
import Derived.Shelf.Strings.LastIndex
import Derived.Shelf.Strings.Prefix
import Derived.Shelf.Strings.Split
import Derived.Shelf.Strings.Replace
import Derived.Shelf.Strings.Runes
import Derived.Shelf.Strings.IndexAny
import Derived.Shelf.Strings.AsciiSet
import Derived.Shelf.Strings.IndexAnyAll
import Derived.Shelf.Unicode.DecodeSlow
import Derived.Ground.Names2Prog
import Derived.Shelf.Slices.Clone
import Derived.Ground.SlgnProg
import Derived.Shelf.SlicesE.Clone
import Derived.Lib.FrozenHead2
import Derived.Lib.Builder
import Derived.Lib.BufferRead
import Derived.Lib.RuneBytes
import Derived.Lib.IndexMore
import Derived.Lib.Join
import Derived.Laws.OwnMore
import Derived.Lib.LastIndexByte
import Derived.Lib.SlTrimSet
import Derived.Below
set_option linter.unusedSimpArgs false
set_option linter.unusedVariables false

namespace Go.Proofs.YtdnginibhpnefaaGreatDoor
open Go.RowKit

theorem ext_list (s : ByteArray) (k : Nat) : (s.extract 0 k).data.toList = s.data.toList.take k := by
  simp

set_option maxHeartbeats 16000000 in
set_option maxRecDepth 100000 in
theorem urlFragments_walk (s f : ByteArray) (w : World) (hs : s.size ≤ 140737488351232) (hf : f.size ≤ 140737488351232) (hg : Gd w) :
    Calls Tryz.prog 11 #[.string s, .string f] w fun e w' => e = .returned (.bool true) ∧ Below w.heap.size w w' := by
  obtain ⟨S0, hS0⟩ : ∃ F : ByteArray, ⟨(s.data.toList.take 200).toArray⟩ = F := ⟨_, rfl⟩
  have hS0s : S0.size ≤ 200 := by rw [← hS0, Lib.size_eq]; show (s.data.toList.take 200).length ≤ _; rw [List.length_take]; omega
  obtain ⟨F0, hF0⟩ : ∃ F : ByteArray, ⟨(f.data.toList.take 50).toArray⟩ = F := ⟨_, rfl⟩
  have hF0s : F0.size ≤ 50 := by rw [← hF0, Lib.size_eq]; show (f.data.toList.take 50).length ≤ _; rw [List.length_take]; omega
  have HFs := hid (fun w => few_any s 200 w (by omega) (by omega))
  have HFf := hid (fun w => few_any f 50 w (by omega) (by omega))
  rw [hS0] at HFs
  rw [hF0] at HFf
  have HKn := hid (fun (Z : World) (hZ : Gd Z) => known3_any Z hZ)
  have HG := hid hg
  clear hg hS0 hF0 hs hf
  go_enter Tryz.func11, Tryz.ntmps11
  go_wp2_with fail
  refine (HFs.out _).mono ?_
  rintro e w' ⟨rfl, rfl⟩
  go_wp2_with fail
  refine (HFf.out _).mono ?_
  rintro e w' ⟨rfl, rfl⟩
  go_wp2_with fail
  go_loop [0, 5] (fun sv iv => ∃ k : Nat, k ≤ S0.size ∧ iv = .int .i64 k ∧ sv = .string S0 ∧ Hid (35 ∉ S0.data.toList.take k)) (fun sv iv => S0.size - (intOf iv).toNat)
  case atStart => exact ⟨0, Nat.zero_le _, rfl, rfl, hid (by simp)⟩
  case round =>
    obtain ⟨k, hk, rfl, rfl, hno0⟩ := hrel
    by_cases hlt : k < S0.size
    · have hlt' : (k : Int) < (S0.size : Int) := by omega
      by_cases hc : S0[k] = 35
      · have hc' : ((S0[k].toNat : Int) == 35) = true := by rw [hc]; rfl
        obtain ⟨SS, hSS⟩ : ∃ Z0 : ByteArray, S0.extract 0 k = Z0 := ⟨_, rfl⟩
        have hno : 35 ∉ SS.data.toList := by rw [← hSS, ext_list]; exact hno0.out
        have hSs : SS.size ≤ 200 := by rw [← hSS]; simp; omega
        have hkz : k ≤ S0.size := by omega
        clear hc hno0
        obtain ⟨X1, hX1⟩ : ∃ Z0 : ByteArray, SS ++ (⟨#[35]⟩ : ByteArray) = Z0 := ⟨_, rfl⟩
        have X1l : X1.data.toList = SS.data.toList ++ [35] := by rw [← hX1, ByteArray.data_append, Array.toList_append]
        have X1s : X1.size ≤ 201 := by rw [Lib.size_eq, X1l, List.length_append, ← Lib.size_eq]; simp; omega
        obtain ⟨X2, hX2⟩ : ∃ Z0 : ByteArray, X1 ++ F0 = Z0 := ⟨_, rfl⟩
        have X2l : X2.data.toList = SS.data.toList ++ 35 :: F0.data.toList := by rw [← hX2, ByteArray.data_append, Array.toList_append, X1l]; simp
        have X2s : X2.size ≤ 251 := by rw [Lib.size_eq, X2l, List.length_append, List.length_cons, ← Lib.size_eq, ← Lib.size_eq]; omega
        obtain ⟨X3, hX3⟩ : ∃ Z0 : ByteArray, (⟨#[35]⟩ : ByteArray) ++ F0 = Z0 := ⟨_, rfl⟩
        have X3l : X3.data.toList = 35 :: F0.data.toList := by rw [← hX3, ByteArray.data_append, Array.toList_append]; rfl
        have X3s : X3.size ≤ 51 := by rw [Lib.size_eq, X3l, List.length_cons, ← Lib.size_eq]; omega
        obtain ⟨FF, hFF⟩ : ∃ l, pct 2 (clR F0.data.toList) = l := ⟨_, rfl⟩
        have hRf := read_frag SS.data.toList F0.data.toList hno (by rw [List.length_append, List.length_cons, ← Lib.size_eq, ← Lib.size_eq]; omega)
        rw [← X2l, ← X1l, hFF] at hRf
        have HPu := hid (fun (Z : World) (hZ : Gd Z) => uparse_any X2 Z hZ (by omega))
        have HPv := hid (fun (Z : World) (hZ : Gd Z) => uparse_any X1 Z hZ (by omega))
        unfold ReadPost at HPu HPv
        cases hr : readV X1.data.toList none with
        | error y =>
          have hy0 := err_ne (read_err hr)
          have hy1 := err_bne (read_err hr)
          rw [hr] at hRf HPv
          have hRf' : readV X2.data.toList none = .error y := hRf
          rw [hRf'] at HPu
          simp only [numOf] at HPu HPv
          obtain ⟨A, hA⟩ : ∃ A, adrOf (.error y) = A := ⟨_, rfl⟩
          rw [hA] at HPu HPv
          clear hr hRf hRf' hA X1l X2l X3l hFF hno
          go_wp2_with fail
          refine (HPu.out _ HG.out).mono ?_
          rintro e w1 ⟨pv, rfl, hown, hb1⟩
          obtain ⟨ua, un, uc, rfl⟩ := own_sl hown
          obtain ⟨u0, u1, u2, u3, u4, u5, u6, u8, u9, u10, u11, hxu⟩ := adr_cells A ua un uc
          have hvu : adrVal A (.slice ua un uc) = .agg #[.string u0, .string u1, .string u2, .string u3, .bool u4, .int .i64 u5, .bool u6, .slice ua un uc, .string u8, .string u9, .bool u10, .bool u11] := by unfold adrVal; rw [hxu]
          rw [hvu]
          obtain ⟨W2, hW2⟩ : ∃ X, (w1.alloc (.cells #[.string u0, .string u1, .string u2, .string u3, .bool u4, .int .i64 u5, .bool u6, .slice ua un uc, .string u8, .string u9, .bool u10, .bool u11] 24)) = X := ⟨_, rfl⟩
          have hbW2 : Below w1.heap.size w1 W2 := by rw [← hW2]; exact (Below.refl _ w1).alloc (Nat.le_refl _) _
          have hsW2 : W2.heap.size = w1.heap.size + 1 := by rw [← hW2]; simp
          have hAW2 : AdrIn W2 w1.heap.size A (.slice ua un uc) := by
            unfold AdrIn
            rw [hxu, ← hW2]
            exact heap_alloc_new w1 _
          have HB2 := hid (below2 hb1 hbW2)
          clear hown hb1 hbW2 hAW2 hxu hvu
          go_wp2_with fail
          refine (HPv.out _ (HG.out.kept HB2.out)).mono ?_
          rintro e w3 ⟨qv, rfl, hown, hb3⟩
          obtain ⟨va, vn, vc, rfl⟩ := own_sl hown
          obtain ⟨v0, v1, v2, v3, v4, v5, v6, v8, v9, v10, v11, hxv⟩ := adr_cells A va vn vc
          have hvv : adrVal A (.slice va vn vc) = .agg #[.string v0, .string v1, .string v2, .string v3, .bool v4, .int .i64 v5, .bool v6, .slice va vn vc, .string v8, .string v9, .bool v10, .bool v11] := by unfold adrVal; rw [hxv]
          rw [hvv]
          obtain ⟨W4, hW4⟩ : ∃ X, (w3.alloc (.cells #[.string v0, .string v1, .string v2, .string v3, .bool v4, .int .i64 v5, .bool v6, .slice va vn vc, .string v8, .string v9, .bool v10, .bool v11] 24)) = X := ⟨_, rfl⟩
          have hbW4 : Below w3.heap.size w3 W4 := by rw [← hW4]; exact (Below.refl _ w3).alloc (Nat.le_refl _) _
          have hsW4 : W4.heap.size = w3.heap.size + 1 := by rw [← hW4]; simp
          have hAW4 : AdrIn W4 w3.heap.size A (.slice va vn vc) := by
            unfold AdrIn
            rw [hxv, ← hW4]
            exact heap_alloc_new w3 _
          have HB4 := hid (below2 HB2.out (below2 hb3 hbW4))
          clear hown hb3 hbW4 hAW4 hxv hvv
          go_wp2_with fail
          refine (HKn.out _ (HG.out.kept HB4.out)).mono ?_
          rintro e w5 ⟨rfl, hb5⟩
          go_wp2
          go_ret
          exact ⟨rfl, below2 HB4.out hb5⟩
        | ok V =>
          rw [hr] at hRf HPv
          obtain ⟨U, hU⟩ : ∃ U, setF FF V = U := ⟨_, rfl⟩
          have hRf' : readV X2.data.toList none = .ok U := by rw [hRf, ← hU]; rfl
          rw [hRf'] at HPu
          simp only [numOf, adrOf] at HPu HPv
          obtain ⟨hVf, hVh⟩ := read_hash hno (X1l ▸ hr)
          have hUh : U.hasFragment = true := by rw [← hU]; exact hVh
          have hJo : readV X3.data.toList (some V) = .ok U := by
            rw [X3l, join_frag _ V (by rw [← Lib.size_eq]; omega) hVh, hFF, hU]
          have hBB : bareV U = bareV V := by rw [← hU]; rfl
          have HFu := hid (parse_fine hRf')
          have HFv := hid (parse_fine hr)
          have HLu := hid (show U.path.length ≤ 100000 from slim_path (parse_slim hRf') (by omega))
          have HLv := hid (show V.path.length ≤ 100000 from slim_path (parse_slim hr) (by omega))
          have HJo := hid hJo
          have HBB := hid hBB
          have HV3 := hid (And.intro hVf (And.intro hVh hUh))
          clear hr hRf hRf' hU X1l X2l X3l hFF hno hJo hBB hVf hVh hUh
          go_wp2_with fail
          refine (HPu.out _ HG.out).mono ?_
          rintro e w1 ⟨pv, rfl, hown, hb1⟩
          obtain ⟨ua, un, uc, rfl⟩ := own_sl hown
          obtain ⟨u0, u1, u2, u3, u4, u5, u6, u8, u9, u10, u11, hxu, he0, he3, he4, he5, he6, he8, he9, he10, he11⟩ := adr_named3 U ua un uc
          obtain rfl : u11 = true := by rw [he11]; exact HV3.out.2.2
          clear he0 he3 he4 he5 he6 he8 he9 he10 he11
          have hvu : adrVal U (.slice ua un uc) = .agg #[.string u0, .string u1, .string u2, .string u3, .bool u4, .int .i64 u5, .bool u6, .slice ua un uc, .string u8, .string u9, .bool u10, .bool true] := by unfold adrVal; rw [hxu]
          rw [hvu]
          obtain ⟨W2, hW2⟩ : ∃ X, (w1.alloc (.cells #[.string u0, .string u1, .string u2, .string u3, .bool u4, .int .i64 u5, .bool u6, .slice ua un uc, .string u8, .string u9, .bool u10, .bool true] 24)) = X := ⟨_, rfl⟩
          have hbW2 : Below w1.heap.size w1 W2 := by rw [← hW2]; exact (Below.refl _ w1).alloc (Nat.le_refl _) _
          have hsW2 : W2.heap.size = w1.heap.size + 1 := by rw [← hW2]; simp
          have hAW2 : AdrIn W2 w1.heap.size U (.slice ua un uc) := by
            unfold AdrIn
            rw [hxu, ← hW2]
            exact heap_alloc_new w1 _
          have HPP2 := hid ((own_path hown).kept hbW2)
          have HB2 := hid (below2 hb1 hbW2)
          have HA2 := hid hAW2
          have HXu := hid hxu
          have HVu := hid hvu
          clear hown hb1 hbW2 hAW2 hxu hvu
          go_wp2_with fail
          refine (HPv.out _ (HG.out.kept HB2.out)).mono ?_
          rintro e w3 ⟨qv, rfl, hown, hb3⟩
          obtain ⟨va, vn, vc, rfl⟩ := own_sl hown
          obtain ⟨v0, v1, v2, v3, v4, v5, v6, v8, v9, v10, v11, hxv, he0, he3, he4, he5, he6, he8, he9, he10, he11⟩ := adr_named3 V va vn vc
          obtain rfl : v11 = true := by rw [he11]; exact HV3.out.2.1
          obtain rfl : v9 = ⟨#[]⟩ := by rw [he9, HV3.out.1]
          clear he0 he3 he4 he5 he6 he8 he9 he10 he11
          have hvv : adrVal V (.slice va vn vc) = .agg #[.string v0, .string v1, .string v2, .string v3, .bool v4, .int .i64 v5, .bool v6, .slice va vn vc, .string v8, .string ⟨#[]⟩, .bool v10, .bool true] := by unfold adrVal; rw [hxv]
          rw [hvv]
          obtain ⟨W4, hW4⟩ : ∃ X, (w3.alloc (.cells #[.string v0, .string v1, .string v2, .string v3, .bool v4, .int .i64 v5, .bool v6, .slice va vn vc, .string v8, .string ⟨#[]⟩, .bool v10, .bool true] 24)) = X := ⟨_, rfl⟩
          have hbW4 : Below w3.heap.size w3 W4 := by rw [← hW4]; exact (Below.refl _ w3).alloc (Nat.le_refl _) _
          have hsW4 : W4.heap.size = w3.heap.size + 1 := by rw [← hW4]; simp
          have hAW4 : AdrIn W4 w3.heap.size V (.slice va vn vc) := by
            unfold AdrIn
            rw [hxv, ← hW4]
            exact heap_alloc_new w3 _
          have hb34 := below2 hb3 hbW4
          have HPQ4 := hid ((own_path hown).kept hbW4)
          have HPP4 := hid (HPP2.out.kept hb34)
          have HB4 := hid (below2 HB2.out hb34)
          have HA4 := hid (HA2.out.kept hb34)
          have HC4 := hid hAW4
          have HXv := hid hxv
          have HVv := hid hvv
          have HJ := hid (ujoin_any X3 V (.slice va vn vc) W4 (HG.out.kept HB4.out) (by omega) HPQ4.out HLv.out)
          rw [hvv, HJo.out] at HJ
          unfold ReadPost at HJ
          simp only [numOf, adrOf] at HJ
          obtain ⟨y0, y1, y2, y3, y4, y5, y6, y7, y8, y9, y10, y11⟩ := adr_twelve hxv hAW4
          clear hown hb3 hbW4 hAW4 hxv hvv hb34 HPP2 HA2
          go_wp2_with fail
          refine HJ.out.mono ?_
          rintro e w5 ⟨rv, rfl, hown, hb5⟩
          obtain ⟨xa, xn, xc, rfl⟩ := own_sl hown
          obtain ⟨x0, x1, x2, x3, x4, x5, x6, x8, x9, x10, x11, hxx⟩ := adr_cells U xa xn xc
          have hvx : adrVal U (.slice xa xn xc) = .agg #[.string x0, .string x1, .string x2, .string x3, .bool x4, .int .i64 x5, .bool x6, .slice xa xn xc, .string x8, .string x9, .bool x10, .bool x11] := by unfold adrVal; rw [hxx]
          rw [hvx]
          obtain ⟨W6, hW6⟩ : ∃ X, (w5.alloc (.cells #[.string x0, .string x1, .string x2, .string x3, .bool x4, .int .i64 x5, .bool x6, .slice xa xn xc, .string x8, .string x9, .bool x10, .bool x11] 24)) = X := ⟨_, rfl⟩
          have hbW6 : Below w5.heap.size w5 W6 := by rw [← hW6]; exact (Below.refl _ w5).alloc (Nat.le_refl _) _
          have hsW6 : W6.heap.size = w5.heap.size + 1 := by rw [← hW6]; simp
          have hAW6 : AdrIn W6 w5.heap.size U (.slice xa xn xc) := by
            unfold AdrIn
            rw [hxx, ← hW6]
            exact heap_alloc_new w5 _
          have hb56 := below2 hb5 hbW6
          have HPR := hid ((own_path hown).kept hbW6)
          have HPP := hid (HPP4.out.kept hb56)
          have HPQ := hid (HPQ4.out.kept hb56)
          have HB6 := hid (below2 HB4.out hb56)
          have hAu := HA4.out.kept hb56
          have hAv := HC4.out.kept hb56
          have HRu := hid (show ∀ Z, Below W6.heap.size W6 Z → Z.rangeAt w1.heap.size 0 [.string u0, .string u1, .string u2, .string u3, .bool u4, .int .i64 u5, .bool u6, .slice ua un uc, .string u8, .string u9, .bool u10, .bool true] from fun Z hZ => by
            have := range_row (show Z.heap[w1.heap.size]? = some (.cells (adrCells U (.slice ua un uc)).toArray 24 (0, 0)) from hAu.kept hZ)
            rw [HXu.out] at this
            exact this)
          have HRv := hid (show ∀ Z, Below W6.heap.size W6 Z → Z.rangeAt w3.heap.size 0 [.string v0, .string v1, .string v2, .string v3, .bool v4, .int .i64 v5, .bool v6, .slice va vn vc, .string v8, .string ⟨#[]⟩, .bool v10, .bool true] from fun Z hZ => by
            have := range_row (show Z.heap[w3.heap.size]? = some (.cells (adrCells V (.slice va vn vc)).toArray 24 (0, 0)) from hAv.kept hZ)
            rw [HXv.out] at this
            exact this)
          have HRx := hid (show ∀ Z, Below W6.heap.size W6 Z → Z.rangeAt w5.heap.size 0 [.string x0, .string x1, .string x2, .string x3, .bool x4, .int .i64 x5, .bool x6, .slice xa xn xc, .string x8, .string x9, .bool x10, .bool x11] from fun Z hZ => by
            have := range_row (show Z.heap[w5.heap.size]? = some (.cells (adrCells U (.slice xa xn xc)).toArray 24 (0, 0)) from hAW6.kept hZ)
            rw [hxx] at this
            exact this)
          have HKF := hid (show ∀ Z, Below W6.heap.size W6 Z → Z.cell? ⟨w1.heap.size, 11, none⟩ = some (.bool true) ∧ Z.cell? ⟨w3.heap.size, 11, none⟩ = some (.bool true) ∧ Z.cell? ⟨w3.heap.size, 9, none⟩ = some (.string ⟨#[]⟩) from fun Z hZ => ⟨HRu.out Z hZ 11 _ rfl, HRv.out Z hZ 11 _ rfl, HRv.out Z hZ 9 _ rfl⟩)
          have HGf := hid (fun (Z : World) (hZ : Below W6.heap.size W6 Z) => HG.out.kept (below2 HB6.out hZ))
          obtain ⟨BB, hBB⟩ : ∃ X : ByteArray, X = ⟨(bareV V).toArray⟩ := ⟨_, rfl⟩
          have HBu := hid (fun (Z : World) (hZ : Below W6.heap.size W6 Z) => bare_any U (.slice ua un uc) Z (HGf.out Z hZ) (HPP.out.kept hZ) HFu.out)
          have HBv := hid (fun (Z : World) (hZ : Below W6.heap.size W6 Z) => bare_any V (.slice va vn vc) Z (HGf.out Z hZ) (HPQ.out.kept hZ) HFv.out)
          rw [HBB.out, ← hBB, HVu.out] at HBu
          rw [← hBB, HVv.out] at HBv
          have HSm := hid (fun (Z : World) (hZ : Below W6.heap.size W6 Z) => same3_any U (.slice xa xn xc) (.slice ua un uc) Z (HPR.out.kept hZ) (HPP.out.kept hZ) (by have := HLu.out; omega))
          rw [hvx, HVu.out] at HSm
          have HQ0 := hid ((Below.refl W6.heap.size W6).drew)
          clear hown hb5 hbW6 hAW6 hxx hvx hb56 hAu hAv hBB y0 y1 y2 y3 y4 y5 y6 y7 y8 y9 y10 y11 HPP4 HPQ4 HA4 HC4 HXu HXv HVu HVv HJ HJo HBB HPu HPv
          go_upto_region 13 with fail
          refine wp_region_held_drew (S := (fun wx => Below W6.heap.size W6 wx)) (by kernel_rfl) HQ0.out (fun hHeld => ?_)
          refine wpAnyH_to (fuel' := 31) (listed' := #[false, false, false, false, false, false, false, false, false, false, false, false, false, false, false, false, false, false, false, false, false, false, false, false, false, false, false, false, false, false, false]) rfl rfl ?_
          refine wpAnyH_take (i := 0) (oi := ⟨some 63, _, _, _, _, _⟩) rfl (by kernel_rfl) (by kernel_rfl) (by kernel_rfl) (fun _ _ _ h => h) (yieldsIf_load_mid (by kernel_rfl) 24 (.tmp 6) rfl (w1.heap.size) 0 rfl [.string u0, .string u1, .string u2, .string u3, .bool u4, .int .i64 u5, .bool u6, .slice ua un uc, .string u8, .string u9, .bool u10, .bool true] _ HRu.out Tryz.underlying24 rfl sizeU) (by assumption) ?_
          (try simp only [Act.put, List.setIfInBounds_toArray, List.set_cons_zero, List.set_cons_succ])
          refine wpAnyH_take (i := 2) (oi := ⟨some 65, _, _, _, _, _⟩) rfl (by kernel_rfl) (by kernel_rfl) (by kernel_rfl) (fun _ _ _ h => h) (yieldsIf_load_mid (by kernel_rfl) 24 (.tmp 8) rfl (w3.heap.size) 0 rfl [.string v0, .string v1, .string v2, .string v3, .bool v4, .int .i64 v5, .bool v6, .slice va vn vc, .string v8, .string ⟨#[]⟩, .bool v10, .bool true] _ HRv.out Tryz.underlying24 rfl sizeU) (by assumption) ?_
          (try simp only [Act.put, List.setIfInBounds_toArray, List.set_cons_zero, List.set_cons_succ])
          refine wpAnyH_ready (rs := [1]) (by kernel_rfl) (by simp) ?_
          refine AllReadyH.cons rfl (fun K9 hK => ?_) AllReadyH.nil
          rw [if_pos (by kernel_rfl)]
          go_simp
          go_wp2_with (go_at_call 24; refine (HBu.out _ HQ0.out).mono ?_; rintro e wa ⟨rfl, hba⟩)
          have HQ1 := hid (below2 HQ0.out hba)
          clear hba
          refine hK.out _ _ HQ1.out (fun hHeld2 => ?_)
          clear hK K9 hHeld
          rename _ => hHeld
          refine wpAnyH_ready (rs := [3]) (by kernel_rfl) (by simp) ?_
          refine AllReadyH.cons rfl (fun K9 hK => ?_) AllReadyH.nil
          rw [if_pos (by kernel_rfl)]
          go_simp
          go_wp2_with (go_at_call 24; refine (HBv.out _ HQ1.out).mono ?_; rintro e wb ⟨rfl, hbb⟩)
          have HQ2 := hid (below2 HQ1.out hbb)
          clear hbb
          refine hK.out _ _ HQ2.out (fun hHeld2 => ?_)
          clear hK K9 hHeld
          rename _ => hHeld
          refine' wpAnyH_take (i := 4) (oi := ⟨some 67, _, _, _, _, _⟩) (v := _) rfl (by kernel_rfl) (by kernel_rfl) (by kernel_rfl) (fun _ _ _ h => h) (Or.inl ⟨by kernel_rfl, ?hy1⟩) (by assumption) ?rest1
          case hy1 => (intro wx hSw; (try dsimp only at hSw); obtain ⟨k1, k2, k3⟩ := HKF.out _ hSw; go_simp; first | done | with_reducible rfl)
          (try simp only [Act.put, List.setIfInBounds_toArray, List.set_cons_zero, List.set_cons_succ])
          refine' wpAnyH_take (i := 5) (oi := ⟨some 68, _, _, _, _, _⟩) (v := _) rfl (by kernel_rfl) (by kernel_rfl) (by kernel_rfl) (fun _ _ _ h => h) (Or.inl ⟨by kernel_rfl, ?hy2⟩) (by assumption) ?rest2
          case hy2 => (intro wx hSw; (try dsimp only at hSw); obtain ⟨k1, k2, k3⟩ := HKF.out _ hSw; go_simp; first | done | with_reducible rfl)
          (try simp only [Act.put, List.setIfInBounds_toArray, List.set_cons_zero, List.set_cons_succ])
          refine' wpAnyH_take (i := 6) (oi := ⟨some 69, _, _, _, _, _⟩) (v := _) rfl (by kernel_rfl) (by kernel_rfl) (by kernel_rfl) (fun _ _ _ h => h) (Or.inl ⟨by kernel_rfl, ?hy3⟩) (by assumption) ?rest3
          case hy3 => (intro wx hSw; (try dsimp only at hSw); obtain ⟨k1, k2, k3⟩ := HKF.out _ hSw; go_simp; first | done | with_reducible rfl)
          (try simp only [Act.put, List.setIfInBounds_toArray, List.set_cons_zero, List.set_cons_succ])
          refine' wpAnyH_take (i := 7) (oi := ⟨some 70, _, _, _, _, _⟩) (v := _) rfl (by kernel_rfl) (by kernel_rfl) (by kernel_rfl) (fun _ _ _ h => h) (Or.inl ⟨by kernel_rfl, ?hy4⟩) (by assumption) ?rest4
          case hy4 => (intro wx hSw; (try dsimp only at hSw); obtain ⟨k1, k2, k3⟩ := HKF.out _ hSw; go_simp; first | done | with_reducible rfl)
          (try simp only [Act.put, List.setIfInBounds_toArray, List.set_cons_zero, List.set_cons_succ])
          refine' wpAnyH_take (i := 8) (oi := ⟨some 71, _, _, _, _, _⟩) (v := _) rfl (by kernel_rfl) (by kernel_rfl) (by kernel_rfl) (fun _ _ _ h => h) (Or.inl ⟨by kernel_rfl, ?hy5⟩) (by assumption) ?rest5
          case hy5 => (intro wx hSw; (try dsimp only at hSw); obtain ⟨k1, k2, k3⟩ := HKF.out _ hSw; go_simp; first | done | with_reducible rfl)
          (try simp only [Act.put, List.setIfInBounds_toArray, List.set_cons_zero, List.set_cons_succ])
          refine' wpAnyH_take (i := 9) (oi := ⟨some 72, _, _, _, _, _⟩) (v := _) rfl (by kernel_rfl) (by kernel_rfl) (by kernel_rfl) (fun _ _ _ h => h) (Or.inl ⟨by kernel_rfl, ?hy6⟩) (by assumption) ?rest6
          case hy6 => (intro wx hSw; (try dsimp only at hSw); obtain ⟨k1, k2, k3⟩ := HKF.out _ hSw; go_simp; first | done | with_reducible rfl)
          (try simp only [Act.put, List.setIfInBounds_toArray, List.set_cons_zero, List.set_cons_succ])
          refine wpAnyH_take (i := 10) (oi := ⟨some 73, _, _, _, _, _⟩) rfl (by kernel_rfl) (by kernel_rfl) (by kernel_rfl) (fun _ _ _ h => h) (yieldsIf_load_mid (by kernel_rfl) 24 (.tmp 10) rfl (w5.heap.size) 0 rfl [.string x0, .string x1, .string x2, .string x3, .bool x4, .int .i64 x5, .bool x6, .slice xa xn xc, .string x8, .string x9, .bool x10, .bool x11] _ HRx.out Tryz.underlying24 rfl sizeU) (by assumption) ?_
          (try simp only [Act.put, List.setIfInBounds_toArray, List.set_cons_zero, List.set_cons_succ])
          refine wpAnyH_take (i := 11) (oi := ⟨some 74, _, _, _, _, _⟩) rfl (by kernel_rfl) (by kernel_rfl) (by kernel_rfl) (fun _ _ _ h => h) (yieldsIf_load_mid (by kernel_rfl) 24 (.tmp 6) rfl (w1.heap.size) 0 rfl [.string u0, .string u1, .string u2, .string u3, .bool u4, .int .i64 u5, .bool u6, .slice ua un uc, .string u8, .string u9, .bool u10, .bool true] _ HRu.out Tryz.underlying24 rfl sizeU) (by assumption) ?_
          (try simp only [Act.put, List.setIfInBounds_toArray, List.set_cons_zero, List.set_cons_succ])
          refine wpAnyH_ready (rs := [12]) (by kernel_rfl) (by simp) ?_
          refine AllReadyH.cons rfl (fun K9 hK => ?_) AllReadyH.nil
          rw [if_pos (by kernel_rfl)]
          go_simp
          go_wp2_with (go_at_call 22; refine (HSm.out _ HQ2.out).mono ?_; rintro e wc ⟨rfl, hbc⟩)
          have HQ3 := hid (below2 HQ2.out hbc)
          clear hbc
          refine hK.out _ _ HQ3.out (fun hHeld2 => ?_)
          clear hK K9 hHeld
          rename _ => hHeld
          refine' wpAnyH_take (i := 13) (oi := ⟨some 76, _, _, _, _, _⟩) (v := _) rfl (by kernel_rfl) (by kernel_rfl) (by kernel_rfl) (fun _ _ _ h => h) (Or.inl ⟨by kernel_rfl, ?hy7⟩) (by assumption) ?rest7
          case hy7 => (intro wx hSw; (try dsimp only at hSw); obtain ⟨k1, k2, k3⟩ := HKF.out _ hSw; go_simp; first | done | with_reducible rfl)
          (try simp only [Act.put, List.setIfInBounds_toArray, List.set_cons_zero, List.set_cons_succ])
          refine' wpAnyH_take (i := 14) (oi := ⟨some 77, _, _, _, _, _⟩) (v := _) rfl (by kernel_rfl) (by kernel_rfl) (by kernel_rfl) (fun _ _ _ h => h) (Or.inl ⟨by kernel_rfl, ?hy8⟩) (by assumption) ?rest8
          case hy8 => (intro wx hSw; (try dsimp only at hSw); obtain ⟨k1, k2, k3⟩ := HKF.out _ hSw; go_simp; first | done | with_reducible rfl)
          (try simp only [Act.put, List.setIfInBounds_toArray, List.set_cons_zero, List.set_cons_succ])
          refine' wpAnyH_take (i := 15) (oi := ⟨some 78, _, _, _, _, _⟩) (v := _) rfl (by kernel_rfl) (by kernel_rfl) (by kernel_rfl) (fun _ _ _ h => h) (Or.inl ⟨by kernel_rfl, ?hy9⟩) (by assumption) ?rest9
          case hy9 => (intro wx hSw; (try dsimp only at hSw); obtain ⟨k1, k2, k3⟩ := HKF.out _ hSw; go_simp; first | done | with_reducible rfl)
          (try simp only [Act.put, List.setIfInBounds_toArray, List.set_cons_zero, List.set_cons_succ])
          refine' wpAnyH_take (i := 16) (oi := ⟨some 79, _, _, _, _, _⟩) (v := _) rfl (by kernel_rfl) (by kernel_rfl) (by kernel_rfl) (fun _ _ _ h => h) (Or.inl ⟨by kernel_rfl, ?hy10⟩) (by assumption) ?rest10
          case hy10 => (intro wx hSw; (try dsimp only at hSw); obtain ⟨k1, k2, k3⟩ := HKF.out _ hSw; go_simp; first | done | with_reducible rfl)
          (try simp only [Act.put, List.setIfInBounds_toArray, List.set_cons_zero, List.set_cons_succ])
          refine' wpAnyH_take (i := 17) (oi := ⟨some 80, _, _, _, _, _⟩) (v := _) rfl (by kernel_rfl) (by kernel_rfl) (by kernel_rfl) (fun _ _ _ h => h) (Or.inl ⟨by kernel_rfl, ?hy11⟩) (by assumption) ?rest11
          case hy11 => (intro wx hSw; (try dsimp only at hSw); obtain ⟨k1, k2, k3⟩ := HKF.out _ hSw; go_simp; first | done | with_reducible rfl)
          (try simp only [Act.put, List.setIfInBounds_toArray, List.set_cons_zero, List.set_cons_succ])
          refine' wpAnyH_take (i := 18) (oi := ⟨some 81, _, _, _, _, _⟩) (v := _) rfl (by kernel_rfl) (by kernel_rfl) (by kernel_rfl) (fun _ _ _ h => h) (Or.inl ⟨by kernel_rfl, ?hy12⟩) (by assumption) ?rest12
          case hy12 => (intro wx hSw; (try dsimp only at hSw); obtain ⟨k1, k2, k3⟩ := HKF.out _ hSw; go_simp; first | done | with_reducible rfl)
          (try simp only [Act.put, List.setIfInBounds_toArray, List.set_cons_zero, List.set_cons_succ])
          refine' wpAnyH_take (i := 19) (oi := ⟨some 82, _, _, _, _, _⟩) (v := _) rfl (by kernel_rfl) (by kernel_rfl) (by kernel_rfl) (fun _ _ _ h => h) (Or.inl ⟨by kernel_rfl, ?hy13⟩) (by assumption) ?rest13
          case hy13 => (intro wx hSw; (try dsimp only at hSw); obtain ⟨k1, k2, k3⟩ := HKF.out _ hSw; go_simp; first | done | with_reducible rfl)
          (try simp only [Act.put, List.setIfInBounds_toArray, List.set_cons_zero, List.set_cons_succ])
          refine' wpAnyH_take (i := 20) (oi := ⟨some 83, _, _, _, _, _⟩) (v := _) rfl (by kernel_rfl) (by kernel_rfl) (by kernel_rfl) (fun _ _ _ h => h) (Or.inl ⟨by kernel_rfl, ?hy14⟩) (by assumption) ?rest14
          case hy14 => (intro wx hSw; (try dsimp only at hSw); obtain ⟨k1, k2, k3⟩ := HKF.out _ hSw; go_simp; first | done | with_reducible rfl)
          (try simp only [Act.put, List.setIfInBounds_toArray, List.set_cons_zero, List.set_cons_succ])
          refine' wpAnyH_take (i := 21) (oi := ⟨some 84, _, _, _, _, _⟩) (v := _) rfl (by kernel_rfl) (by kernel_rfl) (by kernel_rfl) (fun _ _ _ h => h) (Or.inl ⟨by kernel_rfl, ?hy15⟩) (by assumption) ?rest15
          case hy15 => (intro wx hSw; (try dsimp only at hSw); obtain ⟨k1, k2, k3⟩ := HKF.out _ hSw; go_simp; first | done | with_reducible rfl)
          (try simp only [Act.put, List.setIfInBounds_toArray, List.set_cons_zero, List.set_cons_succ])
          refine' wpAnyH_take (i := 22) (oi := ⟨some 85, _, _, _, _, _⟩) (v := _) rfl (by kernel_rfl) (by kernel_rfl) (by kernel_rfl) (fun _ _ _ h => h) (Or.inl ⟨by kernel_rfl, ?hy16⟩) (by assumption) ?rest16
          case hy16 => (intro wx hSw; (try dsimp only at hSw); obtain ⟨k1, k2, k3⟩ := HKF.out _ hSw; go_simp; first | done | with_reducible rfl)
          (try simp only [Act.put, List.setIfInBounds_toArray, List.set_cons_zero, List.set_cons_succ])
          refine' wpAnyH_take (i := 23) (oi := ⟨some 86, _, _, _, _, _⟩) (v := _) rfl (by kernel_rfl) (by kernel_rfl) (by kernel_rfl) (fun _ _ _ h => h) (Or.inl ⟨by kernel_rfl, ?hy17⟩) (by assumption) ?rest17
          case hy17 => (intro wx hSw; (try dsimp only at hSw); obtain ⟨k1, k2, k3⟩ := HKF.out _ hSw; go_simp; first | done | with_reducible rfl)
          (try simp only [Act.put, List.setIfInBounds_toArray, List.set_cons_zero, List.set_cons_succ])
          refine' wpAnyH_take (i := 24) (oi := ⟨some 87, _, _, _, _, _⟩) (v := _) rfl (by kernel_rfl) (by kernel_rfl) (by kernel_rfl) (fun _ _ _ h => h) (Or.inl ⟨by kernel_rfl, ?hy18⟩) (by assumption) ?rest18
          case hy18 => (intro wx hSw; (try dsimp only at hSw); obtain ⟨k1, k2, k3⟩ := HKF.out _ hSw; go_simp; first | done | with_reducible rfl)
          (try simp only [Act.put, List.setIfInBounds_toArray, List.set_cons_zero, List.set_cons_succ])
          refine' wpAnyH_take (i := 25) (oi := ⟨some 88, _, _, _, _, _⟩) (v := _) rfl (by kernel_rfl) (by kernel_rfl) (by kernel_rfl) (fun _ _ _ h => h) (Or.inl ⟨by kernel_rfl, ?hy19⟩) (by assumption) ?rest19
          case hy19 => (intro wx hSw; (try dsimp only at hSw); obtain ⟨k1, k2, k3⟩ := HKF.out _ hSw; go_simp; first | done | with_reducible rfl)
          (try simp only [Act.put, List.setIfInBounds_toArray, List.set_cons_zero, List.set_cons_succ])
          refine' wpAnyH_take (i := 26) (oi := ⟨some 89, _, _, _, _, _⟩) (v := _) rfl (by kernel_rfl) (by kernel_rfl) (by kernel_rfl) (fun _ _ _ h => h) (Or.inl ⟨by kernel_rfl, ?hy20⟩) (by assumption) ?rest20
          case hy20 => (intro wx hSw; (try dsimp only at hSw); obtain ⟨k1, k2, k3⟩ := HKF.out _ hSw; go_simp; first | done | with_reducible rfl)
          (try simp only [Act.put, List.setIfInBounds_toArray, List.set_cons_zero, List.set_cons_succ])
          refine' wpAnyH_take (i := 27) (oi := ⟨some 90, _, _, _, _, _⟩) (v := _) rfl (by kernel_rfl) (by kernel_rfl) (by kernel_rfl) (fun _ _ _ h => h) (Or.inl ⟨by kernel_rfl, ?hy21⟩) (by assumption) ?rest21
          case hy21 => (intro wx hSw; (try dsimp only at hSw); obtain ⟨k1, k2, k3⟩ := HKF.out _ hSw; go_simp; first | done | with_reducible rfl)
          (try simp only [Act.put, List.setIfInBounds_toArray, List.set_cons_zero, List.set_cons_succ])
          refine wpAnyH_ready (rs := [28]) (by kernel_rfl) (by simp) ?_
          refine AllReadyH.cons rfl (fun K9 hK => ?_) AllReadyH.nil
          rw [if_pos (by kernel_rfl)]
          go_simp
          go_wp2_with (go_at_call 20; refine (HKn.out _ (HGf.out _ HQ3.out)).mono ?_; rintro e wd ⟨rfl, hbd⟩)
          have HQ4 := hid (below2 HQ3.out hbd)
          clear hbd
          refine hK.out _ _ HQ4.out (fun hHeld2 => ?_)
          clear hK K9 hHeld
          rename _ => hHeld
          refine' wpAnyH_take (i := 29) (oi := ⟨some 92, _, _, _, _, _⟩) (v := _) rfl (by kernel_rfl) (by kernel_rfl) (by kernel_rfl) (fun _ _ _ h => h) (Or.inl ⟨by kernel_rfl, ?hy22⟩) (by assumption) ?rest22
          case hy22 => (intro wx hSw; (try dsimp only at hSw); obtain ⟨k1, k2, k3⟩ := HKF.out _ hSw; go_simp; first | done | with_reducible rfl)
          (try simp only [Act.put, List.setIfInBounds_toArray, List.set_cons_zero, List.set_cons_succ])
          refine' wpAnyH_take (i := 30) (oi := ⟨some 4, _, _, _, _, _⟩) (v := _) rfl (by kernel_rfl) (by kernel_rfl) (by kernel_rfl) (fun _ _ _ h => h) (Or.inl ⟨by kernel_rfl, ?hy23⟩) (by assumption) ?rest23
          case hy23 => (intro wx hSw; (try dsimp only at hSw); obtain ⟨k1, k2, k3⟩ := HKF.out _ hSw; go_simp; first | done | with_reducible rfl)
          (try simp only [Act.put, List.setIfInBounds_toArray, List.set_cons_zero, List.set_cons_succ])
          refine wpAnyH_done (by kernel_rfl) ?_ _
          go_wp2
          go_ret
          exact ⟨rfl, below2 HB6.out HQ4.out⟩
      · have hc' : ((S0[k].toNat : Int) == 35) = false := by
          rw [beq_eq_false_iff_ne]
          intro e
          apply hc
          have : S0[k].toNat = 35 := by omega
          exact UInt8.toNat_inj.1 this
        have hno1 : 35 ∉ S0.data.toList.take (k + 1) := by
          rw [List.take_add_one]
          intro e
          rcases List.mem_append.1 e with e | e
          · exact hno0.out e
          · have hk' : k < S0.data.toList.length := by rw [← Lib.size_eq]; exact hlt
            rw [List.getElem?_eq_getElem hk'] at e
            simp at e
            apply hc
            rw [ByteArray.getElem_eq_getElem_data]
            exact e.symm
        have HN1 := hid hno1
        clear hc hno1 hno0
        go_wp2_with fail
        go_round
        case rel => exact ⟨k + 1, by omega, by go_num, rfl, HN1⟩
        case measure => simp [intOf]; omega
    · have hlt' : decide ((k : Int) < (S0.size : Int)) = false := by rw [decide_eq_false_iff_not]; omega
      have hno : 35 ∉ S0.data.toList := by
        have := hno0.out
        rw [List.take_of_length_le (by rw [← Lib.size_eq]; omega)] at this
        exact this
      have hSs := hS0s
      clear hno0
      obtain ⟨X1, hX1⟩ : ∃ Z0 : ByteArray, S0 ++ (⟨#[35]⟩ : ByteArray) = Z0 := ⟨_, rfl⟩
      have X1l : X1.data.toList = S0.data.toList ++ [35] := by rw [← hX1, ByteArray.data_append, Array.toList_append]
      have X1s : X1.size ≤ 201 := by rw [Lib.size_eq, X1l, List.length_append, ← Lib.size_eq]; simp; omega
      obtain ⟨X2, hX2⟩ : ∃ Z0 : ByteArray, X1 ++ F0 = Z0 := ⟨_, rfl⟩
      have X2l : X2.data.toList = S0.data.toList ++ 35 :: F0.data.toList := by rw [← hX2, ByteArray.data_append, Array.toList_append, X1l]; simp
      have X2s : X2.size ≤ 251 := by rw [Lib.size_eq, X2l, List.length_append, List.length_cons, ← Lib.size_eq, ← Lib.size_eq]; omega
      obtain ⟨X3, hX3⟩ : ∃ Z0 : ByteArray, (⟨#[35]⟩ : ByteArray) ++ F0 = Z0 := ⟨_, rfl⟩
      have X3l : X3.data.toList = 35 :: F0.data.toList := by rw [← hX3, ByteArray.data_append, Array.toList_append]; rfl
      have X3s : X3.size ≤ 51 := by rw [Lib.size_eq, X3l, List.length_cons, ← Lib.size_eq]; omega
      obtain ⟨FF, hFF⟩ : ∃ l, pct 2 (clR F0.data.toList) = l := ⟨_, rfl⟩
      have hRf := read_frag S0.data.toList F0.data.toList hno (by rw [List.length_append, List.length_cons, ← Lib.size_eq, ← Lib.size_eq]; omega)
      rw [← X2l, ← X1l, hFF] at hRf
      have HPu := hid (fun (Z : World) (hZ : Gd Z) => uparse_any X2 Z hZ (by omega))
      have HPv := hid (fun (Z : World) (hZ : Gd Z) => uparse_any X1 Z hZ (by omega))
      unfold ReadPost at HPu HPv
      cases hr : readV X1.data.toList none with
      | error y =>
        have hy0 := err_ne (read_err hr)
        have hy1 := err_bne (read_err hr)
        rw [hr] at hRf HPv
        have hRf' : readV X2.data.toList none = .error y := hRf
        rw [hRf'] at HPu
        simp only [numOf] at HPu HPv
        obtain ⟨A, hA⟩ : ∃ A, adrOf (.error y) = A := ⟨_, rfl⟩
        rw [hA] at HPu HPv
        clear hr hRf hRf' hA X1l X2l X3l hFF hno
        go_wp2_with fail
        refine (HPu.out _ HG.out).mono ?_
        rintro e w1 ⟨pv, rfl, hown, hb1⟩
        obtain ⟨ua, un, uc, rfl⟩ := own_sl hown
        obtain ⟨u0, u1, u2, u3, u4, u5, u6, u8, u9, u10, u11, hxu⟩ := adr_cells A ua un uc
        have hvu : adrVal A (.slice ua un uc) = .agg #[.string u0, .string u1, .string u2, .string u3, .bool u4, .int .i64 u5, .bool u6, .slice ua un uc, .string u8, .string u9, .bool u10, .bool u11] := by unfold adrVal; rw [hxu]
        rw [hvu]
        obtain ⟨W2, hW2⟩ : ∃ X, (w1.alloc (.cells #[.string u0, .string u1, .string u2, .string u3, .bool u4, .int .i64 u5, .bool u6, .slice ua un uc, .string u8, .string u9, .bool u10, .bool u11] 24)) = X := ⟨_, rfl⟩
        have hbW2 : Below w1.heap.size w1 W2 := by rw [← hW2]; exact (Below.refl _ w1).alloc (Nat.le_refl _) _
        have hsW2 : W2.heap.size = w1.heap.size + 1 := by rw [← hW2]; simp
        have hAW2 : AdrIn W2 w1.heap.size A (.slice ua un uc) := by
          unfold AdrIn
          rw [hxu, ← hW2]
          exact heap_alloc_new w1 _
        have HB2 := hid (below2 hb1 hbW2)
        clear hown hb1 hbW2 hAW2 hxu hvu
        go_wp2_with fail
        refine (HPv.out _ (HG.out.kept HB2.out)).mono ?_
        rintro e w3 ⟨qv, rfl, hown, hb3⟩
        obtain ⟨va, vn, vc, rfl⟩ := own_sl hown
        obtain ⟨v0, v1, v2, v3, v4, v5, v6, v8, v9, v10, v11, hxv⟩ := adr_cells A va vn vc
        have hvv : adrVal A (.slice va vn vc) = .agg #[.string v0, .string v1, .string v2, .string v3, .bool v4, .int .i64 v5, .bool v6, .slice va vn vc, .string v8, .string v9, .bool v10, .bool v11] := by unfold adrVal; rw [hxv]
        rw [hvv]
        obtain ⟨W4, hW4⟩ : ∃ X, (w3.alloc (.cells #[.string v0, .string v1, .string v2, .string v3, .bool v4, .int .i64 v5, .bool v6, .slice va vn vc, .string v8, .string v9, .bool v10, .bool v11] 24)) = X := ⟨_, rfl⟩
        have hbW4 : Below w3.heap.size w3 W4 := by rw [← hW4]; exact (Below.refl _ w3).alloc (Nat.le_refl _) _
        have hsW4 : W4.heap.size = w3.heap.size + 1 := by rw [← hW4]; simp
        have hAW4 : AdrIn W4 w3.heap.size A (.slice va vn vc) := by
          unfold AdrIn
          rw [hxv, ← hW4]
          exact heap_alloc_new w3 _
        have HB4 := hid (below2 HB2.out (below2 hb3 hbW4))
        clear hown hb3 hbW4 hAW4 hxv hvv
        go_wp2_with fail
        refine (HKn.out _ (HG.out.kept HB4.out)).mono ?_
        rintro e w5 ⟨rfl, hb5⟩
        go_wp2
        go_ret
        exact ⟨rfl, below2 HB4.out hb5⟩
      | ok V =>
        rw [hr] at hRf HPv
        obtain ⟨U, hU⟩ : ∃ U, setF FF V = U := ⟨_, rfl⟩
        have hRf' : readV X2.data.toList none = .ok U := by rw [hRf, ← hU]; rfl
        rw [hRf'] at HPu
        simp only [numOf, adrOf] at HPu HPv
        obtain ⟨hVf, hVh⟩ := read_hash hno (X1l ▸ hr)
        have hUh : U.hasFragment = true := by rw [← hU]; exact hVh
        have hJo : readV X3.data.toList (some V) = .ok U := by
          rw [X3l, join_frag _ V (by rw [← Lib.size_eq]; omega) hVh, hFF, hU]
        have hBB : bareV U = bareV V := by rw [← hU]; rfl
        have HFu := hid (parse_fine hRf')
        have HFv := hid (parse_fine hr)
        have HLu := hid (show U.path.length ≤ 100000 from slim_path (parse_slim hRf') (by omega))
        have HLv := hid (show V.path.length ≤ 100000 from slim_path (parse_slim hr) (by omega))
        have HJo := hid hJo
        have HBB := hid hBB
        have HV3 := hid (And.intro hVf (And.intro hVh hUh))
        clear hr hRf hRf' hU X1l X2l X3l hFF hno hJo hBB hVf hVh hUh
        go_wp2_with fail
        refine (HPu.out _ HG.out).mono ?_
        rintro e w1 ⟨pv, rfl, hown, hb1⟩
        obtain ⟨ua, un, uc, rfl⟩ := own_sl hown
        obtain ⟨u0, u1, u2, u3, u4, u5, u6, u8, u9, u10, u11, hxu, he0, he3, he4, he5, he6, he8, he9, he10, he11⟩ := adr_named3 U ua un uc
        obtain rfl : u11 = true := by rw [he11]; exact HV3.out.2.2
        clear he0 he3 he4 he5 he6 he8 he9 he10 he11
        have hvu : adrVal U (.slice ua un uc) = .agg #[.string u0, .string u1, .string u2, .string u3, .bool u4, .int .i64 u5, .bool u6, .slice ua un uc, .string u8, .string u9, .bool u10, .bool true] := by unfold adrVal; rw [hxu]
        rw [hvu]
        obtain ⟨W2, hW2⟩ : ∃ X, (w1.alloc (.cells #[.string u0, .string u1, .string u2, .string u3, .bool u4, .int .i64 u5, .bool u6, .slice ua un uc, .string u8, .string u9, .bool u10, .bool true] 24)) = X := ⟨_, rfl⟩
        have hbW2 : Below w1.heap.size w1 W2 := by rw [← hW2]; exact (Below.refl _ w1).alloc (Nat.le_refl _) _
        have hsW2 : W2.heap.size = w1.heap.size + 1 := by rw [← hW2]; simp
        have hAW2 : AdrIn W2 w1.heap.size U (.slice ua un uc) := by
          unfold AdrIn
          rw [hxu, ← hW2]
          exact heap_alloc_new w1 _
        have HPP2 := hid ((own_path hown).kept hbW2)
        have HB2 := hid (below2 hb1 hbW2)
        have HA2 := hid hAW2
        have HXu := hid hxu
        have HVu := hid hvu
        clear hown hb1 hbW2 hAW2 hxu hvu
        go_wp2_with fail
        refine (HPv.out _ (HG.out.kept HB2.out)).mono ?_
        rintro e w3 ⟨qv, rfl, hown, hb3⟩
        obtain ⟨va, vn, vc, rfl⟩ := own_sl hown
        obtain ⟨v0, v1, v2, v3, v4, v5, v6, v8, v9, v10, v11, hxv, he0, he3, he4, he5, he6, he8, he9, he10, he11⟩ := adr_named3 V va vn vc
        obtain rfl : v11 = true := by rw [he11]; exact HV3.out.2.1
        obtain rfl : v9 = ⟨#[]⟩ := by rw [he9, HV3.out.1]
        clear he0 he3 he4 he5 he6 he8 he9 he10 he11
        have hvv : adrVal V (.slice va vn vc) = .agg #[.string v0, .string v1, .string v2, .string v3, .bool v4, .int .i64 v5, .bool v6, .slice va vn vc, .string v8, .string ⟨#[]⟩, .bool v10, .bool true] := by unfold adrVal; rw [hxv]
        rw [hvv]
        obtain ⟨W4, hW4⟩ : ∃ X, (w3.alloc (.cells #[.string v0, .string v1, .string v2, .string v3, .bool v4, .int .i64 v5, .bool v6, .slice va vn vc, .string v8, .string ⟨#[]⟩, .bool v10, .bool true] 24)) = X := ⟨_, rfl⟩
        have hbW4 : Below w3.heap.size w3 W4 := by rw [← hW4]; exact (Below.refl _ w3).alloc (Nat.le_refl _) _
        have hsW4 : W4.heap.size = w3.heap.size + 1 := by rw [← hW4]; simp
        have hAW4 : AdrIn W4 w3.heap.size V (.slice va vn vc) := by
          unfold AdrIn
          rw [hxv, ← hW4]
          exact heap_alloc_new w3 _
        have hb34 := below2 hb3 hbW4
        have HPQ4 := hid ((own_path hown).kept hbW4)
        have HPP4 := hid (HPP2.out.kept hb34)
        have HB4 := hid (below2 HB2.out hb34)
        have HA4 := hid (HA2.out.kept hb34)
        have HC4 := hid hAW4
        have HXv := hid hxv
        have HVv := hid hvv
        have HJ := hid (ujoin_any X3 V (.slice va vn vc) W4 (HG.out.kept HB4.out) (by omega) HPQ4.out HLv.out)
        rw [hvv, HJo.out] at HJ
        unfold ReadPost at HJ
        simp only [numOf, adrOf] at HJ
        obtain ⟨y0, y1, y2, y3, y4, y5, y6, y7, y8, y9, y10, y11⟩ := adr_twelve hxv hAW4
        clear hown hb3 hbW4 hAW4 hxv hvv hb34 HPP2 HA2
        go_wp2_with fail
        refine HJ.out.mono ?_
        rintro e w5 ⟨rv, rfl, hown, hb5⟩
        obtain ⟨xa, xn, xc, rfl⟩ := own_sl hown
        obtain ⟨x0, x1, x2, x3, x4, x5, x6, x8, x9, x10, x11, hxx⟩ := adr_cells U xa xn xc
        have hvx : adrVal U (.slice xa xn xc) = .agg #[.string x0, .string x1, .string x2, .string x3, .bool x4, .int .i64 x5, .bool x6, .slice xa xn xc, .string x8, .string x9, .bool x10, .bool x11] := by unfold adrVal; rw [hxx]
        rw [hvx]
        obtain ⟨W6, hW6⟩ : ∃ X, (w5.alloc (.cells #[.string x0, .string x1, .string x2, .string x3, .bool x4, .int .i64 x5, .bool x6, .slice xa xn xc, .string x8, .string x9, .bool x10, .bool x11] 24)) = X := ⟨_, rfl⟩
        have hbW6 : Below w5.heap.size w5 W6 := by rw [← hW6]; exact (Below.refl _ w5).alloc (Nat.le_refl _) _
        have hsW6 : W6.heap.size = w5.heap.size + 1 := by rw [← hW6]; simp
        have hAW6 : AdrIn W6 w5.heap.size U (.slice xa xn xc) := by
          unfold AdrIn
          rw [hxx, ← hW6]
          exact heap_alloc_new w5 _
        have hb56 := below2 hb5 hbW6
        have HPR := hid ((own_path hown).kept hbW6)
        have HPP := hid (HPP4.out.kept hb56)
        have HPQ := hid (HPQ4.out.kept hb56)
        have HB6 := hid (below2 HB4.out hb56)
        have hAu := HA4.out.kept hb56
        have hAv := HC4.out.kept hb56
        have HRu := hid (show ∀ Z, Below W6.heap.size W6 Z → Z.rangeAt w1.heap.size 0 [.string u0, .string u1, .string u2, .string u3, .bool u4, .int .i64 u5, .bool u6, .slice ua un uc, .string u8, .string u9, .bool u10, .bool true] from fun Z hZ => by
          have := range_row (show Z.heap[w1.heap.size]? = some (.cells (adrCells U (.slice ua un uc)).toArray 24 (0, 0)) from hAu.kept hZ)
          rw [HXu.out] at this
          exact this)
        have HRv := hid (show ∀ Z, Below W6.heap.size W6 Z → Z.rangeAt w3.heap.size 0 [.string v0, .string v1, .string v2, .string v3, .bool v4, .int .i64 v5, .bool v6, .slice va vn vc, .string v8, .string ⟨#[]⟩, .bool v10, .bool true] from fun Z hZ => by
          have := range_row (show Z.heap[w3.heap.size]? = some (.cells (adrCells V (.slice va vn vc)).toArray 24 (0, 0)) from hAv.kept hZ)
          rw [HXv.out] at this
          exact this)
        have HRx := hid (show ∀ Z, Below W6.heap.size W6 Z → Z.rangeAt w5.heap.size 0 [.string x0, .string x1, .string x2, .string x3, .bool x4, .int .i64 x5, .bool x6, .slice xa xn xc, .string x8, .string x9, .bool x10, .bool x11] from fun Z hZ => by
          have := range_row (show Z.heap[w5.heap.size]? = some (.cells (adrCells U (.slice xa xn xc)).toArray 24 (0, 0)) from hAW6.kept hZ)
          rw [hxx] at this
          exact this)
        have HKF := hid (show ∀ Z, Below W6.heap.size W6 Z → Z.cell? ⟨w1.heap.size, 11, none⟩ = some (.bool true) ∧ Z.cell? ⟨w3.heap.size, 11, none⟩ = some (.bool true) ∧ Z.cell? ⟨w3.heap.size, 9, none⟩ = some (.string ⟨#[]⟩) from fun Z hZ => ⟨HRu.out Z hZ 11 _ rfl, HRv.out Z hZ 11 _ rfl, HRv.out Z hZ 9 _ rfl⟩)
        have HGf := hid (fun (Z : World) (hZ : Below W6.heap.size W6 Z) => HG.out.kept (below2 HB6.out hZ))
        obtain ⟨BB, hBB⟩ : ∃ X : ByteArray, X = ⟨(bareV V).toArray⟩ := ⟨_, rfl⟩
        have HBu := hid (fun (Z : World) (hZ : Below W6.heap.size W6 Z) => bare_any U (.slice ua un uc) Z (HGf.out Z hZ) (HPP.out.kept hZ) HFu.out)
        have HBv := hid (fun (Z : World) (hZ : Below W6.heap.size W6 Z) => bare_any V (.slice va vn vc) Z (HGf.out Z hZ) (HPQ.out.kept hZ) HFv.out)
        rw [HBB.out, ← hBB, HVu.out] at HBu
        rw [← hBB, HVv.out] at HBv
        have HSm := hid (fun (Z : World) (hZ : Below W6.heap.size W6 Z) => same3_any U (.slice xa xn xc) (.slice ua un uc) Z (HPR.out.kept hZ) (HPP.out.kept hZ) (by have := HLu.out; omega))
        rw [hvx, HVu.out] at HSm
        have HQ0 := hid ((Below.refl W6.heap.size W6).drew)
        clear hown hb5 hbW6 hAW6 hxx hvx hb56 hAu hAv hBB y0 y1 y2 y3 y4 y5 y6 y7 y8 y9 y10 y11 HPP4 HPQ4 HA4 HC4 HXu HXv HVu HVv HJ HJo HBB HPu HPv
        go_upto_region 13 with fail
        refine wp_region_held_drew (S := (fun wx => Below W6.heap.size W6 wx)) (by kernel_rfl) HQ0.out (fun hHeld => ?_)
        refine wpAnyH_to (fuel' := 31) (listed' := #[false, false, false, false, false, false, false, false, false, false, false, false, false, false, false, false, false, false, false, false, false, false, false, false, false, false, false, false, false, false, false]) rfl rfl ?_
        refine wpAnyH_take (i := 0) (oi := ⟨some 63, _, _, _, _, _⟩) rfl (by kernel_rfl) (by kernel_rfl) (by kernel_rfl) (fun _ _ _ h => h) (yieldsIf_load_mid (by kernel_rfl) 24 (.tmp 6) rfl (w1.heap.size) 0 rfl [.string u0, .string u1, .string u2, .string u3, .bool u4, .int .i64 u5, .bool u6, .slice ua un uc, .string u8, .string u9, .bool u10, .bool true] _ HRu.out Tryz.underlying24 rfl sizeU) (by assumption) ?_
        (try simp only [Act.put, List.setIfInBounds_toArray, List.set_cons_zero, List.set_cons_succ])
        refine wpAnyH_take (i := 2) (oi := ⟨some 65, _, _, _, _, _⟩) rfl (by kernel_rfl) (by kernel_rfl) (by kernel_rfl) (fun _ _ _ h => h) (yieldsIf_load_mid (by kernel_rfl) 24 (.tmp 8) rfl (w3.heap.size) 0 rfl [.string v0, .string v1, .string v2, .string v3, .bool v4, .int .i64 v5, .bool v6, .slice va vn vc, .string v8, .string ⟨#[]⟩, .bool v10, .bool true] _ HRv.out Tryz.underlying24 rfl sizeU) (by assumption) ?_
        (try simp only [Act.put, List.setIfInBounds_toArray, List.set_cons_zero, List.set_cons_succ])
        refine wpAnyH_ready (rs := [1]) (by kernel_rfl) (by simp) ?_
        refine AllReadyH.cons rfl (fun K9 hK => ?_) AllReadyH.nil
        rw [if_pos (by kernel_rfl)]
        go_simp
        go_wp2_with (go_at_call 24; refine (HBu.out _ HQ0.out).mono ?_; rintro e wa ⟨rfl, hba⟩)
        have HQ1 := hid (below2 HQ0.out hba)
        clear hba
        refine hK.out _ _ HQ1.out (fun hHeld2 => ?_)
        clear hK K9 hHeld
        rename _ => hHeld
        refine wpAnyH_ready (rs := [3]) (by kernel_rfl) (by simp) ?_
        refine AllReadyH.cons rfl (fun K9 hK => ?_) AllReadyH.nil
        rw [if_pos (by kernel_rfl)]
        go_simp
        go_wp2_with (go_at_call 24; refine (HBv.out _ HQ1.out).mono ?_; rintro e wb ⟨rfl, hbb⟩)
        have HQ2 := hid (below2 HQ1.out hbb)
        clear hbb
        refine hK.out _ _ HQ2.out (fun hHeld2 => ?_)
        clear hK K9 hHeld
        rename _ => hHeld
        refine' wpAnyH_take (i := 4) (oi := ⟨some 67, _, _, _, _, _⟩) (v := _) rfl (by kernel_rfl) (by kernel_rfl) (by kernel_rfl) (fun _ _ _ h => h) (Or.inl ⟨by kernel_rfl, ?hy24⟩) (by assumption) ?rest24
        case hy24 => (intro wx hSw; (try dsimp only at hSw); obtain ⟨k1, k2, k3⟩ := HKF.out _ hSw; go_simp; first | done | with_reducible rfl)
        (try simp only [Act.put, List.setIfInBounds_toArray, List.set_cons_zero, List.set_cons_succ])
        refine' wpAnyH_take (i := 5) (oi := ⟨some 68, _, _, _, _, _⟩) (v := _) rfl (by kernel_rfl) (by kernel_rfl) (by kernel_rfl) (fun _ _ _ h => h) (Or.inl ⟨by kernel_rfl, ?hy25⟩) (by assumption) ?rest25
        case hy25 => (intro wx hSw; (try dsimp only at hSw); obtain ⟨k1, k2, k3⟩ := HKF.out _ hSw; go_simp; first | done | with_reducible rfl)
        (try simp only [Act.put, List.setIfInBounds_toArray, List.set_cons_zero, List.set_cons_succ])
        refine' wpAnyH_take (i := 6) (oi := ⟨some 69, _, _, _, _, _⟩) (v := _) rfl (by kernel_rfl) (by kernel_rfl) (by kernel_rfl) (fun _ _ _ h => h) (Or.inl ⟨by kernel_rfl, ?hy26⟩) (by assumption) ?rest26
        case hy26 => (intro wx hSw; (try dsimp only at hSw); obtain ⟨k1, k2, k3⟩ := HKF.out _ hSw; go_simp; first | done | with_reducible rfl)
        (try simp only [Act.put, List.setIfInBounds_toArray, List.set_cons_zero, List.set_cons_succ])
        refine' wpAnyH_take (i := 7) (oi := ⟨some 70, _, _, _, _, _⟩) (v := _) rfl (by kernel_rfl) (by kernel_rfl) (by kernel_rfl) (fun _ _ _ h => h) (Or.inl ⟨by kernel_rfl, ?hy27⟩) (by assumption) ?rest27
        case hy27 => (intro wx hSw; (try dsimp only at hSw); obtain ⟨k1, k2, k3⟩ := HKF.out _ hSw; go_simp; first | done | with_reducible rfl)
        (try simp only [Act.put, List.setIfInBounds_toArray, List.set_cons_zero, List.set_cons_succ])
        refine' wpAnyH_take (i := 8) (oi := ⟨some 71, _, _, _, _, _⟩) (v := _) rfl (by kernel_rfl) (by kernel_rfl) (by kernel_rfl) (fun _ _ _ h => h) (Or.inl ⟨by kernel_rfl, ?hy28⟩) (by assumption) ?rest28
        case hy28 => (intro wx hSw; (try dsimp only at hSw); obtain ⟨k1, k2, k3⟩ := HKF.out _ hSw; go_simp; first | done | with_reducible rfl)
        (try simp only [Act.put, List.setIfInBounds_toArray, List.set_cons_zero, List.set_cons_succ])
        refine' wpAnyH_take (i := 9) (oi := ⟨some 72, _, _, _, _, _⟩) (v := _) rfl (by kernel_rfl) (by kernel_rfl) (by kernel_rfl) (fun _ _ _ h => h) (Or.inl ⟨by kernel_rfl, ?hy29⟩) (by assumption) ?rest29
        case hy29 => (intro wx hSw; (try dsimp only at hSw); obtain ⟨k1, k2, k3⟩ := HKF.out _ hSw; go_simp; first | done | with_reducible rfl)
        (try simp only [Act.put, List.setIfInBounds_toArray, List.set_cons_zero, List.set_cons_succ])
        refine wpAnyH_take (i := 10) (oi := ⟨some 73, _, _, _, _, _⟩) rfl (by kernel_rfl) (by kernel_rfl) (by kernel_rfl) (fun _ _ _ h => h) (yieldsIf_load_mid (by kernel_rfl) 24 (.tmp 10) rfl (w5.heap.size) 0 rfl [.string x0, .string x1, .string x2, .string x3, .bool x4, .int .i64 x5, .bool x6, .slice xa xn xc, .string x8, .string x9, .bool x10, .bool x11] _ HRx.out Tryz.underlying24 rfl sizeU) (by assumption) ?_
        (try simp only [Act.put, List.setIfInBounds_toArray, List.set_cons_zero, List.set_cons_succ])
        refine wpAnyH_take (i := 11) (oi := ⟨some 74, _, _, _, _, _⟩) rfl (by kernel_rfl) (by kernel_rfl) (by kernel_rfl) (fun _ _ _ h => h) (yieldsIf_load_mid (by kernel_rfl) 24 (.tmp 6) rfl (w1.heap.size) 0 rfl [.string u0, .string u1, .string u2, .string u3, .bool u4, .int .i64 u5, .bool u6, .slice ua un uc, .string u8, .string u9, .bool u10, .bool true] _ HRu.out Tryz.underlying24 rfl sizeU) (by assumption) ?_
        (try simp only [Act.put, List.setIfInBounds_toArray, List.set_cons_zero, List.set_cons_succ])
        refine wpAnyH_ready (rs := [12]) (by kernel_rfl) (by simp) ?_
        refine AllReadyH.cons rfl (fun K9 hK => ?_) AllReadyH.nil
        rw [if_pos (by kernel_rfl)]
        go_simp
        go_wp2_with (go_at_call 22; refine (HSm.out _ HQ2.out).mono ?_; rintro e wc ⟨rfl, hbc⟩)
        have HQ3 := hid (below2 HQ2.out hbc)
        clear hbc
        refine hK.out _ _ HQ3.out (fun hHeld2 => ?_)
        clear hK K9 hHeld
        rename _ => hHeld
        refine' wpAnyH_take (i := 13) (oi := ⟨some 76, _, _, _, _, _⟩) (v := _) rfl (by kernel_rfl) (by kernel_rfl) (by kernel_rfl) (fun _ _ _ h => h) (Or.inl ⟨by kernel_rfl, ?hy30⟩) (by assumption) ?rest30
        case hy30 => (intro wx hSw; (try dsimp only at hSw); obtain ⟨k1, k2, k3⟩ := HKF.out _ hSw; go_simp; first | done | with_reducible rfl)
        (try simp only [Act.put, List.setIfInBounds_toArray, List.set_cons_zero, List.set_cons_succ])
        refine' wpAnyH_take (i := 14) (oi := ⟨some 77, _, _, _, _, _⟩) (v := _) rfl (by kernel_rfl) (by kernel_rfl) (by kernel_rfl) (fun _ _ _ h => h) (Or.inl ⟨by kernel_rfl, ?hy31⟩) (by assumption) ?rest31
        case hy31 => (intro wx hSw; (try dsimp only at hSw); obtain ⟨k1, k2, k3⟩ := HKF.out _ hSw; go_simp; first | done | with_reducible rfl)
        (try simp only [Act.put, List.setIfInBounds_toArray, List.set_cons_zero, List.set_cons_succ])
        refine' wpAnyH_take (i := 15) (oi := ⟨some 78, _, _, _, _, _⟩) (v := _) rfl (by kernel_rfl) (by kernel_rfl) (by kernel_rfl) (fun _ _ _ h => h) (Or.inl ⟨by kernel_rfl, ?hy32⟩) (by assumption) ?rest32
        case hy32 => (intro wx hSw; (try dsimp only at hSw); obtain ⟨k1, k2, k3⟩ := HKF.out _ hSw; go_simp; first | done | with_reducible rfl)
        (try simp only [Act.put, List.setIfInBounds_toArray, List.set_cons_zero, List.set_cons_succ])
        refine' wpAnyH_take (i := 16) (oi := ⟨some 79, _, _, _, _, _⟩) (v := _) rfl (by kernel_rfl) (by kernel_rfl) (by kernel_rfl) (fun _ _ _ h => h) (Or.inl ⟨by kernel_rfl, ?hy33⟩) (by assumption) ?rest33
        case hy33 => (intro wx hSw; (try dsimp only at hSw); obtain ⟨k1, k2, k3⟩ := HKF.out _ hSw; go_simp; first | done | with_reducible rfl)
        (try simp only [Act.put, List.setIfInBounds_toArray, List.set_cons_zero, List.set_cons_succ])
        refine' wpAnyH_take (i := 17) (oi := ⟨some 80, _, _, _, _, _⟩) (v := _) rfl (by kernel_rfl) (by kernel_rfl) (by kernel_rfl) (fun _ _ _ h => h) (Or.inl ⟨by kernel_rfl, ?hy34⟩) (by assumption) ?rest34
        case hy34 => (intro wx hSw; (try dsimp only at hSw); obtain ⟨k1, k2, k3⟩ := HKF.out _ hSw; go_simp; first | done | with_reducible rfl)
        (try simp only [Act.put, List.setIfInBounds_toArray, List.set_cons_zero, List.set_cons_succ])
        refine' wpAnyH_take (i := 18) (oi := ⟨some 81, _, _, _, _, _⟩) (v := _) rfl (by kernel_rfl) (by kernel_rfl) (by kernel_rfl) (fun _ _ _ h => h) (Or.inl ⟨by kernel_rfl, ?hy35⟩) (by assumption) ?rest35
        case hy35 => (intro wx hSw; (try dsimp only at hSw); obtain ⟨k1, k2, k3⟩ := HKF.out _ hSw; go_simp; first | done | with_reducible rfl)
        (try simp only [Act.put, List.setIfInBounds_toArray, List.set_cons_zero, List.set_cons_succ])
        refine' wpAnyH_take (i := 19) (oi := ⟨some 82, _, _, _, _, _⟩) (v := _) rfl (by kernel_rfl) (by kernel_rfl) (by kernel_rfl) (fun _ _ _ h => h) (Or.inl ⟨by kernel_rfl, ?hy36⟩) (by assumption) ?rest36
        case hy36 => (intro wx hSw; (try dsimp only at hSw); obtain ⟨k1, k2, k3⟩ := HKF.out _ hSw; go_simp; first | done | with_reducible rfl)
        (try simp only [Act.put, List.setIfInBounds_toArray, List.set_cons_zero, List.set_cons_succ])
        refine' wpAnyH_take (i := 20) (oi := ⟨some 83, _, _, _, _, _⟩) (v := _) rfl (by kernel_rfl) (by kernel_rfl) (by kernel_rfl) (fun _ _ _ h => h) (Or.inl ⟨by kernel_rfl, ?hy37⟩) (by assumption) ?rest37
        case hy37 => (intro wx hSw; (try dsimp only at hSw); obtain ⟨k1, k2, k3⟩ := HKF.out _ hSw; go_simp; first | done | with_reducible rfl)
        (try simp only [Act.put, List.setIfInBounds_toArray, List.set_cons_zero, List.set_cons_succ])
        refine' wpAnyH_take (i := 21) (oi := ⟨some 84, _, _, _, _, _⟩) (v := _) rfl (by kernel_rfl) (by kernel_rfl) (by kernel_rfl) (fun _ _ _ h => h) (Or.inl ⟨by kernel_rfl, ?hy38⟩) (by assumption) ?rest38
        case hy38 => (intro wx hSw; (try dsimp only at hSw); obtain ⟨k1, k2, k3⟩ := HKF.out _ hSw; go_simp; first | done | with_reducible rfl)
        (try simp only [Act.put, List.setIfInBounds_toArray, List.set_cons_zero, List.set_cons_succ])
        refine' wpAnyH_take (i := 22) (oi := ⟨some 85, _, _, _, _, _⟩) (v := _) rfl (by kernel_rfl) (by kernel_rfl) (by kernel_rfl) (fun _ _ _ h => h) (Or.inl ⟨by kernel_rfl, ?hy39⟩) (by assumption) ?rest39
        case hy39 => (intro wx hSw; (try dsimp only at hSw); obtain ⟨k1, k2, k3⟩ := HKF.out _ hSw; go_simp; first | done | with_reducible rfl)
        (try simp only [Act.put, List.setIfInBounds_toArray, List.set_cons_zero, List.set_cons_succ])
        refine' wpAnyH_take (i := 23) (oi := ⟨some 86, _, _, _, _, _⟩) (v := _) rfl (by kernel_rfl) (by kernel_rfl) (by kernel_rfl) (fun _ _ _ h => h) (Or.inl ⟨by kernel_rfl, ?hy40⟩) (by assumption) ?rest40
        case hy40 => (intro wx hSw; (try dsimp only at hSw); obtain ⟨k1, k2, k3⟩ := HKF.out _ hSw; go_simp; first | done | with_reducible rfl)
        (try simp only [Act.put, List.setIfInBounds_toArray, List.set_cons_zero, List.set_cons_succ])
        refine' wpAnyH_take (i := 24) (oi := ⟨some 87, _, _, _, _, _⟩) (v := _) rfl (by kernel_rfl) (by kernel_rfl) (by kernel_rfl) (fun _ _ _ h => h) (Or.inl ⟨by kernel_rfl, ?hy41⟩) (by assumption) ?rest41
        case hy41 => (intro wx hSw; (try dsimp only at hSw); obtain ⟨k1, k2, k3⟩ := HKF.out _ hSw; go_simp; first | done | with_reducible rfl)
        (try simp only [Act.put, List.setIfInBounds_toArray, List.set_cons_zero, List.set_cons_succ])
        refine' wpAnyH_take (i := 25) (oi := ⟨some 88, _, _, _, _, _⟩) (v := _) rfl (by kernel_rfl) (by kernel_rfl) (by kernel_rfl) (fun _ _ _ h => h) (Or.inl ⟨by kernel_rfl, ?hy42⟩) (by assumption) ?rest42
        case hy42 => (intro wx hSw; (try dsimp only at hSw); obtain ⟨k1, k2, k3⟩ := HKF.out _ hSw; go_simp; first | done | with_reducible rfl)
        (try simp only [Act.put, List.setIfInBounds_toArray, List.set_cons_zero, List.set_cons_succ])
        refine' wpAnyH_take (i := 26) (oi := ⟨some 89, _, _, _, _, _⟩) (v := _) rfl (by kernel_rfl) (by kernel_rfl) (by kernel_rfl) (fun _ _ _ h => h) (Or.inl ⟨by kernel_rfl, ?hy43⟩) (by assumption) ?rest43
        case hy43 => (intro wx hSw; (try dsimp only at hSw); obtain ⟨k1, k2, k3⟩ := HKF.out _ hSw; go_simp; first | done | with_reducible rfl)
        (try simp only [Act.put, List.setIfInBounds_toArray, List.set_cons_zero, List.set_cons_succ])
        refine' wpAnyH_take (i := 27) (oi := ⟨some 90, _, _, _, _, _⟩) (v := _) rfl (by kernel_rfl) (by kernel_rfl) (by kernel_rfl) (fun _ _ _ h => h) (Or.inl ⟨by kernel_rfl, ?hy44⟩) (by assumption) ?rest44
        case hy44 => (intro wx hSw; (try dsimp only at hSw); obtain ⟨k1, k2, k3⟩ := HKF.out _ hSw; go_simp; first | done | with_reducible rfl)
        (try simp only [Act.put, List.setIfInBounds_toArray, List.set_cons_zero, List.set_cons_succ])
        refine wpAnyH_ready (rs := [28]) (by kernel_rfl) (by simp) ?_
        refine AllReadyH.cons rfl (fun K9 hK => ?_) AllReadyH.nil
        rw [if_pos (by kernel_rfl)]
        go_simp
        go_wp2_with (go_at_call 20; refine (HKn.out _ (HGf.out _ HQ3.out)).mono ?_; rintro e wd ⟨rfl, hbd⟩)
        have HQ4 := hid (below2 HQ3.out hbd)
        clear hbd
        refine hK.out _ _ HQ4.out (fun hHeld2 => ?_)
        clear hK K9 hHeld
        rename _ => hHeld
        refine' wpAnyH_take (i := 29) (oi := ⟨some 92, _, _, _, _, _⟩) (v := _) rfl (by kernel_rfl) (by kernel_rfl) (by kernel_rfl) (fun _ _ _ h => h) (Or.inl ⟨by kernel_rfl, ?hy45⟩) (by assumption) ?rest45
        case hy45 => (intro wx hSw; (try dsimp only at hSw); obtain ⟨k1, k2, k3⟩ := HKF.out _ hSw; go_simp; first | done | with_reducible rfl)
        (try simp only [Act.put, List.setIfInBounds_toArray, List.set_cons_zero, List.set_cons_succ])
        refine' wpAnyH_take (i := 30) (oi := ⟨some 4, _, _, _, _, _⟩) (v := _) rfl (by kernel_rfl) (by kernel_rfl) (by kernel_rfl) (fun _ _ _ h => h) (Or.inl ⟨by kernel_rfl, ?hy46⟩) (by assumption) ?rest46
        case hy46 => (intro wx hSw; (try dsimp only at hSw); obtain ⟨k1, k2, k3⟩ := HKF.out _ hSw; go_simp; first | done | with_reducible rfl)
        (try simp only [Act.put, List.setIfInBounds_toArray, List.set_cons_zero, List.set_cons_succ])
        refine wpAnyH_done (by kernel_rfl) ?_ _
        go_wp2
        go_ret
        exact ⟨rfl, below2 HB6.out HQ4.out⟩

end Go.Proofs.YtdnginibhpnefaaGreatDoor
