/-
  Walks and plain facts that this claim leans on, put together out of 7 texts: Erd, Xc, Xe, Xg, Vq, Erk, Erf.
-/
import Derived.Test.YtdnginibhpnefaaGreatDoorProg
import Derived.Test.YtdnginibhpnefaaGreatDoorQa1
import Derived.Test.YtdnginibhpnefaaGreatDoorQa2
import Derived.Test.YtdnginibhpnefaaGreatDoorQa3
import Derived.Test.YtdnginibhpnefaaGreatDoorQa4
import Derived.Test.YtdnginibhpnefaaGreatDoorQa5
import Derived.Test.YtdnginibhpnefaaGreatDoorQa6
import Derived.Test.YtdnginibhpnefaaGreatDoorQa7
import Derived.Test.YtdnginibhpnefaaGreatDoorQa8
import Derived.Test.YtdnginibhpnefaaGreatDoorQa9
import Derived.Test.YtdnginibhpnefaaGreatDoorQa10
import Derived.Test.YtdnginibhpnefaaGreatDoorQa11
import Derived.Test.YtdnginibhpnefaaGreatDoorQa12
import Derived.Test.YtdnginibhpnefaaGreatDoorQa13
import Derived.Test.YtdnginibhpnefaaGreatDoorQa14
import Derived.Test.YtdnginibhpnefaaGreatDoorQa15
import Derived.Test.YtdnginibhpnefaaGreatDoorQa16
import Derived.Test.YtdnginibhpnefaaGreatDoorQa17
import Derived.Test.YtdnginibhpnefaaGreatDoorQa18
import Derived.Test.YtdnginibhpnefaaGreatDoorQa19
import Derived.Test.YtdnginibhpnefaaGreatDoorQa20
import Derived.Test.YtdnginibhpnefaaGreatDoorQa21
import Derived.Test.YtdnginibhpnefaaGreatDoorQa22
import Derived.Test.YtdnginibhpnefaaGreatDoorQa23
import Derived.Test.YtdnginibhpnefaaGreatDoorQa24
import Derived.Test.YtdnginibhpnefaaGreatDoorQa25
import Derived.Test.YtdnginibhpnefaaGreatDoorQa26
import Derived.Test.YtdnginibhpnefaaGreatDoorQa27
import Derived.Test.YtdnginibhpnefaaGreatDoorQa28
import Derived.Test.YtdnginibhpnefaaGreatDoorQa29
import Derived.Test.YtdnginibhpnefaaGreatDoorQa30
import Derived.Test.YtdnginibhpnefaaGreatDoorQa31
import Derived.Laws.BitsAllLaws
import Derived.Laws.CopyOwn
import Derived.Laws.ResultCell
import Derived.Deep.MidRow
import Derived.Lib.Strings
import Derived.Lib.UnsafeStr
import Derived.Laws.IdiomStrings
import Derived.Laws.AppendOwn
import Derived.Deep.RegionWith
import Derived.WalkKit
import Derived.WalkSpells
import Derived.WalkLawsBesides
import Derived.OwnWalk
import Derived.Deep.RegionLaw
import Derived.Deep.LoopGhost
import Derived.BigRegion
import Derived.Scope
import Derived.ScopeJumps
import Derived.WalkMore
import Derived.Deep.Cut
import Derived.Lib.Bytealg
import Derived.Laws.BytesString
import Derived.Deep.RegionHeld
import Derived.Lib.AppendIntMem
import Derived.Lib.SmallJoins
import Derived.WalkSmall
import Derived.Lib.AppendStr
import Derived.LoopN
import Derived.Lib.FrozenHead2
import Derived.Lib.OthersKept
import Derived.Lib.Builder
import Derived.RegionTactic
import Derived.Deep.QuietTactic
import Derived.BigQuiet
import Derived.Lib.IndexMore
import Derived.Lib.Join
import Derived.Laws.OwnMore
import Derived.Lib.BufferRead
import Derived.Lib.RuneBytes
import Derived.Laws.RangeAny
import Derived.Laws.AppendOwnNone
import Derived.Deep.WholeRow
import Derived.Lib.LastIndexByte
import Derived.Lib.DecodeN
import Derived.Shelf.Strings.Builder1
import Derived.Shelf.Strings.Builder2
import Derived.Shelf.Strings.OnBuilder
import Derived.Shelf.Strings.Trim
import Derived.Shelf.Small.Utf8
import Derived.Shelf.Small.Strs
import Derived.Shelf.Small.Wraps
import Derived.Shelf.Strings.BuilderF
import Derived.Shelf.Strings.BuilderK
import Derived.Shelf.Strings.Builder2Cap
import Derived.Shelf.Strconv.Itoa0
import Derived.Shelf.Strconv.Itoa1
import Derived.Shelf.LaysM
import Derived.Shelf.Strconv.Itoa2
import Derived.Shelf.Strconv.Itoa3
import Derived.Shelf.Strings.Search1
import Derived.Shelf.Strings.Search2
import Derived.Shelf.Strings.Search3
import Derived.Shelf.Strings.Cut
import Derived.Shelf.Strings.Count
import Derived.Shelf.Strings.Shaped
import Derived.Shelf.Strings.LastIndex
import Derived.Shelf.Strings.Prefix
import Derived.Shelf.Strings.Split
import Derived.Shelf.Strings.Replace
import Derived.Shelf.Strings.Runes
import Derived.Shelf.Strings.IndexAny
import Derived.Shelf.Strings.AsciiSet
import Derived.Shelf.Strings.IndexAnyAll
import Derived.Shelf.Unicode.DecodeSlow
import Derived.Ground.Names2Prog
import Derived.Shelf.Slices.Clone
import Derived.Ground.SlgnProg
import Derived.Shelf.SlicesE.Clone
import Derived.Lib.SlTrimSet
import Derived.Lib.IndexAny
import Derived.Lib.Replace
import Derived.Lib.TrimByte
import Derived.Lib.ItoaNum
import Derived.Lib.BufferMore
import Derived.Below
set_option linter.unusedSimpArgs false
set_option linter.unusedVariables false

namespace Go.Proofs.YtdnginibhpnefaaGreatDoor
open Go.RowKit

theorem adr_twelve {W : World} {b : Nat} {A : Adr} {ua : Option Addr} {un uc : Nat} {u0 u1 u2 u3 : ByteArray} {u4 : Bool} {u5 : Int} {u6 : Bool} {u8 u9 : ByteArray} {u10 u11 : Bool} (hx : adrCells A (.slice ua un uc) = [.string u0, .string u1, .string u2, .string u3, .bool u4, .int .i64 u5, .bool u6, .slice ua un uc, .string u8, .string u9, .bool u10, .bool u11]) (h : AdrIn W b A (.slice ua un uc)) :
    W.cell? ⟨b, 0, none⟩ = some (.string u0) ∧ W.cell? ⟨b, 1, none⟩ = some (.string u1) ∧ W.cell? ⟨b, 2, none⟩ = some (.string u2) ∧ W.cell? ⟨b, 3, none⟩ = some (.string u3) ∧ W.cell? ⟨b, 4, none⟩ = some (.bool u4) ∧ W.cell? ⟨b, 5, none⟩ = some (.int .i64 u5) ∧ W.cell? ⟨b, 6, none⟩ = some (.bool u6) ∧ W.cell? ⟨b, 7, none⟩ = some (.slice ua un uc) ∧ W.cell? ⟨b, 8, none⟩ = some (.string u8) ∧ W.cell? ⟨b, 9, none⟩ = some (.string u9) ∧ W.cell? ⟨b, 10, none⟩ = some (.bool u10) ∧ W.cell? ⟨b, 11, none⟩ = some (.bool u11) := by
  have f : ∀ j v, [.string u0, .string u1, .string u2, .string u3, .bool u4, .int .i64 u5, .bool u6, .slice ua un uc, .string u8, .string u9, .bool u10, .bool u11][j]? = some v → W.cell? ⟨b, j, none⟩ = some v := fun j v hj => h.cell j v (by rw [hx]; exact hj)
  exact ⟨f 0 _ rfl, f 1 _ rfl, f 2 _ rfl, f 3 _ rfl, f 4 _ rfl, f 5 _ rfl, f 6 _ rfl, f 7 _ rfl, f 8 _ rfl, f 9 _ rfl, f 10 _ rfl, f 11 _ rfl⟩

theorem read_err {s : List UInt8} {e : Int} (h : readV s none = .error e) : e = 3 ∨ e = 10 ∨ e = 11 ∨ e = 12 := by
  unfold readV at h
  split at h
  · injection h with h; exact .inl h.symm
  · simp only at h
    split at h
    · injection h with h; exact .inr (.inr (.inr h.symm))
    · rcases startV_err h with h | h
      · exact .inr (.inl h)
      · exact .inr (.inr (.inl h))

theorem join_err {s : List UInt8} {b : Adr} {e : Int} (h : readV s (some b) = .error e) : e = 3 ∨ e = 10 ∨ e = 11 ∨ e = 12 := by
  have hs : ∀ {u r}, startV u r = .error e → e = 3 ∨ e = 10 ∨ e = 11 ∨ e = 12 := fun h => by
    rcases startV_err h with h | h
    · exact .inr (.inl h)
    · exact .inr (.inr (.inl h))
  unfold readV at h
  split at h
  · injection h with h; exact .inl h.symm
  · simp only at h
    split at h
    · exact hs h
    · split at h
      · injection h with h; exact .inr (.inr (.inr h.symm))
      · unfold joinV at h
        simp only at h
        split at h
        · exact hs h
        · split at h
          · cases h
          · split at h
            · cases h
            · cases h

theorem err_ne {e : Int} (h : e = 3 ∨ e = 10 ∨ e = 11 ∨ e = 12) : (e == 0) = false := by
  rcases h with rfl | rfl | rfl | rfl <;> rfl

theorem err_bne {e : Int} (h : e = 3 ∨ e = 10 ∨ e = 11 ∨ e = 12) : (e != 0) = true := by
  rcases h with rfl | rfl | rfl | rfl <;> rfl

theorem zero_slim : Slim 20000 Adr.zero := by
  unfold Slim Adr.zero
  simp [slL]

set_option maxHeartbeats 2000000 in
set_option maxRecDepth 100000 in
theorem text3_any (s : ByteArray) (w : World) (hg : Gd w) (hs : s.size ≤ 100000) :
    Calls Tryz.prog 16 #[.string s] w fun e w' => e = .returned (.string ⟨(textL s.data.toList).toArray⟩) ∧ Below w.heap.size w w' := by
  have HPa := hid (uparse_any s w hg hs)
  have HG := hid hg
  cases hr : readV s.data.toList none with
  | error x =>
    have HV := hid (show textL s.data.toList = [] by unfold textL; rw [hr])
    have hx0 := err_ne (read_err hr)
    have hx1 := err_bne (read_err hr)
    rw [hr] at HPa
    unfold ReadPost at HPa
    simp only [numOf] at HPa
    obtain ⟨A, hA⟩ : ∃ A, adrOf (.error x) = A := ⟨_, rfl⟩
    rw [hA] at HPa
    clear hr hA hg
    go_enter Tryz.func16, Tryz.ntmps16
    go_wp2_with fail
    refine HPa.out.mono ?_
    rintro e w1 ⟨pv, rfl, hown, hb1⟩
    obtain ⟨ua, un, uc, rfl⟩ := own_sl hown
    obtain ⟨u0, u1, u2, u3, u4, u5, u6, u8, u9, u10, u11, hxu⟩ := adr_cells A ua un uc
    have hvu : adrVal A (.slice ua un uc) = .agg #[.string u0, .string u1, .string u2, .string u3, .bool u4, .int .i64 u5, .bool u6, .slice ua un uc, .string u8, .string u9, .bool u10, .bool u11] := by unfold adrVal; rw [hxu]
    rw [hvu]
    obtain ⟨W2, hW2⟩ : ∃ X, (w1.alloc (.cells #[.string u0, .string u1, .string u2, .string u3, .bool u4, .int .i64 u5, .bool u6, .slice ua un uc, .string u8, .string u9, .bool u10, .bool u11] 24)) = X := ⟨_, rfl⟩
    have hbW2 : Below w1.heap.size w1 W2 := by rw [← hW2]; exact (Below.refl _ w1).alloc (Nat.le_refl _) _
    have hsW2 : W2.heap.size = w1.heap.size + 1 := by rw [← hW2]; simp
    have hAW2 : AdrIn W2 w1.heap.size A (.slice ua un uc) := by
      unfold AdrIn
      rw [hxu, ← hW2]
      exact heap_alloc_new w1 _
    have HB2 := hid (below2 hb1 hbW2)
    clear hown hb1 hbW2 hAW2 hxu hvu
    go_wp2_with fail
    go_ret
    exact ⟨by rw [HV.out]; rfl, HB2.out⟩
  | ok A =>
    have HV := hid (show textL s.data.toList = textV A by unfold textL; rw [hr])
    have HF := hid (parse_fine hr)
    rw [hr] at HPa
    unfold ReadPost at HPa
    simp only [numOf, adrOf] at HPa
    clear hr hg
    go_enter Tryz.func16, Tryz.ntmps16
    go_wp2_with fail
    refine HPa.out.mono ?_
    rintro e w1 ⟨pv, rfl, hown, hb1⟩
    obtain ⟨ua, un, uc, rfl⟩ := own_sl hown
    obtain ⟨u0, u1, u2, u3, u4, u5, u6, u8, u9, u10, u11, hxu⟩ := adr_cells A ua un uc
    have hvu : adrVal A (.slice ua un uc) = .agg #[.string u0, .string u1, .string u2, .string u3, .bool u4, .int .i64 u5, .bool u6, .slice ua un uc, .string u8, .string u9, .bool u10, .bool u11] := by unfold adrVal; rw [hxu]
    rw [hvu]
    obtain ⟨W2, hW2⟩ : ∃ X, (w1.alloc (.cells #[.string u0, .string u1, .string u2, .string u3, .bool u4, .int .i64 u5, .bool u6, .slice ua un uc, .string u8, .string u9, .bool u10, .bool u11] 24)) = X := ⟨_, rfl⟩
    have hbW2 : Below w1.heap.size w1 W2 := by rw [← hW2]; exact (Below.refl _ w1).alloc (Nat.le_refl _) _
    have hsW2 : W2.heap.size = w1.heap.size + 1 := by rw [← hW2]; simp
    have hAW2 : AdrIn W2 w1.heap.size A (.slice ua un uc) := by
      unfold AdrIn
      rw [hxu, ← hW2]
      exact heap_alloc_new w1 _
    have hpa := (own_path hown).kept hbW2
    have HB2 := hid (below2 hb1 hbW2)
    have HT := hid (text_any A (.slice ua un uc) W2 (HG.out.kept HB2.out) hpa HF.out)
    rw [hvu] at HT
    obtain ⟨y0, y1, y2, y3, y4, y5, y6, y7, y8, y9, y10, y11⟩ := adr_twelve hxu hAW2
    clear hown hb1 hbW2 hAW2 hxu hvu hpa
    go_wp2_with (go_at_call 19; refine HT.out.mono ?_; rintro e w3 ⟨rfl, hb3⟩)
    go_ret
    exact ⟨by rw [HV.out]; rfl, below2 HB2.out hb3⟩

set_option maxHeartbeats 2000000 in
set_option maxRecDepth 100000 in
theorem why3_any (s : ByteArray) (w : World) (hg : Gd w) (hs : s.size ≤ 100000) :
    Calls Tryz.prog 17 #[.string s] w fun e w' => e = .returned (.int .i64 (numOf (readV s.data.toList none))) ∧ Below w.heap.size w w' := by
  have HPa := hid (uparse_any s w hg hs)
  unfold ReadPost at HPa
  obtain ⟨A, hA⟩ : ∃ A, adrOf (readV s.data.toList none) = A := ⟨_, rfl⟩
  obtain ⟨x, hx⟩ : ∃ x, numOf (readV s.data.toList none) = x := ⟨_, rfl⟩
  rw [hA, hx] at HPa
  rw [hx]
  clear hA hx hg
  go_enter Tryz.func17, Tryz.ntmps17
  go_wp2_with fail
  refine HPa.out.mono ?_
  rintro e w1 ⟨pv, rfl, hown, hb1⟩
  obtain ⟨ua, un, uc, rfl⟩ := own_sl hown
  obtain ⟨u0, u1, u2, u3, u4, u5, u6, u8, u9, u10, u11, hxu⟩ := adr_cells A ua un uc
  have hvu : adrVal A (.slice ua un uc) = .agg #[.string u0, .string u1, .string u2, .string u3, .bool u4, .int .i64 u5, .bool u6, .slice ua un uc, .string u8, .string u9, .bool u10, .bool u11] := by unfold adrVal; rw [hxu]
  rw [hvu]
  obtain ⟨W2, hW2⟩ : ∃ X, (w1.alloc (.cells #[.string u0, .string u1, .string u2, .string u3, .bool u4, .int .i64 u5, .bool u6, .slice ua un uc, .string u8, .string u9, .bool u10, .bool u11] 24)) = X := ⟨_, rfl⟩
  have hbW2 : Below w1.heap.size w1 W2 := by rw [← hW2]; exact (Below.refl _ w1).alloc (Nat.le_refl _) _
  have hsW2 : W2.heap.size = w1.heap.size + 1 := by rw [← hW2]; simp
  have hAW2 : AdrIn W2 w1.heap.size A (.slice ua un uc) := by
    unfold AdrIn
    rw [hxu, ← hW2]
    exact heap_alloc_new w1 _
  have HB2 := hid (below2 hb1 hbW2)
  clear hown hb1 hbW2 hAW2 hxu hvu
  go_wp2_with fail
  go_ret
  exact ⟨rfl, HB2.out⟩

theorem parse_slim0 (s : List UInt8) : Slim 20000 (adrOf (readV s none)) := by
  cases h : readV s none with
  | error e => exact zero_slim
  | ok u => exact parse_slim h

theorem slim_path {n : Nat} {u : Adr} (h : Slim n u) (hn : n ≤ 100000) : u.path.length ≤ 100000 := by
  have := slL_len u.path
  have h2 : (slL u.path).length ≤ n := by unfold Slim at h; exact h.2.2.2.2.2.1
  omega

set_option maxHeartbeats 4000000 in
set_option maxRecDepth 100000 in
theorem joined3_any (s b : ByteArray) (w : World) (hg : Gd w) (hs : s.size ≤ 100000) (hbs : b.size ≤ 100000) :
    Calls Tryz.prog 18 #[.string s, .string b] w fun e w' => e = .returned (.string ⟨(joinedL s.data.toList b.data.toList).toArray⟩) ∧ Below w.heap.size w w' := by
  have HPa := hid (rparse3_any b w hbs)
  have HG := hid hg
  have hsl0 := parse_slim0 b.data.toList
  have HV0 := hid (show joinedL s.data.toList b.data.toList = (match readV s.data.toList (some (adrOf (readV b.data.toList none))) with | .ok u => textV u | .error _ => []) from rfl)
  unfold ReadPost at HPa
  obtain ⟨x0, hx0⟩ : ∃ x, numOf (readV b.data.toList none) = x := ⟨_, rfl⟩
  rw [hx0] at HPa
  obtain ⟨B, hB⟩ : ∃ A, adrOf (readV b.data.toList none) = A := ⟨_, rfl⟩
  rw [hB] at HPa hsl0 HV0
  have HPl := hid (slim_path hsl0 (by omega))
  have HSl := hid hsl0
  clear hB hg hsl0 hx0
  cases hr : readV s.data.toList (some B) with
  | error x =>
    have HV := hid (show joinedL s.data.toList b.data.toList = [] by rw [HV0.out, hr])
    have HR := hid hr
    have hx0 := err_ne (join_err hr)
    have hx1 := err_bne (join_err hr)
    clear hr HV0
    go_enter Tryz.func18, Tryz.ntmps18
    go_wp2_with fail
    refine HPa.out.mono ?_
    rintro e w1 ⟨pv, rfl, hown, hb1⟩
    obtain ⟨ua, un, uc, rfl⟩ := own_sl hown
    obtain ⟨u0, u1, u2, u3, u4, u5, u6, u8, u9, u10, u11, hxu⟩ := adr_cells B ua un uc
    have hvu : adrVal B (.slice ua un uc) = .agg #[.string u0, .string u1, .string u2, .string u3, .bool u4, .int .i64 u5, .bool u6, .slice ua un uc, .string u8, .string u9, .bool u10, .bool u11] := by unfold adrVal; rw [hxu]
    rw [hvu]
    obtain ⟨W2, hW2⟩ : ∃ X, (w1.alloc (.cells #[.string u0, .string u1, .string u2, .string u3, .bool u4, .int .i64 u5, .bool u6, .slice ua un uc, .string u8, .string u9, .bool u10, .bool u11] 24)) = X := ⟨_, rfl⟩
    have hbW2 : Below w1.heap.size w1 W2 := by rw [← hW2]; exact (Below.refl _ w1).alloc (Nat.le_refl _) _
    have hsW2 : W2.heap.size = w1.heap.size + 1 := by rw [← hW2]; simp
    have hAW2 : AdrIn W2 w1.heap.size B (.slice ua un uc) := by
      unfold AdrIn
      rw [hxu, ← hW2]
      exact heap_alloc_new w1 _
    have hpa := (own_path hown).kept hbW2
    have HB2 := hid (below2 hb1 hbW2)
    have HJ := hid (ujoin_any s B (.slice ua un uc) W2 (HG.out.kept HB2.out) hs hpa HPl.out)
    rw [hvu, HR.out] at HJ
    unfold ReadPost at HJ
    obtain ⟨y0, y1, y2, y3, y4, y5, y6, y7, y8, y9, y10, y11⟩ := adr_twelve hxu hAW2
    clear hown hb1 hbW2 hAW2 hxu hvu hpa
    simp only [numOf] at HJ
    obtain ⟨A, hA⟩ : ∃ A, adrOf (.error x) = A := ⟨_, rfl⟩
    rw [hA] at HJ
    clear hA
    go_wp2_with fail
    refine HJ.out.mono ?_
    rintro e w3 ⟨qv, rfl, hown3, hb3⟩
    obtain ⟨va, vn, vc, rfl⟩ := own_sl hown3
    obtain ⟨v0, v1, v2, v3, v4, v5, v6, v8, v9, v10, v11, hxv⟩ := adr_cells A va vn vc
    have hvv : adrVal A (.slice va vn vc) = .agg #[.string v0, .string v1, .string v2, .string v3, .bool v4, .int .i64 v5, .bool v6, .slice va vn vc, .string v8, .string v9, .bool v10, .bool v11] := by unfold adrVal; rw [hxv]
    rw [hvv]
    obtain ⟨W4, hW4⟩ : ∃ X, (w3.alloc (.cells #[.string v0, .string v1, .string v2, .string v3, .bool v4, .int .i64 v5, .bool v6, .slice va vn vc, .string v8, .string v9, .bool v10, .bool v11] 24)) = X := ⟨_, rfl⟩
    have hbW4 : Below w3.heap.size w3 W4 := by rw [← hW4]; exact (Below.refl _ w3).alloc (Nat.le_refl _) _
    have hsW4 : W4.heap.size = w3.heap.size + 1 := by rw [← hW4]; simp
    have hAW4 : AdrIn W4 w3.heap.size A (.slice va vn vc) := by
      unfold AdrIn
      rw [hxv, ← hW4]
      exact heap_alloc_new w3 _
    have HB4 := hid (below2 HB2.out (below2 hb3 hbW4))
    clear hown3 hb3 hbW4 hAW4 hxv hvv
    go_wp2_with fail
    go_ret
    exact ⟨by rw [HV.out]; rfl, HB4.out⟩
  | ok A =>
    have HV := hid (show joinedL s.data.toList b.data.toList = textV A by rw [HV0.out, hr])
    have HR := hid hr
    have HF := hid ((join_slim HSl.out (by omega) hr).fine (by omega))
    clear hr HV0
    go_enter Tryz.func18, Tryz.ntmps18
    go_wp2_with fail
    refine HPa.out.mono ?_
    rintro e w1 ⟨pv, rfl, hown, hb1⟩
    obtain ⟨ua, un, uc, rfl⟩ := own_sl hown
    obtain ⟨u0, u1, u2, u3, u4, u5, u6, u8, u9, u10, u11, hxu⟩ := adr_cells B ua un uc
    have hvu : adrVal B (.slice ua un uc) = .agg #[.string u0, .string u1, .string u2, .string u3, .bool u4, .int .i64 u5, .bool u6, .slice ua un uc, .string u8, .string u9, .bool u10, .bool u11] := by unfold adrVal; rw [hxu]
    rw [hvu]
    obtain ⟨W2, hW2⟩ : ∃ X, (w1.alloc (.cells #[.string u0, .string u1, .string u2, .string u3, .bool u4, .int .i64 u5, .bool u6, .slice ua un uc, .string u8, .string u9, .bool u10, .bool u11] 24)) = X := ⟨_, rfl⟩
    have hbW2 : Below w1.heap.size w1 W2 := by rw [← hW2]; exact (Below.refl _ w1).alloc (Nat.le_refl _) _
    have hsW2 : W2.heap.size = w1.heap.size + 1 := by rw [← hW2]; simp
    have hAW2 : AdrIn W2 w1.heap.size B (.slice ua un uc) := by
      unfold AdrIn
      rw [hxu, ← hW2]
      exact heap_alloc_new w1 _
    have hpa := (own_path hown).kept hbW2
    have HB2 := hid (below2 hb1 hbW2)
    have HJ := hid (ujoin_any s B (.slice ua un uc) W2 (HG.out.kept HB2.out) hs hpa HPl.out)
    rw [hvu, HR.out] at HJ
    unfold ReadPost at HJ
    obtain ⟨y0, y1, y2, y3, y4, y5, y6, y7, y8, y9, y10, y11⟩ := adr_twelve hxu hAW2
    clear hown hb1 hbW2 hAW2 hxu hvu hpa
    simp only [numOf, adrOf] at HJ
    go_wp2_with fail
    refine HJ.out.mono ?_
    rintro e w3 ⟨qv, rfl, hown3, hb3⟩
    obtain ⟨va, vn, vc, rfl⟩ := own_sl hown3
    obtain ⟨v0, v1, v2, v3, v4, v5, v6, v8, v9, v10, v11, hxv⟩ := adr_cells A va vn vc
    have hvv : adrVal A (.slice va vn vc) = .agg #[.string v0, .string v1, .string v2, .string v3, .bool v4, .int .i64 v5, .bool v6, .slice va vn vc, .string v8, .string v9, .bool v10, .bool v11] := by unfold adrVal; rw [hxv]
    rw [hvv]
    obtain ⟨W4, hW4⟩ : ∃ X, (w3.alloc (.cells #[.string v0, .string v1, .string v2, .string v3, .bool v4, .int .i64 v5, .bool v6, .slice va vn vc, .string v8, .string v9, .bool v10, .bool v11] 24)) = X := ⟨_, rfl⟩
    have hbW4 : Below w3.heap.size w3 W4 := by rw [← hW4]; exact (Below.refl _ w3).alloc (Nat.le_refl _) _
    have hsW4 : W4.heap.size = w3.heap.size + 1 := by rw [← hW4]; simp
    have hAW4 : AdrIn W4 w3.heap.size A (.slice va vn vc) := by
      unfold AdrIn
      rw [hxv, ← hW4]
      exact heap_alloc_new w3 _
    have hpa := (own_path hown3).kept hbW4
    have HB4 := hid (below2 HB2.out (below2 hb3 hbW4))
    have HT := hid (text_any A (.slice va vn vc) W4 (HG.out.kept HB4.out) hpa HF.out)
    rw [hvv] at HT
    clear y0 y1 y2 y3 y4 y5 y6 y7 y8 y9 y10 y11
    obtain ⟨z0, z1, z2, z3, z4, z5, z6, z7, z8, z9, z10, z11⟩ := adr_twelve hxv hAW4
    clear hown3 hb3 hbW4 hAW4 hxv hvv hpa
    go_wp2_with (go_at_call 19; refine HT.out.mono ?_; rintro e w5 ⟨rfl, hb5⟩)
    go_ret
    exact ⟨by rw [HV.out]; rfl, below2 HB4.out hb5⟩

theorem kn3_1 : textL [72, 84, 84, 80, 58, 47, 47, 117, 58, 112, 64, 69, 88, 46, 99, 111, 109, 58, 56, 48, 47, 97, 47, 46, 46, 47, 98, 32, 99, 63, 113, 39, 35, 102] = [104, 116, 116, 112, 58, 47, 47, 117, 58, 112, 64, 101, 120, 46, 99, 111, 109, 47, 98, 37, 50, 48, 99, 63, 113, 37, 50, 55, 35, 102] := by decide +kernel

theorem kn3_2 : joinedL [46, 46, 47, 120] [104, 116, 116, 112, 58, 47, 47, 104, 47, 97, 47, 98, 47, 99] = [104, 116, 116, 112, 58, 47, 47, 104, 47, 97, 47, 120] := by decide +kernel

theorem text3_at (s t : ByteArray) (h : textL s.data.toList = t.data.toList) (hs : s.size ≤ 100000) (w : World) (hg : Gd w) :
    Calls Tryz.prog 16 #[.string s] w fun e w' => e = .returned (.string t) ∧ Below w.heap.size w w' := by
  have := text3_any s w hg hs
  rw [h] at this
  exact this

theorem joined3_at (s b t : ByteArray) (h : joinedL s.data.toList b.data.toList = t.data.toList) (hs : s.size ≤ 100000) (hb : b.size ≤ 100000) (w : World) (hg : Gd w) :
    Calls Tryz.prog 18 #[.string s, .string b] w fun e w' => e = .returned (.string t) ∧ Below w.heap.size w w' := by
  have := joined3_any s b w hg hs hb
  rw [h] at this
  exact this

set_option maxHeartbeats 2000000 in
set_option maxRecDepth 100000 in
theorem known3_any (w : World) (hg : Gd w) :
    Calls Tryz.prog 20 #[] w fun e w' => e = .returned (.bool true) ∧ Below w.heap.size w w' := by
  have HG := hid hg
  have HT := hid (fun (X : World) (hX : Gd X) => text3_at ⟨#[72, 84, 84, 80, 58, 47, 47, 117, 58, 112, 64, 69, 88, 46, 99, 111, 109, 58, 56, 48, 47, 97, 47, 46, 46, 47, 98, 32, 99, 63, 113, 39, 35, 102]⟩ ⟨#[104, 116, 116, 112, 58, 47, 47, 117, 58, 112, 64, 101, 120, 46, 99, 111, 109, 47, 98, 37, 50, 48, 99, 63, 113, 37, 50, 55, 35, 102]⟩ kn3_1 (by decide) X hX)
  have HJ := hid (fun (X : World) (hX : Gd X) => joined3_at ⟨#[46, 46, 47, 120]⟩ ⟨#[104, 116, 116, 112, 58, 47, 47, 104, 47, 97, 47, 98, 47, 99]⟩ ⟨#[104, 116, 116, 112, 58, 47, 47, 104, 47, 97, 47, 120]⟩ kn3_2 (by decide) (by decide) X hX)
  have HO := hid (fun (X : World) => own_any ⟨#[119, 115, 115]⟩ X)
  have HSp := hid (fun (X : World) => special_any ⟨#[100, 97, 116, 97]⟩ X)
  rw [show ownV (⟨#[119, 115, 115]⟩ : ByteArray).data.toList = 443 by decide] at HO
  rw [show specV (⟨#[100, 97, 116, 97]⟩ : ByteArray).data.toList = false by decide] at HSp
  clear hg
  go_enter Tryz.func20, Tryz.ntmps20
  go_wp2_with fail
  refine (HT.out _ HG.out).mono ?_
  rintro e w1 ⟨rfl, hb1⟩
  have HB1 := hid hb1
  clear hb1
  go_wp2_with fail
  refine (HJ.out _ (HG.out.kept HB1.out)).mono ?_
  rintro e w2 ⟨rfl, hb2⟩
  have HB2 := hid (below2 HB1.out hb2)
  clear hb2
  go_wp2_with (first | (go_at_call 30; refine (HO.out _).mono ?_; rintro e w3 ⟨rfl, rfl⟩) | (go_at_call 29; refine (HSp.out _).mono ?_; rintro e w3 ⟨rfl, rfl⟩))
  go_ret
  exact ⟨rfl, HB2.out⟩

end Go.Proofs.YtdnginibhpnefaaGreatDoor

namespace Go.Proofs.YtdnginibhpnefaaGreatDoor
open Go.RowKit

/-- The texts L lie in block b, from off on. -/
def TxL (w : World) (b off : Nat) (L : List (List UInt8)) : Prop := ∀ j (h : j < L.length), w.cell? ⟨b, off + j, none⟩ = some (.string ⟨L[j].toArray⟩)

/-- The value v reads as the texts L. -/
def TxAt (w : World) (v : Value) (L : List (List UInt8)) : Prop :=
  ∃ a cap, v = .slice a L.length cap ∧ L.length ≤ cap ∧ cap ≤ maxLen ∧ ∀ j (hj : j < L.length), ∃ b off, a = some ⟨b, off, none⟩ ∧ w.cell? ⟨b, off + j, none⟩ = some (.string ⟨L[j].toArray⟩)

/-- The headers L lie in block b, from off on. -/
def HdS (w : World) (b off : Nat) (L : List Hd) : Prop :=
  ∀ j (h : j < L.length), w.cell? ⟨b, off + j * 2, none⟩ = some (.string ⟨L[j].name.toArray⟩) ∧ w.cell? ⟨b, off + j * 2 + 1, none⟩ = some (.string ⟨L[j].value.toArray⟩)

/-- The value v reads as the headers L. -/
def HdAt (w : World) (v : Value) (L : List Hd) : Prop :=
  ∃ a cap, v = .slice a L.length cap ∧ L.length ≤ cap ∧ cap ≤ maxLen ∧ ∀ j (hj : j < L.length), ∃ b off, a = some ⟨b, off, none⟩ ∧ w.cell? ⟨b, off + j * 2, none⟩ = some (.string ⟨L[j].name.toArray⟩) ∧ w.cell? ⟨b, off + j * 2 + 1, none⟩ = some (.string ⟨L[j].value.toArray⟩)

theorem HdS.kept {w w' : World} {b off : Nat} {L : List Hd} (h : HdS w b off L) (hb : Below w.heap.size w w') : HdS w' b off L := fun j hj => by
  have h1 := h j hj
  exact ⟨(hb.cell (World.block_lt_of_cell? w _ h1.1)).trans h1.1, (hb.cell (World.block_lt_of_cell? w _ h1.2)).trans h1.2⟩

theorem TxL.kept {w w' : World} {b off : Nat} {L : List (List UInt8)} (h : TxL w b off L) (hb : Below w.heap.size w w') : TxL w' b off L := fun j hj => by
  have h1 := h j hj
  exact (hb.cell (World.block_lt_of_cell? w _ h1)).trans h1

theorem HdAt.kept {w w' : World} {v : Value} {L : List Hd} (h : HdAt w v L) (hb : Below w.heap.size w w') : HdAt w' v L := by
  obtain ⟨a, cap, h1, h2, h3, h4⟩ := h
  refine ⟨a, cap, h1, h2, h3, fun j hj => ?_⟩
  obtain ⟨b, off, e, c1, c2⟩ := h4 j hj
  exact ⟨b, off, e, (hb.cell (World.block_lt_of_cell? w _ c1)).trans c1, (hb.cell (World.block_lt_of_cell? w _ c2)).trans c2⟩

theorem TxAt.kept {w w' : World} {v : Value} {L : List (List UInt8)} (h : TxAt w v L) (hb : Below w.heap.size w w') : TxAt w' v L := by
  obtain ⟨a, cap, h1, h2, h3, h4⟩ := h
  refine ⟨a, cap, h1, h2, h3, fun j hj => ?_⟩
  obtain ⟨b, off, e, c1⟩ := h4 j hj
  exact ⟨b, off, e, (hb.cell (World.block_lt_of_cell? w _ c1)).trans c1⟩

theorem xba {a b : ByteArray} (h : a.data.toList = b.data.toList) : a = b := by
  cases a; cases b; simp at h; simp [h]

end Go.Proofs.YtdnginibhpnefaaGreatDoor

namespace Go.Proofs.YtdnginibhpnefaaGreatDoor
open Go.RowKit

theorem xext {a : ByteArray} {l : List UInt8} (h : a.data.toList = l) : a = ⟨l.toArray⟩ := xba h

end Go.Proofs.YtdnginibhpnefaaGreatDoor

namespace Go.Proofs.YtdnginibhpnefaaGreatDoor
open Go.RowKit

theorem xtens_app (d : Nat) (h : d < 10) (T : List UInt8) : (⟨#[48, 49, 50, 51, 52, 53, 54, 55, 56, 57]⟩ : ByteArray).extract d (d + 1) ++ ⟨T.toArray⟩ = ⟨(decC d :: T).toArray⟩ := by
  refine xext ?_
  rw [ByteArray.data_append, Array.toList_append]
  have : ((⟨#[48, 49, 50, 51, 52, 53, 54, 55, 56, 57]⟩ : ByteArray).extract d (d + 1)).data.toList = [decC d] := by
    rcases (show d = 0 ∨ d = 1 ∨ d = 2 ∨ d = 3 ∨ d = 4 ∨ d = 5 ∨ d = 6 ∨ d = 7 ∨ d = 8 ∨ d = 9 from by omega) with
      rfl | rfl | rfl | rfl | rfl | rfl | rfl | rfl | rfl | rfl <;> (rw [Lib.extract_data]; rfl)
  rw [this]; rfl

theorem word_app (s : ByteArray) (k : Nat) (h : k < s.size) (T : List UInt8) : (⟨T.toArray⟩ : ByteArray) ++ s.extract k (k + 1) = ⟨(T ++ [s[k]]).toArray⟩ := by
  refine xext ?_
  rw [ByteArray.data_append, Array.toList_append, Lib.extract_data, show k + 1 - k = 1 by omega, drop_cons s k h]
  rfl

end Go.Proofs.YtdnginibhpnefaaGreatDoor

namespace Go.Proofs.YtdnginibhpnefaaGreatDoor
open Go.RowKit

set_option maxHeartbeats 400000 in
theorem few_any (s : ByteArray) (n : Nat) (w : World) (hn : n ≤ 1000000) (hs : s.size ≤ 9223372036854775807) :
    Calls Tryz.prog 27 #[.string s, .int .i64 n] w fun e w' => e = .returned (.string ⟨(s.data.toList.take n).toArray⟩) ∧ w = w' := by
  by_cases h : n < s.size
  · have h' : (n : Int) < (s.size : Int) := by omega
    have HE := hid (show s.extract 0 n = ⟨(s.data.toList.take n).toArray⟩ from ba_ext (by rw [Lib.extract_data]; simp))
    go_enter Tryz.func27, Tryz.ntmps27
    go_wp2
    go_ret
    rw [← HE.out]
    exact ⟨rfl, rfl⟩
  · have h' : ¬ ((n : Int) < (s.size : Int)) := by omega
    have HE := hid (show s = ⟨(s.data.toList.take n).toArray⟩ from ba_ext (by rw [List.take_of_length_le (by simp; omega)]))
    go_enter Tryz.func27, Tryz.ntmps27
    go_wp2
    go_ret
    rw [← HE.out]
    exact ⟨rfl, rfl⟩

end Go.Proofs.YtdnginibhpnefaaGreatDoor

namespace Go.Proofs.YtdnginibhpnefaaGreatDoor
open Go.RowKit

set_option maxHeartbeats 2000000 in
theorem digits3_any (n : Nat) (w : World) (hn : n ≤ 4294967296) :
    Calls Tryz.prog 33 #[.int .i64 n] w fun e w' => ∃ T, e = .returned (.string ⟨T.toArray⟩) ∧ Dec n T ∧ w = w' := by
  have H0 := hid (decI_start n (by omega))
  go_enter Tryz.func33, Tryz.ntmps33
  go_wp2
  go_loopg [0, 3, 4] 20 (fun f nv sv _ wr => ∃ (u : Nat) (T : List UInt8), nv = .int .i64 u ∧ sv = .string ⟨T.toArray⟩ ∧ u ≤ 4294967296 ∧ DecI n f u T ∧ wr = w)
  case atStart => exact ⟨n, [], rfl, rfl, hn, H0.out, rfl⟩
  case round =>
    obtain ⟨u, T, rfl, rfl, hu, hinv, rfl⟩ := hrel
    have hTl : T.length ≤ 20 := by have := hinv.2.1; omega
    have HI := hid hinv
    clear hinv
    have hm : u % 10 < 10 := by omega
    by_cases hp : 0 < u ∨ T = []
    · obtain ⟨g, rfl, hnext⟩ := decI_step n _ u T hn hu HI.out hp
      have HN := hid hnext
      have HX := hid (xtens_app (u % 10) hm T)
      have hul : u / 10 ≤ 4294967296 := by omega
      clear hnext
      by_cases h0 : 0 < u
      · have h0' : (0 : Int) < (u : Int) := by omega
        clear hp
        go_wp2
        go_roundg g
        case measure => omega
        case rel => exact ⟨_, _, by go_num, by rw [HX.out], hul, HN.out, rfl⟩
      · have hT0 : T = [] := hp.resolve_left h0
        have hu0 : u = 0 := by omega
        subst hT0
        subst hu0
        clear hp h0
        go_wp2
        go_roundg g
        case measure => omega
        case rel => exact ⟨_, _, by go_num, by rw [HX.out], hul, HN.out, rfl⟩
    · have hu0 : u = 0 := by omega
      have hT : T ≠ [] := fun h => hp (.inr h)
      have HD := hid (decI_done n _ u T HI.out hu0 hT)
      have he : T.isEmpty = false := by simpa using hT
      subst hu0
      clear hp hT
      go_wp2
      go_ret
      exact ⟨T, rfl, HD.out, rfl⟩

set_option maxHeartbeats 2000000 in
theorem letters3_any (s : ByteArray) (w : World) (hs : s.size ≤ 9223372036854775807) :
    Calls Tryz.prog 31 #[.string s] w fun e w' => ∃ T, e = .returned (.string ⟨T.toArray⟩) ∧ WrQ T ∧ T.length ≤ 20 ∧ w = w' := by
  go_enter Tryz.func31, Tryz.ntmps31
  go_wp2
  go_loop [3, 4] (fun o i => ∃ (k : Nat) (T : List UInt8), k ≤ s.size ∧ i = .int .i64 k ∧ o = .string ⟨T.toArray⟩ ∧ WrQ T ∧ T.length ≤ 20) (fun o i => s.size - (intOf i).toNat)
  case atStart => exact ⟨0, [113], Nat.zero_le _, rfl, rfl, WrQ.start, by decide⟩
  case round =>
    obtain ⟨k, T, hk, rfl, rfl, hT, hTl⟩ := hrel
    have HT := hid hT
    clear hT
    by_cases hlt : k < s.size
    · have hlt' : (k : Int) < (s.size : Int) := by omega
      have HW := hid (word_app s k hlt T)
      by_cases h12 : T.length < 20
      · have h12' : (T.length : Int) < 20 := by omega
        have hb := s[k].toNat_lt
        by_cases ha : 97 ≤ s[k].toNat
        · by_cases hz : s[k].toNat ≤ 122
          · have hwk : k + 1 ≤ s.size := by omega
            have HN := hid (HT.out.snoc ha hz)
            go_wp2
            go_round
            case rel => exact ⟨k + 1, T ++ [s[k]], by omega, by go_num, by rw [HW.out], HN.out, by simp; omega⟩
            case measure => simp [intOf]; omega
          · go_wp2
            go_round
            case rel => exact ⟨k + 1, T, by omega, by go_num, rfl, HT.out, hTl⟩
            case measure => simp [intOf]; omega
        · have ha' : decide ((97 : Int) ≤ (s[k].toNat : Int)) = false := by rw [decide_eq_false_iff_not]; omega
          go_wp2
          go_round
          case rel => exact ⟨k + 1, T, by omega, by go_num, rfl, HT.out, hTl⟩
          case measure => simp [intOf]; omega
      · go_wp2
        go_ret
        exact ⟨T, rfl, HT.out, hTl, rfl⟩
    · have hlt' : decide ((k : Int) < (s.size : Int)) = false := by rw [decide_eq_false_iff_not]; omega
      go_wp2
      go_ret
      exact ⟨T, rfl, HT.out, hTl, rfl⟩

/-- A number from 0 to another one. -/
def uptoI (n hi : Int) : Int := (if n < 0 then -(n + 1) else n).tmod (hi + 1)

theorem uptoI_bounds (n hi : Int) (h : 0 ≤ hi) : 0 ≤ uptoI n hi ∧ uptoI n hi ≤ hi := by
  unfold uptoI
  have h0 : 0 ≤ (if n < 0 then -(n + 1) else n) := by split <;> omega
  have h1 := Int.tmod_nonneg (hi + 1) h0
  have h2 := Int.tmod_lt_of_pos (if n < 0 then -(n + 1) else n) (show 0 < hi + 1 by omega)
  omega

set_option maxHeartbeats 2000000 in
theorem upto3_any (n hi : Int) (w : World) (h0 : -9223372036854775808 ≤ n) (h1 : n ≤ 9223372036854775807) (hhi : 0 ≤ hi) (hhi2 : hi ≤ 1000000) :
    Calls Tryz.prog 32 #[.int .i64 n, .int .i64 hi] w fun e w' => e = .returned (.int .i64 (uptoI n hi)) ∧ w = w' := by
  have hne : (hi + 1 == 0) = false := by rw [beq_eq_false_iff_ne]; omega
  have hne' : ¬ hi + 1 = 0 := by omega
  have hb := uptoI_bounds n hi hhi
  have hne2 : ¬ hi + 1 = -1 := by omega
  by_cases hn : n < 0
  · have hu : uptoI n hi = (-(n + 1)).tmod (hi + 1) := by unfold uptoI; rw [if_pos hn]
    rw [hu] at hb ⊢
    have HU := hid hu
    clear hu
    go_enter Tryz.func32, Tryz.ntmps32
    go_wp2
    go_ret
    exact ⟨by show Ending.returned (.int .i64 (-(n + 1).tmod (hi + 1))) = _; rw [Int.neg_tmod], rfl⟩
  · have hu : uptoI n hi = n.tmod (hi + 1) := by unfold uptoI; rw [if_neg hn]
    rw [hu] at hb ⊢
    have HU := hid hu
    clear hu
    go_enter Tryz.func32, Tryz.ntmps32
    go_wp2
    go_ret
    exact ⟨by show Ending.returned (.int .i64 (n % (hi + 1))) = _; rw [Int.tmod_eq_emod_of_nonneg (by omega)], rfl⟩

end Go.Proofs.YtdnginibhpnefaaGreatDoor

namespace Go.Proofs.YtdnginibhpnefaaGreatDoor
theorem drop_stop {α : Type} (p : α → Bool) (y : α) (hy : p y = false) (b : List α) : ∀ a : List α, (a ++ y :: b).dropWhile p = a.dropWhile p ++ y :: b
  | [] => by simp [List.dropWhile_cons, hy]
  | c :: a => by
    rw [List.cons_append, List.dropWhile_cons, List.dropWhile_cons]
    cases p c with
    | true => simp only [if_pos]; exact drop_stop p y hy b a
    | false => rfl

def clL (s : List UInt8) : List UInt8 := (s.dropWhile wsC).filter (fun c => !eyeC c)

def clR (f : List UInt8) : List UInt8 := (f.reverse.dropWhile wsC).reverse.filter (fun c => !eyeC c)

theorem clean_frag (s f : List UInt8) : cleanV (s ++ 35 :: f) = clL s ++ 35 :: clR f := by
  unfold cleanV trimV clL clR
  rw [drop_stop wsC 35 (by decide), List.reverse_append, List.reverse_cons, List.append_assoc, List.singleton_append, drop_stop wsC 35 (by decide), List.reverse_append, List.reverse_cons, List.reverse_reverse, List.append_assoc, List.singleton_append, List.filter_append, List.filter_cons, if_pos (by decide)]

theorem clL_no (s : List UInt8) (h : 35 ∉ s) : 35 ∉ clL s := fun e => h ((List.dropWhile_suffix _).subset (List.mem_filter.1 e).1)

/-- An address with another fragment. -/
def setF (F : List UInt8) (u : Adr) : Adr := { u with fragment := F }

theorem begin_frag (s f : List UInt8) (h : 35 ∉ s) : beginU (s ++ 35 :: f) = (setF (pct 2 (clR f)) (beginU (s ++ [35])).1, (beginU (s ++ [35])).2) ∧ (beginU (s ++ [35])).1.fragment = [] ∧ (beginU (s ++ [35])).1.hasFragment = true := by
  have e1 : part 35 (cleanV (s ++ 35 :: f)) = (clL s, clR f, true) := by rw [clean_frag, part_some 35 _ _ (clL_no s h)]
  have e2 : part 35 (cleanV (s ++ [35])) = (clL s, [], true) := by rw [clean_frag, part_some 35 _ _ (clL_no s h)]; rfl
  refine ⟨?_, ?_, ?_⟩
  · unfold beginU setF
    simp only [e1, e2]
  · unfold beginU
    simp only [e2]
    rfl
  · unfold beginU
    simp only [e2]

def mapE (g : Adr → Adr) : Except Int Adr → Except Int Adr
  | .ok u => .ok (g u)
  | .error e => .error e

theorem withQuery_frag (F : List UInt8) (u : Adr) (q : List UInt8) : withQuery (setF F u) q = setF F (withQuery u q) := by
  unfold withQuery setF
  by_cases h : q = []
  · rw [if_pos h, if_pos h]
  · rw [if_neg h, if_neg h]

theorem withPath_frag (F : List UInt8) (u : Adr) (hv : List (List UInt8)) (r : List UInt8) : withPath (setF F u) hv r = setF F (withPath u hv r) := by
  unfold withPath
  exact withQuery_frag F { u with path := pathV (specV u.scheme) hv (aheadV [63] r).1 } _

theorem withAuth_frag (F : List UInt8) (u : Adr) (r : List UInt8) : withAuth (setF F u) r = mapE (setF F) (withAuth u r) := by
  have hs : (setF F u).scheme = u.scheme := rfl
  unfold withAuth
  rw [hs]
  cases authV u.scheme (aheadV [47, 63] r).1 with
  | error e => rfl
  | ok x =>
    obtain ⟨a, b, h, p⟩ := x
    simp only [mapE]
    exact congrArg Except.ok (withPath_frag F { u with user := a, pass := b, host := h, hasHost := true, port := p } _ _)

theorem startV_frag (F : List UInt8) (u : Adr) (r : List UInt8) : startV (setF F u) r = mapE (setF F) (startV u r) := by
  have hs : (setF F u).scheme = u.scheme := rfl
  unfold startV
  rw [hs]
  split
  · exact withAuth_frag F u _
  · split
    · exact withAuth_frag F u _
    · split
      · exact congrArg Except.ok (withPath_frag F u _ _)
      · exact congrArg Except.ok (withQuery_frag F { u with opq := true, path := [pct 1 (aheadV [63] r).1] } _)

theorem read_frag (s f : List UInt8) (h : 35 ∉ s) (hl : (s ++ 35 :: f).length ≤ 4096) : readV (s ++ 35 :: f) none = mapE (setF (pct 2 (clR f))) (readV (s ++ [35]) none) := by
  obtain ⟨e1, -, -⟩ := begin_frag s f h
  have hl2 : (s ++ [35]).length ≤ 4096 := by simp at hl ⊢; omega
  have r1 : readV (s ++ 35 :: f) none = if (beginU (s ++ [35])).1.scheme = [] then .error 12 else startV (setF (pct 2 (clR f)) (beginU (s ++ [35])).1) (beginU (s ++ [35])).2 := by
    unfold readV
    rw [if_neg (by omega), e1]
    rfl
  have r2 : readV (s ++ [35]) none = if (beginU (s ++ [35])).1.scheme = [] then .error 12 else startV (beginU (s ++ [35])).1 (beginU (s ++ [35])).2 := by
    unfold readV
    rw [if_neg (by omega)]
  rw [r1, r2]
  split
  · rfl
  · exact startV_frag _ _ _

/-- What the fragment is behind a reading. -/
theorem withQuery_keep (u : Adr) (q : List UInt8) : (withQuery u q).fragment = u.fragment ∧ (withQuery u q).hasFragment = u.hasFragment := by
  unfold withQuery
  split <;> exact ⟨rfl, rfl⟩

theorem startV_keep {u v : Adr} {r : List UInt8} (h : startV u r = .ok v) : v.fragment = u.fragment ∧ v.hasFragment = u.hasFragment := by
  have hA : ∀ (u v : Adr) (r : List UInt8), withAuth u r = .ok v → v.fragment = u.fragment ∧ v.hasFragment = u.hasFragment := by
    intro u v r h
    unfold withAuth at h
    split at h
    · cases h
    · injection h with h
      rw [← h]
      exact withQuery_keep _ _
  unfold startV at h
  split at h
  · exact hA _ _ _ h
  · split at h
    · exact hA _ _ _ h
    · split at h
      · injection h with h; rw [← h]; exact withQuery_keep _ _
      · injection h with h; rw [← h]; exact withQuery_keep _ _

theorem read_hash {s : List UInt8} {v : Adr} (h : 35 ∉ s) (e : readV (s ++ [35]) none = .ok v) : v.fragment = [] ∧ v.hasFragment = true := by
  obtain ⟨-, e1, e2⟩ := begin_frag s [] h
  unfold readV at e
  split at e
  · cases e
  · simp only at e
    split at e
    · cases e
    · obtain ⟨h1, h2⟩ := startV_keep e
      exact ⟨h1.trans e1, h2.trans e2⟩

theorem join_frag (f : List UInt8) (v : Adr) (hl : f.length ≤ 4000) (hv : v.hasFragment = true) : readV (35 :: f) (some v) = .ok (setF (pct 2 (clR f)) v) := by
  have e1 : beginU (35 :: f) = (⟨[], [], [], [], false, -1, false, [], [], pct 2 (clR f), false, true⟩, []) := by
    have e : part 35 (cleanV (35 :: f)) = ([], clR f, true) := by
      have := clean_frag [] f
      rw [List.nil_append] at this
      rw [this]
      exact part_some 35 [] _ (by simp)
    unfold beginU
    simp only [e]
    rfl
  unfold readV
  rw [if_neg (by simp; omega), e1]
  simp only
  rw [if_neg (by simp), if_neg (by simp)]
  unfold joinV slashedV
  have hsl : slashV [] = [] := rfl
  have e2 : (if specV v.scheme = true then slashV ([] : List UInt8) else []) = [] := by split <;> rfl
  rw [e2]
  simp only
  rw [if_neg (by decide), if_neg (by decide), if_neg (by simp)]
  unfold withQuery setF
  rw [if_pos rfl, ← hv]

theorem bare_setF (F : List UInt8) (v : Adr) : bareV (setF F v) = bareV v := rfl

end Go.Proofs.YtdnginibhpnefaaGreatDoor
