/-
  Walks and plain facts that this claim leans on, put together out of 4 texts: Xc, Xh, Ere, Erw.
-/
import Derived.Test.YtdnginibhpnefaaGreatDoorProg
import Derived.Test.YtdnginibhpnefaaGreatDoorQa1
import Derived.Test.YtdnginibhpnefaaGreatDoorQa2
import Derived.Test.YtdnginibhpnefaaGreatDoorQa3
import Derived.Test.YtdnginibhpnefaaGreatDoorQa4
import Derived.Test.YtdnginibhpnefaaGreatDoorQa5
import Derived.Test.YtdnginibhpnefaaGreatDoorQa6
import Derived.Test.YtdnginibhpnefaaGreatDoorQa7
import Derived.Test.YtdnginibhpnefaaGreatDoorQa8
import Derived.Test.YtdnginibhpnefaaGreatDoorQa9
import Derived.Test.YtdnginibhpnefaaGreatDoorQa10
import Derived.Test.YtdnginibhpnefaaGreatDoorQa11
import Derived.Test.YtdnginibhpnefaaGreatDoorQa12
import Derived.Test.YtdnginibhpnefaaGreatDoorQa13
import Derived.Test.YtdnginibhpnefaaGreatDoorQa14
import Derived.Test.YtdnginibhpnefaaGreatDoorQa15
import Derived.Test.YtdnginibhpnefaaGreatDoorQa16
import Derived.Test.YtdnginibhpnefaaGreatDoorQa17
import Derived.Test.YtdnginibhpnefaaGreatDoorQa18
import Derived.Test.YtdnginibhpnefaaGreatDoorQa19
import Derived.Test.YtdnginibhpnefaaGreatDoorQa20
import Derived.Test.YtdnginibhpnefaaGreatDoorQa21
import Derived.Test.YtdnginibhpnefaaGreatDoorQa22
import Derived.Test.YtdnginibhpnefaaGreatDoorQa23
import Derived.Test.YtdnginibhpnefaaGreatDoorQa24
import Derived.Test.YtdnginibhpnefaaGreatDoorQa25
import Derived.Test.YtdnginibhpnefaaGreatDoorQa26
import Derived.Test.YtdnginibhpnefaaGreatDoorQa27
import Derived.Test.YtdnginibhpnefaaGreatDoorQa28
import Derived.Test.YtdnginibhpnefaaGreatDoorQa29
import Derived.Test.YtdnginibhpnefaaGreatDoorQa30
import Derived.Test.YtdnginibhpnefaaGreatDoorQa31
import Derived.Test.YtdnginibhpnefaaGreatDoorQa32
import Derived.Test.YtdnginibhpnefaaGreatDoorQa33
import Derived.WalkKit
import Derived.Lib.BufferMore
import Derived.Lib.Strings
import Derived.Lib.UnsafeStr
import Derived.Laws.IdiomStrings
import Derived.Laws.AppendOwn
import Derived.Laws.OwnMore
import Derived.Below
import Derived.WalkSmall
import Derived.Lib.SmallJoins
import Derived.Lib.SlTrimSet
import Derived.Lib.Join
import Derived.Lib.IndexMore
import Derived.Lib.Bytealg
import Derived.Laws.BitsAllLaws
import Derived.Deep.LoopGhost
import Derived.Deep.QuietTactic
import Derived.BigQuiet
import Derived.WalkSpells
import Derived.WalkLawsBesides
import Derived.Laws.RangeAny
import Derived.Lib.DecodeN
import Derived.Lib.OthersKept
import Derived.RegionTactic
import Derived.Deep.RegionWith
import Derived.Deep.RegionHeld
import Derived.Laws.BytesString
import Derived.Laws.AppendOwnNone
import Derived.Scope
import Derived.ScopeJumps
import Derived.WalkMore
import Derived.OwnWalk
import Derived.Laws.CopyOwn
import Derived.Laws.ResultCell
import Derived.Deep.MidRow
import Derived.LoopN
import Derived.Lib.IndexAny
import Derived.Lib.Replace
import Derived.Lib.TrimByte
import Derived.Lib.ItoaNum
import Derived.Deep.RegionLaw
import Derived.BigRegion
import Derived.Deep.WholeRow
import Derived.Lib.AppendStr
import Derived.Lib.AppendIntMem
import Derived.Shelf.Strings.Builder1
import Derived.Shelf.Strings.Builder2
import Derived.Shelf.Strings.OnBuilder
import Derived.Shelf.Strings.Trim
import Derived.Shelf.Small.Utf8
import Derived.Shelf.Small.Strs
import Derived.Shelf.Small.Wraps
import Derived.Shelf.Strings.BuilderF
import Derived.Shelf.Strings.BuilderK
import Derived.Shelf.Strings.Builder2Cap
import Derived.Shelf.Strconv.Itoa0
import Derived.Shelf.Strconv.Itoa1
import Derived.Shelf.LaysM
import Derived.Shelf.Strconv.Itoa2
import Derived.Shelf.Strconv.Itoa3
import Derived.Shelf.Strings.Search1
import Derived.Shelf.Strings.Search2
import Derived.Shelf.Strings.Search3
import Derived.Shelf.Strings.Cut
import Derived.Shelf.Strings.Count
import Derived.Shelf.Strings.Shaped
import Derived.Shelf.Strings.LastIndex
import Derived.Shelf.Strings.Prefix
import Derived.Shelf.Strings.Split
import Derived.Shelf.Strings.Replace
import Derived.Shelf.Strings.Runes
import Derived.Shelf.Strings.IndexAny
import Derived.Shelf.Strings.AsciiSet
import Derived.Shelf.Strings.IndexAnyAll
import Derived.Shelf.Unicode.DecodeSlow
import Derived.Ground.Names2Prog
import Derived.Shelf.Slices.Clone
import Derived.Ground.SlgnProg
import Derived.Shelf.SlicesE.Clone
import Derived.Lib.FrozenHead2
import Derived.Lib.Builder
import Derived.Lib.BufferRead
import Derived.Lib.RuneBytes
import Derived.Lib.LastIndexByte
import Derived.Deep.Cut
import Derived.Deep.CutRange
set_option linter.unusedSimpArgs false
set_option linter.unusedVariables false

namespace Go.Proofs.YtdnginibhpnefaaGreatDoor
open Go.RowKit

theorem TxAt.view {w : World} {v : Value} {L : List (List UInt8)} (h : TxAt w v L) : ∃ a cap, v = .slice a L.length cap ∧ L.length ≤ cap ∧ cap ≤ maxLen ∧ ∀ j (hj : j < L.length), ∃ b off, a = some ⟨b, off, none⟩ ∧ w.cell? ⟨b, off + j, none⟩ = some (.string ⟨L[j].toArray⟩) := h

theorem tx_nil (w : World) : TxAt w (.slice none 0 0) [] := ⟨none, 0, rfl, Nat.le_refl _, by decide, fun j hj => by simp at hj⟩

theorem HdAt.view {w : World} {v : Value} {L : List Hd} (h : HdAt w v L) : ∃ a cap, v = .slice a L.length cap ∧ L.length ≤ cap ∧ cap ≤ maxLen ∧ ∀ j (hj : j < L.length), ∃ b off, a = some ⟨b, off, none⟩ ∧ w.cell? ⟨b, off + j * 2, none⟩ = some (.string ⟨L[j].name.toArray⟩) ∧ w.cell? ⟨b, off + j * 2 + 1, none⟩ = some (.string ⟨L[j].value.toArray⟩) := h

end Go.Proofs.YtdnginibhpnefaaGreatDoor

namespace Go.Proofs.YtdnginibhpnefaaGreatDoor
open Go.RowKit

theorem list_eq_of {α : Type} {A B : List α} (hl : A.length = B.length) (h : ∀ j (h1 : j < A.length) (h2 : j < B.length), A[j] = B[j]) : A = B :=
  List.ext_getElem hl fun j h1 h2 => h j h1 h2

set_option maxHeartbeats 2000000 in
theorem sameT_any (v1 v2 : Value) (L1 L2 : List (List UInt8)) (w : World) (h1 : TxAt w v1 L1) (h2 : TxAt w v2 L2) (hl1 : L1.length ≤ 1000000) (hl2 : L2.length ≤ 1000000) :
    Calls Tryz.prog 39 #[v1, v2] w fun e w' => e = .returned (.bool (decide (L1 = L2))) ∧ Below w.heap.size w w' := by
  obtain ⟨a1, c1, rfl, hc1, hm1, hv1⟩ := h1.view
  obtain ⟨a2, c2, rfl, hc2, hm2, hv2⟩ := h2.view
  have H1 := hid h1
  have H2 := hid h2
  have V1 := hid hv1
  have V2 := hid hv2
  clear h1 h2 hv1 hv2
  by_cases hl : L1.length = L2.length
  · have hl' : ((L1.length : Int) == (L2.length : Int)) = true := by rw [beq_iff_eq]; omega
    go_enter Tryz.func39, Tryz.ntmps39
    go_wp2
    go_loopw [5] (fun i wr => ∃ k : Nat, k ≤ L1.length ∧ i = .int .i64 k ∧ (∀ j (h1 : j < L1.length) (h2 : j < L2.length), j < k → L1[j] = L2[j]) ∧ Below w.heap.size w wr) (fun i _ => L1.length - (intOf i).toNat)
    case atStart => exact ⟨0, Nat.zero_le _, rfl, fun j _ _ h => absurd h (by omega), Below.refl _ _⟩
    case round =>
      obtain ⟨k, hk, rfl, hall, hb⟩ := hrel
      have HA := hid hall
      clear hall
      by_cases hlt : k < L1.length
      · have hlt' : (k : Int) < (L1.length : Int) := by omega
        have hlt2' : (k : Int) < (L2.length : Int) := by omega
        obtain ⟨b1, o1, rfl, e1⟩ := V1.out k hlt
        obtain ⟨b2, o2, rfl, e2⟩ := V2.out k (by omega)
        have f1 : wr.cell? ⟨b1, o1 + k, none⟩ = some (.string ⟨L1[k].toArray⟩) := (hb.cell (World.block_lt_of_cell? w _ e1)).trans e1
        have f2 : wr.cell? ⟨b2, o2 + k, none⟩ = some (.string ⟨(L2[k]'(by omega)).toArray⟩) := (hb.cell (World.block_lt_of_cell? w _ e2)).trans e2
        clear e1 e2
        obtain ⟨x, hx⟩ : ∃ x, x = L1[k] := ⟨_, rfl⟩
        obtain ⟨y, hy⟩ : ∃ y, y = L2[k]'(by omega) := ⟨_, rfl⟩
        rw [← hx] at f1
        rw [← hy] at f2
        have HX := hid hx
        have HY := hid hy
        clear hx hy
        by_cases hxy : x = y
        · subst hxy
          go_wp2
          go_quiet (fail)
          go_wp2
          go_roundw
          case rel =>
            refine ⟨k + 1, by omega, by go_num, fun j h1 h2 hj => ?_, Go.below_drewN hb _⟩
            by_cases he : j = k
            · subst he; rw [← HX.out, ← HY.out]
            · exact HA.out j h1 h2 (by omega)
          case measure => simp [intOf]; omega
        · have hne : (x == y) = false := by simpa using hxy
          have HN := hid (show ¬ L1 = L2 from fun e => hxy (by rw [HX.out, HY.out]; subst e; rfl))
          go_wp2
          go_quiet (fail)
          go_wp2
          go_ret
          exact ⟨ret_bool (by simp [HN.out]), Go.below_drewN hb _⟩
      · have HE := hid (show L1 = L2 from list_eq_of hl fun j h1 h2 => HA.out j h1 h2 (by omega))
        go_wp2
        go_ret
        exact ⟨ret_bool (by simp [HE.out]), hb⟩
  · have hl' : ((L1.length : Int) == (L2.length : Int)) = false := by rw [beq_eq_false_iff_ne]; omega
    have HN := hid (show ¬ L1 = L2 from fun e => hl (by rw [e]))
    go_enter Tryz.func39, Tryz.ntmps39
    go_wp2
    go_ret
    exact ⟨ret_bool (by simp [HN.out]), Below.refl _ _⟩

end Go.Proofs.YtdnginibhpnefaaGreatDoor

namespace Go.Proofs.YtdnginibhpnefaaGreatDoor
open Go.RowKit

theorem path_tx {w : World} {v : Value} {L : List (List UInt8)} (h : PathAt w v L) : TxAt w v L := by
  rcases h with ⟨rfl, rfl⟩ | ⟨b, cap, rfl, h2, h3, h4, h5⟩
  · exact tx_nil _
  · exact ⟨some ⟨b, 0, none⟩, cap, rfl, h3, h4, fun j hj => ⟨b, 0, rfl, by rw [Nat.zero_add]; exact h5 j hj⟩⟩

set_option maxHeartbeats 8000000 in
set_option maxRecDepth 100000 in
theorem same3_any (A : Adr) (av bv : Value) (w : World) (ha : PathAt w av A.path) (hb : PathAt w bv A.path) (hl : A.path.length ≤ 1000000) :
    Calls Tryz.prog 22 #[adrVal A av, adrVal A bv] w fun e w' => e = .returned (.bool true) ∧ Below w.heap.size w w' := by
  obtain ⟨ua, un, uc, rfl⟩ := path_sl ha
  obtain ⟨va, vn, vc, rfl⟩ := path_sl hb
  obtain ⟨u0, u1, u2, u3, u4, u5, u6, u8, u9, u10, u11, hxu, hxv⟩ : ∃ u0 u1 u2 u3 u4 u5 u6 u8 u9 u10 u11, adrCells A (.slice ua un uc) = [.string u0, .string u1, .string u2, .string u3, .bool u4, .int .i64 u5, .bool u6, .slice ua un uc, .string u8, .string u9, .bool u10, .bool u11] ∧ adrCells A (.slice va vn vc) = [.string u0, .string u1, .string u2, .string u3, .bool u4, .int .i64 u5, .bool u6, .slice va vn vc, .string u8, .string u9, .bool u10, .bool u11] := ⟨_, _, _, _, _, _, _, _, _, _, _, rfl, rfl⟩
  have hvu : adrVal A (.slice ua un uc) = .agg #[.string u0, .string u1, .string u2, .string u3, .bool u4, .int .i64 u5, .bool u6, .slice ua un uc, .string u8, .string u9, .bool u10, .bool u11] := by unfold adrVal; rw [hxu]
  have hvv : adrVal A (.slice va vn vc) = .agg #[.string u0, .string u1, .string u2, .string u3, .bool u4, .int .i64 u5, .bool u6, .slice va vn vc, .string u8, .string u9, .bool u10, .bool u11] := by unfold adrVal; rw [hxv]
  rw [hvu, hvv]
  obtain ⟨W1, hW1⟩ : ∃ X, (w.alloc (.cells #[.string u0, .string u1, .string u2, .string u3, .bool u4, .int .i64 u5, .bool u6, .slice ua un uc, .string u8, .string u9, .bool u10, .bool u11] 24)) = X := ⟨_, rfl⟩
  have hbW1 : Below w.heap.size w W1 := by rw [← hW1]; exact (Below.refl _ w).alloc (Nat.le_refl _) _
  have hsW1 : W1.heap.size = w.heap.size + 1 := by rw [← hW1]; simp
  have hAW1 : AdrIn W1 w.heap.size A (.slice ua un uc) := by
    unfold AdrIn
    rw [hxu, ← hW1]
    exact heap_alloc_new w _
  obtain ⟨W2, hW2⟩ : ∃ X, (W1.alloc (.cells #[.string u0, .string u1, .string u2, .string u3, .bool u4, .int .i64 u5, .bool u6, .slice va vn vc, .string u8, .string u9, .bool u10, .bool u11] 24)) = X := ⟨_, rfl⟩
  have hbW2 : Below W1.heap.size W1 W2 := by rw [← hW2]; exact (Below.refl _ W1).alloc (Nat.le_refl _) _
  have hsW2 : W2.heap.size = W1.heap.size + 1 := by rw [← hW2]; simp
  have hAW2 : AdrIn W2 W1.heap.size A (.slice va vn vc) := by
    unfold AdrIn
    rw [hxv, ← hW2]
    exact heap_alloc_new W1 _
  have HSm := hid (fun (Z : World) (hZ : Below W2.heap.size W2 Z) => sameT_any (.slice ua un uc) (.slice va vn vc) A.path A.path Z (path_tx (((ha.kept hbW1).kept hbW2).kept hZ)) (path_tx (((hb.kept hbW1).kept hbW2).kept hZ)) hl hl)
  rw [show decide (A.path = A.path) = true by simp] at HSm
  have HBW := hid (below2 hbW1 hbW2)
  have hAW1' := hAW1.kept hbW2
  rw [hsW1] at hAW2
  have HCu := hid (fun (Z : World) (hZ : Below W2.heap.size W2 Z) => adr_twelve hxu (hAW1'.kept hZ))
  have HCv := hid (fun (Z : World) (hZ : Below W2.heap.size W2 Z) => adr_twelve hxv (hAW2.kept hZ))
  have HQ0 := hid ((Below.refl W2.heap.size W2).drew)
  clear hAW1 hAW1' hAW2 hxu hxv hvu hvv hbW1 hbW2 ha hb hl
  go_enter Tryz.func22, Tryz.ntmps22
  obtain ⟨y0, y1, y2, y3, y4, y5, y6, y7, y8, y9, y10, y11⟩ := HCu.out W2 (Below.refl _ _)
  obtain ⟨z0, z1, z2, z3, z4, z5, z6, z7, z8, z9, z10, z11⟩ := HCv.out W2 (Below.refl _ _)
  go_wp2_with fail
  refine (HSm.out _ (Below.refl _ _)).mono ?_
  rintro e w3 ⟨rfl, hb3⟩
  clear y0 z0 y1 z1 y2 z2 y3 z3 y4 z4 y5 z5 y6 z6 y7 z7 y8 z8 y9 z9 y10 z10 y11 z11
  obtain ⟨y0, y1, y2, y3, y4, y5, y6, y7, y8, y9, y10, y11⟩ := HCu.out w3 hb3
  obtain ⟨z0, z1, z2, z3, z4, z5, z6, z7, z8, z9, z10, z11⟩ := HCv.out w3 hb3
  go_wp2
  go_ret
  exact ⟨by simp, below2 HBW.out hb3⟩

end Go.Proofs.YtdnginibhpnefaaGreatDoor

namespace Go.Proofs.YtdnginibhpnefaaGreatDoor
open Go.RowKit

theorem adr_named3 (A : Adr) (a : Option Addr) (n c : Nat) : ∃ s0 s1 s2 s3 b4 i5 b6 s8 s9 b10 b11, adrCells A (.slice a n c) = [.string s0, .string s1, .string s2, .string s3, .bool b4, .int .i64 i5, .bool b6, .slice a n c, .string s8, .string s9, .bool b10, .bool b11] ∧ s0 = (⟨A.scheme.toArray⟩ : ByteArray) ∧ s3 = (⟨A.host.toArray⟩ : ByteArray) ∧ b4 = A.hasHost ∧ i5 = A.port ∧ b6 = A.opq ∧ s8 = (⟨A.query.toArray⟩ : ByteArray) ∧ s9 = (⟨A.fragment.toArray⟩ : ByteArray) ∧ b10 = A.hasQuery ∧ b11 = A.hasFragment := ⟨_, _, _, _, _, _, _, _, _, _, _, rfl, rfl, rfl, rfl, rfl, rfl, rfl, rfl, rfl, rfl⟩

end Go.Proofs.YtdnginibhpnefaaGreatDoor
