/-
  Walks and plain facts that this claim leans on, put together out of 4 texts: Xc, Xh, Ere, Erug.
-/
import Derived.Test.YtdnginibhpnefaaGreatDoorProg
import Derived.Test.YtdnginibhpnefaaGreatDoorQa1
import Derived.Test.YtdnginibhpnefaaGreatDoorQa2
import Derived.Test.YtdnginibhpnefaaGreatDoorQa3
import Derived.Test.YtdnginibhpnefaaGreatDoorQa4
import Derived.Test.YtdnginibhpnefaaGreatDoorQa5
import Derived.Test.YtdnginibhpnefaaGreatDoorQa6
import Derived.Test.YtdnginibhpnefaaGreatDoorQa7
import Derived.Test.YtdnginibhpnefaaGreatDoorQa8
import Derived.Test.YtdnginibhpnefaaGreatDoorQa9
import Derived.Test.YtdnginibhpnefaaGreatDoorQa10
import Derived.Test.YtdnginibhpnefaaGreatDoorQa11
import Derived.Test.YtdnginibhpnefaaGreatDoorQa12
import Derived.Test.YtdnginibhpnefaaGreatDoorQa13
import Derived.Test.YtdnginibhpnefaaGreatDoorQa14
import Derived.Test.YtdnginibhpnefaaGreatDoorQa15
import Derived.Test.YtdnginibhpnefaaGreatDoorQa16
import Derived.Test.YtdnginibhpnefaaGreatDoorQa17
import Derived.Test.YtdnginibhpnefaaGreatDoorQa18
import Derived.Test.YtdnginibhpnefaaGreatDoorQa19
import Derived.Test.YtdnginibhpnefaaGreatDoorQa20
import Derived.Test.YtdnginibhpnefaaGreatDoorQa21
import Derived.Test.YtdnginibhpnefaaGreatDoorQa22
import Derived.Test.YtdnginibhpnefaaGreatDoorQa23
import Derived.Test.YtdnginibhpnefaaGreatDoorQa24
import Derived.Test.YtdnginibhpnefaaGreatDoorQa25
import Derived.Test.YtdnginibhpnefaaGreatDoorQa26
import Derived.Test.YtdnginibhpnefaaGreatDoorQa27
import Derived.Test.YtdnginibhpnefaaGreatDoorQa28
import Derived.Test.YtdnginibhpnefaaGreatDoorQa29
import Derived.Test.YtdnginibhpnefaaGreatDoorQa30
import Derived.Test.YtdnginibhpnefaaGreatDoorQa31
import Derived.Test.YtdnginibhpnefaaGreatDoorQa32
import Derived.Test.YtdnginibhpnefaaGreatDoorQa33
import Derived.Test.YtdnginibhpnefaaGreatDoorQb1
import Derived.Test.YtdnginibhpnefaaGreatDoorQb2
import Derived.Laws.OwnMore
import Derived.Below
import Derived.WalkSmall
import Derived.Lib.SmallJoins
import Derived.Lib.Strings
import Derived.Lib.UnsafeStr
import Derived.Laws.IdiomStrings
import Derived.Laws.AppendOwn
import Derived.WalkKit
import Derived.Lib.SlTrimSet
import Derived.Lib.Join
import Derived.Lib.IndexMore
import Derived.Lib.BufferMore
import Derived.Laws.BitsAllLaws
import Derived.Lib.Bytealg
import Derived.Deep.QuietTactic
import Derived.BigQuiet
import Derived.WalkSpells
import Derived.WalkLawsBesides
import Derived.Deep.LoopGhost
import Derived.Deep.WholeRow
import Derived.Deep.RegionHeld
import Derived.Deep.Cut
import Derived.Shelf.Strings.Builder1
import Derived.Shelf.Strings.Builder2
import Derived.Shelf.Strings.OnBuilder
import Derived.Shelf.Strings.Trim
import Derived.Shelf.Small.Utf8
import Derived.Shelf.Small.Strs
import Derived.Shelf.Small.Wraps
import Derived.Shelf.Strings.BuilderF
import Derived.Shelf.Strings.BuilderK
import Derived.Shelf.Strings.Builder2Cap
import Derived.Shelf.Strconv.Itoa0
import Derived.Shelf.Strconv.Itoa1
import Derived.Shelf.LaysM
import Derived.Shelf.Strconv.Itoa2
import Derived.Shelf.Strconv.Itoa3
import Derived.Shelf.Strings.Search1
import Derived.Shelf.Strings.Search2
import Derived.Shelf.Strings.Search3
import Derived.Shelf.Strings.Cut
import Derived.Shelf.Strings.Count
import Derived.Shelf.Strings.Shaped
import Derived.Shelf.Strings.LastIndex
import Derived.Shelf.Strings.Prefix
import Derived.Shelf.Strings.Split
import Derived.Shelf.Strings.Replace
import Derived.Shelf.Strings.Runes
import Derived.Shelf.Strings.IndexAny
import Derived.Shelf.Strings.AsciiSet
import Derived.Shelf.Strings.IndexAnyAll
import Derived.Shelf.Unicode.DecodeSlow
import Derived.Ground.Names2Prog
import Derived.Shelf.Slices.Clone
import Derived.Ground.SlgnProg
import Derived.Shelf.SlicesE.Clone
import Derived.WalkMore
import Derived.Deep.MidRow
import Derived.Lib.AppendStr
import Derived.Lib.FrozenHead2
import Derived.Lib.OthersKept
import Derived.Lib.Builder
import Derived.Lib.IndexAny
import Derived.Lib.Replace
import Derived.Lib.TrimByte
import Derived.Lib.ItoaNum
import Derived.Laws.RangeAny
import Derived.Lib.DecodeN
import Derived.RegionTactic
import Derived.Deep.RegionWith
import Derived.BigRegion
import Derived.Lib.BufferRead
import Derived.Lib.RuneBytes
import Derived.LoopN
import Derived.Laws.CopyOwn
import Derived.Laws.ResultCell
import Derived.OwnWalk
import Derived.Lib.LastIndexByte
import Derived.Laws.AppendOwnNone
import Derived.Deep.RegionLaw
import Derived.Laws.BytesString
import Derived.Scope
import Derived.ScopeJumps
import Derived.Lib.AppendIntMem
set_option linter.unusedSimpArgs false
set_option linter.unusedVariables false

namespace Go.Proofs.YtdnginibhpnefaaGreatDoor
open Go.RowKit

theorem TxAt.view {w : World} {v : Value} {L : List (List UInt8)} (h : TxAt w v L) : ∃ a cap, v = .slice a L.length cap ∧ L.length ≤ cap ∧ cap ≤ maxLen ∧ ∀ j (hj : j < L.length), ∃ b off, a = some ⟨b, off, none⟩ ∧ w.cell? ⟨b, off + j, none⟩ = some (.string ⟨L[j].toArray⟩) := h

theorem tx_nil (w : World) : TxAt w (.slice none 0 0) [] := ⟨none, 0, rfl, Nat.le_refl _, by decide, fun j hj => by simp at hj⟩

theorem HdAt.view {w : World} {v : Value} {L : List Hd} (h : HdAt w v L) : ∃ a cap, v = .slice a L.length cap ∧ L.length ≤ cap ∧ cap ≤ maxLen ∧ ∀ j (hj : j < L.length), ∃ b off, a = some ⟨b, off, none⟩ ∧ w.cell? ⟨b, off + j * 2, none⟩ = some (.string ⟨L[j].name.toArray⟩) ∧ w.cell? ⟨b, off + j * 2 + 1, none⟩ = some (.string ⟨L[j].value.toArray⟩) := h

end Go.Proofs.YtdnginibhpnefaaGreatDoor

namespace Go.Proofs.YtdnginibhpnefaaGreatDoor
open Go.RowKit

theorem list_eq_of {α : Type} {A B : List α} (hl : A.length = B.length) (h : ∀ j (h1 : j < A.length) (h2 : j < B.length), A[j] = B[j]) : A = B :=
  List.ext_getElem hl fun j h1 h2 => h j h1 h2

set_option maxHeartbeats 2000000 in
theorem sameT_any (v1 v2 : Value) (L1 L2 : List (List UInt8)) (w : World) (h1 : TxAt w v1 L1) (h2 : TxAt w v2 L2) (hl1 : L1.length ≤ 1000000) (hl2 : L2.length ≤ 1000000) :
    Calls Tryz.prog 39 #[v1, v2] w fun e w' => e = .returned (.bool (decide (L1 = L2))) ∧ Below w.heap.size w w' := by
  obtain ⟨a1, c1, rfl, hc1, hm1, hv1⟩ := h1.view
  obtain ⟨a2, c2, rfl, hc2, hm2, hv2⟩ := h2.view
  have H1 := hid h1
  have H2 := hid h2
  have V1 := hid hv1
  have V2 := hid hv2
  clear h1 h2 hv1 hv2
  by_cases hl : L1.length = L2.length
  · have hl' : ((L1.length : Int) == (L2.length : Int)) = true := by rw [beq_iff_eq]; omega
    go_enter Tryz.func39, Tryz.ntmps39
    go_wp2
    go_loopw [5] (fun i wr => ∃ k : Nat, k ≤ L1.length ∧ i = .int .i64 k ∧ (∀ j (h1 : j < L1.length) (h2 : j < L2.length), j < k → L1[j] = L2[j]) ∧ Below w.heap.size w wr) (fun i _ => L1.length - (intOf i).toNat)
    case atStart => exact ⟨0, Nat.zero_le _, rfl, fun j _ _ h => absurd h (by omega), Below.refl _ _⟩
    case round =>
      obtain ⟨k, hk, rfl, hall, hb⟩ := hrel
      have HA := hid hall
      clear hall
      by_cases hlt : k < L1.length
      · have hlt' : (k : Int) < (L1.length : Int) := by omega
        have hlt2' : (k : Int) < (L2.length : Int) := by omega
        obtain ⟨b1, o1, rfl, e1⟩ := V1.out k hlt
        obtain ⟨b2, o2, rfl, e2⟩ := V2.out k (by omega)
        have f1 : wr.cell? ⟨b1, o1 + k, none⟩ = some (.string ⟨L1[k].toArray⟩) := (hb.cell (World.block_lt_of_cell? w _ e1)).trans e1
        have f2 : wr.cell? ⟨b2, o2 + k, none⟩ = some (.string ⟨(L2[k]'(by omega)).toArray⟩) := (hb.cell (World.block_lt_of_cell? w _ e2)).trans e2
        clear e1 e2
        obtain ⟨x, hx⟩ : ∃ x, x = L1[k] := ⟨_, rfl⟩
        obtain ⟨y, hy⟩ : ∃ y, y = L2[k]'(by omega) := ⟨_, rfl⟩
        rw [← hx] at f1
        rw [← hy] at f2
        have HX := hid hx
        have HY := hid hy
        clear hx hy
        by_cases hxy : x = y
        · subst hxy
          go_wp2
          go_quiet (fail)
          go_wp2
          go_roundw
          case rel =>
            refine ⟨k + 1, by omega, by go_num, fun j h1 h2 hj => ?_, Go.below_drewN hb _⟩
            by_cases he : j = k
            · subst he; rw [← HX.out, ← HY.out]
            · exact HA.out j h1 h2 (by omega)
          case measure => simp [intOf]; omega
        · have hne : (x == y) = false := by simpa using hxy
          have HN := hid (show ¬ L1 = L2 from fun e => hxy (by rw [HX.out, HY.out]; subst e; rfl))
          go_wp2
          go_quiet (fail)
          go_wp2
          go_ret
          exact ⟨ret_bool (by simp [HN.out]), Go.below_drewN hb _⟩
      · have HE := hid (show L1 = L2 from list_eq_of hl fun j h1 h2 => HA.out j h1 h2 (by omega))
        go_wp2
        go_ret
        exact ⟨ret_bool (by simp [HE.out]), hb⟩
  · have hl' : ((L1.length : Int) == (L2.length : Int)) = false := by rw [beq_eq_false_iff_ne]; omega
    have HN := hid (show ¬ L1 = L2 from fun e => hl (by rw [e]))
    go_enter Tryz.func39, Tryz.ntmps39
    go_wp2
    go_ret
    exact ⟨ret_bool (by simp [HN.out]), Below.refl _ _⟩

end Go.Proofs.YtdnginibhpnefaaGreatDoor

namespace Go.Proofs.YtdnginibhpnefaaGreatDoor
open Go.RowKit

theorem path_tx {w : World} {v : Value} {L : List (List UInt8)} (h : PathAt w v L) : TxAt w v L := by
  rcases h with ⟨rfl, rfl⟩ | ⟨b, cap, rfl, h2, h3, h4, h5⟩
  · exact tx_nil _
  · exact ⟨some ⟨b, 0, none⟩, cap, rfl, h3, h4, fun j hj => ⟨b, 0, rfl, by rw [Nat.zero_add]; exact h5 j hj⟩⟩

set_option maxHeartbeats 8000000 in
set_option maxRecDepth 100000 in
theorem same3_any (A : Adr) (av bv : Value) (w : World) (ha : PathAt w av A.path) (hb : PathAt w bv A.path) (hl : A.path.length ≤ 1000000) :
    Calls Tryz.prog 22 #[adrVal A av, adrVal A bv] w fun e w' => e = .returned (.bool true) ∧ Below w.heap.size w w' := by
  obtain ⟨ua, un, uc, rfl⟩ := path_sl ha
  obtain ⟨va, vn, vc, rfl⟩ := path_sl hb
  obtain ⟨u0, u1, u2, u3, u4, u5, u6, u8, u9, u10, u11, hxu, hxv⟩ : ∃ u0 u1 u2 u3 u4 u5 u6 u8 u9 u10 u11, adrCells A (.slice ua un uc) = [.string u0, .string u1, .string u2, .string u3, .bool u4, .int .i64 u5, .bool u6, .slice ua un uc, .string u8, .string u9, .bool u10, .bool u11] ∧ adrCells A (.slice va vn vc) = [.string u0, .string u1, .string u2, .string u3, .bool u4, .int .i64 u5, .bool u6, .slice va vn vc, .string u8, .string u9, .bool u10, .bool u11] := ⟨_, _, _, _, _, _, _, _, _, _, _, rfl, rfl⟩
  have hvu : adrVal A (.slice ua un uc) = .agg #[.string u0, .string u1, .string u2, .string u3, .bool u4, .int .i64 u5, .bool u6, .slice ua un uc, .string u8, .string u9, .bool u10, .bool u11] := by unfold adrVal; rw [hxu]
  have hvv : adrVal A (.slice va vn vc) = .agg #[.string u0, .string u1, .string u2, .string u3, .bool u4, .int .i64 u5, .bool u6, .slice va vn vc, .string u8, .string u9, .bool u10, .bool u11] := by unfold adrVal; rw [hxv]
  rw [hvu, hvv]
  obtain ⟨W1, hW1⟩ : ∃ X, (w.alloc (.cells #[.string u0, .string u1, .string u2, .string u3, .bool u4, .int .i64 u5, .bool u6, .slice ua un uc, .string u8, .string u9, .bool u10, .bool u11] 24)) = X := ⟨_, rfl⟩
  have hbW1 : Below w.heap.size w W1 := by rw [← hW1]; exact (Below.refl _ w).alloc (Nat.le_refl _) _
  have hsW1 : W1.heap.size = w.heap.size + 1 := by rw [← hW1]; simp
  have hAW1 : AdrIn W1 w.heap.size A (.slice ua un uc) := by
    unfold AdrIn
    rw [hxu, ← hW1]
    exact heap_alloc_new w _
  obtain ⟨W2, hW2⟩ : ∃ X, (W1.alloc (.cells #[.string u0, .string u1, .string u2, .string u3, .bool u4, .int .i64 u5, .bool u6, .slice va vn vc, .string u8, .string u9, .bool u10, .bool u11] 24)) = X := ⟨_, rfl⟩
  have hbW2 : Below W1.heap.size W1 W2 := by rw [← hW2]; exact (Below.refl _ W1).alloc (Nat.le_refl _) _
  have hsW2 : W2.heap.size = W1.heap.size + 1 := by rw [← hW2]; simp
  have hAW2 : AdrIn W2 W1.heap.size A (.slice va vn vc) := by
    unfold AdrIn
    rw [hxv, ← hW2]
    exact heap_alloc_new W1 _
  have HSm := hid (fun (Z : World) (hZ : Below W2.heap.size W2 Z) => sameT_any (.slice ua un uc) (.slice va vn vc) A.path A.path Z (path_tx (((ha.kept hbW1).kept hbW2).kept hZ)) (path_tx (((hb.kept hbW1).kept hbW2).kept hZ)) hl hl)
  rw [show decide (A.path = A.path) = true by simp] at HSm
  have HBW := hid (below2 hbW1 hbW2)
  have hAW1' := hAW1.kept hbW2
  rw [hsW1] at hAW2
  have HCu := hid (fun (Z : World) (hZ : Below W2.heap.size W2 Z) => adr_twelve hxu (hAW1'.kept hZ))
  have HCv := hid (fun (Z : World) (hZ : Below W2.heap.size W2 Z) => adr_twelve hxv (hAW2.kept hZ))
  have HQ0 := hid ((Below.refl W2.heap.size W2).drew)
  clear hAW1 hAW1' hAW2 hxu hxv hvu hvv hbW1 hbW2 ha hb hl
  go_enter Tryz.func22, Tryz.ntmps22
  obtain ⟨y0, y1, y2, y3, y4, y5, y6, y7, y8, y9, y10, y11⟩ := HCu.out W2 (Below.refl _ _)
  obtain ⟨z0, z1, z2, z3, z4, z5, z6, z7, z8, z9, z10, z11⟩ := HCv.out W2 (Below.refl _ _)
  go_wp2_with fail
  refine (HSm.out _ (Below.refl _ _)).mono ?_
  rintro e w3 ⟨rfl, hb3⟩
  clear y0 z0 y1 z1 y2 z2 y3 z3 y4 z4 y5 z5 y6 z6 y7 z7 y8 z8 y9 z9 y10 z10 y11 z11
  obtain ⟨y0, y1, y2, y3, y4, y5, y6, y7, y8, y9, y10, y11⟩ := HCu.out w3 hb3
  obtain ⟨z0, z1, z2, z3, z4, z5, z6, z7, z8, z9, z10, z11⟩ := HCv.out w3 hb3
  go_wp2
  go_ret
  exact ⟨by simp, below2 HBW.out hb3⟩

end Go.Proofs.YtdnginibhpnefaaGreatDoor

namespace Go.Proofs.YtdnginibhpnefaaGreatDoor
open Go.RowKit

set_option maxHeartbeats 16000000 in
set_option maxRecDepth 100000 in
theorem urlBack_walk (s : ByteArray) (w : World) (hs : s.size ≤ 140737488351232) (hg : Gd w) :
    Calls Tryz.prog 6 #[.string s] w fun e w' => e = .returned (.bool true) ∧ Below w.heap.size w w' := by
  obtain ⟨F, hF⟩ : ∃ F : ByteArray, ⟨(s.data.toList.take 500).toArray⟩ = F := ⟨_, rfl⟩
  have hFs : F.size ≤ 500 := by rw [← hF, Lib.size_eq]; show (s.data.toList.take 500).length ≤ _; rw [List.length_take]; omega
  have HFw := hid (fun w => few_any s 500 w (by omega) (by omega))
  rw [hF] at HFw
  have HPa := hid (uparse_any F w hg (by omega))
  have HKn := hid (fun (Z : World) (hZ : Gd Z) => known3_any Z hZ)
  have HG := hid hg
  cases hr : readV F.data.toList none with
  | error x =>
    have hx0 := err_ne (read_err hr)
    have hx1 := err_bne (read_err hr)
    rw [hr] at HPa
    unfold ReadPost at HPa
    simp only [numOf, adrOf] at HPa
    clear hr hg hF
    go_enter Tryz.func6, Tryz.ntmps6
    go_wp2_with fail
    refine (HFw.out _).mono ?_
    rintro e w' ⟨rfl, rfl⟩
    go_wp2_with fail
    refine HPa.out.mono ?_
    rintro e w1 ⟨pv, rfl, hown, hb1⟩
    obtain ⟨da, dn, dc, rfl⟩ := own_sl hown
    obtain ⟨d0, d1, d2, d3, d4, d5, d6, d8, d9, d10, d11, hxd⟩ := adr_cells Adr.zero da dn dc
    have hvd : adrVal Adr.zero (.slice da dn dc) = .agg #[.string d0, .string d1, .string d2, .string d3, .bool d4, .int .i64 d5, .bool d6, .slice da dn dc, .string d8, .string d9, .bool d10, .bool d11] := by unfold adrVal; rw [hxd]
    rw [hvd]
    obtain ⟨W2, hW2⟩ : ∃ X, (w1.alloc (.cells #[.string d0, .string d1, .string d2, .string d3, .bool d4, .int .i64 d5, .bool d6, .slice da dn dc, .string d8, .string d9, .bool d10, .bool d11] 24)) = X := ⟨_, rfl⟩
    have hbW2 : Below w1.heap.size w1 W2 := by rw [← hW2]; exact (Below.refl _ w1).alloc (Nat.le_refl _) _
    have hsW2 : W2.heap.size = w1.heap.size + 1 := by rw [← hW2]; simp
    have hAW2 : AdrIn W2 w1.heap.size Adr.zero (.slice da dn dc) := by
      unfold AdrIn
      rw [hxd, ← hW2]
      exact heap_alloc_new w1 _
    have hpp := (own_path hown).kept hbW2
    have HB2 := hid (below2 hb1 hbW2)
    have HSm := hid (same3_any Adr.zero (.slice da dn dc) (.slice none 0 0) W2 hpp (.inl ⟨rfl, rfl⟩) (Nat.zero_le _))
    rw [hvd, show adrVal Adr.zero (.slice none 0 0) = .agg #[.string ⟨#[]⟩, .string ⟨#[]⟩, .string ⟨#[]⟩, .string ⟨#[]⟩, .bool false, .int .i64 0, .bool false, .slice none 0 0, .string ⟨#[]⟩, .string ⟨#[]⟩, .bool false, .bool false] from rfl] at HSm
    obtain ⟨y0, y1, y2, y3, y4, y5, y6, y7, y8, y9, y10, y11⟩ := adr_twelve hxd hAW2
    clear hown hb1 hbW2 hAW2 hxd hvd hpp
    go_wp2_with fail
    refine HSm.out.mono ?_
    rintro e w3 ⟨rfl, hb3⟩
    have HB3 := hid (below2 HB2.out hb3)
    clear hb3
    go_wp2_with fail
    refine (HKn.out _ (HG.out.kept HB3.out)).mono ?_
    rintro e w4 ⟨rfl, hb4⟩
    go_wp2
    go_ret
    exact ⟨rfl, below2 HB3.out hb4⟩
  | ok A =>
    have hbk := read_back hr (by rw [← Lib.size_eq]; exact hFs)
    have hTl : (textV A).length ≤ 4096 := by
      have := read_len hr
      rw [← Lib.size_eq] at this
      omega
    have HFi := hid (parse_fine hr)
    have HLn := hid (show A.path.length ≤ 1000000 by have := slim_path (parse_slim hr) (by omega); omega)
    obtain ⟨TT, hTT⟩ : ∃ X : ByteArray, X = ⟨(textV A).toArray⟩ := ⟨_, rfl⟩
    have hTs : TT.size ≤ 4096 := by rw [Lib.size_eq, hTT]; exact hTl
    have hbk2 : readV TT.data.toList none = .ok A := by rw [hTT]; exact hbk
    have HP2 := hid (fun (Z : World) (hZ : Gd Z) => uparse_any TT Z hZ (by omega))
    rw [hbk2] at HP2
    rw [hr] at HPa
    unfold ReadPost at HPa HP2
    simp only [numOf, adrOf] at HPa HP2
    have HTT := hid hTT
    clear hr hg hF hbk hbk2 hTl hTT
    go_enter Tryz.func6, Tryz.ntmps6
    go_wp2_with fail
    refine (HFw.out _).mono ?_
    rintro e w' ⟨rfl, rfl⟩
    go_wp2_with fail
    refine HPa.out.mono ?_
    rintro e w1 ⟨pv, rfl, hown, hb1⟩
    obtain ⟨da, dn, dc, rfl⟩ := own_sl hown
    obtain ⟨d0, d1, d2, d3, d4, d5, d6, d8, d9, d10, d11, hxd⟩ := adr_cells A da dn dc
    have hvd : adrVal A (.slice da dn dc) = .agg #[.string d0, .string d1, .string d2, .string d3, .bool d4, .int .i64 d5, .bool d6, .slice da dn dc, .string d8, .string d9, .bool d10, .bool d11] := by unfold adrVal; rw [hxd]
    rw [hvd]
    obtain ⟨W2, hW2⟩ : ∃ X, (w1.alloc (.cells #[.string d0, .string d1, .string d2, .string d3, .bool d4, .int .i64 d5, .bool d6, .slice da dn dc, .string d8, .string d9, .bool d10, .bool d11] 24)) = X := ⟨_, rfl⟩
    have hbW2 : Below w1.heap.size w1 W2 := by rw [← hW2]; exact (Below.refl _ w1).alloc (Nat.le_refl _) _
    have hsW2 : W2.heap.size = w1.heap.size + 1 := by rw [← hW2]; simp
    have hAW2 : AdrIn W2 w1.heap.size A (.slice da dn dc) := by
      unfold AdrIn
      rw [hxd, ← hW2]
      exact heap_alloc_new w1 _
    have hpp := (own_path hown).kept hbW2
    have HPP2 := hid hpp
    have HB2 := hid (below2 hb1 hbW2)
    have HA2 := hid hAW2
    have HXd := hid hxd
    have HVd := hid hvd
    have HT := hid (text_any A (.slice da dn dc) W2 (HG.out.kept HB2.out) hpp HFi.out)
    rw [hvd, ← HTT.out] at HT
    obtain ⟨y0, y1, y2, y3, y4, y5, y6, y7, y8, y9, y10, y11⟩ := adr_twelve hxd hAW2
    clear hown hb1 hbW2 hAW2 hxd hvd hpp
    go_wp2_with fail
    refine HT.out.mono ?_
    rintro e w3 ⟨rfl, hb3⟩
    have HB3 := hid (below2 HB2.out hb3)
    have HA3 := hid (HA2.out.kept hb3)
    have HPP3 := hid (HPP2.out.kept hb3)
    clear hb3 y0 y1 y2 y3 y4 y5 y6 y7 y8 y9 y10 y11 HA2 HPP2 HT
    go_wp2_with fail
    refine (HP2.out _ (HG.out.kept HB3.out)).mono ?_
    rintro e w5 ⟨qv, rfl, hown, hb5⟩
    obtain ⟨va, vn, vc, rfl⟩ := own_sl hown
    obtain ⟨v0, v1, v2, v3, v4, v5, v6, v8, v9, v10, v11, hxv⟩ := adr_cells A va vn vc
    have hvv : adrVal A (.slice va vn vc) = .agg #[.string v0, .string v1, .string v2, .string v3, .bool v4, .int .i64 v5, .bool v6, .slice va vn vc, .string v8, .string v9, .bool v10, .bool v11] := by unfold adrVal; rw [hxv]
    rw [hvv]
    obtain ⟨W6, hW6⟩ : ∃ X, (w5.alloc (.cells #[.string v0, .string v1, .string v2, .string v3, .bool v4, .int .i64 v5, .bool v6, .slice va vn vc, .string v8, .string v9, .bool v10, .bool v11] 24)) = X := ⟨_, rfl⟩
    have hbW6 : Below w5.heap.size w5 W6 := by rw [← hW6]; exact (Below.refl _ w5).alloc (Nat.le_refl _) _
    have hsW6 : W6.heap.size = w5.heap.size + 1 := by rw [← hW6]; simp
    have hAW6 : AdrIn W6 w5.heap.size A (.slice va vn vc) := by
      unfold AdrIn
      rw [hxv, ← hW6]
      exact heap_alloc_new w5 _
    have hb56 := below2 hb5 hbW6
    have HB6 := hid (below2 HB3.out hb56)
    have HA6 := hid (HA3.out.kept hb56)
    have hpp := HPP3.out.kept hb56
    have HPP6 := hid hpp
    have HSm := hid (same3_any A (.slice da dn dc) (.slice va vn vc) W6 hpp ((own_path hown).kept hbW6) HLn.out)
    rw [HVd.out, hvv] at HSm
    obtain ⟨y0, y1, y2, y3, y4, y5, y6, y7, y8, y9, y10, y11⟩ := adr_twelve HXd.out HA6.out
    obtain ⟨z0, z1, z2, z3, z4, z5, z6, z7, z8, z9, z10, z11⟩ := adr_twelve hxv hAW6
    clear hown hb5 hbW6 hAW6 hxv hvv hb56 hpp
    go_wp2_with fail
    refine HSm.out.mono ?_
    rintro e w7 ⟨rfl, hb7⟩
    have HB7 := hid (below2 HB6.out hb7)
    have HA7 := hid (HA6.out.kept hb7)
    have HPP7 := hid (HPP6.out.kept hb7)
    clear y0 y1 y2 y3 y4 y5 y6 y7 y8 y9 y10 y11 z0 z1 z2 z3 z4 z5 z6 z7 z8 z9 z10 z11 hb7
    obtain ⟨y0, y1, y2, y3, y4, y5, y6, y7, y8, y9, y10, y11⟩ := adr_twelve HXd.out HA7.out
    have hxd := HXd.out
    obtain ⟨W8, hW8⟩ : ∃ X, (w7.alloc (.cells #[.string d0, .string d1, .string d2, .string d3, .bool d4, .int .i64 d5, .bool d6, .slice da dn dc, .string d8, .string d9, .bool d10, .bool d11] 24)) = X := ⟨_, rfl⟩
    have hbW8 : Below w7.heap.size w7 W8 := by rw [← hW8]; exact (Below.refl _ w7).alloc (Nat.le_refl _) _
    have hsW8 : W8.heap.size = w7.heap.size + 1 := by rw [← hW8]; simp
    have hAW8 : AdrIn W8 w7.heap.size A (.slice da dn dc) := by
      unfold AdrIn
      rw [hxd, ← hW8]
      exact heap_alloc_new w7 _
    have c11 := hAW8.cell 11 _ rfl
    have f11 := hAW8.frozen 11
    have c9 := hAW8.cell 9 _ rfl
    have f9 := hAW8.frozen 9
    obtain ⟨Wn, hWn⟩ : ∃ X, ((W8.setCell ⟨w7.heap.size, 11, none⟩ (.bool false)).setCell ⟨w7.heap.size, 9, none⟩ (.string ⟨#[]⟩)) = X := ⟨_, rfl⟩
    have h9 : AdrIn (W8.setCell ⟨w7.heap.size, 11, none⟩ (.bool false)) w7.heap.size { A with hasFragment := false } (.slice da dn dc) := hAW8.set 11 _ rfl
    have h10 : AdrIn Wn w7.heap.size { A with hasFragment := false, fragment := [] } (.slice da dn dc) := by rw [← hWn]; exact h9.set 9 _ rfl
    have hAu : AdrIn Wn w1.heap.size A (.slice da dn dc) := by
      rw [← hWn]
      have hne : w1.heap.size ≠ w7.heap.size := Nat.ne_of_lt HA7.out.lt
      exact ((HA7.out.kept hbW8).set_other hne 11 _).set_other hne 9 _
    have hbn : Below w7.heap.size w7 Wn := by rw [← hWn]; exact (hbW8.setCell (p := ⟨w7.heap.size, 11, none⟩) (Nat.le_refl _) _).setCell (p := ⟨w7.heap.size, 9, none⟩) (Nat.le_refl _) _
    have HBn := hid (below2 HB7.out hbn)
    have HPPn := hid (HPP7.out.kept hbn)
    have hxw : adrCells { A with hasFragment := false, fragment := [] } (.slice da dn dc) = [.string d0, .string d1, .string d2, .string d3, .bool d4, .int .i64 d5, .bool d6, .slice da dn dc, .string d8, .string ⟨#[]⟩, .bool d10, .bool false] := by
      have : adrCells { A with hasFragment := false, fragment := [] } (.slice da dn dc) = ((adrCells A (.slice da dn dc)).set 11 (.bool false)).set 9 (.string ⟨#[]⟩) := rfl
      rw [this, hxd]
      rfl
    have HRu := hid (show ∀ Z, Below Wn.heap.size Wn Z → Z.rangeAt w1.heap.size 0 [.string d0, .string d1, .string d2, .string d3, .bool d4, .int .i64 d5, .bool d6, .slice da dn dc, .string d8, .string d9, .bool d10, .bool d11] from fun Z hZ => by
      have := range_row (show Z.heap[w1.heap.size]? = some (.cells (adrCells A (.slice da dn dc)).toArray 24 (0, 0)) from hAu.kept hZ)
      rw [hxd] at this
      exact this)
    have HRw := hid (show ∀ Z, Below Wn.heap.size Wn Z → Z.rangeAt w7.heap.size 0 [.string d0, .string d1, .string d2, .string d3, .bool d4, .int .i64 d5, .bool d6, .slice da dn dc, .string d8, .string ⟨#[]⟩, .bool d10, .bool false] from fun Z hZ => by
      have := range_row (show Z.heap[w7.heap.size]? = some (.cells (adrCells { A with hasFragment := false, fragment := [] } (.slice da dn dc)).toArray 24 (0, 0)) from h10.kept hZ)
      rw [hxw] at this
      exact this)
    have hvw : adrVal { A with hasFragment := false, fragment := [] } (.slice da dn dc) = .agg #[.string d0, .string d1, .string d2, .string d3, .bool d4, .int .i64 d5, .bool d6, .slice da dn dc, .string d8, .string ⟨#[]⟩, .bool d10, .bool false] := by unfold adrVal; rw [hxw]
    have HGn := hid (fun (Z : World) (hZ : Below Wn.heap.size Wn Z) => HG.out.kept (below2 HBn.out hZ))
    have HBa := hid (fun (Z : World) (hZ : Below Wn.heap.size Wn Z) => bare_any A (.slice da dn dc) Z (HGn.out Z hZ) (HPPn.out.kept hZ) HFi.out)
    have HFw2 := hid (show Fine { A with hasFragment := false, fragment := [] } by have := HFi.out; unfold Fine at this ⊢; simp only [List.length_nil]; omega)
    have HTw := hid (fun (Z : World) (hZ : Below Wn.heap.size Wn Z) => text_any { A with hasFragment := false, fragment := [] } (.slice da dn dc) Z (HGn.out Z hZ) (HPPn.out.kept hZ) HFw2.out)
    obtain ⟨BB, hBB⟩ : ∃ X : ByteArray, X = ⟨(bareV A).toArray⟩ := ⟨_, rfl⟩
    have htw : textV { A with hasFragment := false, fragment := [] } = bareV A := by
      show bareV A ++ [] = bareV A
      rw [List.append_nil]
    rw [htw, ← hBB, hvw] at HTw
    rw [← hBB, HVd.out] at HBa
    have HK4 := hid (fun (Z : World) (hZ : Below Wn.heap.size Wn Z) => known3_any Z (HGn.out Z hZ))
    have HQ0 := hid ((Below.refl Wn.heap.size Wn).drew)
    clear h9 h10 hAu hbn hxw hvw htw hBB hxd hbW8 hAW8 HSm HP2 HPa HA3 HA6 HA7 HPP3 HPP6 HPP7
    go_upto_region 10 with fail
    refine wp_region_held_drew (S := (fun wx => Below Wn.heap.size Wn wx)) (by kernel_rfl) HQ0.out (fun hHeld => ?_)
    refine wpAnyH_to (fuel' := 9) (listed' := #[false, false, false, false, false, false, false, false, false]) rfl rfl ?_
    refine wpAnyH_take (i := 0) (oi := ⟨some 39, _, _, _, _, _⟩) rfl (by kernel_rfl) (by kernel_rfl) (by kernel_rfl) (fun _ _ _ h => h) (yieldsIf_load_mid (by kernel_rfl) 24 (.tmp 3) rfl (w1.heap.size) 0 rfl [.string d0, .string d1, .string d2, .string d3, .bool d4, .int .i64 d5, .bool d6, .slice da dn dc, .string d8, .string d9, .bool d10, .bool d11] _ HRu.out Tryz.underlying24 rfl sizeU) (by assumption) ?_
    (try simp only [Act.put, List.setIfInBounds_toArray, List.set_cons_zero, List.set_cons_succ])
    refine wpAnyH_take (i := 2) (oi := ⟨some 41, _, _, _, _, _⟩) rfl (by kernel_rfl) (by kernel_rfl) (by kernel_rfl) (fun _ _ _ h => h) (yieldsIf_load_mid (by kernel_rfl) 24 (.tmp 7) rfl (w7.heap.size) 0 rfl [.string d0, .string d1, .string d2, .string d3, .bool d4, .int .i64 d5, .bool d6, .slice da dn dc, .string d8, .string ⟨#[]⟩, .bool d10, .bool false] _ HRw.out Tryz.underlying24 rfl sizeU) (by assumption) ?_
    (try simp only [Act.put, List.setIfInBounds_toArray, List.set_cons_zero, List.set_cons_succ])
    refine wpAnyH_ready (rs := [1]) (by kernel_rfl) (by simp) ?_
    refine AllReadyH.cons rfl (fun K9 hK => ?_) AllReadyH.nil
    rw [if_pos (by kernel_rfl)]
    go_simp
    go_wp2_with (go_at_call 24; refine (HBa.out _ HQ0.out).mono ?_; rintro e w11 ⟨rfl, hba⟩)
    have HQ11 := hid (below2 HQ0.out hba)
    clear hba
    refine hK.out _ _ HQ11.out (fun hHeld2 => ?_)
    clear hK K9 hHeld
    rename _ => hHeld
    refine wpAnyH_ready (rs := [3]) (by kernel_rfl) (by simp) ?_
    refine AllReadyH.cons rfl (fun K9 hK => ?_) AllReadyH.nil
    rw [if_pos (by kernel_rfl)]
    go_simp
    go_wp2_with (go_at_call 19; refine (HTw.out _ HQ11.out).mono ?_; rintro e w12 ⟨rfl, hba⟩)
    have HQ12 := hid (below2 HQ11.out hba)
    clear hba
    refine hK.out _ _ HQ12.out (fun hHeld2 => ?_)
    clear hK K9 hHeld
    rename _ => hHeld
    refine' wpAnyH_take (i := 4) (oi := ⟨some 43, _, _, _, _, _⟩) (v := _) rfl (by kernel_rfl) (by kernel_rfl) (by kernel_rfl) (fun _ _ _ h => h) (Or.inl ⟨by kernel_rfl, ?hy1⟩) (by assumption) ?rest1
    case hy1 => (intro wx hSw; (try dsimp only at hSw); go_simp; first | done | with_reducible rfl)
    (try simp only [Act.put, List.setIfInBounds_toArray, List.set_cons_zero, List.set_cons_succ])
    refine' wpAnyH_take (i := 5) (oi := ⟨some 44, _, _, _, _, _⟩) (v := _) rfl (by kernel_rfl) (by kernel_rfl) (by kernel_rfl) (fun _ _ _ h => h) (Or.inl ⟨by kernel_rfl, ?hy2⟩) (by assumption) ?rest2
    case hy2 => (intro wx hSw; (try dsimp only at hSw); go_simp; first | done | with_reducible rfl)
    (try simp only [Act.put, List.setIfInBounds_toArray, List.set_cons_zero, List.set_cons_succ])
    refine wpAnyH_ready (rs := [6]) (by kernel_rfl) (by simp) ?_
    refine AllReadyH.cons rfl (fun K9 hK => ?_) AllReadyH.nil
    rw [if_pos (by kernel_rfl)]
    go_simp
    go_wp2_with (go_at_call 20; refine (HK4.out _ HQ12.out).mono ?_; rintro e w13 ⟨rfl, hba⟩)
    have HQ13 := hid (below2 HQ12.out hba)
    clear hba
    refine hK.out _ _ HQ13.out (fun hHeld2 => ?_)
    clear hK K9 hHeld
    rename _ => hHeld
    refine' wpAnyH_take (i := 7) (oi := ⟨some 46, _, _, _, _, _⟩) (v := _) rfl (by kernel_rfl) (by kernel_rfl) (by kernel_rfl) (fun _ _ _ h => h) (Or.inl ⟨by kernel_rfl, ?hy3⟩) (by assumption) ?rest3
    case hy3 => (intro wx hSw; (try dsimp only at hSw); go_simp; first | done | with_reducible rfl)
    (try simp only [Act.put, List.setIfInBounds_toArray, List.set_cons_zero, List.set_cons_succ])
    refine' wpAnyH_take (i := 8) (oi := ⟨some 2, _, _, _, _, _⟩) (v := _) rfl (by kernel_rfl) (by kernel_rfl) (by kernel_rfl) (fun _ _ _ h => h) (Or.inl ⟨by kernel_rfl, ?hy4⟩) (by assumption) ?rest4
    case hy4 => (intro wx hSw; (try dsimp only at hSw); go_simp; first | done | with_reducible rfl)
    (try simp only [Act.put, List.setIfInBounds_toArray, List.set_cons_zero, List.set_cons_succ])
    refine wpAnyH_done (by kernel_rfl) ?_ _
    go_wp2
    go_ret
    exact ⟨rfl, below2 HBn.out HQ13.out⟩

end Go.Proofs.YtdnginibhpnefaaGreatDoor
