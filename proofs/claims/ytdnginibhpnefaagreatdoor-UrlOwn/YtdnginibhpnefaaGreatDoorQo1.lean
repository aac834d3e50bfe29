/-
  Walks and plain facts that this claim leans on, put together out of 1 texts: Ero.
-/
import Derived.Test.YtdnginibhpnefaaGreatDoorProg
import Derived.Test.YtdnginibhpnefaaGreatDoorQa1
import Derived.Test.YtdnginibhpnefaaGreatDoorQa2
import Derived.Test.YtdnginibhpnefaaGreatDoorQa3
import Derived.Test.YtdnginibhpnefaaGreatDoorQa4
import Derived.Test.YtdnginibhpnefaaGreatDoorQa5
import Derived.Test.YtdnginibhpnefaaGreatDoorQa6
import Derived.Test.YtdnginibhpnefaaGreatDoorQa7
import Derived.Test.YtdnginibhpnefaaGreatDoorQa8
import Derived.Test.YtdnginibhpnefaaGreatDoorQa9
import Derived.Test.YtdnginibhpnefaaGreatDoorQa10
import Derived.Test.YtdnginibhpnefaaGreatDoorQa11
import Derived.Test.YtdnginibhpnefaaGreatDoorQa12
import Derived.Test.YtdnginibhpnefaaGreatDoorQa13
import Derived.Test.YtdnginibhpnefaaGreatDoorQa14
import Derived.Test.YtdnginibhpnefaaGreatDoorQa15
import Derived.Test.YtdnginibhpnefaaGreatDoorQa16
import Derived.Test.YtdnginibhpnefaaGreatDoorQa17
import Derived.Test.YtdnginibhpnefaaGreatDoorQa18
import Derived.Test.YtdnginibhpnefaaGreatDoorQa19
import Derived.Test.YtdnginibhpnefaaGreatDoorQa20
import Derived.Test.YtdnginibhpnefaaGreatDoorQa21
import Derived.Test.YtdnginibhpnefaaGreatDoorQa22
import Derived.Test.YtdnginibhpnefaaGreatDoorQa23
import Derived.Test.YtdnginibhpnefaaGreatDoorQa24
import Derived.Test.YtdnginibhpnefaaGreatDoorQa25
import Derived.Test.YtdnginibhpnefaaGreatDoorQa26
import Derived.Test.YtdnginibhpnefaaGreatDoorQa27
import Derived.Test.YtdnginibhpnefaaGreatDoorQa28
import Derived.Test.YtdnginibhpnefaaGreatDoorQa29
import Derived.Test.YtdnginibhpnefaaGreatDoorQa30
import Derived.Test.YtdnginibhpnefaaGreatDoorQa31
import Derived.Test.YtdnginibhpnefaaGreatDoorQa32
import Derived.Test.YtdnginibhpnefaaGreatDoorQa33
import Derived.Laws.AppendOwn
import Derived.OwnWalk
import Derived.WalkKit
import Derived.Deep.RegionHeld
import Derived.LoopN
import Derived.RegionTactic
import Derived.Deep.RegionWith
import Derived.Deep.QuietTactic
import Derived.BigQuiet
import Derived.Lib.Strings
import Derived.Lib.UnsafeStr
import Derived.Laws.IdiomStrings
import Derived.Lib.IndexMore
import Derived.Lib.Join
import Derived.Shelf.Strings.Builder1
import Derived.Shelf.Strings.Builder2
import Derived.Shelf.Strings.OnBuilder
import Derived.Shelf.Strings.Trim
import Derived.Shelf.Small.Utf8
import Derived.Shelf.Small.Strs
import Derived.Shelf.Small.Wraps
import Derived.Shelf.Strings.BuilderF
import Derived.Shelf.Strings.BuilderK
import Derived.Shelf.Strings.Builder2Cap
import Derived.Shelf.Strconv.Itoa0
import Derived.Shelf.Strconv.Itoa1
import Derived.Shelf.LaysM
import Derived.Shelf.Strconv.Itoa2
import Derived.Shelf.Strconv.Itoa3
import Derived.Shelf.Strings.Search1
import Derived.Shelf.Strings.Search2
import Derived.Shelf.Strings.Search3
import Derived.Shelf.Strings.Cut
import Derived.Shelf.Strings.Count
import Derived.Shelf.Strings.Shaped
import Derived.Shelf.Strings.LastIndex
import Derived.Shelf.Strings.Prefix
import Derived.Shelf.Strings.Split
import Derived.Shelf.Strings.Replace
import Derived.Shelf.Strings.Runes
import Derived.Shelf.Strings.IndexAny
import Derived.Shelf.Strings.AsciiSet
import Derived.Shelf.Strings.IndexAnyAll
import Derived.Shelf.Unicode.DecodeSlow
import Derived.Ground.Names2Prog
import Derived.Shelf.Slices.Clone
import Derived.Ground.SlgnProg
import Derived.Shelf.SlicesE.Clone
import Derived.Lib.IndexAny
import Derived.Lib.Replace
import Derived.Lib.TrimByte
import Derived.Lib.ItoaNum
import Derived.Laws.AppendOwnNone
import Derived.WalkSpells
import Derived.WalkLawsBesides
import Derived.Deep.Cut
import Derived.BigRegion
import Derived.Deep.LoopGhost
import Derived.Laws.RangeAny
import Derived.Lib.DecodeN
import Derived.Lib.OthersKept
import Derived.Laws.CopyOwn
import Derived.Laws.ResultCell
import Derived.Deep.MidRow
import Derived.Scope
import Derived.ScopeJumps
import Derived.WalkMore
import Derived.Lib.FrozenHead2
import Derived.Lib.Builder
import Derived.Laws.OwnMore
import Derived.Below
import Derived.WalkSmall
import Derived.Lib.SmallJoins
import Derived.Laws.BytesString
import Derived.Lib.BufferRead
import Derived.Lib.RuneBytes
import Derived.Laws.BitsAllLaws
import Derived.Lib.Bytealg
import Derived.Deep.RegionLaw
import Derived.Lib.SlTrimSet
import Derived.Lib.LastIndexByte
import Derived.Lib.BufferMore
import Derived.Lib.AppendStr
import Derived.Deep.WholeRow
import Derived.Lib.AppendIntMem
set_option linter.unusedSimpArgs false
set_option linter.unusedVariables false

namespace Go.Proofs.YtdnginibhpnefaaGreatDoor
open Go.RowKit

theorem spc_own {sc : List UInt8} (h : Spc sc) : 0 ≤ ownV sc ∧ sc.length ≤ 5 := by
  rcases h with rfl | rfl | rfl | rfl | rfl <;> exact ⟨by decide, by decide⟩

/-- What an address answers: where its port stands. -/
theorem port_cell {W : World} {b : Nat} {A : Adr} {v : Value} (h : AdrIn W b A v) : W.cell? ⟨b, 5, none⟩ = some (.int .i64 A.port) := h.cell 5 _ rfl

set_option maxHeartbeats 8000000 in
set_option maxRecDepth 100000 in
theorem urlOwn_walk (n0 m0 : Int) (w : World) (hn : (Lit.int .i64 n0).wf = true) (hm : (Lit.int .i64 m0).wf = true) (hg : Gd w) :
    Calls Tryz.prog 12 #[.int .i64 n0, .int .i64 m0] w fun e w' => e = .returned (.bool true) ∧ Below w.heap.size w w' := by
  have HG := hid hg
  have hn' := bounds_i64 hn
  have hm' := bounds_i64 hm
  have HUp := hid (fun w => upto3_any n0 4 w hn'.1 hn'.2 (by omega) (by omega))
  have HUq := hid (fun w => upto3_any m0 65535 w hm'.1 hm'.2 (by omega) (by omega))
  obtain ⟨hk0, hk1⟩ := uptoI_bounds n0 4 (by omega)
  obtain ⟨k, hk⟩ := Int.eq_ofNat_of_zero_le hk0
  rw [hk] at hk1 HUp
  obtain ⟨hN0, hN1⟩ := uptoI_bounds m0 65535 (by omega)
  obtain ⟨N, hN⟩ := Int.eq_ofNat_of_zero_le hN0
  rw [hN] at hN1 HUq
  have hk4 : k ≤ 4 := by omega
  have hNb : N ≤ 65535 := by omega
  obtain ⟨W1, hW1⟩ : ∃ X, (w.alloc (.cells #[.string ⟨#[104, 116, 116, 112]⟩, .string ⟨#[104, 116, 116, 112, 115]⟩, .string ⟨#[119, 115]⟩, .string ⟨#[119, 115, 115]⟩, .string ⟨#[102, 116, 112]⟩] 9)) = X := ⟨_, rfl⟩
  have HB1 := hid (show Below w.heap.size w W1 by rw [← hW1]; exact (Below.refl _ w).alloc (Nat.le_refl _) _)
  obtain ⟨SC, hSC, hcell⟩ : ∃ SC : ByteArray, Spc SC.data.toList ∧ W1.cell? ⟨w.heap.size, k, none⟩ = some (.string SC) := by
    have hc : ∀ j v, [Value.string ⟨#[104, 116, 116, 112]⟩, .string ⟨#[104, 116, 116, 112, 115]⟩, .string ⟨#[119, 115]⟩, .string ⟨#[119, 115, 115]⟩, .string ⟨#[102, 116, 112]⟩][j]? = some v → W1.cell? ⟨w.heap.size, j, none⟩ = some v := fun j v hj => by
      have := range_row (heap_alloc_new w (.cells #[.string ⟨#[104, 116, 116, 112]⟩, .string ⟨#[104, 116, 116, 112, 115]⟩, .string ⟨#[119, 115]⟩, .string ⟨#[119, 115, 115]⟩, .string ⟨#[102, 116, 112]⟩] 9)) j v hj
      rw [hW1, Nat.zero_add] at this
      exact this
    rcases (show k = 0 ∨ k = 1 ∨ k = 2 ∨ k = 3 ∨ k = 4 by omega) with rfl | rfl | rfl | rfl | rfl
    · exact ⟨⟨#[104, 116, 116, 112]⟩, .inl rfl, hc 0 _ rfl⟩
    · exact ⟨⟨#[104, 116, 116, 112, 115]⟩, .inr (.inl rfl), hc 1 _ rfl⟩
    · exact ⟨⟨#[119, 115]⟩, .inr (.inr (.inl rfl)), hc 2 _ rfl⟩
    · exact ⟨⟨#[119, 115, 115]⟩, .inr (.inr (.inr (.inl rfl))), hc 3 _ rfl⟩
    · exact ⟨⟨#[102, 116, 112]⟩, .inr (.inr (.inr (.inr rfl))), hc 4 _ rfl⟩
  obtain ⟨hown0, hscl⟩ := spc_own hSC
  have HSC := hid hSC
  have HOw := hid (fun w => own_any SC w)
  obtain ⟨OW, hOW⟩ : ∃ x, ownV SC.data.toList = x := ⟨_, rfl⟩
  rw [hOW] at HOw hown0
  have HOW := hid hOW
  obtain ⟨sc, hsc⟩ : ∃ l, SC.data.toList = l := ⟨_, rfl⟩
  have SCs : SC.size ≤ 5 := by rw [Lib.size_eq]; exact hscl
  have HSl := hid hsc
  clear hg hn hm hn' hm' hk hN hk0 hN0 hN1 hOW hSC hscl hsc hk1
  go_enter Tryz.func12, Tryz.ntmps12
  go_wp2_with fail
  refine (HUp.out _).mono ?_
  rintro e w' ⟨rfl, rfl⟩
  have hk5 : (k : Int) < 5 := by omega
  have hk0 : (0 : Int) ≤ (k : Int) := by omega
  go_wp2_with fail
  refine (HUq.out _).mono ?_
  rintro e w' ⟨rfl, rfl⟩
  have HD := hid (fun w => digits3_any N w (by omega))
  have HD2 := hid (fun w => digits3_any (N + 65536) w (by omega))
  have SCl := HSl.out
  have hOW : ownV sc = OW := by rw [← HSl.out]; exact HOW.out
  have hSp : Spc sc := by rw [← HSl.out]; exact HSC.out
  have HOv := hid hOW
  have HSp := hid hSp
  clear hOW hSp
  go_wp2_with fail
  refine (HD.out _).mono ?_
  rintro e w' ⟨T1, rfl, hT1, rfl⟩
  obtain ⟨D1, hD1⟩ : ∃ Z0 : ByteArray, Z0 = ⟨T1.toArray⟩ := ⟨_, rfl⟩
  have D1l : D1.data.toList = T1 := by rw [hD1]
  have D1s : D1.size ≤ 40 := by rw [Lib.size_eq, D1l]; exact hT1.2.2.2
  have hT1n : T1.length ≤ 40 := hT1.2.2.2
  rw [← hD1]
  have HT1 := hid hT1
  clear hD1 hT1
  have hscn : sc.length ≤ 5 := by rw [← SCl, ← Lib.size_eq]; exact SCs
  obtain ⟨A1, hA1⟩ : ∃ Z0 : ByteArray, SC ++ (⟨#[58, 47, 47, 104, 58]⟩ : ByteArray) = Z0 := ⟨_, rfl⟩
  have A1l : A1.data.toList = (sc ++ [58, 47, 47, 104, 58]) := by rw [← hA1, ByteArray.data_append, Array.toList_append, SCl, show (⟨#[58, 47, 47, 104, 58]⟩ : ByteArray).data.toList = [58, 47, 47, 104, 58] from rfl]
  have A1s : A1.size ≤ 20 := by rw [Lib.size_eq, A1l]; simp [List.length_append]; omega
  obtain ⟨A2, hA2⟩ : ∃ Z0 : ByteArray, A1 ++ D1 = Z0 := ⟨_, rfl⟩
  have A2l : A2.data.toList = ((sc ++ [58, 47, 47, 104, 58]) ++ T1) := by rw [← hA2, ByteArray.data_append, Array.toList_append, A1l, D1l]
  have A2s : A2.size ≤ 60 := by rw [Lib.size_eq, A2l]; simp [List.length_append]; omega
  obtain ⟨A3, hA3⟩ : ∃ Z0 : ByteArray, A2 ++ (⟨#[47]⟩ : ByteArray) = Z0 := ⟨_, rfl⟩
  have A3l : A3.data.toList = (((sc ++ [58, 47, 47, 104, 58]) ++ T1) ++ [47]) := by rw [← hA3, ByteArray.data_append, Array.toList_append, A2l, show (⟨#[47]⟩ : ByteArray).data.toList = [47] from rfl]
  have A3s : A3.size ≤ 70 := by rw [Lib.size_eq, A3l]; simp [List.length_append]; omega
  obtain ⟨B1, hB1⟩ : ∃ Z0 : ByteArray, SC ++ (⟨#[58, 47, 47, 104, 58, 47]⟩ : ByteArray) = Z0 := ⟨_, rfl⟩
  have B1l : B1.data.toList = (sc ++ [58, 47, 47, 104, 58, 47]) := by rw [← hB1, ByteArray.data_append, Array.toList_append, SCl, show (⟨#[58, 47, 47, 104, 58, 47]⟩ : ByteArray).data.toList = [58, 47, 47, 104, 58, 47] from rfl]
  have B1s : B1.size ≤ 20 := by rw [Lib.size_eq, B1l]; simp [List.length_append]; omega
  obtain ⟨C1, hC1⟩ : ∃ Z0 : ByteArray, SC ++ (⟨#[58, 47, 47, 104, 58, 48]⟩ : ByteArray) = Z0 := ⟨_, rfl⟩
  have C1l : C1.data.toList = (sc ++ [58, 47, 47, 104, 58, 48]) := by rw [← hC1, ByteArray.data_append, Array.toList_append, SCl, show (⟨#[58, 47, 47, 104, 58, 48]⟩ : ByteArray).data.toList = [58, 47, 47, 104, 58, 48] from rfl]
  have C1s : C1.size ≤ 20 := by rw [Lib.size_eq, C1l]; simp [List.length_append]; omega
  have hru : readV A3.data.toList none = .ok (wAdr sc [104] (prtO OW N) [[]]) := by
    rw [A3l]
    have := h_port sc (58 :: T1) (prtO OW N) HSp.out (fun c hc => by
      rcases List.mem_cons.1 hc with rfl | hc
      · decide
      · exact (digP_au (List.all_eq_true.1 HT1.out.2.1 c hc)).1) (.inr ⟨T1, rfl, (fun e => (digP_au (List.all_eq_true.1 HT1.out.2.1 58 e)).2 rfl), by rw [HOv.out]; exact dec_portO OW HT1.out hNb⟩) (by simp; omega)
    simpa [List.append_assoc] using this
  have HPu := hid (uparse_any A3 W1 (HG.out.kept HB1.out) (by omega))
  rw [hru] at HPu
  unfold ReadPost at HPu
  simp only [adrOf, numOf] at HPu
  obtain ⟨Au, hAu⟩ : ∃ Z0, (wAdr sc [104] (prtO OW N) [[]]) = Z0 := ⟨_, rfl⟩
  have hpu : Au.port = prtO OW N := by rw [← hAu]; rfl
  rw [hAu] at HPu
  clear hAu
  clear hru
  go_wp2_with fail
  refine HPu.out.mono ?_
  rintro e w3 ⟨pv, rfl, hown, hb3⟩
  obtain ⟨ua, un, uc, rfl⟩ := own_sl hown
  obtain ⟨u0, u1, u2, u3, u4, u5, u6, u8, u9, u10, u11, hxu⟩ := adr_cells Au ua un uc
  have hvu : adrVal Au (.slice ua un uc) = .agg #[.string u0, .string u1, .string u2, .string u3, .bool u4, .int .i64 u5, .bool u6, .slice ua un uc, .string u8, .string u9, .bool u10, .bool u11] := by unfold adrVal; rw [hxu]
  rw [hvu]
  obtain ⟨W4, hW4⟩ : ∃ X, (w3.alloc (.cells #[.string u0, .string u1, .string u2, .string u3, .bool u4, .int .i64 u5, .bool u6, .slice ua un uc, .string u8, .string u9, .bool u10, .bool u11] 24)) = X := ⟨_, rfl⟩
  have hbW4 : Below w3.heap.size w3 W4 := by rw [← hW4]; exact (Below.refl _ w3).alloc (Nat.le_refl _) _
  have hsW4 : W4.heap.size = w3.heap.size + 1 := by rw [← hW4]; simp
  have hAW4 : AdrIn W4 w3.heap.size Au (.slice ua un uc) := by
    unfold AdrIn
    rw [hxu, ← hW4]
    exact heap_alloc_new w3 _
  have HB4 := hid (below2 HB1.out (below2 hb3 hbW4))
  have HS4 := hid (below2 hb3 hbW4)
  have HAu := hid hAW4
  clear hown hb3 hbW4 hAW4 hxu hvu
  have hrv : readV B1.data.toList none = .ok (wAdr sc [104] (-1) [[]]) := by
    rw [B1l]
    have := h_port sc [58] (-1) HSp.out (by decide) (.inr ⟨[], rfl, by simp, rfl⟩) (by simp)
    simpa [List.append_assoc] using this
  have HPv := hid (uparse_any B1 W4 (HG.out.kept HB4.out) (by omega))
  rw [hrv] at HPv
  unfold ReadPost at HPv
  simp only [adrOf, numOf] at HPv
  obtain ⟨Av, hAv⟩ : ∃ Z0, (wAdr sc [104] (-1) [[]]) = Z0 := ⟨_, rfl⟩
  have hpv : Av.port = -1 := by rw [← hAv]; rfl
  rw [hAv] at HPv
  clear hAv
  clear hrv
  go_wp2_with fail
  refine HPv.out.mono ?_
  rintro e w5 ⟨pv, rfl, hown, hb5⟩
  obtain ⟨va, vn, vc, rfl⟩ := own_sl hown
  obtain ⟨v0, v1, v2, v3, v4, v5, v6, v8, v9, v10, v11, hxv⟩ := adr_cells Av va vn vc
  have hvv : adrVal Av (.slice va vn vc) = .agg #[.string v0, .string v1, .string v2, .string v3, .bool v4, .int .i64 v5, .bool v6, .slice va vn vc, .string v8, .string v9, .bool v10, .bool v11] := by unfold adrVal; rw [hxv]
  rw [hvv]
  obtain ⟨W6, hW6⟩ : ∃ X, (w5.alloc (.cells #[.string v0, .string v1, .string v2, .string v3, .bool v4, .int .i64 v5, .bool v6, .slice va vn vc, .string v8, .string v9, .bool v10, .bool v11] 24)) = X := ⟨_, rfl⟩
  have hbW6 : Below w5.heap.size w5 W6 := by rw [← hW6]; exact (Below.refl _ w5).alloc (Nat.le_refl _) _
  have hsW6 : W6.heap.size = w5.heap.size + 1 := by rw [← hW6]; simp
  have hAW6 : AdrIn W6 w5.heap.size Av (.slice va vn vc) := by
    unfold AdrIn
    rw [hxv, ← hW6]
    exact heap_alloc_new w5 _
  have HB6 := hid (below2 HB4.out (below2 hb5 hbW6))
  have HS6 := hid (below2 hb5 hbW6)
  have HAv := hid hAW6
  clear hown hb5 hbW6 hAW6 hxv hvv
  go_wp2_with fail
  refine (HD.out _).mono ?_
  rintro e w' ⟨T2, rfl, hT2, rfl⟩
  obtain ⟨D2, hD2⟩ : ∃ Z0 : ByteArray, Z0 = ⟨T2.toArray⟩ := ⟨_, rfl⟩
  have D2l : D2.data.toList = T2 := by rw [hD2]
  have D2s : D2.size ≤ 40 := by rw [Lib.size_eq, D2l]; exact hT2.2.2.2
  have hT2n : T2.length ≤ 40 := hT2.2.2.2
  rw [← hD2]
  have HT2 := hid hT2
  clear hD2 hT2
  obtain ⟨C2, hC2⟩ : ∃ Z0 : ByteArray, C1 ++ D2 = Z0 := ⟨_, rfl⟩
  have C2l : C2.data.toList = ((sc ++ [58, 47, 47, 104, 58, 48]) ++ T2) := by rw [← hC2, ByteArray.data_append, Array.toList_append, C1l, D2l]
  have C2s : C2.size ≤ 60 := by rw [Lib.size_eq, C2l]; simp [List.length_append]; omega
  obtain ⟨C3, hC3⟩ : ∃ Z0 : ByteArray, C2 ++ (⟨#[47]⟩ : ByteArray) = Z0 := ⟨_, rfl⟩
  have C3l : C3.data.toList = (((sc ++ [58, 47, 47, 104, 58, 48]) ++ T2) ++ [47]) := by rw [← hC3, ByteArray.data_append, Array.toList_append, C2l, show (⟨#[47]⟩ : ByteArray).data.toList = [47] from rfl]
  have C3s : C3.size ≤ 70 := by rw [Lib.size_eq, C3l]; simp [List.length_append]; omega
  have hrx : readV C3.data.toList none = .ok (wAdr sc [104] (prtO OW N) [[]]) := by
    rw [C3l]
    have := h_port sc (58 :: 48 :: T2) (prtO OW N) HSp.out (fun c hc => by
      rcases List.mem_cons.1 hc with rfl | hc
      · decide
      · rcases List.mem_cons.1 hc with rfl | hc
        · decide
        · exact (digP_au (List.all_eq_true.1 HT2.out.2.1 c hc)).1) (.inr ⟨48 :: T2, rfl, (fun e => by
      rcases List.mem_cons.1 e with e | e
      · cases e
      · exact (digP_au (List.all_eq_true.1 HT2.out.2.1 58 e)).2 rfl), by rw [HOv.out, dec_zero OW HT2.out]; exact dec_portO OW HT2.out hNb⟩) (by simp; omega)
    simpa [List.append_assoc] using this
  have HPx := hid (uparse_any C3 W6 (HG.out.kept HB6.out) (by omega))
  rw [hrx] at HPx
  unfold ReadPost at HPx
  simp only [adrOf, numOf] at HPx
  obtain ⟨Ax, hAx⟩ : ∃ Z0, (wAdr sc [104] (prtO OW N) [[]]) = Z0 := ⟨_, rfl⟩
  have hpx : Ax.port = prtO OW N := by rw [← hAx]; rfl
  rw [hAx] at HPx
  clear hAx
  clear hrx
  go_wp2_with fail
  refine HPx.out.mono ?_
  rintro e w7 ⟨pv, rfl, hown, hb7⟩
  obtain ⟨xa, xn, xc, rfl⟩ := own_sl hown
  obtain ⟨x0, x1, x2, x3, x4, x5, x6, x8, x9, x10, x11, hxx⟩ := adr_cells Ax xa xn xc
  have hvx : adrVal Ax (.slice xa xn xc) = .agg #[.string x0, .string x1, .string x2, .string x3, .bool x4, .int .i64 x5, .bool x6, .slice xa xn xc, .string x8, .string x9, .bool x10, .bool x11] := by unfold adrVal; rw [hxx]
  rw [hvx]
  obtain ⟨W8, hW8⟩ : ∃ X, (w7.alloc (.cells #[.string x0, .string x1, .string x2, .string x3, .bool x4, .int .i64 x5, .bool x6, .slice xa xn xc, .string x8, .string x9, .bool x10, .bool x11] 24)) = X := ⟨_, rfl⟩
  have hbW8 : Below w7.heap.size w7 W8 := by rw [← hW8]; exact (Below.refl _ w7).alloc (Nat.le_refl _) _
  have hsW8 : W8.heap.size = w7.heap.size + 1 := by rw [← hW8]; simp
  have hAW8 : AdrIn W8 w7.heap.size Ax (.slice xa xn xc) := by
    unfold AdrIn
    rw [hxx, ← hW8]
    exact heap_alloc_new w7 _
  have HB8 := hid (below2 HB6.out (below2 hb7 hbW8))
  have HS8 := hid (below2 hb7 hbW8)
  have HAx := hid hAW8
  clear hown hb7 hbW8 hAW8 hxx hvx
  obtain ⟨M, hM⟩ : ∃ M, N + 65536 = M := ⟨_, rfl⟩
  rw [hM] at HD2
  have hMb : 65535 < M := by omega
  have hN2 : (N : Int) + 65536 = (M : Int) := by omega
  clear hM
  go_wp2_with fail
  refine (HD2.out _).mono ?_
  rintro e w' ⟨T3, rfl, hT3, rfl⟩
  obtain ⟨D3, hD3⟩ : ∃ Z0 : ByteArray, Z0 = ⟨T3.toArray⟩ := ⟨_, rfl⟩
  have D3l : D3.data.toList = T3 := by rw [hD3]
  have D3s : D3.size ≤ 40 := by rw [Lib.size_eq, D3l]; exact hT3.2.2.2
  have hT3n : T3.length ≤ 40 := hT3.2.2.2
  rw [← hD3]
  have HT3 := hid hT3
  clear hD3 hT3 hN2
  obtain ⟨E2, hE2⟩ : ∃ Z0 : ByteArray, A1 ++ D3 = Z0 := ⟨_, rfl⟩
  have E2l : E2.data.toList = ((sc ++ [58, 47, 47, 104, 58]) ++ T3) := by rw [← hE2, ByteArray.data_append, Array.toList_append, A1l, D3l]
  have E2s : E2.size ≤ 60 := by rw [Lib.size_eq, E2l]; simp [List.length_append]; omega
  obtain ⟨E3, hE3⟩ : ∃ Z0 : ByteArray, E2 ++ (⟨#[47]⟩ : ByteArray) = Z0 := ⟨_, rfl⟩
  have E3l : E3.data.toList = (((sc ++ [58, 47, 47, 104, 58]) ++ T3) ++ [47]) := by rw [← hE3, ByteArray.data_append, Array.toList_append, E2l, show (⟨#[47]⟩ : ByteArray).data.toList = [47] from rfl]
  have E3s : E3.size ≤ 70 := by rw [Lib.size_eq, E3l]; simp [List.length_append]; omega
  have hry : readV E3.data.toList none = .error 11 := by
    rw [E3l]
    have := h_noport sc T3 HSp.out (fun c hc => (digP_au (List.all_eq_true.1 HT3.out.2.1 c hc)).1) (fun e => (digP_au (List.all_eq_true.1 HT3.out.2.1 58 e)).2 rfl) (by rw [HOv.out]; exact dec_noport OW HT3.out hMb) (by omega)
    simpa [List.append_assoc] using this
  have HPy := hid (uparse_any E3 W8 (HG.out.kept HB8.out) (by omega))
  rw [hry] at HPy
  unfold ReadPost at HPy
  simp only [numOf] at HPy
  obtain ⟨Ay, hAy⟩ : ∃ Z0, adrOf (.error 11) = Z0 := ⟨_, rfl⟩
  rw [hAy] at HPy
  clear hAy
  clear hry
  go_wp2_with fail
  refine HPy.out.mono ?_
  rintro e w9 ⟨pv, rfl, hown, hb9⟩
  obtain ⟨ya, yn, yc, rfl⟩ := own_sl hown
  obtain ⟨y0, y1, y2, y3, y4, y5, y6, y8, y9, y10, y11, hxy⟩ := adr_cells Ay ya yn yc
  have hvy : adrVal Ay (.slice ya yn yc) = .agg #[.string y0, .string y1, .string y2, .string y3, .bool y4, .int .i64 y5, .bool y6, .slice ya yn yc, .string y8, .string y9, .bool y10, .bool y11] := by unfold adrVal; rw [hxy]
  rw [hvy]
  obtain ⟨W10, hW10⟩ : ∃ X, (w9.alloc (.cells #[.string y0, .string y1, .string y2, .string y3, .bool y4, .int .i64 y5, .bool y6, .slice ya yn yc, .string y8, .string y9, .bool y10, .bool y11] 24)) = X := ⟨_, rfl⟩
  have hbW10 : Below w9.heap.size w9 W10 := by rw [← hW10]; exact (Below.refl _ w9).alloc (Nat.le_refl _) _
  have hsW10 : W10.heap.size = w9.heap.size + 1 := by rw [← hW10]; simp
  have hAW10 : AdrIn W10 w9.heap.size Ay (.slice ya yn yc) := by
    unfold AdrIn
    rw [hxy, ← hW10]
    exact heap_alloc_new w9 _
  have HB10 := hid (below2 HB8.out (below2 hb9 hbW10))
  have HS10 := hid (below2 hb9 hbW10)
  have HAy := hid hAW10
  clear hown hb9 hbW10 hAW10 hxy hvy
  have hcu : W10.cell? ⟨w3.heap.size, 5, none⟩ = some (.int .i64 (prtO OW N)) := by
    have := port_cell (((HAu.out.kept HS6.out).kept HS8.out).kept HS10.out)
    rw [hpu] at this
    exact this
  have hcv : W10.cell? ⟨w5.heap.size, 5, none⟩ = some (.int .i64 (-1)) := by
    have := port_cell ((HAv.out.kept HS8.out).kept HS10.out)
    rw [hpv] at this
    exact this
  have hcx : W10.cell? ⟨w7.heap.size, 5, none⟩ = some (.int .i64 (prtO OW N)) := by
    have := port_cell (HAx.out.kept HS10.out)
    rw [hpx] at this
    exact this
  have HKn := hid (fun (Z : World) (hZ : Below W10.heap.size W10 Z) => known3_any Z (HG.out.kept (below2 HB10.out hZ)))
  clear hpu hpv hpx HAu HAv HAx HAy HS4 HS6 HS8 HS10 HT1 HT2 HT3 hT1n hT2n hT3n SCl D1l D2l D3l A1l A2l A3l B1l C1l C2l C3l E2l E3l hscn
  by_cases hq : (N : Int) = OW
  · have hpr : prtO OW N = -1 := by unfold prtO; rw [if_pos hq]
    rw [hpr] at hcu hcx
    have hq1 : ((N : Int) == OW) = true := by rw [beq_iff_eq]; exact hq
    clear hpr hq
    go_upto_region 10 with fail
    have HQ0 := hid ((Below.refl W10.heap.size W10).drew)
    have HKF := hid (fun (Z : World) (hZ : Below W10.heap.size W10 Z) => cell_kept3 hcu hZ)
    clear hcu hcv hcx
    refine wp_region_held_drew (S := (fun wx => Below W10.heap.size W10 wx)) (by kernel_rfl) HQ0.out (fun hHeld => ?_)
    refine wpAnyH_to (fuel' := 23) (listed' := #[false, false, false, false, false, false, false, false, false, false, false, false, false, false, false, false, false, false, false, false, false, false, false]) rfl rfl ?_
    refine' wpAnyH_take (i := 0) (oi := ⟨some 90, _, _, _, _, _⟩) (v := _) rfl (by kernel_rfl) (by kernel_rfl) (by kernel_rfl) (fun _ _ _ h => h) (Or.inl ⟨by kernel_rfl, ?hy1⟩) (by assumption) ?rest1
    case hy1 => (intro wx hSw; (try dsimp only at hSw); have k5 := HKF.out _ hSw; go_simp; first | done | with_reducible rfl)
    (try simp only [Act.put, List.setIfInBounds_toArray, List.set_cons_zero, List.set_cons_succ])
    refine' wpAnyH_take (i := 1) (oi := ⟨some 91, _, _, _, _, _⟩) (v := _) rfl (by kernel_rfl) (by kernel_rfl) (by kernel_rfl) (fun _ _ _ h => h) (Or.inl ⟨by kernel_rfl, ?hy2⟩) (by assumption) ?rest2
    case hy2 => (intro wx hSw; (try dsimp only at hSw); have k5 := HKF.out _ hSw; go_simp; first | done | with_reducible rfl)
    (try simp only [Act.put, List.setIfInBounds_toArray, List.set_cons_zero, List.set_cons_succ])
    refine' wpAnyH_take (i := 2) (oi := ⟨some 92, _, _, _, _, _⟩) (v := _) rfl (by kernel_rfl) (by kernel_rfl) (by kernel_rfl) (fun _ _ _ h => h) (Or.inl ⟨by kernel_rfl, ?hy3⟩) (by assumption) ?rest3
    case hy3 => (intro wx hSw; (try dsimp only at hSw); have k5 := HKF.out _ hSw; go_simp; first | done | with_reducible rfl)
    (try simp only [Act.put, List.setIfInBounds_toArray, List.set_cons_zero, List.set_cons_succ])
    refine' wpAnyH_take (i := 3) (oi := ⟨some 93, _, _, _, _, _⟩) (v := _) rfl (by kernel_rfl) (by kernel_rfl) (by kernel_rfl) (fun _ _ _ h => h) (Or.inl ⟨by kernel_rfl, ?hy4⟩) (by assumption) ?rest4
    case hy4 => (intro wx hSw; (try dsimp only at hSw); have k5 := HKF.out _ hSw; go_simp; first | done | with_reducible rfl)
    (try simp only [Act.put, List.setIfInBounds_toArray, List.set_cons_zero, List.set_cons_succ])
    refine' wpAnyH_take (i := 4) (oi := ⟨some 94, _, _, _, _, _⟩) (v := _) rfl (by kernel_rfl) (by kernel_rfl) (by kernel_rfl) (fun _ _ _ h => h) (Or.inl ⟨by kernel_rfl, ?hy5⟩) (by assumption) ?rest5
    case hy5 => (intro wx hSw; (try dsimp only at hSw); have k5 := HKF.out _ hSw; go_simp; first | done | with_reducible rfl)
    (try simp only [Act.put, List.setIfInBounds_toArray, List.set_cons_zero, List.set_cons_succ])
    refine wpAnyH_ready (rs := [5]) (by kernel_rfl) (by simp) ?_
    refine AllReadyH.cons rfl (fun K9 hK => ?_) AllReadyH.nil
    rw [if_pos (by kernel_rfl)]
    go_simp
    go_wp2_with (go_at_call 30; refine (HOw.out _).mono ?_; rintro e wa ⟨rfl, rfl⟩)
    refine hK.out _ _ HQ0.out (fun hHeld2 => ?_)
    clear hK K9 hHeld
    rename _ => hHeld
    refine' wpAnyH_take (i := 6) (oi := ⟨some 96, _, _, _, _, _⟩) (v := _) rfl (by kernel_rfl) (by kernel_rfl) (by kernel_rfl) (fun _ _ _ h => h) (Or.inl ⟨by kernel_rfl, ?hy6⟩) (by assumption) ?rest6
    case hy6 => (intro wx hSw; (try dsimp only at hSw); have k5 := HKF.out _ hSw; go_simp; first | done | with_reducible rfl)
    (try simp only [Act.put, List.setIfInBounds_toArray, List.set_cons_zero, List.set_cons_succ])
    refine' wpAnyH_take (i := 7) (oi := ⟨some 97, _, _, _, _, _⟩) (v := _) rfl (by kernel_rfl) (by kernel_rfl) (by kernel_rfl) (fun _ _ _ h => h) (Or.inl ⟨by kernel_rfl, ?hy7⟩) (by assumption) ?rest7
    case hy7 => (intro wx hSw; (try dsimp only at hSw); have k5 := HKF.out _ hSw; go_simp; first | done | with_reducible rfl)
    (try simp only [Act.put, List.setIfInBounds_toArray, List.set_cons_zero, List.set_cons_succ])
    refine' wpAnyH_take (i := 8) (oi := ⟨some 98, _, _, _, _, _⟩) (v := _) rfl (by kernel_rfl) (by kernel_rfl) (by kernel_rfl) (fun _ _ _ h => h) (Or.inl ⟨by kernel_rfl, ?hy8⟩) (by assumption) ?rest8
    case hy8 => (intro wx hSw; (try dsimp only at hSw); have k5 := HKF.out _ hSw; go_simp; first | done | with_reducible rfl)
    (try simp only [Act.put, List.setIfInBounds_toArray, List.set_cons_zero, List.set_cons_succ])
    refine' wpAnyH_take (i := 9) (oi := ⟨some 99, _, _, _, _, _⟩) (v := _) rfl (by kernel_rfl) (by kernel_rfl) (by kernel_rfl) (fun _ _ _ h => h) (Or.inl ⟨by kernel_rfl, ?hy9⟩) (by assumption) ?rest9
    case hy9 => (intro wx hSw; (try dsimp only at hSw); have k5 := HKF.out _ hSw; go_simp; first | done | with_reducible rfl)
    (try simp only [Act.put, List.setIfInBounds_toArray, List.set_cons_zero, List.set_cons_succ])
    refine' wpAnyH_take (i := 10) (oi := ⟨some 100, _, _, _, _, _⟩) (v := _) rfl (by kernel_rfl) (by kernel_rfl) (by kernel_rfl) (fun _ _ _ h => h) (Or.inl ⟨by kernel_rfl, ?hy10⟩) (by assumption) ?rest10
    case hy10 => (intro wx hSw; (try dsimp only at hSw); have k5 := HKF.out _ hSw; go_simp; first | done | with_reducible rfl)
    (try simp only [Act.put, List.setIfInBounds_toArray, List.set_cons_zero, List.set_cons_succ])
    refine' wpAnyH_take (i := 11) (oi := ⟨some 101, _, _, _, _, _⟩) (v := _) rfl (by kernel_rfl) (by kernel_rfl) (by kernel_rfl) (fun _ _ _ h => h) (Or.inl ⟨by kernel_rfl, ?hy11⟩) (by assumption) ?rest11
    case hy11 => (intro wx hSw; (try dsimp only at hSw); have k5 := HKF.out _ hSw; go_simp; first | done | with_reducible rfl)
    (try simp only [Act.put, List.setIfInBounds_toArray, List.set_cons_zero, List.set_cons_succ])
    refine' wpAnyH_take (i := 12) (oi := ⟨some 102, _, _, _, _, _⟩) (v := _) rfl (by kernel_rfl) (by kernel_rfl) (by kernel_rfl) (fun _ _ _ h => h) (Or.inl ⟨by kernel_rfl, ?hy12⟩) (by assumption) ?rest12
    case hy12 => (intro wx hSw; (try dsimp only at hSw); have k5 := HKF.out _ hSw; go_simp; first | done | with_reducible rfl)
    (try simp only [Act.put, List.setIfInBounds_toArray, List.set_cons_zero, List.set_cons_succ])
    refine wpAnyH_take (i := 13) (oi := ⟨some 103, _, _, _, _, _⟩) (v := undef) rfl (by kernel_rfl) (by kernel_rfl) (by kernel_rfl) (fun _ _ _ h => h) (Or.inr ⟨by kernel_rfl, by kernel_rfl⟩) (by assumption) ?_
    (try simp only [Act.put, List.setIfInBounds_toArray, List.set_cons_zero, List.set_cons_succ])
    refine wpAnyH_take (i := 14) (oi := ⟨some 104, _, _, _, _, _⟩) (v := undef) rfl (by kernel_rfl) (by kernel_rfl) (by kernel_rfl) (fun _ _ _ h => h) (Or.inr ⟨by kernel_rfl, by kernel_rfl⟩) (by assumption) ?_
    (try simp only [Act.put, List.setIfInBounds_toArray, List.set_cons_zero, List.set_cons_succ])
    refine wpAnyH_take (i := 15) (oi := ⟨some 105, _, _, _, _, _⟩) (v := undef) rfl (by kernel_rfl) (by kernel_rfl) (by kernel_rfl) (fun _ _ _ h => h) (Or.inr ⟨by kernel_rfl, by kernel_rfl⟩) (by assumption) ?_
    (try simp only [Act.put, List.setIfInBounds_toArray, List.set_cons_zero, List.set_cons_succ])
    refine wpAnyH_take (i := 16) (oi := ⟨some 106, _, _, _, _, _⟩) (v := undef) rfl (by kernel_rfl) (by kernel_rfl) (by kernel_rfl) (fun _ _ _ h => h) (Or.inr ⟨by kernel_rfl, by kernel_rfl⟩) (by assumption) ?_
    (try simp only [Act.put, List.setIfInBounds_toArray, List.set_cons_zero, List.set_cons_succ])
    refine' wpAnyH_take (i := 17) (oi := ⟨some 107, _, _, _, _, _⟩) (v := _) rfl (by kernel_rfl) (by kernel_rfl) (by kernel_rfl) (fun _ _ _ h => h) (Or.inl ⟨by kernel_rfl, ?hy13⟩) (by assumption) ?rest13
    case hy13 => (intro wx hSw; (try dsimp only at hSw); have k5 := HKF.out _ hSw; go_simp; first | done | with_reducible rfl)
    (try simp only [Act.put, List.setIfInBounds_toArray, List.set_cons_zero, List.set_cons_succ])
    refine' wpAnyH_take (i := 18) (oi := ⟨some 108, _, _, _, _, _⟩) (v := _) rfl (by kernel_rfl) (by kernel_rfl) (by kernel_rfl) (fun _ _ _ h => h) (Or.inl ⟨by kernel_rfl, ?hy14⟩) (by assumption) ?rest14
    case hy14 => (intro wx hSw; (try dsimp only at hSw); have k5 := HKF.out _ hSw; go_simp; first | done | with_reducible rfl)
    (try simp only [Act.put, List.setIfInBounds_toArray, List.set_cons_zero, List.set_cons_succ])
    refine' wpAnyH_take (i := 19) (oi := ⟨some 109, _, _, _, _, _⟩) (v := _) rfl (by kernel_rfl) (by kernel_rfl) (by kernel_rfl) (fun _ _ _ h => h) (Or.inl ⟨by kernel_rfl, ?hy15⟩) (by assumption) ?rest15
    case hy15 => (intro wx hSw; (try dsimp only at hSw); have k5 := HKF.out _ hSw; go_simp; first | done | with_reducible rfl)
    (try simp only [Act.put, List.setIfInBounds_toArray, List.set_cons_zero, List.set_cons_succ])
    refine wpAnyH_ready (rs := [20]) (by kernel_rfl) (by simp) ?_
    refine AllReadyH.cons rfl (fun K9 hK => ?_) AllReadyH.nil
    rw [if_pos (by kernel_rfl)]
    go_simp
    go_wp2_with (go_at_call 20; refine (HKn.out _ HQ0.out).mono ?_; rintro e wa ⟨rfl, hba⟩)
    have HQ1 := hid (below2 HQ0.out hba)
    clear hba
    refine hK.out _ _ HQ1.out (fun hHeld2 => ?_)
    clear hK K9 hHeld
    rename _ => hHeld
    refine' wpAnyH_take (i := 21) (oi := ⟨some 111, _, _, _, _, _⟩) (v := _) rfl (by kernel_rfl) (by kernel_rfl) (by kernel_rfl) (fun _ _ _ h => h) (Or.inl ⟨by kernel_rfl, ?hy16⟩) (by assumption) ?rest16
    case hy16 => (intro wx hSw; (try dsimp only at hSw); have k5 := HKF.out _ hSw; go_simp; first | done | with_reducible rfl)
    (try simp only [Act.put, List.setIfInBounds_toArray, List.set_cons_zero, List.set_cons_succ])
    refine' wpAnyH_take (i := 22) (oi := ⟨some 4, _, _, _, _, _⟩) (v := _) rfl (by kernel_rfl) (by kernel_rfl) (by kernel_rfl) (fun _ _ _ h => h) (Or.inl ⟨by kernel_rfl, ?hy17⟩) (by assumption) ?rest17
    case hy17 => (intro wx hSw; (try dsimp only at hSw); have k5 := HKF.out _ hSw; go_simp; first | done | with_reducible rfl)
    (try simp only [Act.put, List.setIfInBounds_toArray, List.set_cons_zero, List.set_cons_succ])
    refine wpAnyH_done (by kernel_rfl) ?_ _
    go_wp2
    go_ret
    exact ⟨rfl, below2 HB10.out HQ1.out⟩
  · have hpr : prtO OW N = (N : Int) := by unfold prtO; rw [if_neg hq]
    rw [hpr] at hcu hcx
    have hq1 : ((N : Int) == OW) = false := by rw [beq_eq_false_iff_ne]; exact hq
    have hq2 : ((N : Int) == -1) = false := by rw [beq_eq_false_iff_ne]; omega
    clear hpr hq
    go_upto_region 10 with fail
    have HK0 := hid (show (fun wx : World => Below W10.heap.size W10 wx ∧ wx.cell? ⟨w3.heap.size, 5, none⟩ = some (.int .i64 (N : Int))) W10.drew from let h := (Below.refl _ W10).drew; ⟨h, cell_kept3 hcu h⟩)
    have HK1 := hid (fun (X Y : World) (hb : Below X.heap.size X Y) (h0 : Below W10.heap.size W10 X) => (show (fun wx : World => Below W10.heap.size W10 wx ∧ wx.cell? ⟨w3.heap.size, 5, none⟩ = some (.int .i64 (N : Int))) Y from let h := h0.trans (hb.mono h0.size); ⟨h, cell_kept3 hcu h⟩))
    clear hcu hcv hcx
    first | (go_region_held (fun wx : World => Below W10.heap.size W10 wx ∧ wx.cell? ⟨w3.heap.size, 5, none⟩ = some (.int .i64 (N : Int))) (first | exact HK0.out | exact HK1.out _ _ (by assumption) (by (try dsimp only at *); go_split_ands; assumption) | (go_split_ands; exact ⟨by assumption, by assumption⟩)) (first | (go_at_call 30; refine (HOw.out _).mono ?_; rintro e wa ⟨rfl, rfl⟩) | (go_at_call 20; refine (HKn.out _ (by (try dsimp only at *); go_split_ands; assumption)).mono ?_; rintro e wa ⟨rfl, hba⟩))) | fail "x"
    all_goals
      (try dsimp only at *)
      go_split_ands
      go_wp2
      go_ret
      exact ⟨rfl, below2 HB10.out (by assumption)⟩

end Go.Proofs.YtdnginibhpnefaaGreatDoor
