/-
  Walks and plain facts that this claim leans on, put together out of 5 texts: Xh, Ehn, Ehs, Ehr, Eht.
-/
import Derived.Test.YtfcmonjfcnfjoaaGreatDoorProg
import Derived.Test.YtfcmonjfcnfjoaaGreatDoorQc1
import Derived.Test.YtfcmonjfcnfjoaaGreatDoorQc2
import Derived.Test.YtfcmonjfcnfjoaaGreatDoorQc3
import Derived.Test.YtfcmonjfcnfjoaaGreatDoorQc4
import Derived.Test.YtfcmonjfcnfjoaaGreatDoorQc5
import Derived.Test.YtfcmonjfcnfjoaaGreatDoorQc6
import Derived.Test.YtfcmonjfcnfjoaaGreatDoorQc7
import Derived.Test.YtfcmonjfcnfjoaaGreatDoorQc8
import Derived.Test.YtfcmonjfcnfjoaaGreatDoorQc9
import Derived.Test.YtfcmonjfcnfjoaaGreatDoorQc10
import Derived.Test.YtfcmonjfcnfjoaaGreatDoorQc11
import Derived.Test.YtfcmonjfcnfjoaaGreatDoorQc12
import Derived.Test.YtfcmonjfcnfjoaaGreatDoorQc13
import Derived.Test.YtfcmonjfcnfjoaaGreatDoorQc14
import Derived.Test.YtfcmonjfcnfjoaaGreatDoorQc15
import Derived.Test.YtfcmonjfcnfjoaaGreatDoorQc16
import Derived.Test.YtfcmonjfcnfjoaaGreatDoorQc17
import Derived.Test.YtfcmonjfcnfjoaaGreatDoorQc18
import Derived.WalkKit
import Derived.Lib.Strings
import Derived.Lib.UnsafeStr
import Derived.Laws.IdiomStrings
import Derived.Laws.AppendOwn
import Derived.Laws.BitsAllLaws
import Derived.Lib.Bytealg
import Derived.Lib.BufferMore
import Derived.WalkSpells
import Derived.WalkLawsBesides
import Derived.Lib.SlTrimSet
import Derived.Lib.Join
import Derived.Lib.IndexMore
import Derived.Laws.OwnMore
import Derived.Below
import Derived.WalkSmall
import Derived.Lib.SmallJoins
import Derived.Deep.QuietTactic
import Derived.BigQuiet
import Derived.Deep.LoopGhost
import Derived.BigRegion
import Derived.Deep.RegionHeld
import Derived.Deep.RegionHeldLaw
import Derived.Lib.IndexAny
import Derived.Lib.BufferRead
import Derived.Lib.RuneBytes
import Derived.Laws.RangeAny
import Derived.Maps.OwnSet
import Derived.Maps.OwnOps
import Derived.Maps.AppendAt
import Derived.StringKeys
import Derived.LoopN
import Derived.RegionTactic
import Derived.Deep.RegionLaw
import Derived.Deep.RegionWith
import Derived.Lib.FieldsP
import Derived.Lib.DecodeN
import Derived.Laws.CopyOwn
import Derived.Laws.ResultCell
import Derived.Deep.MidRow
import Derived.Lib.LaidTab
import Derived.Lib.AppendIntMem
import Derived.Laws.Runes
import Derived.Lib.OthersKept
import Derived.Lib.FrozenHead2
import Derived.Lib.Builder
import Derived.Lib.AppendStr
import Derived.Lib.Replace
import Derived.Shelf.GgClosure.GivesRunes
import Derived.Laws.BitsAll
import Derived.Laws.Shifts
import Derived.Deep.DeepAppendRoom
import Derived.Laws.BytesString
import Derived.Laws.CopyRow
import Derived.Sort.OwnSorted
import Derived.Lib.SlicesCompact
import Derived.Deep.CutRange
import Derived.Shelf.Slices.In.SortNone
import Derived.Shelf.Slices.CompactS
import Derived.Lib.SliceRun
import Derived.Lib.ItoaLen
import Derived.Shelf.Strings.Builder1
import Derived.Shelf.Strings.Builder2
import Derived.Shelf.Strings.OnBuilder
import Derived.Shelf.Strings.Trim
import Derived.Shelf.Small.Utf8
import Derived.Shelf.Small.Bits
import Derived.Shelf.Small.Strs
import Derived.Shelf.Small.Wraps
import Derived.Shelf.Strings.BuilderF
import Derived.Shelf.Strings.BuilderK
import Derived.Shelf.Strings.Builder2Cap
import Derived.Shelf.Strconv.Itoa0
import Derived.Shelf.Strconv.Itoa1
import Derived.Shelf.LaysM
import Derived.Shelf.Strconv.Itoa2
import Derived.Shelf.Strconv.Itoa3
import Derived.Shelf.Strings.Search1
import Derived.Shelf.Strings.Search2
import Derived.Shelf.Strings.Cut
import Derived.Shelf.Strings.Shaped
import Derived.Shelf.Sort.Plain
import Derived.Shelf.Strings.Prefix
import Derived.Shelf.Strings.Runes
import Derived.Shelf.Strings.IndexAny
import Derived.Shelf.Strings.AsciiSet
import Derived.Shelf.Strings.IndexAnyAll
import Derived.Shelf.Unicode.DecodeSlow
import Derived.Shelf.Unicode.DecodeAny
import Derived.Shelf.Unicode.DecodeLast
import Derived.Shelf.Strings.SlTrimAscii
import Derived.Laws.Rows
import Derived.Laws.MakeOwn
import Derived.Deep.WholeRow
import Derived.Laws.AppendOwnNone
set_option linter.unusedSimpArgs false
set_option linter.unusedVariables false

namespace Go.Proofs.YtfcmonjfcnfjoaaGreatDoor
open Go.RowKit

theorem list_eq_of {α : Type} {A B : List α} (hl : A.length = B.length) (h : ∀ j (h1 : j < A.length) (h2 : j < B.length), A[j] = B[j]) : A = B :=
 List.ext_getElem hl fun j h1 h2 => h j h1 h2

end Go.Proofs.YtfcmonjfcnfjoaaGreatDoor

namespace Go.Proofs.YtfcmonjfcnfjoaaGreatDoor
open Go.RowKit

set_option maxHeartbeats 1000000 in
theorem len17_any (p M : Nat) (C : CaS) (w : World) (hI : CaI w p M C) :
  Calls Tryz.prog 15 #[.pointer (some ⟨p, 0, none⟩)] w fun e w' => e = .returned (.int .i64 (C.rows.length : Int)) ∧ w' = w := by
 obtain ⟨_, a, c, Z, hrow, _⟩ := hI
 obtain ⟨n, hn⟩ : ∃ n, n = C.rows.length := ⟨_, rfl⟩
 rw [← hn] at hrow ⊢
 have d0 : w.cell? ⟨p, 0, none⟩ = some (.slice a n c) := by rw [Lib.cell_of_heap hrow]; rfl
 clear hn hrow
 go_enter Tryz.func15, Tryz.ntmps15
 go_wp2
 go_ret
 exact ⟨rfl, rfl⟩

set_option maxHeartbeats 2000000 in
set_option maxRecDepth 100000 in
theorem urls17_any (p M : Nat) (C : CaS) (w : World) (hI : CaI w p M C) (hn : C.rows.length ≤ 1000) :
  Calls Tryz.prog 16 #[.pointer (some ⟨p, 0, none⟩)] w fun e w' => ∃ v, e = .returned v ∧ w'.ownsRow w.heap.size 9 1 v C.rows.length (cellsT (C.rows.map (·.url))) ∧ Below w.heap.size w w' := by
 obtain ⟨i0, hi, hz0, hz1, hz2⟩ := info3 infoTx
 obtain ⟨⟨h1, h2, h3, h5⟩, a, c, Z, hrow, hown, hZ, hden⟩ := hI
 obtain ⟨n, hnn⟩ : ∃ n, n = C.rows.length := ⟨_, rfl⟩
 have HN := hid (show n = Z.length by rw [hnn, ← hZ]; simp)
 rw [← hnn] at hrow hown hn ⊢
 obtain ⟨w0, hm0, ho0, hg0⟩ := run_make_own (P := Tryz.prog) w w.heap.size 39 9 i0 _ 1 Tryz.underlying39 hi hz0 hz1 .i64 .i64 n (by rw [hz2]; omega) (by unfold maxLen; omega) (Nat.le_refl _)
 have hb0 : Below w.heap.size w w0 := (Below.refl _ w).grown hg0 (Nat.le_refl _) (fun k hk => by cases hk)
 have HO0 := hid ho0
 have HB0 := hid hb0
 have d0 : w.cell? ⟨p, 0, none⟩ = some (.slice a n c) := by rw [Lib.cell_of_heap hrow]; rfl
 have d1 : w0.cell? ⟨p, 0, none⟩ = some (.slice a n c) := by rw [Lib.cell_of_heap ((hb0.block p (by omega)).trans hrow)]; rfl
 obtain ⟨X, hX⟩ : ∃ X, X = C.rows.map (·.url) := ⟨_, rfl⟩
 have HXl := hid (show X.length = n by rw [hX, List.length_map, hnn])
 have HXk := hid (show ∀ k (h : k < Z.length) (h2 : k < X.length), X[k] = Z[k].r.url from fun k h h2 => by
  have e : X[k]? = some Z[k].r.url := by rw [hX, ← hZ, List.map_map, List.getElem?_map, List.getElem?_eq_getElem h]; rfl
  rw [List.getElem?_eq_getElem h2] at e
  injection e)
 rw [← hX]
 have HOw := hid hown.1
 have HDen := hid hden
 clear h1 h2 h3 h5 hrow hown hZ hden hnn ho0 hg0 hb0 hX
 go_enter Tryz.func16, Tryz.ntmps16
 go_wp2_with fail
 clear d0 d1
 go_loopw [3, 5, 17] (fun s3 _ s17 wr => ∃ (k : Nat) (b : Option Addr) (d : Nat), s17 = .int .i64 k ∧ s3 = .slice b k d ∧ k ≤ n ∧ Hid (wr.ownsRow w.heap.size 9 1 (.slice b k d) k (cellsT (X.take k)) ∧ Below w.heap.size w wr)) (fun _ _ s17 _ => n - (intOf s17).toNat)
 case atStart => exact ⟨0, _, _, rfl, rfl, Nat.zero_le _, HO0.out, HB0.out⟩
 case round =>
  obtain ⟨k, b, d, rfl, rfl, hk, HR⟩ := hrel
  by_cases hlt : k < n
  ·have hin : (k : Int) < (n : Int) := by omega
   have hkZ : k < Z.length := by have := HN.out; omega
   have hkX : k < X.length := by have := HXl.out; omega
   obtain ⟨g, hgb, hr⟩ := own_range17 (own_same HOw.out HR.out.2) k hkZ
   obtain rfl : a = some ⟨g, 0, none⟩ := by
    rcases (own_same HOw.out HR.out.2).2 with ⟨_, h0⟩ | ⟨g', cap', cur, hv, _⟩
    ·omega
    ·injection hv with e1 _ _
     subst e1
     simp [Value.ownBlock] at hgb
     rw [hgb]
   have hxk := HXk.out k hkZ hkX
   obtain ⟨z, hzk⟩ : ∃ z, z = Z[k] := ⟨_, rfl⟩
   rw [← hzk] at hr hxk
   have hdz := HDen.out z (by rw [hzk]; exact List.getElem_mem hkZ)
   obtain ⟨ca, cc, ha, hc, ba, bc, f1, f2, f3⟩ := hdz.form
   obtain ⟨R, zc, zh, zb⟩ := z
   dsimp only at f1 f2 f3
   subst f1 f2 f3
   obtain ⟨U, hU⟩ : ∃ U : ByteArray, (⟨R.url.toArray⟩ : ByteArray) = U := ⟨_, rfl⟩
   obtain ⟨cn, hcn⟩ : ∃ n, n = R.ch.length := ⟨_, rfl⟩
   obtain ⟨hn', hhn⟩ : ∃ n, n = R.rp.hd.length := ⟨_, rfl⟩
   obtain ⟨bn, hbn⟩ : ∃ n, n = R.rp.bd.length := ⟨_, rfl⟩
   obtain ⟨s1, hs1⟩ : ∃ n, n = R.rp.st := ⟨_, rfl⟩
   obtain ⟨s2, hs2⟩ : ∃ n, n = R.sto := ⟨_, rfl⟩
   obtain ⟨s3, hs3⟩ : ∃ n, n = R.tn := ⟨_, rfl⟩
   have hcs : zCells ⟨R, .slice ca R.ch.length cc, .slice ha R.rp.hd.length hc, .slice ba R.rp.bd.length bc⟩ = [.string U, .slice ca cn cc, .int .i64 s1, .slice ha hn' hc, .slice ba bn bc, .int .i64 s2, .int .i64 s3] := by
    rw [← hcn, ← hhn, ← hbn]
    unfold zCells
    rw [← hU, ← hs1, ← hs2, ← hs3]
   rw [hcs] at hr
   have HRg := hid hr
   have HTk := hid (show cellsT (X.take (k + 1)) = cellsT (X.take k) ++ [.string U] by
    rw [List.take_succ_eq_append_getElem hkX, cellsT_app, hxk, ← hU]
    rfl)
   obtain ⟨W5, hW5⟩ : ∃ Y, wr.alloc (.cells #[.string U, .slice ca cn cc, .int .i64 s1, .slice ha hn' hc, .slice ba bn bc, .int .i64 s2, .int .i64 s3] 81) = Y := ⟨_, rfl⟩
   have hb5 : Below wr.heap.size wr W5 := by rw [← hW5]; exact (Below.refl _ wr).alloc (Nat.le_refl _) _
   have hx5 : W5.heap[wr.heap.size]? = some (.cells #[.string U, .slice ca cn cc, .int .i64 s1, .slice ha hn' hc, .slice ba bn bc, .int .i64 s2, .int .i64 s3] 81 (0, 0)) := by rw [← hW5]; exact heap_alloc_new wr _
   have j0 : W5.cell? ⟨wr.heap.size, 0, none⟩ = some (.string U) := by rw [Lib.cell_of_heap hx5]; rfl
   have HB5 := hid (below2 HR.out.2 hb5)
   have HO5 := hid (own_same HR.out.1 hb5)
   have hs5 : w.heap.size ≤ W5.heap.size := HB5.out.size
   clear hr hxk hzk hdz hU hcn hhn hbn hs1 hs2 hs3 hcs hgb hb5 hx5 hkZ hkX
   go_wp2_with (first | (refine wpList_load_mid rfl 81 (.tmp 19) rfl g (k * 7) rfl [.string U, .slice ca cn cc, .int .i64 s1, .slice ha hn' hc, .slice ba bn bc, .int .i64 s2, .int .i64 s3] _ HRg.out Tryz.underlying81 rfl sizeRw ?_) | (at_builtin; refine wpList_append_own _ rfl _ _ 39 rfl w.heap.size 9 i0 _ 1 16 Tryz.underlying39 hi hz0 hz1 hz2 rfl (by decide) _ k _ rfl (HO5.out.alloc _) ⟨W5.heap.size, 0, none⟩ 1 1 [.string U] rfl rfl ?c1 ?c2 (by unfold maxLen; omega) (by omega) (by simp; omega) ?_))
   case c1 =>
    intro q u hq
    rw [Addr.add_mid]
    exact range_row (cs := [.string U]) (heap_alloc_new W5 _) q u hq
   case c2 => intro u hu; simp at hu; rcases hu with rfl; rfl
   intro v3 w3 hown3 hgrow3 hnil3
   obtain ⟨a3, c3, rfl⟩ := own_sl16 hown3
   rw [← HTk.out] at hown3
   have HR3 := hid (show w3.ownsRow w.heap.size 9 1 (.slice a3 (k + 1) c3) (k + 1) (cellsT (X.take (k + 1))) ∧ Below w.heap.size w w3 from ⟨hown3, (HB5.out.alloc hs5 _).grown hgrow3 (by simp; omega) (fun g hg => (HO5.out.lt g hg).1)⟩)
   clear hown3 hgrow3 hnil3 hW5 j0
   go_wp2_with fail
   go_roundw
   case rel =>
    first
     | exact ⟨k + 1, a3, c3, by go_num, rfl, by omega, HR3.out⟩
     | ((repeat apply Exists.intro); exact ⟨⟨k + 1, a3, c3, by go_num, rfl, by omega, HR3.out⟩, rfl⟩)
   case measure => simp [intOf]; omega
  ·obtain rfl : k = n := by omega
   have hin : decide ((k : Int) < (k : Int)) = false := by simp
   have HE := hid HR.out
   rw [List.take_of_length_le (by have := HXl.out; omega)] at HE
   clear HR hlt
   go_wp2
   go_ret
   exact ⟨_, rfl, HE.out.1, HE.out.2⟩

end Go.Proofs.YtfcmonjfcnfjoaaGreatDoor

namespace Go.Proofs.YtfcmonjfcnfjoaaGreatDoor
open Go.RowKit

theorem hd_ext17 {a b : Hd} (h1 : a.name = b.name) (h2 : a.value = b.value) : a = b := by cases a; cases b; simp at h1 h2; simp [h1, h2]

set_option maxHeartbeats 2000000 in
theorem same17_any (v1 v2 : Value) (L1 L2 : List Hd) (w : World) (h1 : HdAt w v1 L1) (h2 : HdAt w v2 L2) (hl1 : L1.length ≤ 1000000) (hl2 : L2.length ≤ 1000000) :
  Calls Tryz.prog 14 #[v1, v2] w fun e w' => e = .returned (.bool (decide (L1 = L2))) ∧ Below w.heap.size w w' := by
 obtain ⟨a1, c1, rfl, hc1, hm1, hv1⟩ := h1.view
 obtain ⟨a2, c2, rfl, hc2, hm2, hv2⟩ := h2.view
 have V1 := hid hv1
 have V2 := hid hv2
 clear h1 h2 hv1 hv2
 by_cases hl : L1.length = L2.length
 ·have hl' : ((L1.length : Int) == (L2.length : Int)) = true := by rw [beq_iff_eq]; omega
  go_enter Tryz.func14, Tryz.ntmps14
  go_wp2
  go_loopw [5] (fun i wr => ∃ k : Nat, k ≤ L1.length ∧ i = .int .i64 k ∧ (∀ j (h1 : j < L1.length) (h2 : j < L2.length), j < k → L1[j] = L2[j]) ∧ Below w.heap.size w wr) (fun i _ => L1.length - (intOf i).toNat)
  case atStart => exact ⟨0, Nat.zero_le _, rfl, fun j _ _ h => absurd h (by omega), Below.refl _ _⟩
  case round =>
   obtain ⟨k, hk, rfl, hall, hb⟩ := hrel
   have HA := hid hall
   clear hall
   by_cases hlt : k < L1.length
   ·have hlt' : (k : Int) < (L1.length : Int) := by omega
    have hlt2' : (k : Int) < (L2.length : Int) := by omega
    obtain ⟨b1, o1, rfl, e1, e1'⟩ := V1.out k hlt
    obtain ⟨b2, o2, rfl, e2, e2'⟩ := V2.out k (by omega)
    have f1 : wr.cell? ⟨b1, o1 + k * 2, none⟩ = some (.string ⟨L1[k].name.toArray⟩) := (hb.cell (World.block_lt_of_cell? w _ e1)).trans e1
    have f1' : wr.cell? ⟨b1, o1 + k * 2 + 1, none⟩ = some (.string ⟨L1[k].value.toArray⟩) := (hb.cell (World.block_lt_of_cell? w _ e1')).trans e1'
    have f2 : wr.cell? ⟨b2, o2 + k * 2, none⟩ = some (.string ⟨(L2[k]'(by omega)).name.toArray⟩) := (hb.cell (World.block_lt_of_cell? w _ e2)).trans e2
    have f2' : wr.cell? ⟨b2, o2 + k * 2 + 1, none⟩ = some (.string ⟨(L2[k]'(by omega)).value.toArray⟩) := (hb.cell (World.block_lt_of_cell? w _ e2')).trans e2'
    clear e1 e2 e1' e2'
    obtain ⟨x, hx⟩ : ∃ x, x = L1[k].name := ⟨_, rfl⟩
    obtain ⟨x', hx'⟩ : ∃ x, x = L1[k].value := ⟨_, rfl⟩
    obtain ⟨y, hy⟩ : ∃ y, y = (L2[k]'(by omega)).name := ⟨_, rfl⟩
    obtain ⟨y', hy'⟩ : ∃ y, y = (L2[k]'(by omega)).value := ⟨_, rfl⟩
    rw [← hx] at f1
    rw [← hx'] at f1'
    rw [← hy] at f2
    rw [← hy'] at f2'
    have HX := hid hx
    have HY := hid hy
    have HX' := hid hx'
    have HY' := hid hy'
    clear hx hy hx' hy'
    by_cases hxy : x = y ∧ x' = y'
    ·obtain ⟨rfl, rfl⟩ := hxy
     go_wp2
     go_quiet (fail)
     go_wp2
     go_roundw
     case rel =>
      refine ⟨k + 1, by omega, by go_num, fun j h1 h2 hj => ?_, Go.below_drewN hb _⟩
      by_cases he : j = k
      ·subst he; exact hd_ext17 (by rw [← HX.out, ← HY.out]) (by rw [← HX'.out, ← HY'.out])
      ·exact HA.out j h1 h2 (by omega)
     case measure => simp [intOf]; omega
    ·have HN := hid (show ¬ L1 = L2 from fun e => hxy ⟨by rw [HX.out, HY.out]; subst e; rfl, by rw [HX'.out, HY'.out]; subst e; rfl⟩)
     by_cases hx1 : x = y
     ·subst hx1
      have hne : (x' == y') = false := by
       rw [beq_eq_false_iff_ne]
       exact fun e => hxy ⟨rfl, e⟩
      clear hxy
      go_wp2
      go_quiet (fail)
      go_wp2
      go_ret
      exact ⟨ret_bool (by simp [HN.out]), Go.below_drewN hb _⟩
     ·have hne : (x == y) = false := by
       rw [beq_eq_false_iff_ne]
       exact hx1
      clear hxy hx1
      go_wp2
      go_quiet (fail)
      go_wp2
      go_ret
      exact ⟨ret_bool (by simp [HN.out]), Go.below_drewN hb _⟩
   ·have HE := hid (show L1 = L2 from list_eq_of hl fun j h1 h2 => HA.out j h1 h2 (by omega))
    go_wp2
    go_ret
    exact ⟨ret_bool (by simp [HE.out]), hb⟩
 ·have hl' : ((L1.length : Int) == (L2.length : Int)) = false := by rw [beq_eq_false_iff_ne]; omega
  have HN := hid (show ¬ L1 = L2 from fun e => hl (by rw [e]))
  go_enter Tryz.func14, Tryz.ntmps14
  go_wp2
  go_ret
  exact ⟨ret_bool (by simp [HN.out]), Below.refl _ _⟩

end Go.Proofs.YtfcmonjfcnfjoaaGreatDoor

namespace Go.Proofs.YtfcmonjfcnfjoaaGreatDoor
open Go.RowKit

theorem use_ok0 : putOk [] ⟨200, [], []⟩ = true := by decide +kernel

end Go.Proofs.YtfcmonjfcnfjoaaGreatDoor

namespace Go.Proofs.YtfcmonjfcnfjoaaGreatDoor
open Go.RowKit

def nmPut : List Hd := [⟨[69, 84, 97, 103], [120]⟩, ⟨[76, 97, 115, 116, 45, 77, 111, 100, 105, 102, 105, 101, 100], [121]⟩]

def nmRe : List Hd := [⟨[67, 111, 110, 116, 101, 110, 116, 45, 84, 121, 112, 101], [122]⟩, ⟨[101, 116, 97, 103], [119]⟩, ⟨[67, 97, 99, 104, 101, 45, 67, 111, 110, 116, 114, 111, 108], [109, 97, 120, 45, 97, 103, 101, 61, 57]⟩]

def nmCond : List Hd := [⟨[105, 102, 45, 110, 111, 110, 101, 45, 109, 97, 116, 99, 104], [120]⟩, ⟨[105, 102, 45, 109, 111, 100, 105, 102, 105, 101, 100, 45, 115, 105, 110, 99, 101], [121]⟩]

def nmNew : List Hd := [⟨[69, 84, 97, 103], [119]⟩, ⟨[76, 97, 115, 116, 45, 77, 111, 100, 105, 102, 105, 101, 100], [121]⟩, ⟨[67, 97, 99, 104, 101, 45, 67, 111, 110, 116, 114, 111, 108], [109, 97, 120, 45, 97, 103, 101, 61, 57]⟩]

def nm1 : CaS := putV ⟨[], 0⟩ uU [] ⟨200, nmPut, []⟩ 0

def nm2 : CaS := reV nm1 uU [] nmRe 5

def nmK : Nat → CaS
 | 0 => nm2
 | k + 1 => putV (nmK k) [UInt8.ofNat (97 + k)] [] ⟨200, [], []⟩ 0

theorem nm_no1 : putOk [] ⟨404, [], []⟩ = false := by decide +kernel

theorem nm_no2 : putOk [] ⟨200, [⟨[86, 97, 114, 121], [42]⟩], []⟩ = false := by decide +kernel

theorem nm_no3 : putOk [⟨CC17, [110, 111, 45, 115, 116, 111, 114, 101]⟩] ⟨200, [], []⟩ = false := by decide +kernel

theorem nm_no4 : putOk [] ⟨200, [⟨CC17, [110, 111, 45, 115, 116, 111, 114, 101]⟩], []⟩ = false := by decide +kernel

theorem nm_ok : putOk [] ⟨200, nmPut, []⟩ = true := by decide +kernel

theorem nm_f0 : findV Lib.itoa ⟨[], 0⟩ uU [] 0 = ⟨0, ⟨0, [], []⟩, []⟩ ∧ useV ⟨[], 0⟩ uU [] = ⟨[], 0⟩ := by decide +kernel

theorem nm_f1 : findV Lib.itoa nm1 uU [] 0 = ⟨1, ⟨200, [⟨[69, 84, 97, 103], [120]⟩, ⟨[76, 97, 115, 116, 45, 77, 111, 100, 105, 102, 105, 101, 100], [121]⟩, ⟨[97, 103, 101], [48]⟩], []⟩, nmCond⟩ ∧ useV nm1 uU [] = nm1 := by decide +kernel

theorem nm_r1 : reRep nm1 uU [] nmRe = (⟨200, nmNew, []⟩, true) := by decide +kernel

theorem nm_f2 : findV Lib.itoa nm2 uU [] 6 = ⟨2, ⟨200, [⟨[69, 84, 97, 103], [119]⟩, ⟨[76, 97, 115, 116, 45, 77, 111, 100, 105, 102, 105, 101, 100], [121]⟩, ⟨[67, 97, 99, 104, 101, 45, 67, 111, 110, 116, 114, 111, 108], [109, 97, 120, 45, 97, 103, 101, 61, 57]⟩, ⟨[97, 103, 101], [49]⟩], []⟩, []⟩ ∧ useV nm2 uU [] = nm2 := by decide +kernel

theorem nm_r2 : reRep nm2 [118] [] [] = (⟨0, [], []⟩, false) ∧ reV nm2 [118] [] [] 0 = nm2 := by decide +kernel

theorem nm_zero : nmK 0 = nm2 := rfl

theorem nm_step (k : Nat) : putV (nmK k) (⟨#[UInt8.ofNat (97 + k)]⟩ : ByteArray).data.toList [] ⟨200, [], []⟩ 0 = nmK (k + 1) := rfl

theorem nm_cg : (List.range 21).all (fun k => cagB (nmK k)) = true := by decide +kernel

theorem nm_cag (k : Nat) (h : k ≤ 20) : CaG (nmK k) := cagB_ok (List.all_eq_true.1 nm_cg k (List.mem_range.2 (by omega)))

theorem nm_cag1 : CaG nm1 := cagB_ok (by decide +kernel)

theorem nm_cag2 : CaG nm2 := nm_cag 0 (by decide)

theorem nm_last : (nmK 20).rows.length = 16 ∧ ((nmK 20).rows.map (·.url))[0]? = some [101] := by decide +kernel

theorem nm_chr (k : Nat) (h : k < 20) (w : World) : (convert 21 9 (.int .i32 (97 + (k : Int)))).run Tryz.prog w = .ok (.string ⟨#[UInt8.ofNat (97 + k)]⟩) w := by
 rcases (show k = 0 ∨ k = 1 ∨ k = 2 ∨ k = 3 ∨ k = 4 ∨ k = 5 ∨ k = 6 ∨ k = 7 ∨ k = 8 ∨ k = 9 ∨ k = 10 ∨ k = 11 ∨ k = 12 ∨ k = 13 ∨ k = 14 ∨ k = 15 ∨ k = 16 ∨ k = 17 ∨ k = 18 ∨ k = 19 by omega) with rfl | rfl | rfl | rfl | rfl | rfl | rfl | rfl | rfl | rfl | rfl | rfl | rfl | rfl | rfl | rfl | rfl | rfl | rfl | rfl <;> kernel_rfl

set_option maxHeartbeats 8000000 in
set_option maxRecDepth 100000 in
theorem cacheNumbers_walk (w : World) (h5 : G5 w) (hgp : Gp17 w) (hg : gMax < w.heap.size) :
  Calls Tryz.prog 3 #[] w fun e w' => e = .returned (.bool true) ∧ Below w.heap.size w w' := by
 have HN := hid (new17_any w h5 hg)
 have HGp := hid hgp
 have HGx := hid hg
 clear h5 hgp hg
 go_enter Tryz.func3, Tryz.ntmps3
 go_wp2_with fail
 refine HN.out.mono ?_
 rintro e w1 ⟨rfl, hc1, hb1⟩
 have HSw1 := hid (show StC w w1 ⟨[], 0⟩ from ⟨hc1, hb1, HGp.out.low HGx.out hb1⟩)
 clear hc1 hb1
 go_wp2_with fail
 refine (put_at17 w.heap.size w1.heap.size ⟨[], 0⟩ ⟨[], 0⟩ ⟨#[117]⟩ (.slice none 0 0) [] 404 (.slice none 0 0) (.slice none 0 0) [] [] 0 false w1 HSw1.out.1 (cagB_ok (by decide +kernel)) (hdt_nil _) szo_nil (hdt_nil _) hk_nil (bdt_nil _ _) (by decide) nm_no1 (show putV ⟨[], 0⟩ uU _ _ 0 = ⟨[], 0⟩ by unfold putV; rw [nm_no1]; rfl)).mono ?_
 rintro e w2 ⟨rfl, hcw2, htw2⟩
 have HSw2 := hid (HSw1.out.turn hcw2 htw2)
 clear hcw2 htw2
 go_wp2_with fail
 obtain ⟨w3, hw3⟩ : ∃ X, w2.alloc (.cells #[.string ⟨#[86, 97, 114, 121]⟩, .string ⟨#[42]⟩] 30) = X := ⟨_, rfl⟩
 have hbw3 : Below w2.heap.size w2 w3 := by rw [← hw3]; exact (Below.refl _ w2).alloc (Nat.le_refl _) _
 have how3 : w3.ownsRow w2.heap.size 30 2 (.slice (some ⟨w2.heap.size, 0, none⟩) 1 1) 1 (cellsH [⟨[86, 97, 114, 121], [42]⟩]) := by rw [← hw3]; exact own_lit17 w2 [⟨[86, 97, 114, 121], [42]⟩] 1 rfl (by decide)
 have HTw3 := hid (show HdT w3 (.slice (some ⟨w2.heap.size, 0, none⟩) 1 1) [⟨[86, 97, 114, 121], [42]⟩] from own_hdt (L := [⟨[86, 97, 114, 121], [42]⟩]) how3)
 have HSw3 := hid (HSw2.out.below hbw3)
 clear hbw3 how3
 rw [hw3]
 clear hw3
 refine (put_at17 w.heap.size w3.heap.size ⟨[], 0⟩ ⟨[], 0⟩ ⟨#[117]⟩ (.slice none 0 0) [] 200 (.slice (some ⟨w2.heap.size, 0, none⟩) 1 1) (.slice none 0 0) [⟨[86, 97, 114, 121], [42]⟩] [] 0 false w3 HSw3.out.1 (cagB_ok (by decide +kernel)) (hdt_nil _) szo_nil HTw3.out (hkB_ok (by decide +kernel)) (bdt_nil _ _) (by decide) nm_no2 (show putV ⟨[], 0⟩ uU _ _ 0 = ⟨[], 0⟩ by unfold putV; rw [nm_no2]; rfl)).mono ?_
 rintro e w4 ⟨rfl, hcw4, htw4⟩
 have HSw4 := hid (HSw3.out.turn hcw4 htw4)
 clear hcw4 htw4
 go_wp2_with fail
 refine (cc17_any ⟨#[110, 111, 45, 115, 116, 111, 114, 101]⟩ _).mono ?_
 rintro e w5 ⟨rfl, ho5, hb5⟩
 have HSw5 := hid (HSw4.out.below hb5)
 have HO5 := hid (own_hdt ho5)
 clear ho5 hb5
 go_wp2_with fail
 refine (put_at17 w.heap.size w5.heap.size ⟨[], 0⟩ ⟨[], 0⟩ ⟨#[117]⟩ (.slice (some ⟨w4.heap.size, 0, none⟩) 1 1) [⟨CC17, [110, 111, 45, 115, 116, 111, 114, 101]⟩] 200 (.slice none 0 0) (.slice none 0 0) [] [] 0 false w5 HSw5.out.1 (cagB_ok (by decide +kernel)) HO5.out (Hk.szo (hkB_ok (by decide +kernel))) (hdt_nil _) hk_nil (bdt_nil _ _) (by decide) nm_no3 (show putV ⟨[], 0⟩ uU _ _ 0 = ⟨[], 0⟩ by unfold putV; rw [nm_no3]; rfl)).mono ?_
 rintro e w6 ⟨rfl, hcw6, htw6⟩
 have HSw6 := hid (HSw5.out.turn hcw6 htw6)
 clear hcw6 htw6
 go_wp2_with fail
 refine (cc17_any ⟨#[110, 111, 45, 115, 116, 111, 114, 101]⟩ _).mono ?_
 rintro e w7 ⟨rfl, ho7, hb7⟩
 have HSw7 := hid (HSw6.out.below hb7)
 have HO7 := hid (own_hdt ho7)
 clear ho7 hb7
 go_wp2_with fail
 refine (put_at17 w.heap.size w7.heap.size ⟨[], 0⟩ ⟨[], 0⟩ ⟨#[117]⟩ (.slice none 0 0) [] 200 (.slice (some ⟨w6.heap.size, 0, none⟩) 1 1) (.slice none 0 0) [⟨CC17, [110, 111, 45, 115, 116, 111, 114, 101]⟩] [] 0 false w7 HSw7.out.1 (cagB_ok (by decide +kernel)) (hdt_nil _) szo_nil HO7.out (hkB_ok (by decide +kernel)) (bdt_nil _ _) (by decide) nm_no4 (show putV ⟨[], 0⟩ uU _ _ 0 = ⟨[], 0⟩ by unfold putV; rw [nm_no4]; rfl)).mono ?_
 rintro e w8 ⟨rfl, hcw8, htw8⟩
 have HSw8 := hid (HSw7.out.turn hcw8 htw8)
 clear hcw8 htw8
 go_wp2_with fail
 refine (find_at17 w.heap.size w8.heap.size ⟨[], 0⟩ ⟨[], 0⟩ ⟨#[117]⟩ (.slice none 0 0) [] 0 0 0 [] [] [] w8 HSw8.out.1 (cagB_ok (by decide +kernel)) (hdt_nil _) szo_nil HSw8.out.2.2 (by decide) nm_f0.1 nm_f0.2).mono ?_
 rintro e w9 ⟨a1, a2, a3, a4, a5, a6, Mw9, rfl, hcw9, _, _, how9, htw9⟩
 have HSw9 := hid (HSw8.out.turn hcw9 htw9)
 clear hcw9 how9 htw9
 obtain ⟨w10, hw10⟩ : ∃ X, w9.alloc (.cells #[.int .i64 0, .int .i64 0, .slice a1 0 a2, .slice a3 0 a4, .slice a5 0 a6] 33) = X := ⟨_, rfl⟩
 have hbw10 : Below w9.heap.size w9 w10 := by rw [← hw10]; exact (Below.refl _ w9).alloc (Nat.le_refl _) _
 have HSw10 := hid (HSw9.out.below hbw10)
 have X1w10 := hid (show w10.heap[w9.heap.size]? = some (.cells #[.int .i64 0, .int .i64 0, .slice a1 0 a2, .slice a3 0 a4, .slice a5 0 a6] 33 (0, 0)) by rw [← hw10]; exact heap_alloc_new w9 _)
 clear hbw10
 go_wp2_with fail
 obtain ⟨w11, hw11⟩ : ∃ X, w10.alloc (.cells #[.string ⟨#[69, 84, 97, 103]⟩, .string ⟨#[120]⟩, .string ⟨#[76, 97, 115, 116, 45, 77, 111, 100, 105, 102, 105, 101, 100]⟩, .string ⟨#[121]⟩] 30) = X := ⟨_, rfl⟩
 have hbw11 : Below w10.heap.size w10 w11 := by rw [← hw11]; exact (Below.refl _ w10).alloc (Nat.le_refl _) _
 have how11 : w11.ownsRow w10.heap.size 30 2 (.slice (some ⟨w10.heap.size, 0, none⟩) 2 2) 2 (cellsH nmPut) := by rw [← hw11]; exact own_lit17 w10 nmPut 2 rfl (by decide)
 have HTw11 := hid (show HdT w11 (.slice (some ⟨w10.heap.size, 0, none⟩) 2 2) nmPut from own_hdt (L := nmPut) how11)
 have HSw11 := hid (HSw10.out.below hbw11)
 clear how11
 have X1w11 := hid ((hbw11.block _ (Array.getElem?_eq_some_iff.1 X1w10.out).1).trans X1w10.out)
 clear hbw11
 rw [hw11]
 clear hw10 hw11
 refine (put_at17 w.heap.size w11.heap.size ⟨[], 0⟩ nm1 ⟨#[117]⟩ (.slice none 0 0) [] 200 (.slice (some ⟨w10.heap.size, 0, none⟩) 2 2) (.slice none 0 0) nmPut [] 0 true w11 HSw11.out.1 (cagB_ok (by decide +kernel)) (hdt_nil _) szo_nil HTw11.out (hkB_ok (by decide +kernel)) (bdt_nil _ _) (by decide) nm_ok rfl).mono ?_
 rintro e w12 ⟨rfl, hcw12, htw12⟩
 have HSw12 := hid (HSw11.out.turn hcw12 htw12)
 have X1w12 := hid ((htw12.2 _ _ _ _ X1w11.out (by decide) (by decide)).trans X1w11.out)
 clear hcw12 htw12
 go_wp2_with fail
 refine (find_at17 w.heap.size w12.heap.size nm1 nm1 ⟨#[117]⟩ (.slice none 0 0) [] 0 1 200 [⟨[69, 84, 97, 103], [120]⟩, ⟨[76, 97, 115, 116, 45, 77, 111, 100, 105, 102, 105, 101, 100], [121]⟩, ⟨[97, 103, 101], [48]⟩] [⟨[105, 102, 45, 110, 111, 110, 101, 45, 109, 97, 116, 99, 104], [120]⟩, ⟨[105, 102, 45, 109, 111, 100, 105, 102, 105, 101, 100, 45, 115, 105, 110, 99, 101], [121]⟩] [] w12 HSw12.out.1 nm_cag1 (hdt_nil _) szo_nil HSw12.out.2.2 (by decide) nm_f1.1 nm_f1.2).mono ?_
 rintro e w13 ⟨b1, b2, b3, b4, b5, b6, Mw13, rfl, hcw13, _, _, how13, htw13⟩
 have HSw13 := hid (HSw12.out.turn hcw13 htw13)
 have X1w13 := hid ((htw13.2 _ _ _ _ X1w12.out (by decide) (by decide)).trans X1w12.out)
 clear hcw13 htw13
 have O2w13 := hid how13
 clear how13
 obtain ⟨w14, hw14⟩ : ∃ X, w13.alloc (.cells #[.int .i64 1, .int .i64 200, .slice b1 3 b2, .slice b3 0 b4, .slice b5 2 b6] 33) = X := ⟨_, rfl⟩
 have hbw14 : Below w13.heap.size w13 w14 := by rw [← hw14]; exact (Below.refl _ w13).alloc (Nat.le_refl _) _
 have HSw14 := hid (HSw13.out.below hbw14)
 have X1w14 := hid ((hbw14.block _ (Array.getElem?_eq_some_iff.1 X1w13.out).1).trans X1w13.out)
 have O2w14 := hid (own_same O2w13.out hbw14)
 clear hbw14
 have X2w14 := hid (show w14.heap[w13.heap.size]? = some (.cells #[.int .i64 1, .int .i64 200, .slice b1 3 b2, .slice b3 0 b4, .slice b5 2 b6] 33 (0, 0)) by rw [← hw14]; exact heap_alloc_new w13 _)
 go_wp2_with fail
 obtain ⟨w15, hw15⟩ : ∃ X, w14.alloc (.cells #[.string ⟨#[67, 111, 110, 116, 101, 110, 116, 45, 84, 121, 112, 101]⟩, .string ⟨#[122]⟩, .string ⟨#[101, 116, 97, 103]⟩, .string ⟨#[119]⟩, .string ⟨#[67, 97, 99, 104, 101, 45, 67, 111, 110, 116, 114, 111, 108]⟩, .string ⟨#[109, 97, 120, 45, 97, 103, 101, 61, 57]⟩] 30) = X := ⟨_, rfl⟩
 have hbw15 : Below w14.heap.size w14 w15 := by rw [← hw15]; exact (Below.refl _ w14).alloc (Nat.le_refl _) _
 have how15 : w15.ownsRow w14.heap.size 30 2 (.slice (some ⟨w14.heap.size, 0, none⟩) 3 3) 3 (cellsH nmRe) := by rw [← hw15]; exact own_lit17 w14 nmRe 3 rfl (by decide)
 have HTw15 := hid (show HdT w15 (.slice (some ⟨w14.heap.size, 0, none⟩) 3 3) nmRe from own_hdt (L := nmRe) how15)
 have HSw15 := hid (HSw14.out.below hbw15)
 clear how15
 have X1w15 := hid ((hbw15.block _ (Array.getElem?_eq_some_iff.1 X1w14.out).1).trans X1w14.out)
 have O2w15 := hid (own_same O2w14.out hbw15)
 have X2w15 := hid ((hbw15.block _ (Array.getElem?_eq_some_iff.1 X2w14.out).1).trans X2w14.out)
 clear hbw15
 rw [hw15]
 clear hw14 hw15
 refine (renew_at17 w.heap.size w15.heap.size nm1 nm2 ⟨#[117]⟩ (.slice none 0 0) [] 304 (.slice (some ⟨w14.heap.size, 0, none⟩) 3 3) none 0 0 nmRe 5 200 [⟨[69, 84, 97, 103], [119]⟩, ⟨[76, 97, 115, 116, 45, 77, 111, 100, 105, 102, 105, 101, 100], [121]⟩, ⟨[67, 97, 99, 104, 101, 45, 67, 111, 110, 116, 114, 111, 108], [109, 97, 120, 45, 97, 103, 101, 61, 57]⟩] [] true w15 HSw15.out.1 nm_cag1 (hdt_nil _) szo_nil HTw15.out (Hk.szo (hkB_ok (by decide +kernel))) nm_r1 rfl).mono ?_
 rintro e w16 ⟨d1, d2, d3, d4, Mw16, rfl, hcw16, how16, _, htw16⟩
 have HSw16 := hid (HSw15.out.turn hcw16 htw16)
 have X1w16 := hid ((htw16.2 _ _ _ _ X1w15.out (by decide) (by decide)).trans X1w15.out)
 have O2w16 := hid (htw16.own O2w15.out (by decide) (by decide))
 have X2w16 := hid ((htw16.2 _ _ _ _ X2w15.out (by decide) (by decide)).trans X2w15.out)
 clear hcw16 htw16
 have O3w16 := hid how16
 clear how16
 obtain ⟨w17, hw17⟩ : ∃ X, w16.alloc (.cells #[.int .i64 200, .slice d1 3 d2, .slice d3 0 d4] 28) = X := ⟨_, rfl⟩
 have hbw17 : Below w16.heap.size w16 w17 := by rw [← hw17]; exact (Below.refl _ w16).alloc (Nat.le_refl _) _
 have HSw17 := hid (HSw16.out.below hbw17)
 have X1w17 := hid ((hbw17.block _ (Array.getElem?_eq_some_iff.1 X1w16.out).1).trans X1w16.out)
 have O2w17 := hid (own_same O2w16.out hbw17)
 have X2w17 := hid ((hbw17.block _ (Array.getElem?_eq_some_iff.1 X2w16.out).1).trans X2w16.out)
 have O3w17 := hid (own_same O3w16.out hbw17)
 clear hbw17
 have X3w17 := hid (show w17.heap[w16.heap.size]? = some (.cells #[.int .i64 200, .slice d1 3 d2, .slice d3 0 d4] 28 (0, 0)) by rw [← hw17]; exact heap_alloc_new w16 _)
 go_wp2_with fail
 refine (find_at17 w.heap.size w17.heap.size nm2 nm2 ⟨#[117]⟩ (.slice none 0 0) [] 6 2 200 [⟨[69, 84, 97, 103], [119]⟩, ⟨[76, 97, 115, 116, 45, 77, 111, 100, 105, 102, 105, 101, 100], [121]⟩, ⟨[67, 97, 99, 104, 101, 45, 67, 111, 110, 116, 114, 111, 108], [109, 97, 120, 45, 97, 103, 101, 61, 57]⟩, ⟨[97, 103, 101], [49]⟩] [] [] w17 HSw17.out.1 nm_cag2 (hdt_nil _) szo_nil HSw17.out.2.2 (by decide) nm_f2.1 nm_f2.2).mono ?_
 rintro e w18 ⟨g1, g2, g3, g4, g5, g6, Mw18, rfl, hcw18, _, _, how18, htw18⟩
 have HSw18 := hid (HSw17.out.turn hcw18 htw18)
 have X1w18 := hid ((htw18.2 _ _ _ _ X1w17.out (by decide) (by decide)).trans X1w17.out)
 have O2w18 := hid (htw18.own O2w17.out (by decide) (by decide))
 have X2w18 := hid ((htw18.2 _ _ _ _ X2w17.out (by decide) (by decide)).trans X2w17.out)
 have O3w18 := hid (htw18.own O3w17.out (by decide) (by decide))
 have X3w18 := hid ((htw18.2 _ _ _ _ X3w17.out (by decide) (by decide)).trans X3w17.out)
 clear hcw18 htw18
 clear how18 hw17
 obtain ⟨w19, hw19⟩ : ∃ X, w18.alloc (.cells #[.int .i64 2, .int .i64 200, .slice g1 4 g2, .slice g3 0 g4, .slice g5 0 g6] 33) = X := ⟨_, rfl⟩
 have hbw19 : Below w18.heap.size w18 w19 := by rw [← hw19]; exact (Below.refl _ w18).alloc (Nat.le_refl _) _
 have HSw19 := hid (HSw18.out.below hbw19)
 have X1w19 := hid ((hbw19.block _ (Array.getElem?_eq_some_iff.1 X1w18.out).1).trans X1w18.out)
 have O2w19 := hid (own_same O2w18.out hbw19)
 have X2w19 := hid ((hbw19.block _ (Array.getElem?_eq_some_iff.1 X2w18.out).1).trans X2w18.out)
 have O3w19 := hid (own_same O3w18.out hbw19)
 have X3w19 := hid ((hbw19.block _ (Array.getElem?_eq_some_iff.1 X3w18.out).1).trans X3w18.out)
 clear hbw19
 have X4w19 := hid (show w19.heap[w18.heap.size]? = some (.cells #[.int .i64 2, .int .i64 200, .slice g1 4 g2, .slice g3 0 g4, .slice g5 0 g6] 33 (0, 0)) by rw [← hw19]; exact heap_alloc_new w18 _)
 go_wp2_with fail
 refine (renew_at17 w.heap.size w19.heap.size nm2 nm2 ⟨#[118]⟩ (.slice none 0 0) [] 0 (.slice none 0 0) none 0 0 [] 0 0 [] [] false w19 HSw19.out.1 nm_cag2 (hdt_nil _) szo_nil (hdt_nil _) szo_nil nm_r2.1 nm_r2.2).mono ?_
 rintro e w20 ⟨i1, i2, i3, i4, Mw20, rfl, hcw20, how20, _, htw20⟩
 have HSw20 := hid (HSw19.out.turn hcw20 htw20)
 have X1w20 := hid ((htw20.2 _ _ _ _ X1w19.out (by decide) (by decide)).trans X1w19.out)
 have O2w20 := hid (htw20.own O2w19.out (by decide) (by decide))
 have X2w20 := hid ((htw20.2 _ _ _ _ X2w19.out (by decide) (by decide)).trans X2w19.out)
 have O3w20 := hid (htw20.own O3w19.out (by decide) (by decide))
 have X3w20 := hid ((htw20.2 _ _ _ _ X3w19.out (by decide) (by decide)).trans X3w19.out)
 have X4w20 := hid ((htw20.2 _ _ _ _ X4w19.out (by decide) (by decide)).trans X4w19.out)
 clear hcw20 htw20
 clear how20 hw19
 obtain ⟨w21, hw21⟩ : ∃ X, w20.alloc (.cells #[.int .i64 0, .slice i1 0 i2, .slice i3 0 i4] 28) = X := ⟨_, rfl⟩
 have hbw21 : Below w20.heap.size w20 w21 := by rw [← hw21]; exact (Below.refl _ w20).alloc (Nat.le_refl _) _
 have HSw21 := hid (HSw20.out.below hbw21)
 have X1w21 := hid ((hbw21.block _ (Array.getElem?_eq_some_iff.1 X1w20.out).1).trans X1w20.out)
 have O2w21 := hid (own_same O2w20.out hbw21)
 have X2w21 := hid ((hbw21.block _ (Array.getElem?_eq_some_iff.1 X2w20.out).1).trans X2w20.out)
 have O3w21 := hid (own_same O3w20.out hbw21)
 have X3w21 := hid ((hbw21.block _ (Array.getElem?_eq_some_iff.1 X3w20.out).1).trans X3w20.out)
 have X4w21 := hid ((hbw21.block _ (Array.getElem?_eq_some_iff.1 X4w20.out).1).trans X4w20.out)
 clear hbw21
 go_wp2_with fail
 go_loopw [14] (fun s wr => ∃ k : Nat, s = .int .i64 k ∧ k ≤ 20 ∧ Hid (StC w wr (nmK k) ∧ wr.heap[w9.heap.size]? = some (.cells #[.int .i64 0, .int .i64 0, .slice a1 0 a2, .slice a3 0 a4, .slice a5 0 a6] 33 (0, 0)) ∧ wr.ownsRow Mw13 30 2 (.slice b5 2 b6) 2 (cellsH nmCond) ∧ wr.heap[w13.heap.size]? = some (.cells #[.int .i64 1, .int .i64 200, .slice b1 3 b2, .slice b3 0 b4, .slice b5 2 b6] 33 (0, 0)) ∧ wr.ownsRow Mw16 30 2 (.slice d1 3 d2) 3 (cellsH nmNew) ∧ wr.heap[w16.heap.size]? = some (.cells #[.int .i64 200, .slice d1 3 d2, .slice d3 0 d4] 28 (0, 0)) ∧ wr.heap[w18.heap.size]? = some (.cells #[.int .i64 2, .int .i64 200, .slice g1 4 g2, .slice g3 0 g4, .slice g5 0 g6] 33 (0, 0)))) (fun s _ => 20 - (intOf s).toNat)
 case atStart => exact ⟨0, rfl, by decide, (by rw [nm_zero]; exact HSw21.out), X1w21.out, O2w21.out, X2w21.out, O3w21.out, X3w21.out, X4w21.out⟩
 case round =>
  obtain ⟨k, rfl, hk, HR⟩ := hrel
  have HSwr := hid HR.out.1
  have X1wr := hid HR.out.2.1
  have O2wr := hid HR.out.2.2.1
  have X2wr := hid HR.out.2.2.2.1
  have O3wr := hid HR.out.2.2.2.2.1
  have X3wr := hid HR.out.2.2.2.2.2.1
  have X4wr := hid HR.out.2.2.2.2.2.2
  clear HR
  by_cases hlt : k < 20
  ·have hin : (k : Int) < 20 := by omega
   have hch := nm_chr k hlt wr
   have hst := nm_step k
   generalize UInt8.ofNat (97 + k) = c at hch hst
   have HSt := hid hst
   clear hst
   go_wp2_with fail
   refine (put_at17 w.heap.size wr.heap.size (nmK k) (nmK (k + 1)) ⟨#[c]⟩ (.slice none 0 0) [] 200 (.slice none 0 0) (.slice none 0 0) [] [] 0 true wr HSwr.out.1 (nm_cag k (by omega)) (hdt_nil _) szo_nil (hdt_nil _) hk_nil (bdt_nil _ _) (by decide) use_ok0 HSt.out).mono ?_
   rintro e wp ⟨rfl, hcwp, htwp⟩
   have HSwp := hid (HSwr.out.turn hcwp htwp)
   have X1wp := hid ((htwp.2 _ _ _ _ X1wr.out (by decide) (by decide)).trans X1wr.out)
   have O2wp := hid (htwp.own O2wr.out (by decide) (by decide))
   have X2wp := hid ((htwp.2 _ _ _ _ X2wr.out (by decide) (by decide)).trans X2wr.out)
   have O3wp := hid (htwp.own O3wr.out (by decide) (by decide))
   have X3wp := hid ((htwp.2 _ _ _ _ X3wr.out (by decide) (by decide)).trans X3wr.out)
   have X4wp := hid ((htwp.2 _ _ _ _ X4wr.out (by decide) (by decide)).trans X4wr.out)
   clear hcwp htwp
   clear hch
   go_wp2_with fail
   go_roundw
   case rel => exact ⟨k + 1, by go_num, by omega, HSwp.out, X1wp.out, O2wp.out, X2wp.out, O3wp.out, X3wp.out, X4wp.out⟩
   case measure => simp [intOf]; omega
  ·have hin : decide ((k : Int) < 20) = false := by rw [decide_eq_false_iff_not]; omega
   obtain rfl : k = 20 := by omega
   have f1 : wr.cell? ⟨w9.heap.size, 0, none⟩ = some (.int .i64 0) := by rw [Lib.cell_of_heap X1wr.out]; rfl
   have f2 : wr.cell? ⟨w13.heap.size, 0, none⟩ = some (.int .i64 1) := by rw [Lib.cell_of_heap X2wr.out]; rfl
   have f3 : wr.cell? ⟨w13.heap.size, 4, none⟩ = some (.slice b5 2 b6) := by rw [Lib.cell_of_heap X2wr.out]; rfl
   have f4 : wr.cell? ⟨w16.heap.size, 1, none⟩ = some (.slice d1 3 d2) := by rw [Lib.cell_of_heap X3wr.out]; rfl
   have f5 : wr.cell? ⟨w18.heap.size, 0, none⟩ = some (.int .i64 2) := by rw [Lib.cell_of_heap X4wr.out]; rfl
   go_wp2_with fail
   obtain ⟨wA, hwA⟩ : ∃ X, wr.alloc (.cells #[.string ⟨#[105, 102, 45, 110, 111, 110, 101, 45, 109, 97, 116, 99, 104]⟩, .string ⟨#[120]⟩, .string ⟨#[105, 102, 45, 109, 111, 100, 105, 102, 105, 101, 100, 45, 115, 105, 110, 99, 101]⟩, .string ⟨#[121]⟩] 30) = X := ⟨_, rfl⟩
   have hbwA : Below wr.heap.size wr wA := by rw [← hwA]; exact (Below.refl _ wr).alloc (Nat.le_refl _) _
   have howA : wA.ownsRow wr.heap.size 30 2 (.slice (some ⟨wr.heap.size, 0, none⟩) 2 2) 2 (cellsH nmCond) := by rw [← hwA]; exact own_lit17 wr nmCond 2 rfl (by decide)
   have HTwA := hid (show HdT wA (.slice (some ⟨wr.heap.size, 0, none⟩) 2 2) nmCond from own_hdt (L := nmCond) howA)
   have HSwA := hid (HSwr.out.below hbwA)
   clear howA
   have X1wA := hid ((hbwA.block _ (Array.getElem?_eq_some_iff.1 X1wr.out).1).trans X1wr.out)
   have O2wA := hid (own_same O2wr.out hbwA)
   have X2wA := hid ((hbwA.block _ (Array.getElem?_eq_some_iff.1 X2wr.out).1).trans X2wr.out)
   have O3wA := hid (own_same O3wr.out hbwA)
   have X3wA := hid ((hbwA.block _ (Array.getElem?_eq_some_iff.1 X3wr.out).1).trans X3wr.out)
   have X4wA := hid ((hbwA.block _ (Array.getElem?_eq_some_iff.1 X4wr.out).1).trans X4wr.out)
   clear hbwA
   rw [hwA]
   clear hwA f1 f2 f3 f4 f5
   refine (same17_any _ _ nmCond nmCond wA (own_hd (L := nmCond) O2wA.out) HTwA.out.1 (by decide) (by decide)).mono ?_
   rintro e wB ⟨rfl, hbwB⟩
   rw [show decide (nmCond = nmCond) = true by simp]
   have HSwB := hid (HSwA.out.below hbwB)
   have X1wB := hid ((hbwB.block _ (Array.getElem?_eq_some_iff.1 X1wA.out).1).trans X1wA.out)
   have O2wB := hid (own_same O2wA.out hbwB)
   have X2wB := hid ((hbwB.block _ (Array.getElem?_eq_some_iff.1 X2wA.out).1).trans X2wA.out)
   have O3wB := hid (own_same O3wA.out hbwB)
   have X3wB := hid ((hbwB.block _ (Array.getElem?_eq_some_iff.1 X3wA.out).1).trans X3wA.out)
   have X4wB := hid ((hbwB.block _ (Array.getElem?_eq_some_iff.1 X4wA.out).1).trans X4wA.out)
   clear hbwB
   have f4 : wB.cell? ⟨w16.heap.size, 1, none⟩ = some (.slice d1 3 d2) := by rw [Lib.cell_of_heap X3wB.out]; rfl
   have f5 : wB.cell? ⟨w18.heap.size, 0, none⟩ = some (.int .i64 2) := by rw [Lib.cell_of_heap X4wB.out]; rfl
   go_wp2_with fail
   obtain ⟨wC, hwC⟩ : ∃ X, wB.alloc (.cells #[.string ⟨#[69, 84, 97, 103]⟩, .string ⟨#[119]⟩, .string ⟨#[76, 97, 115, 116, 45, 77, 111, 100, 105, 102, 105, 101, 100]⟩, .string ⟨#[121]⟩, .string ⟨#[67, 97, 99, 104, 101, 45, 67, 111, 110, 116, 114, 111, 108]⟩, .string ⟨#[109, 97, 120, 45, 97, 103, 101, 61, 57]⟩] 30) = X := ⟨_, rfl⟩
   have hbwC : Below wB.heap.size wB wC := by rw [← hwC]; exact (Below.refl _ wB).alloc (Nat.le_refl _) _
   have howC : wC.ownsRow wB.heap.size 30 2 (.slice (some ⟨wB.heap.size, 0, none⟩) 3 3) 3 (cellsH nmNew) := by rw [← hwC]; exact own_lit17 wB nmNew 3 rfl (by decide)
   have HTwC := hid (show HdT wC (.slice (some ⟨wB.heap.size, 0, none⟩) 3 3) nmNew from own_hdt (L := nmNew) howC)
   have HSwC := hid (HSwB.out.below hbwC)
   clear howC
   have X1wC := hid ((hbwC.block _ (Array.getElem?_eq_some_iff.1 X1wB.out).1).trans X1wB.out)
   have O2wC := hid (own_same O2wB.out hbwC)
   have X2wC := hid ((hbwC.block _ (Array.getElem?_eq_some_iff.1 X2wB.out).1).trans X2wB.out)
   have O3wC := hid (own_same O3wB.out hbwC)
   have X3wC := hid ((hbwC.block _ (Array.getElem?_eq_some_iff.1 X3wB.out).1).trans X3wB.out)
   have X4wC := hid ((hbwC.block _ (Array.getElem?_eq_some_iff.1 X4wB.out).1).trans X4wB.out)
   clear hbwC
   rw [hwC]
   clear hwC f4 f5
   refine (same17_any _ _ nmNew nmNew wC (own_hd (L := nmNew) O3wC.out) HTwC.out.1 (by decide) (by decide)).mono ?_
   rintro e wD ⟨rfl, hbwD⟩
   rw [show decide (nmNew = nmNew) = true by simp]
   have HSwD := hid (HSwC.out.below hbwD)
   have X1wD := hid ((hbwD.block _ (Array.getElem?_eq_some_iff.1 X1wC.out).1).trans X1wC.out)
   have O2wD := hid (own_same O2wC.out hbwD)
   have X2wD := hid ((hbwD.block _ (Array.getElem?_eq_some_iff.1 X2wC.out).1).trans X2wC.out)
   have O3wD := hid (own_same O3wC.out hbwD)
   have X3wD := hid ((hbwD.block _ (Array.getElem?_eq_some_iff.1 X3wC.out).1).trans X3wC.out)
   have X4wD := hid ((hbwD.block _ (Array.getElem?_eq_some_iff.1 X4wC.out).1).trans X4wC.out)
   clear hbwD
   have f5 : wD.cell? ⟨w18.heap.size, 0, none⟩ = some (.int .i64 2) := by rw [Lib.cell_of_heap X4wD.out]; rfl
   have hl16 := nm_last.1
   have HU := hid (urls17_any w.heap.size wD.heap.size (nmK 20) wD HSwD.out.1 (by omega))
   have HLn := hid (len17_any w.heap.size wD.heap.size (nmK 20) wD HSwD.out.1)
   rw [hl16] at HU HLn
   clear hl16
   go_wp2_with fail
   refine HLn.out.mono ?_
   rintro e wE ⟨rfl, hwE⟩
   rw [hwE]
   clear hwE
   go_wp2_with fail
   refine HU.out.mono ?_
   rintro e wF ⟨v, rfl, hov, hbwF⟩
   have HSwF := hid (HSwD.out.below hbwF)
   have hx0 : (cellsT ((nmK 20).rows.map (·.url)))[0]? = some (.string ⟨#[101]⟩) := by
    unfold cellsT
    rw [List.getElem?_map, nm_last.2]
    rfl
   obtain ⟨g, cc, rfl⟩ : ∃ g c, v = .slice (some ⟨g, 0, none⟩) 16 c := by
    rcases hov.2 with ⟨_, h0⟩ | ⟨g, cap, cur, hv, _⟩
    ·cases h0
    ·exact ⟨g, _, hv⟩
   have f6 : wF.cell? ⟨g, 0, none⟩ = some (.string ⟨#[101]⟩) := (hov.cellAt 0 (by decide)).trans hx0
   have HK := hid HSwF.out.known
   clear hov hbwF hx0
   go_wp2_with fail
   refine HK.out.mono ?_
   rintro e wG ⟨rfl, hbG⟩
   go_wp2_with fail
   go_ret
   exact ⟨rfl, hbG⟩

end Go.Proofs.YtfcmonjfcnfjoaaGreatDoor
