/-
  Walks and plain facts that this claim leans on, put together out of 2 texts: Ehf, Ehg.
-/
import Derived.Test.YtfcmonjfcnfjoaaGreatDoorProg
import Derived.Test.YtfcmonjfcnfjoaaGreatDoorQc1
import Derived.Test.YtfcmonjfcnfjoaaGreatDoorQc2
import Derived.Test.YtfcmonjfcnfjoaaGreatDoorQc3
import Derived.Test.YtfcmonjfcnfjoaaGreatDoorQc4
import Derived.Test.YtfcmonjfcnfjoaaGreatDoorQc5
import Derived.Test.YtfcmonjfcnfjoaaGreatDoorQc6
import Derived.Test.YtfcmonjfcnfjoaaGreatDoorQc7
import Derived.Test.YtfcmonjfcnfjoaaGreatDoorQc8
import Derived.BigRegion
import Derived.Deep.RegionHeld
import Derived.Deep.RegionHeldLaw
import Derived.Lib.IndexAny
import Derived.WalkKit
import Derived.Lib.UnsafeStr
import Derived.Lib.BufferRead
import Derived.Lib.RuneBytes
import Derived.Laws.RangeAny
import Derived.Deep.LoopGhost
import Derived.Maps.OwnSet
import Derived.Maps.OwnOps
import Derived.Maps.AppendAt
import Derived.StringKeys
import Derived.BigQuiet
import Derived.Deep.QuietTactic
import Derived.LoopN
import Derived.RegionTactic
import Derived.Deep.RegionLaw
import Derived.Deep.RegionWith
import Derived.WalkSpells
import Derived.WalkLawsBesides
import Derived.Lib.FieldsP
import Derived.Lib.DecodeN
import Derived.Lib.IndexMore
import Derived.Lib.Join
import Derived.Lib.SmallJoins
import Derived.Laws.CopyOwn
import Derived.Laws.ResultCell
import Derived.Deep.MidRow
import Derived.Laws.OwnMore
import Derived.Below
import Derived.WalkSmall
import Derived.Lib.LaidTab
import Derived.Lib.AppendIntMem
import Derived.Laws.AppendOwn
import Derived.Laws.Runes
import Derived.Lib.OthersKept
import Derived.Lib.FrozenHead2
import Derived.Lib.Builder
import Derived.Lib.AppendStr
import Derived.Lib.Replace
import Derived.Shelf.GgClosure.GivesRunes
import Derived.Laws.BitsAll
import Derived.Laws.Shifts
import Derived.Deep.DeepAppendRoom
import Derived.Laws.IdiomStrings
import Derived.Laws.BytesString
import Derived.Laws.CopyRow
import Derived.Sort.OwnSorted
import Derived.Lib.SlicesCompact
import Derived.Shelf.Slices.In.SortNone
import Derived.Shelf.Slices.CompactS
import Derived.Lib.SliceRun
import Derived.Lib.Strings
import Derived.Laws.BitsAllLaws
import Derived.Lib.Bytealg
import Derived.Lib.BufferMore
import Derived.Shelf.Strings.Builder1
import Derived.Shelf.Strings.Builder2
import Derived.Shelf.Strings.OnBuilder
import Derived.Shelf.Strings.Trim
import Derived.Shelf.Small.Utf8
import Derived.Shelf.Small.Bits
import Derived.Shelf.Small.Strs
import Derived.Shelf.Small.Wraps
import Derived.Shelf.Strings.BuilderF
import Derived.Shelf.Strings.BuilderK
import Derived.Shelf.Strings.Builder2Cap
import Derived.Shelf.Strconv.Itoa0
import Derived.Shelf.Strconv.Itoa1
import Derived.Shelf.LaysM
import Derived.Shelf.Strconv.Itoa2
import Derived.Shelf.Strconv.Itoa3
import Derived.Shelf.Strings.Search1
import Derived.Shelf.Strings.Search2
import Derived.Shelf.Strings.Cut
import Derived.Shelf.Strings.Shaped
import Derived.Shelf.Sort.Plain
import Derived.Shelf.Strings.Prefix
import Derived.Shelf.Strings.Runes
import Derived.Shelf.Strings.IndexAny
import Derived.Shelf.Strings.AsciiSet
import Derived.Shelf.Strings.IndexAnyAll
import Derived.Shelf.Unicode.DecodeSlow
import Derived.Shelf.Unicode.DecodeAny
import Derived.Shelf.Unicode.DecodeLast
import Derived.Lib.SlTrimSet
import Derived.Shelf.Strings.SlTrimAscii
import Derived.Deep.CutRange
import Derived.Laws.Rows
import Derived.Laws.MakeOwn
import Derived.Deep.WholeRow
import Derived.Laws.AppendOwnNone
set_option linter.unusedSimpArgs false
set_option linter.unusedVariables false

namespace Go.Proofs.YtfcmonjfcnfjoaaGreatDoor
open Go.RowKit

theorem set_fresh17 (w : World) (T : TypeId) (D : Array Value) (o : Nat) (v : Value) : (w.alloc (.cells D T)).setCell ⟨w.heap.size, o, none⟩ v = w.alloc (.cells (D.setIfInBounds o v) T) := by
 unfold World.setCell World.alloc
 congr 1
 simp only
 refine Array.ext_getElem? fun k => ?_
 rw [Array.getElem?_modify]
 by_cases hk : w.heap.size = k
 ·subst hk
  simp
 ·rw [if_neg hk, Array.getElem?_push, Array.getElem?_push]
  by_cases h2 : k = w.heap.size
  ·exact absurd h2.symm hk
  ·rw [if_neg h2, if_neg h2]

theorem store_fresh17 (w : World) (T : TypeId) (a0 a1 a2 a3 a4 a5 a6 b0 b1 b2 b3 b4 b5 b6 : Value) :
  (w.alloc (.cells #[a0, a1, a2, a3, a4, a5, a6] T)).setCells w.heap.size 0 [b0, b1, b2, b3, b4, b5, b6] = w.alloc (.cells #[b0, b1, b2, b3, b4, b5, b6] T) := by
 simp only [World.setCells, set_fresh17]
 rfl

def KpI (Z : List Zr) (q : RowC → Bool) (X : List Zr) (i j : Nat) : Prop := X.length = Z.length ∧ i < j ∧ X.take i = (Z.take j).filter (fun z => !q z.r) ∧ X.drop j = Z.drop j

theorem KpI.start {Z : List Zr} {q : RowC → Bool} {k : Nat} (hk : k < Z.length) (h1 : ∀ j (h : j < Z.length), j < k → q Z[j].r = false) (h2 : q Z[k].r = true) : KpI Z q Z k (k + 1) := by
 refine ⟨rfl, by omega, ?_, rfl⟩
 rw [List.take_succ_eq_append_getElem hk, List.filter_append]
 have e1 : (Z.take k).filter (fun z => !q z.r) = Z.take k := by
  rw [List.filter_eq_self]
  intro a ha
  obtain ⟨j, hj, rfl⟩ := List.getElem_of_mem ha
  rw [List.length_take] at hj
  rw [List.getElem_take, h1 j (by omega) (by omega)]
  rfl
 rw [e1]
 simp [h2]

theorem KpI.get {Z X : List Zr} {q : RowC → Bool} {i j : Nat} (h : KpI Z q X i j) (hj : j < Z.length) : X[j]'(by rw [h.1]; exact hj) = Z[j] := by
 have hx : j < X.length := by rw [h.1]; exact hj
 have h1 := h.2.2.2
 rw [List.drop_eq_getElem_cons hx, List.drop_eq_getElem_cons hj] at h1
 injection h1

theorem KpI.skip {Z X : List Zr} {q : RowC → Bool} {i j : Nat} (h : KpI Z q X i j) (hj : j < Z.length) (hq : q Z[j].r = true) : KpI Z q X i (j + 1) := by
 obtain ⟨h1, h2, h3, h4⟩ := h
 refine ⟨h1, by omega, ?_, ?_⟩
 ·rw [List.take_succ_eq_append_getElem hj, List.filter_append, ← h3]
  simp [hq]
 ·rw [← List.drop_drop, h4, List.drop_drop]

theorem KpI.keep {Z X : List Zr} {q : RowC → Bool} {i j : Nat} (h : KpI Z q X i j) (hj : j < Z.length) (hq : q Z[j].r = false) : KpI Z q (X.set i Z[j]) (i + 1) (j + 1) := by
 obtain ⟨h1, h2, h3, h4⟩ := h
 have hi : i < X.length := by omega
 refine ⟨by rw [List.length_set, h1], by omega, ?_, ?_⟩
 ·rw [List.take_succ_eq_append_getElem hj, List.filter_append, ← h3, List.take_succ_eq_append_getElem (by rw [List.length_set]; exact hi), List.getElem_set_self, List.take_set_of_le (Nat.le_refl _)]
  simp [hq]
 ·rw [List.drop_set_of_lt (by omega), ← List.drop_drop, h4, List.drop_drop]

theorem KpI.done {Z X : List Zr} {q : RowC → Bool} {i : Nat} (h : KpI Z q X i Z.length) : X.take i = Z.filter (fun z => !q z.r) ∧ (Z.filter (fun z => !q z.r)).length = i ∧ i < Z.length := by
 obtain ⟨h1, h2, h3, _⟩ := h
 rw [List.take_of_length_le (Nat.le_refl _)] at h3
 refine ⟨h3, ?_, h2⟩
 rw [← h3, List.length_take]
 omega

theorem idxZ_cases (q : RowC → Bool) (Z : List Zr) : (idxZ q Z = -1 ∧ Z.filter (fun z => !q z.r) = Z) ∨ ∃ k : Nat, ∃ h : k < Z.length, idxZ q Z = (k : Int) ∧ KpI Z q Z k (k + 1) := by
 unfold idxZ
 cases h : Z.findIdx? fun z => q z.r with
 | none =>
  refine .inl ⟨rfl, ?_⟩
  rw [List.findIdx?_eq_none_iff] at h
  rw [List.filter_eq_self]
  intro a ha
  rw [h a ha]
  rfl
 | some k =>
  rw [List.findIdx?_eq_some_iff_getElem] at h
  obtain ⟨hk, h1, h2⟩ := h
  exact .inr ⟨k, hk, rfl, KpI.start hk (fun j _ hj => by have := h2 j hj; simpa using this) h1⟩

def zRow : Array Value := #[.string ByteArray.empty, .slice none 0 0, .int .i64 0, .slice none 0 0, .slice none 0 0, .int .i64 0, .int .i64 0]

theorem zRow_one (i : Nat) : (zRow[i % 7]!).oneCell' = true := by
 have h : i % 7 < 7 := Nat.mod_lt _ (by decide)
 generalize i % 7 = k at h
 match k, h with
 | 0, _ => rfl
 | 1, _ => rfl
 | 2, _ => rfl
 | 3, _ => rfl
 | 4, _ => rfl
 | 5, _ => rfl
 | 6, _ => rfl

theorem run_clear17 (w : World) (ty : TypeId) (g o n c : Nat) (hn : 0 < n) (hth : w.there g o (n * 7)) :
  ∃ vs : List Value, vs.length = n * 7 ∧ (Builtin.clear_ #[70] ty #[.slice (some ⟨g, o, none⟩) n c]).run Tryz.prog w = .ok (.tuple #[]) (w.setCells g o vs) := by
 refine ⟨(Builtin.zeroCells zRow n).toList, by simp [Builtin.zeroCells, zRow], ?_⟩
 have hl : (Builtin.zeroCells zRow n).toList.length = n * 7 := by simp [Builtin.zeroCells, zRow]
 have h1 : ∀ v ∈ (Builtin.zeroCells zRow n).toList, v.oneCell' = true := by
  intro v hv
  unfold Builtin.zeroCells at hv
  rw [Array.mem_toList_iff] at hv
  obtain ⟨i, _, rfl⟩ := Array.mem_map.1 hv
  exact zRow_one i
 have hst := run_storeCells_cells (P := Tryz.prog) g o (Builtin.zeroCells zRow n).toList 0 w (by rw [hl]; intro j hj; rw [Nat.add_zero]; exact (hth j hj).1) (by rw [hl]; intro j hj; rw [Nat.add_zero]; exact (hth j hj).2) h1
 rw [Nat.add_zero] at hst
 obtain ⟨m, rfl⟩ : ∃ m, n = m + 1 := ⟨n - 1, by omega⟩
 change (storeCells ⟨g, o, none⟩ (Builtin.zeroCells (Value.agg #[.string ⟨#[]⟩, .slice none 0 0, .int .i64 0, .slice none 0 0, .slice none 0 0, .int .i64 0, .int .i64 0]).cells (m + 1)).toList).run Tryz.prog w = _ at hst
 simp [Builtin.clear_, run_underlying Tryz.underlying70, hst]

set_option maxHeartbeats 2000000 in
set_option maxRecDepth 100000 in
theorem deleteF17_any (f : Nat) (lb : Array Value) (eg : ∀ args w, (callFunc f args).run Tryz.prog w = .ok (.enter f args) w) (q : RowC → Bool) (v : Value) (Z : List Zr) (w : World) (B : Nat) (hown : w.ownsRow B 81 7 v Z.length (cellsZ Z)) (hl : Z.length ≤ 1000000) (hform : ∀ z ∈ Z, ∃ ca cn cc ha hn hc ba bn bc, z.c = .slice ca cn cc ∧ z.h = .slice ha hn hc ∧ z.b = .slice ba bn bc)
  (hq : ∀ (X : World) (z : Zr), z ∈ Z → w.grownBy X v.ownBlock → Calls Tryz.prog f (#[zVal z] ++ lb) X fun e w' => e = .returned (.bool (q z.r)) ∧ Below X.heap.size X w') :
  Calls Tryz.prog 40 #[v, .func (.func f) #[] lb] w fun e w' => ∃ a c, e = .returned (.slice a (Z.filter fun z => !q z.r).length c) ∧ w'.ownsRow B 81 7 (.slice a (Z.filter fun z => !q z.r).length c) (Z.filter fun z => !q z.r).length (cellsZ (Z.filter fun z => !q z.r)) ∧ w.grownBy w' v.ownBlock ∧ (∀ g, (Value.slice a (Z.filter fun z => !q z.r).length c).ownBlock = some g → v.ownBlock = some g) := by
 have HI := hid (indexZ17_any f lb eg q v Z w (own_zl hown) hl hform (fun X z hz hX => hq X z hz (below_grown17 hX _)))
 rcases idxZ_cases q Z with ⟨hi, hf⟩ | ⟨k0, hk0, hi, hK⟩
 ·rw [hi] at HI
  rw [hf]
  obtain ⟨a, c, rfl⟩ := own_sl16 hown
  have HO := hid hown
  clear hown hq hform hi hf
  go_enter Tryz.func40, Tryz.ntmps40
  go_wp2_with fail
  refine HI.out.mono ?_
  rintro e w1 ⟨rfl, hb1⟩
  have HB1 := hid hb1
  clear hb1
  go_wp2_with fail
  go_ret
  exact ⟨a, c, rfl, own_same HO.out HB1.out, below_grown17 HB1.out _, fun g h => h⟩
 ·rw [hi] at HI
  obtain ⟨g, cap, rfl⟩ : ∃ g cap, v = .slice (some ⟨g, 0, none⟩) Z.length cap := by
   rcases hown.2 with ⟨_, h0⟩ | ⟨g, cap, cur, h, _⟩
   ·omega
   ·exact ⟨g, cap, h⟩
  have hbo : (Value.slice (some ⟨g, 0, none⟩) Z.length cap).ownBlock = some g := rfl
  rw [hbo] at hq
  rw [hbo]
  obtain ⟨n, hn⟩ : ∃ n, n = Z.length := ⟨_, rfl⟩
  obtain ⟨cur0, _, _, _, hncap, hcapm, _⟩ := own_in17 hown
  have HN := hid hn
  have HO := hid hown
  have HQ := hid hq
  have HF := hid hform
  have HK := hid hK
  have hk0n : k0 + 1 ≤ n := by omega
  rw [← hn] at HI HO hl hncap
  rw [← hn]
  have hne1 : ((k0 : Int) == -1) = false := beq_eq_false_iff_ne.2 (by omega)
  clear hown hq hform hi hn hK hbo
  go_enter Tryz.func40, Tryz.ntmps40
  go_wp2_with fail
  refine HI.out.mono ?_
  rintro e w1 ⟨rfl, hb1⟩
  have HJ := hid (show w1.ownsRow B 81 7 (.slice (some ⟨g, 0, none⟩) n cap) n (cellsZ Z) ∧ w.grownBy w1 (some g) from ⟨own_same HO.out hb1, below_grown17 hb1 _⟩)
  clear hb1 HI
  go_wp2_with fail
  go_loopw [5, 6, 7] (fun s5 s6 _ wr => ∃ (i j : Nat) (X : List Zr), s5 = .int .i64 i ∧ s6 = .int .i64 j ∧ j ≤ n ∧ Hid (KpI Z q X i j ∧ wr.ownsRow B 81 7 (.slice (some ⟨g, 0, none⟩) n cap) n (cellsZ X) ∧ w.grownBy wr (some g))) (fun _ s6 _ _ => n - (intOf s6).toNat)
  case atStart => exact ⟨k0, k0 + 1, Z, rfl, by go_num, hk0n, HK.out, HJ.out.1, HJ.out.2⟩
  case round =>
   obtain ⟨i, j, X, rfl, rfl, hjn, HR⟩ := hrel
   by_cases hlt : j < n
   ·have hltz : (j : Int) < (n : Int) := by omega
    have hjZ : j < Z.length := by have := HN.out; omega
    obtain ⟨hk, ho, hg⟩ := HR.out
    have hxl : X.length = n := by rw [hk.1]; exact HN.out.symm
    obtain ⟨g', eg', hr⟩ := own_range17 ho j (by omega)
    injection eg' with eg'
    subst eg'
    rw [hk.get hjZ] at hr
    have hij : i < n := by have := hk.2.1; omega
    have hijz : (i : Int) < (n : Int) := by omega
    have HTh := hid (own_there17 ho (i * 7) 7 (by omega))
    obtain ⟨x, hx⟩ : ∃ x, x = Z[j] := ⟨_, rfl⟩
    rw [← hx] at hr
    have hxm : x ∈ Z := by rw [hx]; exact List.getElem_mem hjZ
    have HKs := hid (show q x.r = true → KpI Z q X i (j + 1) from fun h => hk.skip hjZ (by rw [← hx]; exact h))
    have HKk := hid (show q x.r = false → KpI Z q (X.set i x) (i + 1) (j + 1) from fun h => by rw [hx]; exact hk.keep hjZ (by rw [← hx]; exact h))
    have HOp := hid (fun (Y : World) (hY : Below wr.heap.size wr Y) => own_put17 (own_same ho hY) i hij x)
    have HOs := hid (fun (Y : World) (hY : Below wr.heap.size wr Y) => own_same ho hY)
    have HThY := hid (fun (Y : World) (hY : Below wr.heap.size wr Y) => own_there17 (own_same ho hY) (i * 7) 7 (by omega))
    have HG := hid hg
    obtain ⟨ca, cn, cc, ha, hn', hc, ba, bn, bc, f1, f2, f3⟩ := HF.out x hxm
    have HCL := hid (fun (Y : World) (hY : Below wr.heap.size wr Y) => HQ.out Y x hxm (grown_t17 HG.out (below_grown17 hY _)))
    obtain ⟨y, hy⟩ : ∃ y, y = q x.r := ⟨_, rfl⟩
    rw [← hy] at HCL HKs HKk
    obtain ⟨R, zc, zh, zb⟩ := x
    dsimp only at f1 f2 f3
    subst f1 f2 f3
    obtain ⟨U, hU⟩ : ∃ U : ByteArray, (⟨R.url.toArray⟩ : ByteArray) = U := ⟨_, rfl⟩
    obtain ⟨s1, hs1⟩ : ∃ n, n = R.rp.st := ⟨_, rfl⟩
    obtain ⟨s2, hs2⟩ : ∃ n, n = R.sto := ⟨_, rfl⟩
    obtain ⟨s3, hs3⟩ : ∃ n, n = R.tn := ⟨_, rfl⟩
    have hcs : zCells ⟨R, .slice ca cn cc, .slice ha hn' hc, .slice ba bn bc⟩ = [.string U, .slice ca cn cc, .int .i64 s1, .slice ha hn' hc, .slice ba bn bc, .int .i64 s2, .int .i64 s3] := by unfold zCells; rw [← hU, ← hs1, ← hs2, ← hs3]
    unfold zVal at HCL
    rw [hcs] at hr HCL HOp
    have HRg := hid hr
    have HBA := hid ((Below.refl wr.heap.size wr).alloc (Nat.le_refl _) (.cells #[.string U, .slice ca cn cc, .int .i64 s1, .slice ha hn' hc, .slice ba bn bc, .int .i64 s2, .int .i64 s3] 81))
    have HXg := hid (show g < wr.heap.size from (ho.lt g rfl).2)
    clear hk ho hg hr hx hxm hy hU hcs hs1 hs2 hs3 hxl HR
    have HOne := hid (all_oneCell_toArray (cs := [.string U, .slice ca cn cc, .int .i64 s1, .slice ha hn' hc, .slice ba bn bc, .int .i64 s2, .int .i64 s3]) (by intro v hv; simp at hv; rcases hv with rfl | rfl | rfl | rfl | rfl | rfl | rfl <;> rfl))
    cases y with
    | false =>
     go_wp2_with (refine wpList_load_mid rfl 81 (.tmp 24) rfl g (j * 7) rfl [.string U, .slice ca cn cc, .int .i64 s1, .slice ha hn' hc, .slice ba bn bc, .int .i64 s2, .int .i64 s3] _ HRg.out Tryz.underlying81 rfl sizeRw ?_)
     refine (HCL.out _ HBA.out).mono ?_
     rintro e w2 ⟨rfl, hb2⟩
     have HB2 := hid (below2 HBA.out hb2)
     have HRB := hid (range_row (cs := [.string U, .slice ca cn cc, .int .i64 s1, .slice ha hn' hc, .slice ba bn bc, .int .i64 s2, .int .i64 s3]) ((hb2.block _ (by simp)).trans (heap_alloc_new wr _)))
     have HTw := hid (HThY.out w2 HB2.out)
     obtain ⟨w3, hw3⟩ : ∃ W, W = w2.setCells g (i * 7) [.string U, .slice ca cn cc, .int .i64 s1, .slice ha hn' hc, .slice ba bn bc, .int .i64 s2, .int .i64 s3] := ⟨_, rfl⟩
     have HW3 := hid hw3
     have HP3 := hid (show w3.ownsRow B 81 7 (.slice (some ⟨g, 0, none⟩) n cap) n (cellsZ (X.set i ⟨R, .slice ca cn cc, .slice ha hn' hc, .slice ba bn bc⟩)) ∧ w.grownBy w3 (some g) by rw [hw3]; exact ⟨HOp.out _ HB2.out, grown_t17 HG.out (grown_t17 (below_grown17 HB2.out _) (grown_cells17 g _ _ _))⟩)
     clear hw3
     clear hb2
     go_wp2_with (first | (refine wpList_load_mid rfl 81 (.tmp 7) rfl wr.heap.size 0 rfl [.string U, .slice ca cn cc, .int .i64 s1, .slice ha hn' hc, .slice ba bn bc, .int .i64 s2, .int .i64 s3] _ HRB.out Tryz.underlying81 rfl sizeRw ?_) | (refine wpList_store_mid rfl 81 (.tmp 33) (.tmp 32) rfl g (i * 7) #[.string U, .slice ca cn cc, .int .i64 s1, .slice ha hn' hc, .slice ba bn bc, .int .i64 s2, .int .i64 s3] rfl rfl HTw.out sizeRw HOne.out ?_; refine wpList_world17 HW3.out ?_))
     go_roundw
     case rel =>
      have e4 : KpI Z q (X.set i ⟨R, .slice ca cn cc, .slice ha hn' hc, .slice ba bn bc⟩) (i + 1) (j + 1) ∧ w3.ownsRow B 81 7 (.slice (some ⟨g, 0, none⟩) n cap) n (cellsZ (X.set i ⟨R, .slice ca cn cc, .slice ha hn' hc, .slice ba bn bc⟩)) ∧ w.grownBy w3 (some g) := ⟨HKk.out (by first | rfl | trivial), HP3.out.1, HP3.out.2⟩
      first
       | exact ⟨i + 1, j + 1, _, by go_num, by go_num, by omega, e4⟩
       | ((repeat apply Exists.intro); exact ⟨⟨i + 1, j + 1, _, by go_num, by go_num, by omega, e4⟩, rfl⟩)
     case measure => simp [intOf]; omega
    | true =>
     go_wp2_with (refine wpList_load_mid rfl 81 (.tmp 24) rfl g (j * 7) rfl [.string U, .slice ca cn cc, .int .i64 s1, .slice ha hn' hc, .slice ba bn bc, .int .i64 s2, .int .i64 s3] _ HRg.out Tryz.underlying81 rfl sizeRw ?_)
     refine (HCL.out _ HBA.out).mono ?_
     rintro e w2 ⟨rfl, hb2⟩
     have HB2 := hid (below2 HBA.out hb2)
     have HRB := hid (range_row (cs := [.string U, .slice ca cn cc, .int .i64 s1, .slice ha hn' hc, .slice ba bn bc, .int .i64 s2, .int .i64 s3]) ((hb2.block _ (by simp)).trans (heap_alloc_new wr _)))
     have HTw := hid (HThY.out w2 HB2.out)
     clear hb2
     go_wp2_with fail
     go_roundw
     case rel =>
      have e4 : KpI Z q X i (j + 1) ∧ w2.ownsRow B 81 7 (.slice (some ⟨g, 0, none⟩) n cap) n (cellsZ X) ∧ w.grownBy w2 (some g) := ⟨HKs.out (by first | rfl | trivial), HOs.out _ HB2.out, grown_t17 HG.out (below_grown17 HB2.out _)⟩
      first
       | exact ⟨i, j + 1, _, rfl, by go_num, by omega, e4⟩
       | ((repeat apply Exists.intro); exact ⟨⟨i, j + 1, _, rfl, by go_num, by omega, e4⟩, rfl⟩)
     case measure => simp [intOf]; omega
   ·obtain rfl : j = n := by omega
    have hltz : ¬ (j : Int) < (j : Int) := by omega
    obtain ⟨hk, ho, hg⟩ := HR.out
    rw [HN.out] at hk
    obtain ⟨e1, e2, e3⟩ := hk.done
    rw [← HN.out] at e3
    obtain ⟨vs, hvs, hcl⟩ : ∃ vs : List Value, vs.length = (j - i) * 7 ∧ ∀ ty, (Builtin.clear_ #[70] ty #[.slice (some ⟨g, i * 7, none⟩) (j - i) (cap - i)]).run Tryz.prog wr = .ok (.tuple #[]) (wr.setCells g (i * 7) vs) := by
     have h0 := own_there17 ho (i * 7) ((j - i) * 7) (by omega)
     obtain ⟨vs, h1, h2⟩ := run_clear17 wr 0 g (i * 7) (j - i) (cap - i) (by omega) h0
     exact ⟨vs, h1, fun ty => h2⟩
    have HE := hid (show (wr.setCells g (i * 7) vs).ownsRow B 81 7 (.slice (some ⟨g, 0, none⟩) (Z.filter fun z => !q z.r).length cap) (Z.filter fun z => !q z.r).length (cellsZ (Z.filter fun z => !q z.r)) ∧ w.grownBy (wr.setCells g (i * 7) vs) (some g) by
     have h1 := own_cut17 ho i (by omega) vs (by omega)
     rw [e1] at h1
     rw [e2]
     exact ⟨h1, grown_t17 hg (grown_cells17 g _ _ _)⟩)
    have HL := hid e2
    have hic : i ≤ cap := by omega
    have hij : i < j := by omega
    clear hk ho hg e1 e2 hvs HR
    go_wp2
    go_ret
    refine ⟨some ⟨g, 0, none⟩, cap, ?_, HE.out.1, HE.out.2, fun g' h => by simpa [Value.ownBlock] using h⟩
    rw [HL.out]
    rfl

end Go.Proofs.YtfcmonjfcnfjoaaGreatDoor

namespace Go.Proofs.YtfcmonjfcnfjoaaGreatDoor
open Go.RowKit

theorem cellsZ_oneF {Z : List Zr} (hform : ∀ z ∈ Z, ∃ ca cn cc ha hn hc ba bn bc, z.c = .slice ca cn cc ∧ z.h = .slice ha hn hc ∧ z.b = .slice ba bn bc) : ∀ u ∈ cellsZ Z, u.oneCell' = true := by
 intro u hu
 unfold cellsZ at hu
 obtain ⟨z, hz, hu⟩ := List.mem_flatMap.1 hu
 obtain ⟨ca, cn, cc, ha, hn, hc, ba, bn, bc, e1, e2, e3⟩ := hform z hz
 unfold zCells at hu
 rw [e1, e2, e3] at hu
 simp at hu
 rcases hu with rfl | rfl | rfl | rfl | rfl | rfl | rfl <;> rfl

theorem own_del17 {w : World} {B g n cap : Nat} {T : TypeId} {X : List Zr} (h : w.ownsRow B T 7 (.slice (some ⟨g, 0, none⟩) n cap) n (cellsZ X)) (i : Nat) (hi : i < n) : (w.setCells g (i * 7) (cellsZ (X.drop (i + 1)))).ownsRow B T 7 (.slice (some ⟨g, 0, none⟩) (n - 1) cap) (n - 1) (cellsZ (X.eraseIdx i)) := by
 have hX : X.length = n := by have := h.1; rw [cellsZ_len] at this; omega
 obtain ⟨cur, hg, hrow, _, hnc, hcm, hcs, htake⟩ := own_in17 h
 have hvl : (cellsZ (X.drop (i + 1))).length = (n - 1 - i) * 7 := by rw [cellsZ_len, List.length_drop]; omega
 obtain ⟨vs, hvs⟩ : ∃ vs, vs = cellsZ (X.drop (i + 1)) := ⟨_, rfl⟩
 rw [← hvs] at hvl ⊢
 have h2 := heap_cells17 vs (i * 7) w cur hrow (by rw [hcs, hvl]; omega)
 have ht : (cur.toList.take (i * 7)).length = i * 7 := by rw [List.length_take, Array.length_toList (xs := cur)]; exact Nat.min_eq_left (by omega)
 have e1 : cur.toList.take (i * 7) = cellsZ (X.take i) := by
  rw [← cellsZ_take, ← htake, List.take_take, Nat.min_eq_left (by omega)]
 have e2 : X.eraseIdx i = X.take i ++ X.drop (i + 1) := List.eraseIdx_eq_take_drop_succ X i
 refine ⟨by rw [e2, cellsZ_app, List.length_append, ← hvs, hvl, cellsZ_len, List.length_take]; omega, .inr ⟨g, cap, _, rfl, hg, h2, by omega, hcm, ?_, ?_⟩⟩
 ·clear h2 hrow hcm htake h
  rw [List.size_toArray, List.length_append, List.length_append, ht, List.length_drop, Array.length_toList (xs := cur)]
  omega
 ·show List.take ((n - 1) * 7) (cur.toList.take (i * 7) ++ (vs ++ _)) = _
  have key : ∀ (P Q : List Value), P.length = i * 7 → (P ++ (vs ++ Q)).take ((n - 1) * 7) = P ++ vs := by
   intro P Q hP
   rw [List.take_append, hP, List.take_of_length_le (l := P) (by omega), List.take_append, List.take_of_length_le (l := vs) (by omega), show (n - 1) * 7 - i * 7 - vs.length = 0 by omega, List.take_zero, List.append_nil]
  rw [key _ _ ht, e1, e2, cellsZ_app, hvs]

set_option maxHeartbeats 2000000 in
set_option maxRecDepth 100000 in
theorem delete17_any (g cap i j : Nat) (hj : j = i + 1) (Z : List Zr) (w : World) (B : Nat) (hown : w.ownsRow B 81 7 (.slice (some ⟨g, 0, none⟩) Z.length cap) Z.length (cellsZ Z)) (hi : i < Z.length) (hl : Z.length ≤ 1000000) (hform : ∀ z ∈ Z, ∃ ca cn cc ha hn hc ba bn bc, z.c = .slice ca cn cc ∧ z.h = .slice ha hn hc ∧ z.b = .slice ba bn bc) :
  Calls Tryz.prog 42 #[.slice (some ⟨g, 0, none⟩) Z.length cap, .int .i64 (i : Int), .int .i64 (j : Int)] w fun e w' => e = .returned (.slice (some ⟨g, 0, none⟩) (Z.length - 1) cap) ∧ w'.ownsRow B 81 7 (.slice (some ⟨g, 0, none⟩) (Z.length - 1) cap) (Z.length - 1) (cellsZ (Z.eraseIdx i)) ∧ w.grownBy w' (some g) := by
 obtain ⟨i0, hi0, hz0, hz1, hz2⟩ := info3 infoRw
 obtain ⟨cur0, _, _, _, hncap, hcapm, _⟩ := own_in17 hown
 obtain ⟨news, hnews⟩ : ∃ news, news = cellsZ (Z.drop (i + 1)) := ⟨_, rfl⟩
 obtain ⟨n, hn⟩ : ∃ n, n = Z.length := ⟨_, rfl⟩
 have hlen : news.length = (n - j) * 7 := by rw [hnews, cellsZ_len, List.length_drop, hn, hj]
 have hdel := own_del17 hown i hi
 rw [← hnews] at hdel
 obtain ⟨A, hA, hsrc⟩ : ∃ A : Addr, (if cap = j then some (⟨g, 0, none⟩ : Addr) else some ⟨g, j * 7, none⟩) = some A ∧ Hid (∀ t u, news[t]? = some u → w.drew.cell? (A.add t) = some u) := by
  by_cases h : cap = j
  ·refine ⟨⟨g, 0, none⟩, by simp [h], fun t u hu => ?_⟩
   have h0 : news.length = 0 := by rw [hlen]; omega
   rw [List.length_eq_zero_iff.1 h0] at hu
   simp at hu
  ·refine ⟨⟨g, j * 7, none⟩, by simp [h], fun t u hu => ?_⟩
   rw [hnews, ← cellsZ_drop, List.getElem?_drop, ← hj] at hu
   rw [Addr.add_mid]
   have hlt := (List.getElem?_eq_some_iff.1 hu).1
   rw [cellsZ_len] at hlt
   have := hown.cellAt (j * 7 + t) hlt
   show w.cell? _ = _
   rw [this]
   exact hu
 have s1 : Hid (news.length = (n - j) * 7) := hlen
 have s2 : Hid (∀ u ∈ news, u.oneCell' = true) := by
  intro u hu
  rw [hnews] at hu
  exact cellsZ_oneF (fun z hz => hform z (List.mem_of_mem_drop hz)) u hu
 have s3 : Hid (∀ t, t < news.length → (w.drew.cell? ⟨g, 0 + i * 7 + t, none⟩).isSome = true ∧ w.drew.frozen? ⟨g, 0 + i * 7 + t, none⟩ = false) := by
  intro t ht
  rw [hlen] at ht
  have h0 := own_there17 hown (i * 7) ((n - j) * 7) (by omega)
  rw [Nat.zero_add]
  exact h0 t ht
 obtain ⟨W1, hW1⟩ : ∃ W1, W1 = w.drew.setCells g (0 + i * 7) news := ⟨_, rfl⟩
 have hO1 : W1.ownsRow B 81 7 (.slice (some ⟨g, 0, none⟩) (n - 1) cap) (n - 1) (cellsZ (Z.eraseIdx i)) := by
  rw [hW1, Nat.zero_add, hn]
  have hd : w.drew.ownsRow B 81 7 (.slice (some ⟨g, 0, none⟩) Z.length cap) Z.length (cellsZ Z) := hown
  have := own_del17 hd i hi
  rw [← hnews] at this
  exact this
 have hG1 : w.grownBy W1 (some g) := by
  rw [hW1]
  exact grown_t17 (b := w.drew) ⟨rfl, rfl, rfl, Nat.le_refl _, fun _ _ _ => rfl⟩ (grown_cells17 g _ _ _)
 obtain ⟨vs, hvs, hcl⟩ : ∃ vs : List Value, vs.length = 7 ∧ ∀ ty, (Builtin.clear_ #[70] ty #[.slice (some ⟨g, (n - 1) * 7, none⟩) 1 (cap - (n - 1))]).run Tryz.prog W1 = .ok (.tuple #[]) (W1.setCells g ((n - 1) * 7) vs) := by
  have h0 := own_there17 hO1 ((n - 1) * 7) (1 * 7) (by omega)
  obtain ⟨vs, h1, h2⟩ := run_clear17 W1 0 g ((n - 1) * 7) 1 (cap - (n - 1)) (by omega) h0
  exact ⟨vs, h1, fun ty => h2⟩
 have HE := hid (show (W1.setCells g ((n - 1) * 7) vs).ownsRow B 81 7 (.slice (some ⟨g, 0, none⟩) (n - 1) cap) (n - 1) (cellsZ (Z.eraseIdx i)) ∧ w.grownBy (W1.setCells g ((n - 1) * 7) vs) (some g) by
  have h1 := own_cut17 hO1 (n - 1) (Nat.le_refl _) vs (by omega)
  rw [List.take_of_length_le (by rw [List.length_eraseIdx]; split <;> omega)] at h1
  exact ⟨h1, grown_t17 hG1 (grown_cells17 g _ _ _)⟩)
 have hW : Hid (W1 = w.drew.setCells g (0 + i * 7) news) := hW1
 rw [← hn] at hi hl hncap ⊢
 have hic : i ≤ cap := by omega
 have hjc : j ≤ cap := by omega
 have hjn : j ≤ n := by omega
 have hij : i < j := by omega
 have hne : ((i : Int) == (j : Int)) = false := beq_eq_false_iff_ne.2 (by omega)
 have hcl2 : ∀ ty, (Builtin.clear_ #[70] ty #[.slice (some ⟨g, (i + (n - j)) * 7, none⟩) (n - (i + (n - j))) (cap - (i + (n - j)))]).run Tryz.prog W1 = .ok (.tuple #[]) (W1.setCells g ((n - 1) * 7) vs) := by
  rw [show i + (n - j) = n - 1 by omega, show n - (n - 1) = 1 by omega]
  exact hcl
 have HNJ := hid (show i + (n - j) = n - 1 by omega)
 clear hown hnews hlen hdel hW1 hO1 hG1 hvs hform hn hcl hj
 go_enter Tryz.func42, Tryz.ntmps42
 go_wp2_with fail
 go_region_law (refine step_append_room rfl (.tmp 22) (.tmp 25) 70 rfl 81 i0 7 Tryz.underlying70 hi0 hz1 g 0 i cap (by simp [Act.eval, Act.put]) A (n - j) (cap - j) news (by simp [Act.eval, Act.put]) s1.out hsrc.out s2.out (by omega) s3.out ?_; rw [← hW.out])
 go_wp2
 go_ret
 refine ⟨?_, HE.out.1, HE.out.2⟩
 rw [← HNJ.out]
 rfl

end Go.Proofs.YtfcmonjfcnfjoaaGreatDoor
