/-
  Walks and plain facts that this claim leans on, put together out of 3 texts: Ehc, Ehd, Ehe.
-/
import Derived.Test.YtfcmonjfcnfjoaaGreatDoorProg
import Derived.Test.YtfcmonjfcnfjoaaGreatDoorQc1
import Derived.Test.YtfcmonjfcnfjoaaGreatDoorQc2
import Derived.Test.YtfcmonjfcnfjoaaGreatDoorQc3
import Derived.Test.YtfcmonjfcnfjoaaGreatDoorQc4
import Derived.Test.YtfcmonjfcnfjoaaGreatDoorQc5
import Derived.Test.YtfcmonjfcnfjoaaGreatDoorQc6
import Derived.Test.YtfcmonjfcnfjoaaGreatDoorQc7
import Derived.BigRegion
import Derived.Deep.RegionHeld
import Derived.Deep.RegionHeldLaw
import Derived.Lib.IndexAny
import Derived.WalkKit
import Derived.Lib.UnsafeStr
import Derived.Lib.BufferRead
import Derived.Lib.RuneBytes
import Derived.Laws.RangeAny
import Derived.Deep.LoopGhost
import Derived.Maps.OwnSet
import Derived.Maps.OwnOps
import Derived.Maps.AppendAt
import Derived.StringKeys
import Derived.BigQuiet
import Derived.Deep.QuietTactic
import Derived.LoopN
import Derived.RegionTactic
import Derived.Deep.RegionLaw
import Derived.Deep.RegionWith
import Derived.WalkSpells
import Derived.WalkLawsBesides
import Derived.Lib.FieldsP
import Derived.Lib.DecodeN
import Derived.Lib.IndexMore
import Derived.Lib.Join
import Derived.Lib.SmallJoins
import Derived.Laws.CopyOwn
import Derived.Laws.ResultCell
import Derived.Deep.MidRow
import Derived.Laws.OwnMore
import Derived.Below
import Derived.WalkSmall
import Derived.Lib.LaidTab
import Derived.Lib.AppendIntMem
import Derived.Laws.AppendOwn
import Derived.Laws.Runes
import Derived.Lib.OthersKept
import Derived.Lib.FrozenHead2
import Derived.Lib.Builder
import Derived.Lib.AppendStr
import Derived.Lib.Replace
import Derived.Shelf.GgClosure.GivesRunes
import Derived.Laws.BitsAll
import Derived.Laws.Shifts
import Derived.Deep.DeepAppendRoom
import Derived.Laws.IdiomStrings
import Derived.Laws.BytesString
import Derived.Laws.CopyRow
import Derived.Sort.OwnSorted
import Derived.Lib.SlicesCompact
import Derived.Shelf.Slices.In.SortNone
import Derived.Shelf.Slices.CompactS
import Derived.Lib.Strings
import Derived.Laws.BitsAllLaws
import Derived.Lib.Bytealg
import Derived.Lib.BufferMore
import Derived.Shelf.Strings.Builder1
import Derived.Shelf.Strings.Builder2
import Derived.Shelf.Strings.OnBuilder
import Derived.Shelf.Strings.Trim
import Derived.Shelf.Small.Utf8
import Derived.Shelf.Small.Bits
import Derived.Shelf.Small.Strs
import Derived.Shelf.Small.Wraps
import Derived.Shelf.Strings.BuilderF
import Derived.Shelf.Strings.BuilderK
import Derived.Shelf.Strings.Builder2Cap
import Derived.Shelf.Strconv.Itoa0
import Derived.Shelf.Strconv.Itoa1
import Derived.Shelf.LaysM
import Derived.Shelf.Strconv.Itoa2
import Derived.Shelf.Strconv.Itoa3
import Derived.Shelf.Strings.Search1
import Derived.Shelf.Strings.Search2
import Derived.Shelf.Strings.Cut
import Derived.Shelf.Strings.Shaped
import Derived.Shelf.Sort.Plain
import Derived.Shelf.Strings.Prefix
import Derived.Shelf.Strings.Runes
import Derived.Shelf.Strings.IndexAny
import Derived.Shelf.Strings.AsciiSet
import Derived.Shelf.Strings.IndexAnyAll
import Derived.Shelf.Unicode.DecodeSlow
import Derived.Shelf.Unicode.DecodeAny
import Derived.Shelf.Unicode.DecodeLast
import Derived.Lib.SlTrimSet
import Derived.Shelf.Strings.SlTrimAscii
import Derived.Deep.CutRange
import Derived.Laws.Rows
import Derived.Laws.MakeOwn
import Derived.Deep.WholeRow
import Derived.Laws.AppendOwnNone
import Derived.Lib.SliceRun
set_option linter.unusedSimpArgs false
set_option linter.unusedVariables false

namespace Go.Proofs.YtfcmonjfcnfjoaaGreatDoor
open Go.RowKit

def Szo (L : List Hd) : Prop := Szd 140737488351232 L ∧ L.length ≤ 1000000 ∧ bulkV L ≤ 1000000

theorem Hk.szo {L : List Hd} (h : Hk L) : Szo L := h.szd

def Th3 (w : World) (b : Nat) (n v : ByteArray) (t : Bool) : Prop := w.heap[b]? = some (.cells #[.string n, .string v, .bool t] 125 (0, 0))

theorem Th3.range {w : World} {b : Nat} {n v : ByteArray} {t : Bool} (h : Th3 w b n v t) : w.rangeAt b 0 [.string n, .string v, .bool t] := fun j u hu => by
 rw [Nat.zero_add, Lib.cell_of_heap h]
 match j, hu with
 | 0, hu => simpa using hu
 | 1, hu => simpa using hu
 | 2, hu => simpa using hu
 | j + 3, hu => simp at hu

theorem Th3.cells {w : World} {b : Nat} {n v : ByteArray} {t : Bool} (h : Th3 w b n v t) : w.cell? ⟨b, 0, none⟩ = some (.string n) ∧ w.cell? ⟨b, 1, none⟩ = some (.string v) ∧ w.cell? ⟨b, 2, none⟩ = some (.bool t) ∧ w.frozen? ⟨b, 0, none⟩ = false ∧ w.frozen? ⟨b, 1, none⟩ = false ∧ w.frozen? ⟨b, 2, none⟩ = false :=
 ⟨by rw [Lib.cell_of_heap h]; rfl, by rw [Lib.cell_of_heap h]; rfl, by rw [Lib.cell_of_heap h]; rfl, Lib.frozen_of_heap h 0, Lib.frozen_of_heap h 1, Lib.frozen_of_heap h 2⟩

theorem Th3.set {w : World} {b : Nat} {n v n' v' : ByteArray} {t t' : Bool} (h : Th3 w b n v t) : Th3 (((w.setCell ⟨b, 0, none⟩ (.string n')).setCell ⟨b, 1, none⟩ (.string v')).setCell ⟨b, 2, none⟩ (.bool t')) b n' v' t' := by
 have h1 := Lib.heap_setCell_same h (i := 0) (.string n')
 have h2 := Lib.heap_setCell_same h1 (i := 1) (.string v')
 exact Lib.heap_setCell_same h2 (i := 2) (.bool t')

theorem results_ch {fn : Func} {p : Tmp} (h : fn.results = #[.cell p 125]) (tmps : Array Value) (w : World) (b : Nat) (n v : ByteArray) (t : Bool) (hp : tmps.getD p undef = .pointer (some ⟨b, 0, none⟩)) (hc : w.rangeAt b 0 [.string n, .string v, .bool t]) : (results fn tmps).run Tryz.prog w = .ok (.agg #[.string n, .string v, .bool t]) w := by
 rw [Array.getD_eq_getD_getElem?] at hp
 simp only [results, h]
 simp [Sem.run_bind, Result.andThen, hp, asAddr, run_loadVar_mid w b 0 125 [.string n, .string v, .bool t] _ hc Tryz.underlying125 rfl (by kernel_rfl)]

set_option maxHeartbeats 2000000 in
theorem choose_any (v : Value) (A : List Hd) (n : ByteArray) (w : World) (h : HdAt w v A) (hz : Szo A) (hn : n.size ≤ 140737488351232) :
  Calls Tryz.prog 80 #[v, .string n] w fun e w' => e = .returned (.agg #[.string n, .string ⟨(getT A n.data.toList).toArray⟩, .bool (getB A n.data.toList)]) ∧ Below w.heap.size w w' := by
 have HG := hid (fun (Y : World) (hY : Below w.heap.size w Y) => get_any v A n Y (h.kept hY) hn hz.1 hz.2.1 (by have := hz.2.2; omega))
 obtain ⟨a1, c1, rfl, _, _, _⟩ := h.view
 obtain ⟨T, hT⟩ : ∃ T : ByteArray, T = ⟨(getT A n.data.toList).toArray⟩ := ⟨_, rfl⟩
 obtain ⟨t, ht⟩ : ∃ t, t = getB A n.data.toList := ⟨_, rfl⟩
 rw [← hT, ← ht] at HG ⊢
 have H0 := hid (show Th3 (w.alloc (.cells #[.string ByteArray.empty, .string ByteArray.empty, .bool false] 125)) w.heap.size ByteArray.empty ByteArray.empty false from heap_alloc_new _ _)
 clear h hT ht hz
 go_enter Tryz.func80, Tryz.ntmps80
 go_wp2_with fail
 refine (HG.out _ ((Below.refl _ w).alloc (Nat.le_refl _) _)).mono ?_
 rintro e w1 ⟨rfl, hb1⟩
 have hh1 : Th3 w1 w.heap.size ByteArray.empty ByteArray.empty false := (hb1.block _ (by simp)).trans H0.out
 obtain ⟨c0, c1, c2, f0, f1, f2⟩ := hh1.cells
 have hbw : Below w.heap.size w w1 := (belowA (Below.refl _ w) _).trans (hb1.mono (by simp))
 have HH := hid hh1
 clear hh1
 go_wp2
 exact bodyPost_ret (results_ch rfl _ _ w.heap.size n T t rfl HH.out.set.range) rfl ⟨rfl, ((hbw.setCell (p := ⟨w.heap.size, 0, none⟩) (Nat.le_refl _) _).setCell (p := ⟨w.heap.size, 1, none⟩) (Nat.le_refl _) _).setCell (p := ⟨w.heap.size, 2, none⟩) (Nat.le_refl _) _⟩

theorem sizeCh : (Tryz.prog.info? 125).map (·.size) = some 3 := by kernel_rfl

def choVal (c : Cho) : Value := .agg #[.string ⟨c.name.toArray⟩, .string ⟨c.value.toArray⟩, .bool c.there]

set_option maxHeartbeats 4000000 in
theorem meant11_any (pa : Nat) (v : Value) (A : List Hd) (c : Cho) (w : World) (h : HdAt w v A) (hz : Szo A) (hp : w.cell? ⟨pa, 0, none⟩ = some v) (hn : c.name.length ≤ 140737488351232) :
  Calls Tryz.prog 79 #[choVal c, .pointer (some ⟨pa, 0, none⟩)] w fun e w' => e = .returned (.bool (decide (choV A c.name ≠ c))) ∧ Below w.heap.size w w' := by
 obtain ⟨n', v', t'⟩ := c
 obtain ⟨N, hN⟩ : ∃ N : ByteArray, N = ⟨n'.toArray⟩ := ⟨_, rfl⟩
 obtain ⟨V, hV⟩ : ∃ N : ByteArray, N = ⟨v'.toArray⟩ := ⟨_, rfl⟩
 have hNl : N.data.toList = n' := by rw [hN]
 have HG := hid (fun (Y : World) (hY : Below w.heap.size w Y) => choose_any v A N Y (h.kept hY) hz (by rw [hN, xsize]; exact hn))
 obtain ⟨a1, c1, rfl, _, _, _⟩ := h.view
 rw [hNl] at HG
 obtain ⟨T, hT⟩ : ∃ T : ByteArray, T = ⟨(getT A n').toArray⟩ := ⟨_, rfl⟩
 obtain ⟨t, ht⟩ : ∃ t, t = getB A n' := ⟨_, rfl⟩
 rw [← hT, ← ht] at HG
 have HR := hid (show decide (choV A n' ≠ ⟨n', v', t'⟩) = !(decide (T = V) && decide (t = t')) by
  unfold choV
  rw [← ht]
  have e : (getT A n' = v') ↔ T = V := by
   rw [hT, hV]
   constructor
   ·rintro rfl; rfl
   ·intro h; have := congrArg (fun b : ByteArray => b.data.toList) h; simpa using this
  by_cases h1 : T = V
  ·have h2 := e.2 h1
   by_cases h3 : t = t' <;> simp [h1, h2, h3]
  ·have h2 : ¬ getT A n' = v' := fun h => h1 (e.1 h)
   simp [h1, h2])
 unfold choVal
 dsimp only
 rw [← hN, ← hV]
 rw [HR.out]
 obtain ⟨W1, hW1⟩ : ∃ X, w.alloc (.cells #[.string N, .string V, .bool t'] 125) = X := ⟨_, rfl⟩
 have hb1 : Below w.heap.size w W1 := by rw [← hW1]; exact (Below.refl _ w).alloc (Nat.le_refl _) _
 have hr1 : Th3 W1 w.heap.size N V t' := by rw [← hW1]; exact heap_alloc_new w _
 have d0 : W1.cell? ⟨pa, 0, none⟩ = some (.slice a1 A.length c1) := (hb1.cell (World.block_lt_of_cell? w _ hp)).trans hp
 obtain ⟨d1, d2, d3, f1, f2, f3⟩ := hr1.cells
 have HB1 := hid hb1
 have HW1 := hid hW1
 have HC := hid (fun (Y : World) (hY : Below W1.heap.size W1 Y) => HG.out Y (below2 hb1 hY))
 have HT3 := hid hr1
 have HP := hid d0
 have HW1s := hid (show W1.heap.size = w.heap.size + 1 by rw [← hW1]; simp)
 clear h hz hp hn hN hV hNl hT ht HG hb1 hr1 HR
 have HKF := hid (fun (Z : World) (hZ : Below W1.heap.size W1 Z) => (show Z.cell? ⟨pa, 0, none⟩ = some (.slice a1 A.length c1) ∧ Z.cell? ⟨w.heap.size, 0, none⟩ = some (.string N) ∧ Z.cell? ⟨w.heap.size, 1, none⟩ = some (.string V) ∧ Z.cell? ⟨w.heap.size, 2, none⟩ = some (.bool t') from by
  have h3 : Th3 Z w.heap.size N V t' := (hZ.block _ (by have := HW1s.out; omega)).trans HT3.out
  exact ⟨(hZ.cell (World.block_lt_of_cell? W1 _ HP.out)).trans HP.out, h3.cells.1, h3.cells.2.1, h3.cells.2.2.1⟩))
 have HRN := hid (fun (Z : World) (hZ : Below W1.heap.size W1 Z) => (show Z.rangeAt w.heap.size 0 [.string N, .string V, .bool t'] from by
  have h3 : Th3 Z w.heap.size N V t' := (hZ.block _ (by have := HW1s.out; omega)).trans HT3.out
  exact h3.range))
 have HQ0 := hid ((Below.refl W1.heap.size W1).drew)
 clear d0 d1 d2 d3 f1 f2 f3
 by_cases h1 : T = V
 ·subst h1
  by_cases h2 : t = t'
  ·subst h2
   go_enter Tryz.func79, Tryz.ntmps79
   go_upto_region 1 with fail
   refine wp_region_held_drew (S := (fun wx => Below W1.heap.size W1 wx)) (by kernel_rfl) HQ0.out (fun hHeld => ?_)
   refine wpAnyH_to (fuel' := 7) (listed' := #[false, false, false, false, false, false, false]) rfl rfl ?_
   refine' wpAnyH_take (i := 0) (oi := ⟨some 4, _, _, _, _, _⟩) (v := _) rfl (by kernel_rfl) (by kernel_rfl) (by kernel_rfl) (fun _ _ _ h => h) (Or.inl ⟨by kernel_rfl, ?hyca1⟩) (by assumption) ?restca1
   case hyca1 => (intro wx hSw; (try dsimp only at hSw); obtain ⟨f1, f2, f3, f4⟩ := HKF.out _ hSw; go_simp; first | done | with_reducible rfl)
   (try simp only [Act.put, List.setIfInBounds_toArray, List.set_cons_zero, List.set_cons_succ])
   refine' wpAnyH_take (i := 1) (oi := ⟨some 5, _, _, _, _, _⟩) (v := _) rfl (by kernel_rfl) (by kernel_rfl) (by kernel_rfl) (fun _ _ _ h => h) (Or.inl ⟨by kernel_rfl, ?hyca2⟩) (by assumption) ?restca2
   case hyca2 => (intro wx hSw; (try dsimp only at hSw); obtain ⟨f1, f2, f3, f4⟩ := HKF.out _ hSw; go_simp; first | done | with_reducible rfl)
   (try simp only [Act.put, List.setIfInBounds_toArray, List.set_cons_zero, List.set_cons_succ])
   refine' wpAnyH_take (i := 2) (oi := ⟨some 6, _, _, _, _, _⟩) (v := _) rfl (by kernel_rfl) (by kernel_rfl) (by kernel_rfl) (fun _ _ _ h => h) (Or.inl ⟨by kernel_rfl, ?hyca3⟩) (by assumption) ?restca3
   case hyca3 => (intro wx hSw; (try dsimp only at hSw); obtain ⟨f1, f2, f3, f4⟩ := HKF.out _ hSw; go_simp; first | done | with_reducible rfl)
   (try simp only [Act.put, List.setIfInBounds_toArray, List.set_cons_zero, List.set_cons_succ])
   refine wpAnyH_take (i := 4) (oi := ⟨some 8, _, _, _, _, _⟩) rfl (by kernel_rfl) (by kernel_rfl) (by kernel_rfl) (fun _ _ _ h => h) (yieldsIf_load_mid (by kernel_rfl) 125 (.tmp 2) rfl (w.heap.size) 0 rfl [.string N, .string T, .bool t] _ HRN.out Tryz.underlying125 rfl sizeCh) (by assumption) ?_
   (try simp only [Act.put, List.setIfInBounds_toArray, List.set_cons_zero, List.set_cons_succ])
   refine wpAnyH_ready (rs := [3]) (by kernel_rfl) (by simp) ?_
   refine AllReadyH.cons rfl (fun K9 hK => ?_) AllReadyH.nil
   rw [if_pos (by kernel_rfl)]
   go_simp
   go_wp2_with (go_at_call 80; refine (HC.out _ HQ0.out).mono ?_; rintro e w4 ⟨rfl, hba⟩)
   have HQ4 := hid (below2 HQ0.out hba)
   clear hba
   refine hK.out _ _ HQ4.out (fun hHeld2 => ?_)
   clear hK K9 hHeld
   rename _ => hHeld
   refine' wpAnyH_take (i := 5) (oi := ⟨some 9, _, _, _, _, _⟩) (v := _) rfl (by kernel_rfl) (by kernel_rfl) (by kernel_rfl) (fun _ _ _ h => h) (Or.inl ⟨by kernel_rfl, ?hyca4⟩) (by assumption) ?restca4
   case hyca4 => (intro wx hSw; (try dsimp only at hSw); obtain ⟨f1, f2, f3, f4⟩ := HKF.out _ hSw; go_simp; first | done | with_reducible rfl)
   (try simp only [Act.put, List.setIfInBounds_toArray, List.set_cons_zero, List.set_cons_succ])
   refine' wpAnyH_take (i := 6) (oi := ⟨some 3, _, _, _, _, _⟩) (v := _) rfl (by kernel_rfl) (by kernel_rfl) (by kernel_rfl) (fun _ _ _ h => h) (Or.inl ⟨by kernel_rfl, ?hyca5⟩) (by assumption) ?restca5
   case hyca5 => (intro wx hSw; (try dsimp only at hSw); obtain ⟨f1, f2, f3, f4⟩ := HKF.out _ hSw; go_simp; first | done | with_reducible rfl)
   (try simp only [Act.put, List.setIfInBounds_toArray, List.set_cons_zero, List.set_cons_succ])
   refine wpAnyH_done (by kernel_rfl) ?_ _
   go_wp2
   go_ret
   exact ⟨by simp, below2 HB1.out HQ4.out⟩
  ·have hb : (t == t') = false := beq_eq_false_iff_ne.2 h2
   have HB := hid (show (!(decide (T = T) && decide (t = t'))) = true by simp [h2])
   clear h2
   go_enter Tryz.func79, Tryz.ntmps79
   go_upto_region 1 with fail
   refine wp_region_held_drew (S := (fun wx => Below W1.heap.size W1 wx)) (by kernel_rfl) HQ0.out (fun hHeld => ?_)
   refine wpAnyH_to (fuel' := 7) (listed' := #[false, false, false, false, false, false, false]) rfl rfl ?_
   refine' wpAnyH_take (i := 0) (oi := ⟨some 4, _, _, _, _, _⟩) (v := _) rfl (by kernel_rfl) (by kernel_rfl) (by kernel_rfl) (fun _ _ _ h => h) (Or.inl ⟨by kernel_rfl, ?hycb1⟩) (by assumption) ?restcb1
   case hycb1 => (intro wx hSw; (try dsimp only at hSw); obtain ⟨f1, f2, f3, f4⟩ := HKF.out _ hSw; go_simp; first | done | with_reducible rfl)
   (try simp only [Act.put, List.setIfInBounds_toArray, List.set_cons_zero, List.set_cons_succ])
   refine' wpAnyH_take (i := 1) (oi := ⟨some 5, _, _, _, _, _⟩) (v := _) rfl (by kernel_rfl) (by kernel_rfl) (by kernel_rfl) (fun _ _ _ h => h) (Or.inl ⟨by kernel_rfl, ?hycb2⟩) (by assumption) ?restcb2
   case hycb2 => (intro wx hSw; (try dsimp only at hSw); obtain ⟨f1, f2, f3, f4⟩ := HKF.out _ hSw; go_simp; first | done | with_reducible rfl)
   (try simp only [Act.put, List.setIfInBounds_toArray, List.set_cons_zero, List.set_cons_succ])
   refine' wpAnyH_take (i := 2) (oi := ⟨some 6, _, _, _, _, _⟩) (v := _) rfl (by kernel_rfl) (by kernel_rfl) (by kernel_rfl) (fun _ _ _ h => h) (Or.inl ⟨by kernel_rfl, ?hycb3⟩) (by assumption) ?restcb3
   case hycb3 => (intro wx hSw; (try dsimp only at hSw); obtain ⟨f1, f2, f3, f4⟩ := HKF.out _ hSw; go_simp; first | done | with_reducible rfl)
   (try simp only [Act.put, List.setIfInBounds_toArray, List.set_cons_zero, List.set_cons_succ])
   refine wpAnyH_take (i := 4) (oi := ⟨some 8, _, _, _, _, _⟩) rfl (by kernel_rfl) (by kernel_rfl) (by kernel_rfl) (fun _ _ _ h => h) (yieldsIf_load_mid (by kernel_rfl) 125 (.tmp 2) rfl (w.heap.size) 0 rfl [.string N, .string T, .bool t'] _ HRN.out Tryz.underlying125 rfl sizeCh) (by assumption) ?_
   (try simp only [Act.put, List.setIfInBounds_toArray, List.set_cons_zero, List.set_cons_succ])
   refine wpAnyH_ready (rs := [3]) (by kernel_rfl) (by simp) ?_
   refine AllReadyH.cons rfl (fun K9 hK => ?_) AllReadyH.nil
   rw [if_pos (by kernel_rfl)]
   go_simp
   go_wp2_with (go_at_call 80; refine (HC.out _ HQ0.out).mono ?_; rintro e w4 ⟨rfl, hba⟩)
   have HQ4 := hid (below2 HQ0.out hba)
   clear hba
   refine hK.out _ _ HQ4.out (fun hHeld2 => ?_)
   clear hK K9 hHeld
   rename _ => hHeld
   refine' wpAnyH_take (i := 5) (oi := ⟨some 9, _, _, _, _, _⟩) (v := _) rfl (by kernel_rfl) (by kernel_rfl) (by kernel_rfl) (fun _ _ _ h => h) (Or.inl ⟨by kernel_rfl, ?hycb4⟩) (by assumption) ?restcb4
   case hycb4 => (intro wx hSw; (try dsimp only at hSw); obtain ⟨f1, f2, f3, f4⟩ := HKF.out _ hSw; go_simp; first | done | with_reducible rfl)
   (try simp only [Act.put, List.setIfInBounds_toArray, List.set_cons_zero, List.set_cons_succ])
   refine' wpAnyH_take (i := 6) (oi := ⟨some 3, _, _, _, _, _⟩) (v := _) rfl (by kernel_rfl) (by kernel_rfl) (by kernel_rfl) (fun _ _ _ h => h) (Or.inl ⟨by kernel_rfl, ?hycb5⟩) (by assumption) ?restcb5
   case hycb5 => (intro wx hSw; (try dsimp only at hSw); obtain ⟨f1, f2, f3, f4⟩ := HKF.out _ hSw; go_simp; first | done | with_reducible rfl)
   (try simp only [Act.put, List.setIfInBounds_toArray, List.set_cons_zero, List.set_cons_succ])
   refine wpAnyH_done (by kernel_rfl) ?_ _
   go_wp2
   go_ret
   exact ⟨by rw [HB.out]; rfl, below2 HB1.out HQ4.out⟩
 ·have hb : (T.toList == V.toList) = false := strNe h1
  have HB := hid (show (!(decide (T = V) && decide (t = t'))) = true by simp [h1])
  clear h1
  go_enter Tryz.func79, Tryz.ntmps79
  go_upto_region 1 with fail
  refine wp_region_held_drew (S := (fun wx => Below W1.heap.size W1 wx)) (by kernel_rfl) HQ0.out (fun hHeld => ?_)
  refine wpAnyH_to (fuel' := 7) (listed' := #[false, false, false, false, false, false, false]) rfl rfl ?_
  refine' wpAnyH_take (i := 0) (oi := ⟨some 4, _, _, _, _, _⟩) (v := _) rfl (by kernel_rfl) (by kernel_rfl) (by kernel_rfl) (fun _ _ _ h => h) (Or.inl ⟨by kernel_rfl, ?hycc1⟩) (by assumption) ?restcc1
  case hycc1 => (intro wx hSw; (try dsimp only at hSw); obtain ⟨f1, f2, f3, f4⟩ := HKF.out _ hSw; go_simp; first | done | with_reducible rfl)
  (try simp only [Act.put, List.setIfInBounds_toArray, List.set_cons_zero, List.set_cons_succ])
  refine' wpAnyH_take (i := 1) (oi := ⟨some 5, _, _, _, _, _⟩) (v := _) rfl (by kernel_rfl) (by kernel_rfl) (by kernel_rfl) (fun _ _ _ h => h) (Or.inl ⟨by kernel_rfl, ?hycc2⟩) (by assumption) ?restcc2
  case hycc2 => (intro wx hSw; (try dsimp only at hSw); obtain ⟨f1, f2, f3, f4⟩ := HKF.out _ hSw; go_simp; first | done | with_reducible rfl)
  (try simp only [Act.put, List.setIfInBounds_toArray, List.set_cons_zero, List.set_cons_succ])
  refine' wpAnyH_take (i := 2) (oi := ⟨some 6, _, _, _, _, _⟩) (v := _) rfl (by kernel_rfl) (by kernel_rfl) (by kernel_rfl) (fun _ _ _ h => h) (Or.inl ⟨by kernel_rfl, ?hycc3⟩) (by assumption) ?restcc3
  case hycc3 => (intro wx hSw; (try dsimp only at hSw); obtain ⟨f1, f2, f3, f4⟩ := HKF.out _ hSw; go_simp; first | done | with_reducible rfl)
  (try simp only [Act.put, List.setIfInBounds_toArray, List.set_cons_zero, List.set_cons_succ])
  refine wpAnyH_take (i := 4) (oi := ⟨some 8, _, _, _, _, _⟩) rfl (by kernel_rfl) (by kernel_rfl) (by kernel_rfl) (fun _ _ _ h => h) (yieldsIf_load_mid (by kernel_rfl) 125 (.tmp 2) rfl (w.heap.size) 0 rfl [.string N, .string V, .bool t'] _ HRN.out Tryz.underlying125 rfl sizeCh) (by assumption) ?_
  (try simp only [Act.put, List.setIfInBounds_toArray, List.set_cons_zero, List.set_cons_succ])
  refine wpAnyH_ready (rs := [3]) (by kernel_rfl) (by simp) ?_
  refine AllReadyH.cons rfl (fun K9 hK => ?_) AllReadyH.nil
  rw [if_pos (by kernel_rfl)]
  go_simp
  go_wp2_with (go_at_call 80; refine (HC.out _ HQ0.out).mono ?_; rintro e w4 ⟨rfl, hba⟩)
  have HQ4 := hid (below2 HQ0.out hba)
  clear hba
  refine hK.out _ _ HQ4.out (fun hHeld2 => ?_)
  clear hK K9 hHeld
  rename _ => hHeld
  refine' wpAnyH_take (i := 5) (oi := ⟨some 9, _, _, _, _, _⟩) (v := _) rfl (by kernel_rfl) (by kernel_rfl) (by kernel_rfl) (fun _ _ _ h => h) (Or.inl ⟨by kernel_rfl, ?hycc4⟩) (by assumption) ?restcc4
  case hycc4 => (intro wx hSw; (try dsimp only at hSw); obtain ⟨f1, f2, f3, f4⟩ := HKF.out _ hSw; go_simp; first | done | with_reducible rfl)
  (try simp only [Act.put, List.setIfInBounds_toArray, List.set_cons_zero, List.set_cons_succ])
  refine' wpAnyH_take (i := 6) (oi := ⟨some 3, _, _, _, _, _⟩) (v := _) rfl (by kernel_rfl) (by kernel_rfl) (by kernel_rfl) (fun _ _ _ h => h) (Or.inl ⟨by kernel_rfl, ?hycc5⟩) (by assumption) ?restcc5
  case hycc5 => (intro wx hSw; (try dsimp only at hSw); obtain ⟨f1, f2, f3, f4⟩ := HKF.out _ hSw; go_simp; first | done | with_reducible rfl)
  (try simp only [Act.put, List.setIfInBounds_toArray, List.set_cons_zero, List.set_cons_succ])
  refine wpAnyH_done (by kernel_rfl) ?_ _
  go_wp2
  go_ret
  exact ⟨by rw [HB.out]; rfl, below2 HB1.out HQ4.out⟩

end Go.Proofs.YtfcmonjfcnfjoaaGreatDoor

namespace Go.Proofs.YtfcmonjfcnfjoaaGreatDoor
open Go.RowKit

def chCells (c : Cho) : List Value := [.string ⟨c.name.toArray⟩, .string ⟨c.value.toArray⟩, .bool c.there]

def ChAt (w : World) (v : Value) (L : List Cho) : Prop :=
 ∃ a cap, v = .slice a L.length cap ∧ L.length ≤ cap ∧ cap ≤ maxLen ∧ ∀ i (h : i < L.length), ∃ g o, a = some ⟨g, o, none⟩ ∧ w.rangeAt g (o + i * 3) (chCells L[i])

theorem ChAt.view {w : World} {v : Value} {L : List Cho} (h : ChAt w v L) : ∃ a cap, v = .slice a L.length cap ∧ L.length ≤ cap ∧ cap ≤ maxLen ∧ ∀ i (h : i < L.length), ∃ g o, a = some ⟨g, o, none⟩ ∧ w.rangeAt g (o + i * 3) (chCells L[i]) := h

theorem ChAt.kept {w w' : World} {v : Value} {L : List Cho} (h : ChAt w v L) (hb : Below w.heap.size w w') : ChAt w' v L := by
 obtain ⟨a, cap, e, h1, h2, h3⟩ := h
 refine ⟨a, cap, e, h1, h2, fun i hi => ?_⟩
 obtain ⟨g, o, e1, e2⟩ := h3 i hi
 exact ⟨g, o, e1, range_kept17 e2 hb⟩

theorem own_ch {w : World} {B : Nat} {v : Value} {L : List Cho} (h : w.ownsRow B 125 3 v L.length (cellsC L)) : ChAt w v L := by
 rcases h.2 with ⟨rfl, h0⟩ | ⟨g, cap, cur, rfl, hb, hg, h1, h2, h3, h4⟩
 ·have : L = [] := List.eq_nil_of_length_eq_zero h0
  subst this
  exact ⟨none, 0, rfl, Nat.le_refl _, by decide, fun j hj => by simp at hj⟩
 ·refine ⟨_, cap, rfl, h1, h2, fun i hi => ⟨g, 0, rfl, fun j u hu => ?_⟩⟩
  have hc := cellsC_at L i hi j u hu
  have := h.cellAt (i * 3 + j) (by
   have := (List.getElem?_eq_some_iff.1 hc).1
   rw [cellsC_len] at this
   exact this)
  rw [Nat.zero_add, this]
  exact hc

set_option maxHeartbeats 4000000 in
theorem indexC17_any (pa : Nat) (q : Cho → Bool) (v : Value) (L : List Cho) (w : World) (hv : ChAt w v L) (hl : L.length ≤ 1000000001) (hq : ∀ (X : World) (x : Cho), x ∈ L → Below w.heap.size w X → Calls Tryz.prog 79 #[choVal x, .pointer (some ⟨pa, 0, none⟩)] X fun e w' => e = .returned (.bool (q x)) ∧ Below X.heap.size X w') :
  Calls Tryz.prog 109 #[v, .func (.func 79) #[] #[.pointer (some ⟨pa, 0, none⟩)]] w fun e w' => ∃ z : Int, e = .returned (.int .i64 z) ∧ decide (0 ≤ z) = L.any q ∧ Below w.heap.size w w' := by
 obtain ⟨a1, c1, rfl, hc1, hm1, hv1⟩ := hv.view
 have HV := hid hv1
 have HQ := hid hq
 obtain ⟨n, hn⟩ : ∃ n, n = L.length := ⟨_, rfl⟩
 have HN := hid hn
 rw [← hn] at hc1 hl ⊢
 clear hv hv1 hq hn
 go_enter Tryz.func109, Tryz.ntmps109
 go_wp2_with fail
 go_loopw [8] (fun v8 wr => ∃ k : Nat, k ≤ n ∧ v8 = .int .i64 k ∧ Hid (((L.take k).any q) = false ∧ Below w.heap.size w wr)) (fun v8 _ => n - (intOf v8).toNat)
 case atStart => exact ⟨0, Nat.zero_le _, rfl, rfl, Below.refl _ w⟩
 case round =>
  obtain ⟨k, hk, rfl, HR⟩ := hrel
  by_cases hlt : k < n
  ·have hkL : k < L.length := by have := HN.out; omega
   obtain ⟨b1, o1, rfl, e1⟩ := HV.out k hkL
   have e2 := range_kept17 e1 HR.out.2
   obtain ⟨x, hx⟩ : ∃ x, x = L[k] := ⟨_, rfl⟩
   rw [← hx] at e2
   have HXM := hid (show x ∈ L by rw [hx]; exact List.getElem_mem hkL)
   have HT := hid (show (L.take (k + 1)).any q = q x by rw [List.take_succ_eq_append_getElem hkL, List.any_append, HR.out.1, ← hx]; simp)
   have HTA := hid (show q x = true → L.any q = true from fun h => List.any_eq_true.2 ⟨x, HXM.out, h⟩)
   have hcl := HQ.out wr x HXM.out HR.out.2
   obtain ⟨y, hy⟩ : ∃ y, y = q x := ⟨_, rfl⟩
   rw [← hy] at hcl HT HTA
   obtain ⟨N', V', t⟩ := x
   obtain ⟨N, hN⟩ : ∃ V : ByteArray, (⟨N'.toArray⟩ : ByteArray) = V := ⟨_, rfl⟩
   obtain ⟨V, hV⟩ : ∃ V : ByteArray, (⟨V'.toArray⟩ : ByteArray) = V := ⟨_, rfl⟩
   have hcs : chCells ⟨N', V', t⟩ = [.string N, .string V, .bool t] := by unfold chCells; rw [← hN, ← hV]
   have hcv : choVal ⟨N', V', t⟩ = .agg #[.string N, .string V, .bool t] := by unfold choVal; rw [← hN, ← hV]
   rw [hcs] at e2
   rw [hcv] at hcl
   have HRg := hid e2
   have HCL := hid hcl
   have HBr := hid HR.out.2
   have hin : (k : Int) < (n : Int) := by omega
   clear e1 e2 hx hkL hN hV hcs hcv hcl hy HXM HR
   cases y with
   | false =>
    go_wp2_with (first | (refine wpList_load_mid rfl 125 (.tmp 14) rfl b1 (o1 + k * 3) rfl [.string N, .string V, .bool t] _ HRg.out Tryz.underlying125 rfl sizeCh ?_) | (go_at_call 79; refine HCL.out.mono ?_; rintro e w2 ⟨rfl, hb2⟩; have HB2 := hid (below2 HBr.out hb2); clear hb2))
    go_roundw
    case rel =>
     have e4 : ((L.take (k + 1)).any q) = false ∧ Below w.heap.size w w2 := ⟨HT.out, HB2.out⟩
     first
      | exact ⟨k + 1, by omega, by go_num, e4⟩
      | ((repeat apply Exists.intro); refine ⟨?_, rfl⟩; exact ⟨k + 1, by omega, by go_num, e4⟩)
      | ((repeat apply Exists.intro); exact ⟨⟨k + 1, by omega, by go_num, e4⟩, rfl⟩)
    case measure => simp [intOf]; omega
   | true =>
    go_wp2_with (first | (refine wpList_load_mid rfl 125 (.tmp 14) rfl b1 (o1 + k * 3) rfl [.string N, .string V, .bool t] _ HRg.out Tryz.underlying125 rfl sizeCh ?_) | (go_at_call 79; refine HCL.out.mono ?_; rintro e w2 ⟨rfl, hb2⟩; have HB2 := hid (below2 HBr.out hb2); clear hb2))
    go_ret
    exact ⟨(k : Int), rfl, by rw [HTA.out (by first | rfl | trivial)]; simp, HB2.out⟩
  ·obtain rfl : k = n := by omega
   have HA := hid (show L.any q = false by have h := HR.out.1; rwa [List.take_of_length_le (by have := HN.out; omega)] at h)
   have HB := hid HR.out.2
   clear HR hk hlt
   go_wp2_with fail
   go_ret
   exact ⟨-1, rfl, by rw [HA.out]; rfl, HB.out⟩

set_option maxHeartbeats 1000000 in
theorem containsC17_any (pa : Nat) (q : Cho → Bool) (v : Value) (L : List Cho) (w : World) (hv : ChAt w v L) (hl : L.length ≤ 1000000001) (hq : ∀ (X : World) (x : Cho), x ∈ L → Below w.heap.size w X → Calls Tryz.prog 79 #[choVal x, .pointer (some ⟨pa, 0, none⟩)] X fun e w' => e = .returned (.bool (q x)) ∧ Below X.heap.size X w') :
  Calls Tryz.prog 81 #[v, .func (.func 79) #[] #[.pointer (some ⟨pa, 0, none⟩)]] w fun e w' => e = .returned (.bool (L.any q)) ∧ Below w.heap.size w w' := by
 have HI := hid (indexC17_any pa q v L w hv hl hq)
 obtain ⟨a1, c1, rfl, _, _, _⟩ := hv.view
 clear hv hl hq
 go_enter Tryz.func81, Tryz.ntmps81
 go_wp2_with fail
 refine HI.out.mono ?_
 rintro e w2 ⟨z, rfl, hz, hb⟩
 have HZ := hid hz
 have HB := hid hb
 clear hz hb
 go_wp2_with fail
 go_ret
 exact ⟨ret_bool HZ.out, HB.out⟩

def MfAt (w : World) (pa pu : Nat) (v : Value) (u : ByteArray) : Prop := w.heap[pa]? = some (.cells #[v] 25 (0, 0)) ∧ w.heap[pu]? = some (.cells #[.string u] 9 (0, 0))

theorem MfAt.kept {w w' : World} {pa pu : Nat} {v : Value} {u : ByteArray} (h : MfAt w pa pu v u) (hb : Below w.heap.size w w') : MfAt w' pa pu v u :=
 ⟨(hb.block pa (Array.getElem?_eq_some_iff.1 h.1).1).trans h.1, (hb.block pu (Array.getElem?_eq_some_iff.1 h.2).1).trans h.2⟩

theorem MfAt.tq {p : Nat} {w w' : World} {pa pu : Nat} {v : Value} {u : ByteArray} (h : MfAt w pa pu v u) (hq : TqC p w w') : MfAt w' pa pu v u :=
 ⟨(hq.2 pa _ _ _ h.1 (by decide) (by decide)).trans h.1, (hq.2 pu _ _ _ h.2 (by decide) (by decide)).trans h.2⟩

set_option maxHeartbeats 4000000 in
theorem meant1_any (pa pu : Nat) (v : Value) (A : List Hd) (U : ByteArray) (z : Zr) (w : World) (B M : Nat) (hm : MfAt w pa pu v U) (h : HdAt w v A) (hz : Szo A) (hd : DenZ w B M z) (hl : z.r.ch.length ≤ 1000000) (hn : ∀ c ∈ z.r.ch, c.name.length ≤ 140737488351232) :
  Calls Tryz.prog 78 #[zVal z, .pointer (some ⟨pa, 0, none⟩), .pointer (some ⟨pu, 0, none⟩)] w fun e w' => e = .returned (.bool (meantV U.data.toList A z.r)) ∧ Below w.heap.size w w' := by
 obtain ⟨ca, cc, ha, hc, ba, bc, e1, e2, e3⟩ := hd.form
 obtain ⟨R, zc, zh, zb⟩ := z
 dsimp only at e1 e2 e3 hl hn
 subst e1 e2 e3
 have HCh := hid (show ChAt w (.slice ca R.ch.length cc) R.ch from own_ch hd.1.1)
 obtain ⟨X, hX⟩ : ∃ X : ByteArray, (⟨R.url.toArray⟩ : ByteArray) = X := ⟨_, rfl⟩
 have hXl : X.data.toList = R.url := by rw [← hX]
 have hv : zVal ⟨R, .slice ca R.ch.length cc, .slice ha R.rp.hd.length hc, .slice ba R.rp.bd.length bc⟩ = .agg #[.string X, .slice ca R.ch.length cc, .int .i64 R.rp.st, .slice ha R.rp.hd.length hc, .slice ba R.rp.bd.length bc, .int .i64 R.sto, .int .i64 R.tn] := by unfold zVal zCells; rw [← hX]
 rw [hv]
 dsimp only
 have HCC := hid (fun (Y : World) (hY : Below w.heap.size w Y) => containsC17_any pa (fun c => decide (choV A c.name ≠ c)) (.slice ca R.ch.length cc) R.ch Y (HCh.out.kept hY) (by omega) (fun Z x hx hZ => meant11_any pa v A x Z (h.kept (below2 hY hZ)) hz (by
  have h1 := (hm.kept (below2 hY hZ)).1
  rw [Lib.cell_of_heap h1]; rfl) (hn x hx)))
 have HM := hid (show meantV U.data.toList A R = (decide (X = U) && !(R.ch.any fun c => decide (choV A c.name ≠ c))) by
  unfold meantV
  have e : (R.url = U.data.toList) ↔ X = U := by
   rw [← hXl]
   exact ⟨fun h => xba h, fun h => by rw [h]⟩
  simp only [e])
 have HMf := hid hm
 obtain ⟨y, hy⟩ : ∃ y, y = (R.ch.any fun c => decide (choV A c.name ≠ c)) := ⟨_, rfl⟩
 rw [← hy] at HCC HM
 obtain ⟨n1, hn1⟩ : ∃ n, n = R.ch.length := ⟨_, rfl⟩
 obtain ⟨n2, hn2⟩ : ∃ n, n = R.rp.hd.length := ⟨_, rfl⟩
 obtain ⟨n3, hn3⟩ : ∃ n, n = R.rp.bd.length := ⟨_, rfl⟩
 obtain ⟨s1, hs1⟩ : ∃ n, n = R.rp.st := ⟨_, rfl⟩
 obtain ⟨s2, hs2⟩ : ∃ n, n = R.sto := ⟨_, rfl⟩
 obtain ⟨s3, hs3⟩ : ∃ n, n = R.tn := ⟨_, rfl⟩
 rw [← hn1] at HCC
 rw [← hn1, ← hn2, ← hn3, ← hs1, ← hs2, ← hs3]
 have HB0 := hid ((Below.refl w.heap.size w).alloc (Nat.le_refl _) (.cells #[.string X, .slice ca n1 cc, .int .i64 s1, .slice ha n2 hc, .slice ba n3 bc, .int .i64 s2, .int .i64 s3] 81))
 have HR0 := hid (heap_alloc_new w (.cells #[.string X, .slice ca n1 cc, .int .i64 s1, .slice ha n2 hc, .slice ba n3 bc, .int .i64 s2, .int .i64 s3] 81))
 clear hn1 hn2 hn3 hs1 hs2 hs3 hy hX hXl hv h hz hd hl hn hm
 obtain ⟨W1, hW1⟩ : ∃ Y, w.alloc (.cells #[.string X, .slice ca n1 cc, .int .i64 s1, .slice ha n2 hc, .slice ba n3 bc, .int .i64 s2, .int .i64 s3] 81) = Y := ⟨_, rfl⟩
 rw [hW1] at HB0 HR0
 have d0 : W1.cell? ⟨w.heap.size, 0, none⟩ = some (.string X) := by rw [Lib.cell_of_heap HR0.out]; rfl
 have d1 : W1.cell? ⟨w.heap.size, 1, none⟩ = some (.slice ca n1 cc) := by rw [Lib.cell_of_heap HR0.out]; rfl
 have hmu := (HMf.out.kept HB0.out).2
 have d2 : W1.cell? ⟨pu, 0, none⟩ = some (.string U) := by rw [Lib.cell_of_heap hmu]; rfl
 clear hmu
 by_cases hu : X = U
 ·subst hu
  have hMM := HM.out
  rw [decide_eq_true rfl, Bool.true_and] at hMM
  have HMM := hid hMM
  clear hMM HM
  go_enter Tryz.func78, Tryz.ntmps78
  go_wp2_with fail
  refine (HCC.out _ HB0.out).mono ?_
  rintro e w2 ⟨rfl, hb2⟩
  have HB2 := hid (below2 HB0.out hb2)
  go_wp2_with fail
  go_ret
  exact ⟨ret_bool HMM.out.symm, HB2.out⟩
 ·have hne : (X.toList == U.toList) = false := strNe hu
  have hMM := HM.out
  rw [decide_eq_false hu, Bool.false_and] at hMM
  have HMM := hid hMM
  clear hMM HM hu
  go_enter Tryz.func78, Tryz.ntmps78
  go_wp2_with fail
  go_ret
  exact ⟨ret_bool HMM.out.symm, HB0.out⟩

set_option maxHeartbeats 1000000 in
theorem meant_any (U : ByteArray) (a : Option Addr) (n c : Nat) (w : World) :
  Calls Tryz.prog 41 #[.string U, .slice a n c] w fun e w' => e = .returned (.func (.func 78) #[] #[.pointer (some ⟨w.heap.size + 1, 0, none⟩), .pointer (some ⟨w.heap.size, 0, none⟩)]) ∧ MfAt w' (w.heap.size + 1) w.heap.size (.slice a n c) U ∧ Below w.heap.size w w' := by
 have H := hid (show MfAt ((w.alloc (.cells #[.string U] 9)).alloc (.cells #[.slice a n c] 25)) (w.heap.size + 1) w.heap.size (.slice a n c) U by
  refine ⟨?_, (Lib.alloc_old _ _ _ (by simp)).trans (heap_alloc_new w _)⟩
  have := heap_alloc_new (w.alloc (.cells #[.string U] 9)) (.cells #[.slice a n c] 25)
  simpa using this)
 have HB := hid (show Below w.heap.size w ((w.alloc (.cells #[.string U] 9)).alloc (.cells #[.slice a n c] 25)) from ((Below.refl _ w).alloc (Nat.le_refl _) _).alloc (by simp) _)
 go_enter Tryz.func41, Tryz.ntmps41
 go_wp2
 go_ret
 exact ⟨rfl, H.out, HB.out⟩

end Go.Proofs.YtfcmonjfcnfjoaaGreatDoor

namespace Go.Proofs.YtfcmonjfcnfjoaaGreatDoor
open Go.RowKit

theorem sizeRw : (Tryz.prog.info? 81).map (·.size) = some 7 := by kernel_rfl

theorem infoRw : (Tryz.prog.info? 81).map (fun i => (i.zero, i.size, i.bytes)) = some (some (.agg #[.string ByteArray.empty, .slice none 0 0, .int .i64 0, .slice none 0 0, .slice none 0 0, .int .i64 0, .int .i64 0]), 7, 112) := by kernel_rfl

def ZlAt (w : World) (v : Value) (Z : List Zr) : Prop :=
 ∃ a cap, v = .slice a Z.length cap ∧ Z.length ≤ cap ∧ cap ≤ maxLen ∧ ∀ i (h : i < Z.length), ∃ g o, a = some ⟨g, o, none⟩ ∧ w.rangeAt g (o + i * 7) (zCells Z[i])

theorem own_zl {w : World} {B : Nat} {v : Value} {Z : List Zr} (h : w.ownsRow B 81 7 v Z.length (cellsZ Z)) : ZlAt w v Z := by
 have h2 := h.2
 rcases h2 with ⟨rfl, h0⟩ | ⟨g, cap, cur, rfl, hb, hg, h1, h2, h3, h4⟩
 ·have : Z = [] := List.eq_nil_of_length_eq_zero h0
  subst this
  exact ⟨none, 0, rfl, Nat.le_refl _, by decide, fun j hj => by simp at hj⟩
 ·refine ⟨_, cap, rfl, h1, h2, fun i hi => ⟨g, 0, rfl, ?_⟩⟩
  obtain ⟨g', e, hr⟩ := own_range17 h i hi
  injection e with e
  subst e
  rw [Nat.zero_add]
  exact hr

theorem ZlAt.view {w : World} {v : Value} {Z : List Zr} (h : ZlAt w v Z) : ∃ a cap, v = .slice a Z.length cap ∧ Z.length ≤ cap ∧ cap ≤ maxLen ∧ ∀ i (h : i < Z.length), ∃ g o, a = some ⟨g, o, none⟩ ∧ w.rangeAt g (o + i * 7) (zCells Z[i]) := h

def idxZ (q : RowC → Bool) (Z : List Zr) : Int := match Z.findIdx? (fun z => q z.r) with
 | none => -1
 | some k => (k : Int)

set_option maxHeartbeats 4000000 in
theorem indexZ17_any (f : Nat) (lb : Array Value) (eg : ∀ args w, (callFunc f args).run Tryz.prog w = .ok (.enter f args) w) (q : RowC → Bool) (v : Value) (Z : List Zr) (w : World) (hv : ZlAt w v Z) (hl : Z.length ≤ 1000000) (hform : ∀ z ∈ Z, ∃ ca cn cc ha hn hc ba bn bc, z.c = .slice ca cn cc ∧ z.h = .slice ha hn hc ∧ z.b = .slice ba bn bc)
  (hq : ∀ (X : World) (z : Zr), z ∈ Z → Below w.heap.size w X → Calls Tryz.prog f (#[zVal z] ++ lb) X fun e w' => e = .returned (.bool (q z.r)) ∧ Below X.heap.size X w') :
  Calls Tryz.prog 77 #[v, .func (.func f) #[] lb] w fun e w' => e = .returned (.int .i64 (idxZ q Z)) ∧ Below w.heap.size w w' := by
 obtain ⟨a1, c1, rfl, hc1, hm1, hv1⟩ := hv.view
 have HV := hid hv1
 have HQ := hid hq
 have HF := hid hform
 obtain ⟨n, hn⟩ : ∃ n, n = Z.length := ⟨_, rfl⟩
 have HN := hid hn
 rw [← hn] at hc1 hl ⊢
 clear hv hv1 hq hn hform
 go_enter Tryz.func77, Tryz.ntmps77
 go_wp2_with fail
 go_loopw [8] (fun v8 wr => ∃ k : Nat, k ≤ n ∧ v8 = .int .i64 k ∧ Hid ((∀ j (h : j < Z.length), j < k → q Z[j].r = false) ∧ Below w.heap.size w wr)) (fun v8 _ => n - (intOf v8).toNat)
 case atStart => exact ⟨0, Nat.zero_le _, rfl, fun j _ h => absurd h (by omega), Below.refl _ w⟩
 case round =>
  obtain ⟨k, hk, rfl, HR⟩ := hrel
  by_cases hlt : k < n
  ·have hkL : k < Z.length := by have := HN.out; omega
   obtain ⟨b1, o1, rfl, e1⟩ := HV.out k hkL
   have e2 := range_kept17 e1 HR.out.2
   obtain ⟨x, hx⟩ : ∃ x, x = Z[k] := ⟨_, rfl⟩
   rw [← hx] at e2
   have HXM := hid (show x ∈ Z by rw [hx]; exact List.getElem_mem hkL)
   have hcl := HQ.out wr x HXM.out HR.out.2
   obtain ⟨y, hy⟩ : ∃ y, y = q x.r := ⟨_, rfl⟩
   have HT := hid (show y = false → ∀ j (h : j < Z.length), j < k + 1 → q Z[j].r = false from fun hyf j h hj => by
    by_cases hjk : j = k
    ·subst hjk; rw [← hx, ← hy]; exact hyf
    ·exact HR.out.1 j h (by omega))
   have HTA := hid (show y = true → idxZ q Z = (k : Int) from fun h => by
    have : Z.findIdx? (fun z => q z.r) = some k := by
     rw [List.findIdx?_eq_some_iff_getElem]
     exact ⟨hkL, by rw [← hx, ← hy]; exact h, fun j hj => by rw [HR.out.1 j (by omega) hj]; decide⟩
    unfold idxZ
    rw [this])
   rw [← hy] at hcl
   obtain ⟨ca, cn, cc, ha, hn, hc, ba, bn, bc, f1, f2, f3⟩ := HF.out x HXM.out
   obtain ⟨R, zc, zh, zb⟩ := x
   dsimp only at f1 f2 f3
   subst f1 f2 f3
   obtain ⟨X, hX⟩ : ∃ X : ByteArray, (⟨R.url.toArray⟩ : ByteArray) = X := ⟨_, rfl⟩
   obtain ⟨s1, hs1⟩ : ∃ n, n = R.rp.st := ⟨_, rfl⟩
   obtain ⟨s2, hs2⟩ : ∃ n, n = R.sto := ⟨_, rfl⟩
   obtain ⟨s3, hs3⟩ : ∃ n, n = R.tn := ⟨_, rfl⟩
   have hcs : zCells ⟨R, .slice ca cn cc, .slice ha hn hc, .slice ba bn bc⟩ = [.string X, .slice ca cn cc, .int .i64 s1, .slice ha hn hc, .slice ba bn bc, .int .i64 s2, .int .i64 s3] := by unfold zCells; rw [← hX, ← hs1, ← hs2, ← hs3]
   unfold zVal at hcl
   rw [hcs] at e2 hcl
   have HRg := hid e2
   have HCL := hid hcl
   have HBr := hid HR.out.2
   have hin : (k : Int) < (n : Int) := by omega
   clear e1 e2 hx hkL hX hcs hcl hy HXM HR hs1 hs2 hs3
   cases y with
   | false =>
    go_wp2_with (refine wpList_load_mid rfl 81 (.tmp 14) rfl b1 (o1 + k * 7) rfl [.string X, .slice ca cn cc, .int .i64 s1, .slice ha hn hc, .slice ba bn bc, .int .i64 s2, .int .i64 s3] _ HRg.out Tryz.underlying81 rfl sizeRw ?_)
    refine HCL.out.mono ?_
    rintro e w2 ⟨rfl, hb2⟩
    have HB2 := hid (below2 HBr.out hb2)
    clear hb2
    go_wp2_with fail
    go_roundw
    case rel =>
     have e4 : (∀ j (h : j < Z.length), j < k + 1 → q Z[j].r = false) ∧ Below w.heap.size w w2 := ⟨HT.out (by first | rfl | trivial), HB2.out⟩
     first
      | exact ⟨k + 1, by omega, by go_num, e4⟩
      | ((repeat apply Exists.intro); refine ⟨?_, rfl⟩; exact ⟨k + 1, by omega, by go_num, e4⟩)
      | ((repeat apply Exists.intro); exact ⟨⟨k + 1, by omega, by go_num, e4⟩, rfl⟩)
    case measure => simp [intOf]; omega
   | true =>
    go_wp2_with (refine wpList_load_mid rfl 81 (.tmp 14) rfl b1 (o1 + k * 7) rfl [.string X, .slice ca cn cc, .int .i64 s1, .slice ha hn hc, .slice ba bn bc, .int .i64 s2, .int .i64 s3] _ HRg.out Tryz.underlying81 rfl sizeRw ?_)
    refine HCL.out.mono ?_
    rintro e w2 ⟨rfl, hb2⟩
    have HB2 := hid (below2 HBr.out hb2)
    clear hb2
    go_wp2_with fail
    go_ret
    exact ⟨ret_i16 (HTA.out (by first | rfl | trivial)).symm, HB2.out⟩
  ·obtain rfl : k = n := by omega
   have HA := hid (show idxZ q Z = -1 by
    have : Z.findIdx? (fun z => q z.r) = none := by
     rw [List.findIdx?_eq_none_iff]
     intro x hx
     obtain ⟨j, hj, rfl⟩ := List.getElem_of_mem hx
     exact HR.out.1 j hj (by have := HN.out; omega)
    unfold idxZ
    rw [this])
   have HB := hid HR.out.2
   clear HR hk hlt
   go_wp2_with fail
   go_ret
   exact ⟨ret_i16 HA.out.symm, HB.out⟩

end Go.Proofs.YtfcmonjfcnfjoaaGreatDoor
