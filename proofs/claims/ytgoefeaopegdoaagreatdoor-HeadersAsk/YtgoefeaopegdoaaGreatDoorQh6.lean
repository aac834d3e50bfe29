/-
  Walks and plain facts that this claim leans on, put together out of 5 texts: Zj, Ba, Bb, Bc, Bd.
-/
import Derived.Test.YtgoefeaopegdoaaGreatDoorProg
import Derived.Test.YtgoefeaopegdoaaGreatDoorQh1
import Derived.Test.YtgoefeaopegdoaaGreatDoorQh2
import Derived.Test.YtgoefeaopegdoaaGreatDoorQh3
import Derived.Test.YtgoefeaopegdoaaGreatDoorQh4
import Derived.Test.YtgoefeaopegdoaaGreatDoorQh5
import Derived.WalkKit
import Derived.Lib.Strings
import Derived.Lib.UnsafeStr
import Derived.Laws.IdiomStrings
import Derived.Laws.AppendOwn
import Derived.Laws.BitsAllLaws
import Derived.Lib.Bytealg
import Derived.Lib.BufferMore
import Derived.LoopN
import Derived.Shelf.Strings.Builder1
import Derived.Shelf.Strings.Builder2
import Derived.Shelf.Strings.OnBuilder
import Derived.Shelf.Strings.Trim
import Derived.Shelf.Small.Utf8
import Derived.Shelf.Small.Bits
import Derived.Shelf.Small.Strs
import Derived.Shelf.Small.Wraps
import Derived.Shelf.Strings.BuilderF
import Derived.Shelf.Strings.BuilderK
import Derived.Shelf.Strings.BuilderRune
import Derived.Shelf.Utf8.AppendRune
import Derived.Shelf.Utf8.AppendRunePlain
import Derived.Shelf.Strings.Builder2Cap
import Derived.Shelf.Strconv.Itoa0
import Derived.Shelf.Strconv.Itoa1
import Derived.Shelf.LaysM
import Derived.Shelf.Strconv.Itoa2
import Derived.Shelf.Strconv.Itoa3
import Derived.Shelf.Strings.Search1
import Derived.Shelf.Strings.Search2
import Derived.Shelf.Strings.Search3
import Derived.Shelf.Strings.Cut
import Derived.Shelf.Strings.Count
import Derived.Shelf.Strings.Shaped
import Derived.Shelf.Strings.LastIndex
import Derived.Shelf.Strings.Prefix
import Derived.Shelf.Strings.Split
import Derived.Shelf.Strings.Replace
import Derived.Shelf.Strings.Runes
import Derived.Shelf.Strings.IndexAny
import Derived.Shelf.Strings.AsciiSet
import Derived.Shelf.Strings.IndexAnyAll
import Derived.Shelf.Unicode.DecodeSlow
import Derived.Ground.Names2Prog
import Derived.Shelf.Slices.Clone
import Derived.Shelf.Slices.In.SortNone
import Derived.Ground.SlgnProg
import Derived.Shelf.SlicesE.Clone
import Derived.WalkSpells
import Derived.WalkLawsBesides
import Derived.Lib.SlTrimSet
import Derived.Lib.Join
import Derived.Lib.IndexMore
import Derived.Laws.OwnMore
import Derived.Below
import Derived.WalkSmall
import Derived.Lib.SmallJoins
import Derived.Deep.QuietTactic
import Derived.BigQuiet
import Derived.Deep.LoopGhost
import Derived.Deep.MidRow
import Derived.Shelf.Strings.SlTrimAscii
import Derived.Deep.CutRange
import Derived.Laws.Rows
import Derived.Laws.CopyOwn
import Derived.Laws.MakeOwn
import Derived.Laws.RangeAny
import Derived.Lib.DecodeN
import Derived.Lib.OthersKept
import Derived.RegionTactic
import Derived.Deep.RegionWith
import Derived.Laws.Runes
import Derived.Deep.WholeRow
import Derived.Deep.RegionLaw
import Derived.Deep.RegionHeldLaw
import Derived.Laws.AppendOwnNone
import Derived.BigRegion
import Derived.Deep.RegionHeld
set_option linter.unusedSimpArgs false
set_option linter.unusedVariables false

namespace Go.Proofs.YtgoefeaopegdoaaGreatDoor
open Go.RowKit

theorem run_copy_head {P : Program} (w : World) (dT sT ty elem : TypeId) (g n dLen dCap : Nat) (a : Option Addr) (sCap : Nat) (cur : Array Value) (t : TypeId) (cs : List Value) (hnd : n ≤ dLen)
  (hu : P.underlying dT = some (.slice elem)) (hs : (P.info? elem).map (·.size) = some 2)
  (hg : w.heap[g]? = some (.cells cur t (0, 0))) (hn : cs.length = n * 2)
  (hsrc : ∀ j v, cs[j]? = some v → ∃ ad, a = some ad ∧ w.cell? (ad.add j) = some v) (hfit : cs.length ≤ cur.size) (h1 : ∀ v ∈ cs, v.oneCell' = true) :
  (Builtin.copy_ #[dT, sT] ty #[.slice (some ⟨g, 0, none⟩) dLen dCap, .slice a n sCap]).run P w =
   .ok (goInt n) (w.setRow g (cs ++ cur.toList.drop cs.length).toArray) := by
 have hst := run_storeCells_at P g 0 t cs 0 cur w hg (by simpa using hfit) h1
 simp only [Nat.add_zero, Nat.zero_add, List.take_zero, List.nil_append] at hst
 have hmin : Nat.min n dLen = n := Nat.min_eq_left hnd
 cases hq : P.info? elem with
 | none => simp [hq] at hs
 | some i =>
  have hi : i.size = 2 := by simpa [hq] using hs
  by_cases h0 : n = 0
  ·subst h0
   have : cs = [] := List.eq_nil_of_length_eq_zero (by simpa using hn)
   subst this
   have hl : ∀ (x : Addr), (loadCells x 0).run P w = .ok #[] w := fun x => by simpa using run_loadCells_list (P := P) w x [] (by simp)
   have hsr : w.setRow g cur = w := setRow_self w g cur t (0, 0) hg
   cases a <;> simp [Builtin.copy_, run_underlying hu, Builtin.lenOf, Builtin.firstCells, sizeOf, typeInfo, hq, storeCells, hl, hsr, hmin]
  ·have hpos : 0 < cs.length := by omega
   obtain ⟨ad, rfl, _⟩ := hsrc 0 cs[0] (by rw [List.getElem?_eq_getElem hpos])
   have hl := run_loadCells_list (P := P) w ad cs (fun j v hv => by obtain ⟨ad', e, h⟩ := hsrc j v hv; cases e; exact h)
   rw [hn] at hl
   simp [Builtin.copy_, run_underlying hu, Builtin.lenOf, Builtin.firstCells, sizeOf, typeInfo, hq, hi, hl, hst, hmin]

def RowH (w : World) (g : Nat) (M : List Hd) : Prop := w.heap[g]? = some (.cells (cellsH M).toArray 38 (0, 0))

theorem RowH.at {w : World} {g : Nat} {M : List Hd} (h : RowH w g M) (hm : M.length ≤ maxLen) : HdAt w (.slice (some ⟨g, 0, none⟩) M.length M.length) M :=
 hd_of (Nat.le_refl _) hm fun j hj => by
  have := cellsH_at M j hj
  rw [Nat.zero_add, Lib.cell_of_heap h, Lib.cell_of_heap h]
  simpa using this

theorem cellsH_set : ∀ (M : List Hd) (i : Nat) (h : Hd), ((cellsH M).set (i * 2) (.string ⟨h.name.toArray⟩)).set (i * 2 + 1) (.string ⟨h.value.toArray⟩) = cellsH (M.set i h)
 | [], i, h => by simp [cellsH]
 | a :: M, 0, h => rfl
 | a :: M, i + 1, h => by
  have ih := cellsH_set M i h
  have e : cellsH (a :: M) = Value.string ⟨a.name.toArray⟩ :: Value.string ⟨a.value.toArray⟩ :: cellsH M := rfl
  have e2 : cellsH ((a :: M).set (i + 1) h) = Value.string ⟨a.name.toArray⟩ :: Value.string ⟨a.value.toArray⟩ :: cellsH (M.set i h) := rfl
  rw [e, e2, show (i + 1) * 2 = i * 2 + 1 + 1 by omega, List.set_cons_succ, List.set_cons_succ, List.set_cons_succ, List.set_cons_succ, ih]

theorem RowH.set {w : World} {g : Nat} {M : List Hd} (h : RowH w g M) (i : Nat) (a b : ByteArray) : RowH ((w.setCell ⟨g, i * 2, none⟩ (.string a)).setCell ⟨g, i * 2 + 1, none⟩ (.string b)) g (M.set i ⟨a.data.toList, b.data.toList⟩) := by
 have h1 := Lib.heap_setCell_same h (i := i * 2) (.string a)
 have h2 := Lib.heap_setCell_same h1 (i := i * 2 + 1) (.string b)
 unfold RowH
 rw [h2]
 have := cellsH_set M i ⟨a.data.toList, b.data.toList⟩
 rw [← xself a, ← xself b] at this
 rw [← this]
 simp

def romL (L : List Hd) (mk : Hd) (j : Nat) : List Hd := L ++ (List.replicate j mk ++ List.replicate (80 - j) ⟨[], []⟩)

theorem romL_len (L : List Hd) (mk : Hd) (j : Nat) (h : j ≤ 80) : (romL L mk j).length = L.length + 80 := by simp [romL]; omega

theorem romL_set (L : List Hd) (mk : Hd) (j : Nat) (h : j < 80) : (romL L mk j).set (L.length + j) mk = romL L mk (j + 1) := by
 unfold romL
 rw [List.set_append, if_neg (by omega), Nat.add_sub_cancel_left, List.set_append, if_neg (by simp), List.length_replicate, Nat.sub_self, show 80 - j = (80 - (j + 1)) + 1 by omega, List.replicate_succ, List.set_cons_zero, List.replicate_succ' (n := j)]
 simp

def markL (mk : Hd) : List Hd := List.replicate 80 mk

theorem romL_end (L : List Hd) (mk : Hd) : romL L mk 80 = L ++ markL mk := by simp [romL, markL]

theorem made_zero (m : Nat) : madeCells #[Value.string ByteArray.empty, .string ByteArray.empty] (m * 2) = (cellsH (List.replicate m ⟨[], []⟩)).toArray := by
 have hl : (cellsH (List.replicate m (⟨[], []⟩ : Hd))).length = m * 2 := by rw [cellsH_len]; simp
 apply Array.ext_getElem?
 intro j
 by_cases hj : j < m * 2
 ·have h1 : (madeCells #[Value.string ByteArray.empty, .string ByteArray.empty] (m * 2))[j]? = some (.string ByteArray.empty) := by
   unfold madeCells
   rcases (show j % 2 = 0 ∨ j % 2 = 1 by omega) with h | h <;> simp [hj, h]
  rw [h1]
  have hu : j < (cellsH (List.replicate m (⟨[], []⟩ : Hd))).length := by rw [hl]; exact hj
  obtain ⟨k, hk, ⟨_, e⟩ | ⟨_, e⟩⟩ := cellsH_cell _ j _ (List.getElem?_eq_getElem hu)
  ·simp only [List.getElem?_toArray, List.getElem?_eq_getElem hu]
   rw [e]; simp; rfl
  ·simp only [List.getElem?_toArray, List.getElem?_eq_getElem hu]
   rw [e]; simp; rfl
 ·rw [Array.getElem?_eq_none (by rw [size_madeCells]; omega), Array.getElem?_eq_none (by simp [hl]; omega)]

theorem far_two {w : World} {g o o' b i : Nat} (h : b ≠ g) (x y : Value) : ((w.setCell ⟨g, o, none⟩ x).setCell ⟨g, o', none⟩ y).cell? ⟨b, i, none⟩ = w.cell? ⟨b, i, none⟩ := by
 have far : ∀ (w : World) (o : Nat) (x : Value), (w.setCell ⟨g, o, none⟩ x).cell? ⟨b, i, none⟩ = w.cell? ⟨b, i, none⟩ := fun w o x => by
  refine World.cell?_of_block ?_
  have hb : Below g w (w.setCell ⟨g, o, none⟩ x) ∨ g < b ∨ b < g := by omega
  simp [World.setCell, Array.getElem?_modify, Ne.symm h]
 rw [far, far]

set_option maxHeartbeats 2000000 in
set_option maxRecDepth 100000 in
theorem roomyH_any (v : Value) (L : List Hd) (nm vl : ByteArray) (w : World) (h : HdAt w v L) (hl : L.length ≤ 100000) :
  Calls Tryz.prog 39 #[v, hdVal nm vl] w fun e w' => ∃ g, e = .returned (.slice (some ⟨g, 0, none⟩) (L.length + 80) (L.length + 80)) ∧ RowH w' g (L ++ markL ⟨nm.data.toList, vl.data.toList⟩) ∧ Below w.heap.size w w' := by
 obtain ⟨i0, hi, hz0, hz1, hz2⟩ := info3 infoHd
 have hbx := h.kept (belowA (Below.refl _ w) (.cells #[.string nm, .string vl] 38))
 obtain ⟨a1, c1, rfl, hc1, hm1, hv1⟩ := h.view
 clear h hv1
 have hmk := run_make (P := Tryz.prog) (w.alloc (.cells #[.string nm, .string vl] 38)) 25 38 i0 _ Tryz.underlying25 hi hz0 .i64 .i64 ((L.length : Int) + 80) ((L.length : Int) + 80) (by omega) (by omega) (by rw [hz2]; omega) (by omega)
 have hcp : ∃ W3, (Builtin.copy_ #[25, 25] 3 #[.slice (some ⟨w.heap.size + 1, 0, none⟩) (L.length + 80) (L.length + 80), .slice a1 L.length c1]).run Tryz.prog ((w.alloc (.cells #[.string nm, .string vl] 38)).alloc (.cells (madeCells #[.string ByteArray.empty, .string ByteArray.empty] ((L.length + 80) * 2)) 38)) = .ok (goInt L.length) W3 ∧
   RowH W3 (w.heap.size + 1) (romL L ⟨nm.data.toList, vl.data.toList⟩ 0) ∧ Below w.heap.size w W3 ∧ W3.cell? ⟨w.heap.size, 0, none⟩ = some (.string nm) ∧ W3.cell? ⟨w.heap.size, 1, none⟩ = some (.string vl) := by
  obtain ⟨W1, hW1⟩ : ∃ W1, W1 = w.alloc (.cells #[.string nm, .string vl] 38) := ⟨_, rfl⟩
  rw [made_zero, ← hW1]
  obtain ⟨cur, hcur⟩ : ∃ c, c = (cellsH (List.replicate (L.length + 80) (⟨[], []⟩ : Hd))).toArray := ⟨_, rfl⟩
  rw [← hcur]
  have hcs : cur.size = (L.length + 80) * 2 := by rw [hcur]; simp [cellsH_len]
  have hsz1 : W1.heap.size = w.heap.size + 1 := by rw [hW1]; simp
  have hg2 : (W1.alloc (.cells cur 38)).heap[w.heap.size + 1]? = some (.cells cur 38 (0, 0)) := by
   rw [← hsz1]; exact heap_alloc_new _ _
  have hx2 : HdAt (W1.alloc (.cells cur 38)) (.slice a1 L.length c1) L := by
   rw [← hW1] at hbx
   exact hbx.kept (belowA (Below.refl _ _) _)
  have hb2 : Below w.heap.size w (W1.alloc (.cells cur 38)) := by
   rw [hW1]
   exact belowA (belowA (Below.refl _ _) _) _
  have hr := run_copy_head (P := Tryz.prog) (W1.alloc (.cells cur 38)) 25 25 3 38 (w.heap.size + 1) L.length (L.length + 80) (L.length + 80) a1 c1 cur 38 (cellsH L) (by omega) Tryz.underlying25 (by kernel_rfl) hg2 (cellsH_len L) hx2.cells.2 (by rw [cellsH_len]; omega) (cellsH_oneCell L)
  have hg3 := setRow_heap (W1.alloc (.cells cur 38)) (w.heap.size + 1) _ (cellsH L ++ cur.toList.drop (cellsH L).length).toArray 38 _ hg2
  have ho : ∀ k, k ≠ w.heap.size + 1 → ((W1.alloc (.cells cur 38)).setRow (w.heap.size + 1) (cellsH L ++ cur.toList.drop (cellsH L).length).toArray).heap[k]? = (W1.alloc (.cells cur 38)).heap[k]? := fun k hk => setRow_other _ _ k _ hk
  have hrow : cellsH L ++ cur.toList.drop (cellsH L).length = cellsH (romL L ⟨nm.data.toList, vl.data.toList⟩ 0) := by
   unfold romL
   rw [cellsH_app]
   congr 1
   rw [hcur, cellsH_len, Nat.add_comm L.length 80, ← List.replicate_append_replicate, cellsH_app]
   simp only [List.replicate_zero, List.nil_append, Nat.sub_zero]
   rw [show cellsH (List.replicate 80 (⟨[], []⟩ : Hd)) ++ cellsH (List.replicate L.length ⟨[], []⟩) = cellsH (List.replicate L.length ⟨[], []⟩) ++ cellsH (List.replicate 80 ⟨[], []⟩) by rw [← cellsH_app, ← cellsH_app, List.replicate_append_replicate, List.replicate_append_replicate, Nat.add_comm]]
   rw [List.drop_append, List.drop_of_length_le (by rw [cellsH_len]; simp), cellsH_len]; simp
  rw [hrow] at hg3 hr ho
  refine ⟨_, hr, hg3, below_setRow hb2 (by omega) _, ?_, ?_⟩
  ·rw [World.cell?_of_block (ho w.heap.size (by omega)), hW1]; simp [go_sem]
  ·rw [World.cell?_of_block (ho w.heap.size (by omega)), hW1]; simp [go_sem]
 obtain ⟨W3, hcopy, hrow3, hb3, g0, g1⟩ := hcp
 have HR := hid hrow3
 have HB := hid hb3
 have HG0 := hid g0
 have HG1 := hid g1
 have ht80 : ((L.length : Int) + 80).toNat = L.length + 80 := by omega
 rw [hz1, ht80] at hmk
 clear hrow3 hb3 hbx g0 g1
 unfold hdVal
 go_enter Tryz.func39, Tryz.ntmps39
 go_wp2
 clear hmk hcopy
 go_loopw [6] (fun i wr => ∃ j : Nat, j ≤ 80 ∧ i = .int .i64 ((L.length + j : Nat) : Int) ∧ RowH wr (w.heap.size + 1) (romL L ⟨nm.data.toList, vl.data.toList⟩ j) ∧ Below w.heap.size w wr ∧ wr.cell? ⟨w.heap.size, 0, none⟩ = some (.string nm) ∧ wr.cell? ⟨w.heap.size, 1, none⟩ = some (.string vl))
  (fun i _ => L.length + 80 - (intOf i).toNat)
 case atStart => exact ⟨0, by omega, by go_num, HR.out, HB.out, HG0.out, HG1.out⟩
 case round =>
  obtain ⟨j, hj, rfl, hr, hbw, g0, g1⟩ := hrel
  by_cases hlt : j < 80
  ·have hlt' : ((L.length + j : Nat) : Int) < (L.length : Int) + 80 := by omega
   have hcell := fun i (hi : i < L.length + 80) => cellsH_at (romL L ⟨nm.data.toList, vl.data.toList⟩ j) i (by rw [romL_len _ _ _ hj]; exact hi)
   obtain ⟨hc0, hc1⟩ := hcell (L.length + j) (by omega)
   obtain ⟨x0, hx0⟩ : ∃ x, wr.cell? ⟨w.heap.size + 1, (L.length + j) * 2, none⟩ = some x := ⟨_, by rw [Lib.cell_of_heap hr]; simpa using hc0⟩
   obtain ⟨x1, hx1⟩ : ∃ x, wr.cell? ⟨w.heap.size + 1, (L.length + j) * 2 + 1, none⟩ = some x := ⟨_, by rw [Lib.cell_of_heap hr]; simpa using hc1⟩
   have hf0 : wr.frozen? ⟨w.heap.size + 1, (L.length + j) * 2, none⟩ = false := Lib.frozen_of_heap hr _
   have hf1 : wr.frozen? ⟨w.heap.size + 1, (L.length + j) * 2 + 1, none⟩ = false := Lib.frozen_of_heap hr _
   have HRw := hid hr
   have HS := hid (romL_set L ⟨nm.data.toList, vl.data.toList⟩ j hlt)
   clear hr hc0 hc1 hcell
   obtain ⟨p, hp⟩ : ∃ p, p = L.length + j := ⟨_, rfl⟩
   rw [← hp] at hx0 hx1 hf0 hf1 hlt'
   rw [← hp]
   have HP := hid hp
   have hps : (p : Int) < 1000000 := by omega
   clear hp
   go_wp2
   go_roundw
   case rel =>
    refine ⟨j + 1, by omega, by have := HP.out; go_num, ?_, (hbw.setCell (p := ⟨w.heap.size + 1, p * 2, none⟩) (Nat.le_succ _) _).setCell (p := ⟨w.heap.size + 1, p * 2 + 1, none⟩) (Nat.le_succ _) _, ?_, ?_⟩
    ·rw [← HS.out, ← HP.out]
     exact HRw.out.set p nm vl
    ·exact (far_two (by omega) _ _).trans g0
    ·exact (far_two (by omega) _ _).trans g1
   case measure => have := HP.out; simp [intOf]; omega
  ·have hje : j = 80 := by omega
   subst hje
   have hlt' : ¬ ((L.length + 80 : Nat) : Int) < (L.length : Int) + 80 := by omega
   have HRw := hid hr
   clear hr
   go_wp2
   go_ret
   exact ⟨_, rfl, by rw [← romL_end]; exact HRw.out, hbw⟩

end Go.Proofs.YtgoefeaopegdoaaGreatDoor

namespace Go.Proofs.YtgoefeaopegdoaaGreatDoor
open Go.RowKit

def ltN (a b : List UInt8) : Bool := decide (Lib.compareBytes a b < 0)

theorem cmp_cons (x y : UInt8) (a b : List UInt8) : Lib.compareBytes (x :: a) (y :: b) = if x < y then -1 else if y < x then 1 else Lib.compareBytes a b := rfl

theorem cmp_anti : ∀ (a b : List UInt8), Lib.compareBytes a b = - Lib.compareBytes b a
 | [], [] => rfl
 | [], _ :: _ => rfl
 | _ :: _, [] => rfl
 | x :: a, y :: b => by
  rw [cmp_cons, cmp_cons]
  have := cmp_anti a b
  by_cases h1 : x < y
  ·have h2 : ¬ y < x := fun h => absurd (UInt8.lt_trans h1 h) (UInt8.lt_irrefl _)
   simp [h1, h2]
  ·by_cases h2 : y < x
   ·simp [h1, h2]
   ·simp [h1, h2, this]

theorem cmp_zero : ∀ (a b : List UInt8), Lib.compareBytes a b = 0 → a = b
 | [], [], _ => rfl
 | [], _ :: _, h => by cases h
 | _ :: _, [], h => by cases h
 | x :: a, y :: b, h => by
  rw [cmp_cons] at h
  by_cases h1 : x < y
  ·simp [h1] at h
  ·by_cases h2 : y < x
   ·simp [h1, h2] at h
   ·simp [h1, h2] at h
    have : x = y := by
     apply UInt8.toNat_inj.1
     rw [UInt8.lt_iff_toNat_lt] at h1 h2
     omega
    rw [this, cmp_zero a b h]

theorem cmp_self : ∀ a : List UInt8, Lib.compareBytes a a = 0
 | [] => rfl
 | x :: a => by rw [cmp_cons, if_neg (UInt8.lt_irrefl _), if_neg (UInt8.lt_irrefl _)]; exact cmp_self a

theorem cmp_trans : ∀ (a b c : List UInt8), Lib.compareBytes a b < 0 → Lib.compareBytes b c < 0 → Lib.compareBytes a c < 0
 | [], _, [], _, h2 => by
  rename_i b h1
  cases b with
  | nil => simp [Lib.compareBytes] at h1
  | cons y b => simp [Lib.compareBytes] at h2
 | [], _, _ :: _, _, _ => by simp [Lib.compareBytes]
 | x :: a, [], _, h1, _ => by simp [Lib.compareBytes] at h1
 | x :: a, y :: b, [], _, h2 => by simp [Lib.compareBytes] at h2
 | x :: a, y :: b, z :: c, h1, h2 => by
  rw [cmp_cons] at h1 h2 ⊢
  simp only [UInt8.lt_iff_toNat_lt] at h1 h2 ⊢
  have ih := cmp_trans a b c
  split at h1
  ·split at h2
   ·rw [if_pos (by omega)]; decide
   ·split at h2
    ·omega
    ·rw [if_pos (by omega)]; decide
  ·split at h1
   ·omega
   ·split at h2
    ·rw [if_pos (by omega)]; decide
    ·split at h2
     ·omega
     ·rw [if_neg (by omega), if_neg (by omega)]; exact ih h1 h2

theorem ltN_irrefl (a : List UInt8) : ltN a a = false := by unfold ltN; rw [cmp_self]; rfl

theorem ltN_trans {a b c : List UInt8} (h1 : ltN a b = true) (h2 : ltN b c = true) : ltN a c = true := by
 unfold ltN at *; simp at *; exact cmp_trans a b c h1 h2

theorem ltN_asymm {a b : List UInt8} (h : ltN a b = true) : ltN b a = false := by
 cases h2 : ltN b a with
 | false => rfl
 | true => have := ltN_trans h h2; rw [ltN_irrefl] at this; cases this

theorem ltN_total (a b : List UInt8) : ltN a b = true ∨ a = b ∨ ltN b a = true := by
 have h := cmp_anti a b
 rcases Int.lt_trichotomy (Lib.compareBytes a b) 0 with h1 | h1 | h1
 ·left; unfold ltN; simpa using h1
 ·right; left; exact cmp_zero a b h1
 ·right; right; unfold ltN; simp; omega

theorem leN_trans {a b c : List UInt8} (h1 : ltN b a = false) (h2 : ltN c b = false) : ltN c a = false := by
 cases h3 : ltN c a with
 | false => rfl
 | true =>
  rcases ltN_total a b with h | h | h
  ·have := ltN_trans h3 h; rw [h2] at this; cases this
  ·subst h; rw [h3] at h2; cases h2
  ·rw [h1] at h; cases h

set_option maxHeartbeats 1000000 in
theorem byName_any (a b c d : ByteArray) (w : World) :
  Calls Tryz.prog 100 #[.agg #[.string a, .string b], .agg #[.string c, .string d]] w fun e w' => e = .returned (.int .i64 (Lib.compareBytes a.data.toList c.data.toList)) ∧ Below w.heap.size w w' := by
 go_enter Tryz.func100, Tryz.ntmps100
 go_wp2_with fail
 refine (Tryz.strings_Compare a c _).mono ?_
 rintro e w1 ⟨rfl, rfl⟩
 go_wp2
 go_ret
 exact ⟨rfl, belowA (belowA (Below.refl _ _) _) _⟩



def nmAt (M : List Hd) (i : Nat) : List UInt8 := (M.getD i ⟨[], []⟩).name

def Srt (M : List Hd) (b : Nat) : Prop := ∀ p q, p < q → q < b → ltN (nmAt M q) (nmAt M p) = false

def Stab (M0 M : List Hd) : Prop := ∀ x : List UInt8, M.filter (fun h => h.name == x) = M0.filter (fun h => h.name == x)

theorem Stab.refl (M : List Hd) : Stab M M := fun _ => rfl

theorem Stab.trans {A B C : List Hd} (h1 : Stab A B) (h2 : Stab B C) : Stab A C := fun x => (h2 x).trans (h1 x)

def swp (M : List Hd) (m : Nat) : List Hd := (M.set (m + 1) (M.getD m ⟨[], []⟩)).set m (M.getD (m + 1) ⟨[], []⟩)

theorem swp_len (M : List Hd) (m : Nat) : (swp M m).length = M.length := by simp [swp]

theorem swp_app (A B : List Hd) (x y : Hd) : swp (A ++ x :: y :: B) A.length = A ++ y :: x :: B ∧ (A ++ x :: y :: B).getD A.length ⟨[], []⟩ = x ∧ (A ++ x :: y :: B).getD (A.length + 1) ⟨[], []⟩ = y := by
 have e1 : (A ++ x :: y :: B).getD A.length ⟨[], []⟩ = x := by
  rw [List.getD_eq_getElem?_getD, List.getElem?_append_right (Nat.le_refl _), Nat.sub_self]; rfl
 have e2 : (A ++ x :: y :: B).getD (A.length + 1) ⟨[], []⟩ = y := by
  rw [List.getD_eq_getElem?_getD, List.getElem?_append_right (by omega), show A.length + 1 - A.length = 1 by omega]; rfl
 refine ⟨?_, e1, e2⟩
 unfold swp
 rw [e1, e2, List.set_append, if_neg (by omega), show A.length + 1 - A.length = 1 by omega, List.set_append, if_neg (by omega), Nat.sub_self]; rfl

theorem swp_split (M : List Hd) (m : Nat) (h : m + 1 < M.length) : ∃ A x y B, M = A ++ x :: y :: B ∧ A.length = m ∧ swp M m = A ++ y :: x :: B ∧ M.getD m ⟨[], []⟩ = x ∧ M.getD (m + 1) ⟨[], []⟩ = y := by
 have hM : M = M.take m ++ M[m] :: M[m + 1] :: M.drop (m + 2) := by
  rw [List.getElem_cons_drop, List.getElem_cons_drop, List.take_append_drop]
 have hA : (M.take m).length = m := by simp; omega
 have := swp_app (M.take m) (M.drop (m + 2)) M[m] M[m + 1]
 rw [hA, ← hM] at this
 exact ⟨M.take m, M[m], M[m + 1], M.drop (m + 2), hM, hA, this.1, this.2.1, this.2.2⟩

theorem swp_stab (M : List Hd) (m : Nat) (h : m + 1 < M.length) (hne : nmAt M m ≠ nmAt M (m + 1)) : Stab M (swp M m) := by
 obtain ⟨A, x, y, B, rfl, hA, h2, h3, h4⟩ := swp_split M m h
 intro z
 rw [h2]
 unfold nmAt at hne
 rw [h3, h4] at hne
 rw [List.filter_append, List.filter_append]
 congr 1
 by_cases hx : x.name = z
 ·have hy : ¬ y.name = z := fun e => hne (hx.trans e.symm)
  simp [List.filter_cons, hx, hy]
 ·simp [List.filter_cons, hx]

theorem nmAt_swp (M : List Hd) (m : Nat) (h : m + 1 < M.length) (j : Nat) : nmAt (swp M m) j = if j = m then nmAt M (m + 1) else if j = m + 1 then nmAt M m else nmAt M j := by
 have h0 : m < M.length := by omega
 unfold nmAt swp
 simp only [List.getD_eq_getElem?_getD, List.getElem?_set, List.length_set]
 by_cases a1 : j = m
 ·subst a1
  rw [if_pos rfl, if_pos rfl, if_pos h0]; rfl
 ·by_cases a2 : j = m + 1
  ·subst a2
   rw [if_neg (by omega), if_pos rfl, if_pos h, if_neg (by omega), if_pos rfl]; rfl
  ·rw [if_neg (by omega), if_neg (by omega), if_neg a1, if_neg a2]

def Ins (M : List Hd) (i j : Nat) : Prop := j ≤ i ∧ (∀ p q, p < q → q ≤ i → p ≠ j → q ≠ j → ltN (nmAt M q) (nmAt M p) = false) ∧ (∀ q, j < q → q ≤ i → ltN (nmAt M q) (nmAt M j) = false)

theorem Ins.start {M : List Hd} {i : Nat} (h : Srt M i) : Ins M i i := ⟨Nat.le_refl _, fun p q h1 h2 _ h4 => h p q h1 (by omega), fun q h1 h2 => by omega⟩

theorem Ins.done {M : List Hd} {i j : Nat} (h : Ins M i j) (hd : j = 0 ∨ ltN (nmAt M j) (nmAt M (j - 1)) = false) : Srt M (i + 1) := by
 obtain ⟨h1, h2, h3⟩ := h
 intro p q hpq hq
 by_cases e1 : p = j
 ·subst e1; exact h3 q hpq (by omega)
 ·by_cases e2 : q = j
  ·subst e2
   rcases hd with hd | hd
   ·omega
   ·by_cases e3 : p = q - 1
    ·subst e3; exact hd
    ·exact leN_trans (h2 p (q - 1) (by omega) (by omega) e1 (by omega)) hd
  ·exact h2 p q hpq (by omega) e1 e2

theorem Ins.swap {M : List Hd} {i m : Nat} (h : Ins M i (m + 1)) (hi : i < M.length) (hlt : ltN (nmAt M (m + 1)) (nmAt M m) = true) : Ins (swp M m) i m := by
 obtain ⟨h1, h2, h3⟩ := h
 have hml : m + 1 < M.length := by omega
 refine ⟨by omega, fun p q hpq hq hp1 hq1 => ?_, fun q hq hqi => ?_⟩
 ·rw [nmAt_swp M m hml, nmAt_swp M m hml, if_neg hq1, if_neg hp1]
  by_cases e1 : q = m + 1
  ·rw [if_pos e1, if_neg (by omega)]
   exact h2 p m (by omega) (by omega) (by omega) (by omega)
  ·rw [if_neg e1]
   by_cases e2 : p = m + 1
   ·rw [if_pos e2]; exact h2 m q (by omega) hq (by omega) (by omega)
   ·rw [if_neg e2]; exact h2 p q hpq hq e2 e1
 ·rw [nmAt_swp M m hml, nmAt_swp M m hml, if_neg (by omega), if_pos rfl]
  by_cases e1 : q = m + 1
  ·rw [if_pos e1]; exact ltN_asymm hlt
  ·rw [if_neg e1]; exact h3 q (by omega) hqi

theorem ltN_ne {a b : List UInt8} (h : ltN a b = true) : a ≠ b := fun e => by subst e; rw [ltN_irrefl] at h; cases h

end Go.Proofs.YtgoefeaopegdoaaGreatDoor

namespace Go.Proofs.YtgoefeaopegdoaaGreatDoor
open Go.RowKit

theorem RowH.cells {w : World} {g : Nat} {M : List Hd} (h : RowH w g M) (i : Nat) (hi : i < M.length) : w.cell? ⟨g, i * 2, none⟩ = some (.string ⟨(M.getD i ⟨[], []⟩).name.toArray⟩) ∧ w.cell? ⟨g, i * 2 + 1, none⟩ = some (.string ⟨(M.getD i ⟨[], []⟩).value.toArray⟩) := by
 have e : M.getD i ⟨[], []⟩ = M[i] := by simp [List.getD, hi]
 have := cellsH_at M i hi
 rw [e, Lib.cell_of_heap h, Lib.cell_of_heap h]
 simpa using this

theorem RowH.kept {w w' : World} {g : Nat} {M : List Hd} (h : RowH w g M) (hb : Below w.heap.size w w') : RowH w' g M :=
 (hb.block g (Array.getElem?_eq_some_iff.1 h).1).trans h

theorem RowH.lt {w : World} {g : Nat} {M : List Hd} (h : RowH w g M) : g < w.heap.size := (Array.getElem?_eq_some_iff.1 h).1

set_option maxHeartbeats 4000000 in
set_option maxRecDepth 100000 in
theorem insSort_any (g : Nat) (M0 : List Hd) (w : World) (hr0 : RowH w g M0) (hl : M0.length ≤ 1000) :
  Calls Tryz.prog 199 #[.slice (some ⟨g, 0, none⟩) M0.length M0.length, .int .i64 0, .int .i64 M0.length, .func (.func 100) #[] #[]] w fun e w' => e = .returned (.tuple #[]) ∧ ∃ M, RowH w' g M ∧ M.length = M0.length ∧ Stab M0 M ∧ Srt M M.length ∧ Below g w w' := by
 obtain ⟨n, hn⟩ : ∃ n, n = M0.length := ⟨_, rfl⟩
 rw [← hn]
 have HN := hid hn
 have HR0 := hid hr0
 rw [← hn] at hl
 clear hn hr0
 go_enter Tryz.func199, Tryz.ntmps199
 go_wp2
 go_loopw [8, 9] (fun iv jv wr => ∃ (i : Nat) (M : List Hd), i ≤ n + 1 ∧ 1 ≤ i ∧ iv = .int .i64 i ∧ RowH wr g M ∧ M.length = n ∧ Stab M0 M ∧ Srt M i ∧ Below g w wr)
  (fun iv _ _ => n + 1 - (intOf iv).toNat)
 case atStart => exact ⟨1, M0, by omega, by omega, by go_num, HR0.out, HN.out.symm, Stab.refl _, fun p q h1 h2 => by omega, Below.refl _ _⟩
 case round =>
  obtain ⟨i, M, hin, hi1, rfl, hr, hMl, hst, hsrt, hbw⟩ := hrel
  have HR := hid hr
  have HMl := hid hMl
  have HSt := hid hst
  have HSr := hid hsrt
  clear hr hMl hst hsrt
  by_cases hlt : i < n
  ·have hlt' : (i : Int) < (n : Int) := by omega
   go_wp2
   go_loopw [9] (fun jv wx => ∃ (j : Nat) (X : List Hd), jv = .int .i64 j ∧ RowH wx g X ∧ X.length = n ∧ Stab M0 X ∧ Ins X i j ∧ Below g w wx)
    (fun jv _ => (intOf jv).toNat)
   case atStart => exact ⟨i, M, rfl, HR.out, HMl.out, HSt.out, Ins.start HSr.out, hbw⟩
   case round =>
    obtain ⟨j, X, rfl, hx, hXl, hxst, hins, hbx⟩ := hrel
    have HIns := hid hins
    have HXl := hid hXl
    have HXs := hid hxst
    have hji : j ≤ i := hins.1
    have HX := hid hx
    have hgx := hx.lt
    clear hins hXl hxst
    by_cases hj0 : j = 0
    ·subst hj0
     have HS := hid (HIns.out.done (.inl rfl))
     have hg0 : decide ((0 : Int) < (0 : Int)) = false := by decide
     clear hx
     go_wp2
     go_quiet (fail)
     go_wp2
     go_roundw
     case rel => exact ⟨i + 1, X, by omega, by omega, by go_num, HX.out, HXl.out, HXs.out, HS.out, Go.below_drewN hbx _⟩
     case measure => simp [intOf]; omega
    ·obtain ⟨m, rfl⟩ : ∃ m, j = m + 1 := ⟨j - 1, by omega⟩
     have hmX : m + 1 < X.length := by rw [HXl.out]; omega
     obtain ⟨p0, p1⟩ := hx.cells m (by omega)
     obtain ⟨q0, q1⟩ := hx.cells (m + 1) hmX
     have hp : (0 : Int) < (m : Int) + 1 := by omega
     have hm1 : (m : Int) + 1 < (n : Int) := by omega
     have hm0 : (m : Int) < (n : Int) := by omega
     have hw1 : IntKind.i64.wrap ((m : Int) + 1 - 1) = (m : Int) := by rw [IntKind.wrap_i64]; omega
     have hw2 : IntKind.i64.wrap (m : Int) = (m : Int) := by rw [IntKind.wrap_i64]; omega
     have hsb : (m : Int) + 1 - 1 = (m : Int) := by omega
     have htn : ((m : Int) + 1).toNat = m + 1 := by omega
     have hz0 : (0 : Int) ≤ (m : Int) := by omega
     have hz1 : (0 : Int) ≤ (m : Int) + 1 := by omega
     obtain ⟨P0, hP0⟩ : ∃ x : ByteArray, x = ⟨(X.getD m ⟨[], []⟩).name.toArray⟩ := ⟨_, rfl⟩
     obtain ⟨P1, hP1⟩ : ∃ x : ByteArray, x = ⟨(X.getD m ⟨[], []⟩).value.toArray⟩ := ⟨_, rfl⟩
     obtain ⟨Q0, hQ0⟩ : ∃ x : ByteArray, x = ⟨(X.getD (m + 1) ⟨[], []⟩).name.toArray⟩ := ⟨_, rfl⟩
     obtain ⟨Q1, hQ1⟩ : ∃ x : ByteArray, x = ⟨(X.getD (m + 1) ⟨[], []⟩).value.toArray⟩ := ⟨_, rfl⟩
     rw [← hP0] at p0
     rw [← hP1] at p1
     rw [← hQ0] at q0
     rw [← hQ1] at q1
     have HSw := hid (show (X.set (m + 1) ⟨P0.data.toList, P1.data.toList⟩).set m ⟨Q0.data.toList, Q1.data.toList⟩ = swp X m by unfold swp; rw [hP0, hP1, hQ0, hQ1])
     have HCm : Hid (∀ w : World, Calls Tryz.prog 100 #[.agg #[.string Q0, .string Q1], .agg #[.string P0, .string P1]] w fun e w' => e = .returned (.int .i64 (Lib.compareBytes (nmAt X (m + 1)) (nmAt X m))) ∧ Below w.heap.size w w') := fun w => by
      have := byName_any Q0 Q1 P0 P1 w
      rw [show Q0.data.toList = nmAt X (m + 1) by rw [hQ0]; rfl, show P0.data.toList = nmAt X m by rw [hP0]; rfl] at this
      exact this
     clear hP0 hP1 hQ0 hQ1
     obtain ⟨c, hc⟩ : ∃ c, c = Lib.compareBytes (nmAt X (m + 1)) (nmAt X m) := ⟨_, rfl⟩
     rw [← hc] at HCm
     have HC := hid hc
     clear hc
     have HK := hid (fun (Y : World) (hY : Below wr.heap.size wr Y) => (⟨hY, (hY.cell hgx).trans p0, (hY.cell hgx).trans p1, (hY.cell hgx).trans q0, (hY.cell hgx).trans q1⟩ : Below wr.heap.size wr Y ∧ Y.cell? ⟨g, m * 2, none⟩ = some (.string P0) ∧ Y.cell? ⟨g, m * 2 + 1, none⟩ = some (.string P1) ∧ Y.cell? ⟨g, (m + 1) * 2, none⟩ = some (.string Q0) ∧ Y.cell? ⟨g, (m + 1) * 2 + 1, none⟩ = some (.string Q1)))
     have hbD : Below wr.heap.size wr wr.drew := (Below.refl _ wr).drew
     clear hx
     by_cases hc0 : c < 0
     ·go_wp2
      go_region_held (fun wy => Below wr.heap.size wr wy ∧ wy.cell? ⟨g, m * 2, none⟩ = some (.string P0) ∧ wy.cell? ⟨g, m * 2 + 1, none⟩ = some (.string P1) ∧ wy.cell? ⟨g, (m + 1) * 2, none⟩ = some (.string Q0) ∧ wy.cell? ⟨g, (m + 1) * 2 + 1, none⟩ = some (.string Q1))
       (first | exact HK.out _ hbD | exact HK.out _ (by assumption) | (go_split_ands; exact HK.out _ (by assumption)) | (go_split_ands; exact HK.out _ (by first | exact (by assumption : Below wr.heap.size wr _).trans ((by assumption : Below _ _ _).mono (by assumption)) | assumption)))
       (first | (go_at_call 100; refine (HCm.out _).mono ?_; rintro e wy ⟨rfl, hby⟩; have hbY : Below wr.heap.size wr wy := by ((try dsimp only at *); go_split_ands; first | exact hbD.trans (hby.mono (by simp)) | exact Below.trans (by assumption) (hby.mono (Below.size (by assumption)))))
       )
      have hxy : RowH wy g X := HX.out.kept hbY
      obtain ⟨_, y0, y1, z0, z1⟩ := HK.out wy hbY
      have f0 : wy.frozen? ⟨g, m * 2, none⟩ = false := Lib.frozen_of_heap hxy _
      have f1 : wy.frozen? ⟨g, m * 2 + 1, none⟩ = false := Lib.frozen_of_heap hxy _
      have f2 : wy.frozen? ⟨g, (m + 1) * 2, none⟩ = false := Lib.frozen_of_heap hxy _
      have f3 : wy.frozen? ⟨g, (m + 1) * 2 + 1, none⟩ = false := Lib.frozen_of_heap hxy _
      have HXy := hid hxy
      have HbY := hid (show Below g w wy from hbx.trans (hbY.mono (Nat.le_of_lt hgx)))
      (try dsimp only at *)
      go_split_ands
      clear hxy hbY hby
      go_wp2
      go_region
      all_goals
       go_wp2
       go_roundw
       case rel =>
        refine ⟨m, swp X m, by go_num, ?_, by rw [swp_len]; exact HXl.out, HXs.out.trans (swp_stab X m hmX (fun e => ltN_ne (show ltN (nmAt X (m + 1)) (nmAt X m) = true by unfold ltN; rw [← HC.out]; simpa using hc0) e.symm)), HIns.out.swap (by rw [HXl.out]; omega) (by unfold ltN; rw [← HC.out]; simpa using hc0), ?_⟩
        ·rw [← HSw.out]
         exact (HXy.out.set (m + 1) P0 P1).set m Q0 Q1
        ·exact ((((HbY.out.setCell (p := ⟨g, (m + 1) * 2, none⟩) (Nat.le_refl _) _).setCell (p := ⟨g, (m + 1) * 2 + 1, none⟩) (Nat.le_refl _) _).setCell (p := ⟨g, m * 2, none⟩) (Nat.le_refl _) _).setCell (p := ⟨g, m * 2 + 1, none⟩) (Nat.le_refl _) _).drew
       case measure => simp [intOf]
     ·have HS := hid (HIns.out.done (.inr (by rw [show m + 1 - 1 = m by omega]; unfold ltN; rw [← HC.out]; simpa using hc0)))
      go_wp2
      go_region_held (fun wy => Below wr.heap.size wr wy ∧ wy.cell? ⟨g, m * 2, none⟩ = some (.string P0) ∧ wy.cell? ⟨g, m * 2 + 1, none⟩ = some (.string P1) ∧ wy.cell? ⟨g, (m + 1) * 2, none⟩ = some (.string Q0) ∧ wy.cell? ⟨g, (m + 1) * 2 + 1, none⟩ = some (.string Q1))
       (first | exact HK.out _ hbD | exact HK.out _ (by assumption) | (go_split_ands; exact HK.out _ (by assumption)) | (go_split_ands; exact HK.out _ (by first | exact (by assumption : Below wr.heap.size wr _).trans ((by assumption : Below _ _ _).mono (by assumption)) | assumption)))
       (first | (go_at_call 100; refine (HCm.out _).mono ?_; rintro e wy ⟨rfl, hby⟩; have hbY : Below wr.heap.size wr wy := by ((try dsimp only at *); go_split_ands; first | exact hbD.trans (hby.mono (by simp)) | exact Below.trans (by assumption) (hby.mono (Below.size (by assumption)))))
       )
      have HXy := hid (HX.out.kept hbY)
      have HbY := hid (show Below g w wy from hbx.trans (hbY.mono (Nat.le_of_lt hgx)))
      (try dsimp only at *)
      go_wp2
      go_roundw
      case rel => exact ⟨i + 1, X, by omega, by omega, by go_num, HXy.out, HXl.out, HXs.out, HS.out, HbY.out⟩
      case measure => simp [intOf]; omega
  ·have hle : n ≤ i := by omega
   go_wp2
   go_end0
   refine ⟨rfl, M, HR.out, HMl.out, HSt.out, ?_, hbw⟩
   rw [HMl.out]
   exact fun p q h1 h2 => HSr.out p q h1 (by omega)

end Go.Proofs.YtgoefeaopegdoaaGreatDoor

namespace Go.Proofs.YtgoefeaopegdoaaGreatDoor
open Go.RowKit

def Srtd (g : Nat) (M0 : List Hd) (w w' : World) : Prop := ∃ M, RowH w' g M ∧ M.length = M0.length ∧ Stab M0 M ∧ Srt M M.length ∧ Below g w w'

set_option maxHeartbeats 1000000 in
theorem insNone_any (v : Value) (f : Value) (w : World) :
  Calls Tryz.prog 199 #[v, .int .i64 20, .int .i64 20, f] w fun e w' => e = .returned (.tuple #[]) ∧ w = w' := by
 go_enter Tryz.func199, Tryz.ntmps199
 go_wp2
 go_loopw [8, 9] (fun iv jv wr => iv = .int .i64 21 ∧ wr = w) (fun _ _ _ => 0)
 case atStart => exact ⟨rfl, rfl⟩
 case round =>
  obtain ⟨rfl, rfl⟩ := hrel
  go_wp2
  go_end0
  exact ⟨rfl, rfl⟩

def StInv (g : Nat) (M0 : List Hd) (w : World) (av bv : Value) (wr : World) : Prop := (av = .int .i64 0 ∧ bv = .int .i64 20 ∧ wr = w) ∨ (av = .int .i64 20 ∧ bv = .int .i64 40 ∧ Srtd g M0 w wr)

set_option maxHeartbeats 2000000 in
theorem stable_any (g : Nat) (M0 : List Hd) (w : World) (hr0 : RowH w g M0) (hl : M0.length ≤ 20) :
  Calls Tryz.prog 156 #[.slice (some ⟨g, 0, none⟩) M0.length M0.length, .int .i64 M0.length, .func (.func 100) #[] #[]] w fun e w' => e = .returned (.tuple #[]) ∧ Srtd g M0 w w' := by
 have HI := hid (insSort_any g M0 w hr0 (by omega))
 obtain ⟨n, hn⟩ : ∃ n, n = M0.length := ⟨_, rfl⟩
 rw [← hn] at HI ⊢
 have HN := hid hn
 rw [← hn] at hl
 clear hn
 by_cases h20 : n = 20
 ·subst h20
  go_enter Tryz.func156, Tryz.ntmps156
  go_wp2
  go_loopw [7, 8] (fun av bv wr => StInv g M0 w av bv wr) (fun _ bv _ => 60 - (intOf bv).toNat)
  case atStart => exact .inl ⟨rfl, rfl, rfl⟩
  case round =>
   rcases hrel with ⟨rfl, rfl, rfl⟩ | ⟨rfl, rfl, hs⟩
   ·go_wp2_with fail
    refine HI.out.mono ?_
    rintro e w1 ⟨rfl, hM⟩
    have HS := hid (show Srtd g M0 wr w1 from by obtain ⟨M, q1, q2, q3⟩ := hM; exact ⟨M, q1, q2.trans HN.out, q3⟩)
    clear hM
    go_wp2
    refine ⟨⟨_, _, _, _, _, _, _, _, _, _, _, _, _, _, .inr ⟨rfl, rfl, HS.out⟩, rfl⟩, ?_⟩
    show 60 - (intOf (.int .i64 40)).toNat < 60 - (intOf (.int .i64 20)).toNat
    decide
   ·have HS := hid hs
    clear hs
    go_wp2_with fail
    refine (insNone_any _ _ _).mono ?_
    rintro e w1 ⟨rfl, rfl⟩
    go_wp2
    go_loopw [6, 7, 8, 9] (fun bs _ _ _ wx => bs = .int .i64 20 ∧ wx = wr) (fun _ _ _ _ _ => 0)
    case atStart => exact ⟨rfl, rfl⟩
    case round =>
     obtain ⟨rfl, rfl⟩ := hrel
     go_wp2
     go_end0
     exact ⟨rfl, HS.out⟩
 ·have hlt : ¬ (20 : Int) ≤ (n : Int) := by omega
  have hlt2 : ¬ (20 : Int) < (n : Int) := by omega
  go_enter Tryz.func156, Tryz.ntmps156
  go_wp2
  go_loopw [7, 8] (fun av bv wr => av = .int .i64 0 ∧ bv = .int .i64 20 ∧ wr = w) (fun _ _ _ => 0)
  case atStart => exact ⟨rfl, rfl, rfl⟩
  case round =>
   obtain ⟨rfl, rfl, rfl⟩ := hrel
   go_wp2_with fail
   refine HI.out.mono ?_
   rintro e w1 ⟨rfl, hM⟩
   have HS := hid (show Srtd g M0 wr w1 from by obtain ⟨M, q1, q2, q3⟩ := hM; exact ⟨M, q1, q2.trans HN.out, q3⟩)
   clear hM
   go_wp2
   go_loopw [6, 7, 8, 9] (fun bs _ _ _ wx => bs = .int .i64 20 ∧ wx = w1) (fun _ _ _ _ _ => 0)
   case atStart => exact ⟨rfl, rfl⟩
   case round =>
    obtain ⟨rfl, rfl⟩ := hrel
    go_wp2
    go_end0
    exact ⟨rfl, HS.out⟩

set_option maxHeartbeats 1000000 in
theorem sortStable_any (g : Nat) (M0 : List Hd) (w : World) (hr0 : RowH w g M0) (hl : M0.length ≤ 20) :
  Calls Tryz.prog 99 #[.slice (some ⟨g, 0, none⟩) M0.length M0.length, .func (.func 100) #[] #[]] w fun e w' => e = .returned (.tuple #[]) ∧ Srtd g M0 w w' := by
 have HS := hid (stable_any g M0 w hr0 hl)
 go_enter Tryz.func99, Tryz.ntmps99
 go_wp2_with fail
 refine HS.out.mono ?_
 rintro e w1 ⟨rfl, h⟩
 go_wp2
 go_end0
 exact ⟨rfl, h⟩

end Go.Proofs.YtgoefeaopegdoaaGreatDoor

namespace Go.Proofs.YtgoefeaopegdoaaGreatDoor
open Go.RowKit

def lowHd (h : Hd) : Hd := ⟨low h.name, h.value⟩

def lowH (L : List Hd) : List Hd := L.map lowHd

def lowTo5 (L : List Hd) (k : Nat) : List Hd := lowH (L.take k) ++ List.replicate (L.length - k) ⟨[], []⟩

theorem lowTo5_len (L : List Hd) (k : Nat) (h : k ≤ L.length) : (lowTo5 L k).length = L.length := by simp only [lowTo5, lowH, List.length_append, List.length_map, List.length_take, List.length_replicate]; omega

theorem lowTo5_zero (L : List Hd) : lowTo5 L 0 = List.replicate L.length ⟨[], []⟩ := by simp [lowTo5, lowH]

theorem lowTo5_end (L : List Hd) : lowTo5 L L.length = lowH L := by simp [lowTo5]

theorem lowTo5_set (L : List Hd) (k : Nat) (h : k < L.length) : (lowTo5 L k).set k (lowHd L[k]) = lowTo5 L (k + 1) := by
 unfold lowTo5
 have hl : (lowH (L.take k)).length = k := by simp [lowH]; omega
 rw [List.set_append, if_neg (by omega), hl, Nat.sub_self, show L.length - k = (L.length - (k + 1)) + 1 by omega, List.replicate_succ, List.set_cons_zero]
 rw [List.take_add_one, List.getElem?_eq_getElem h]
 unfold lowH
 rw [List.map_append, List.append_assoc]
 rfl

set_option maxHeartbeats 2000000 in
set_option maxRecDepth 100000 in
theorem lowered_any (v : Value) (L : List Hd) (w : World) (h : HdAt w v L) (hl : L.length ≤ 100000) (hz : Szd 140737488351232 L) :
  Calls Tryz.prog 98 #[v] w fun e w' => ∃ g, e = .returned (.slice (some ⟨g, 0, none⟩) L.length L.length) ∧ RowH w' g (lowH L) ∧ w.heap.size ≤ g ∧ Below w.heap.size w w' := by
 obtain ⟨i0, hi, hz0, hz1, hz2⟩ := info3 infoHd
 obtain ⟨a1, c1, rfl, hc1, hm1, hv1⟩ := h.view
 have V1 := hid hv1
 have HZ := hid hz
 clear h hv1 hz
 have hmk := run_make (P := Tryz.prog) w 25 38 i0 _ Tryz.underlying25 hi hz0 .i64 .i64 (L.length : Int) (L.length : Int) (by omega) (by omega) (by rw [hz2]; omega) (by omega)
 rw [hz1, show ((L.length : Int)).toNat = L.length by omega, show (Value.agg #[Value.string ByteArray.empty, .string ByteArray.empty]).cells = #[.string ByteArray.empty, .string ByteArray.empty] from rfl, made_zero] at hmk
 obtain ⟨W1, hW1⟩ : ∃ W1, W1 = w.alloc (.cells (cellsH (List.replicate L.length (⟨[], []⟩ : Hd))).toArray 38) := ⟨_, rfl⟩
 rw [← hW1] at hmk
 have HR0 := hid (show RowH W1 w.heap.size (lowTo5 L 0) by rw [lowTo5_zero, hW1]; exact heap_alloc_new _ _)
 have HB0 := hid (show Below w.heap.size w W1 by rw [hW1]; exact belowA (Below.refl _ _) _)
 clear hW1
 go_enter Tryz.func98, Tryz.ntmps98
 go_wp2
 clear hmk
 go_loopw [4, 5, 11] (fun y x i wr => ∃ k : Nat, k ≤ L.length ∧ i = .int .i64 k ∧ RowH wr w.heap.size (lowTo5 L k) ∧ Below w.heap.size w wr)
  (fun _ _ i _ => L.length - (intOf i).toNat)
 case atStart => exact ⟨0, Nat.zero_le _, rfl, HR0.out, HB0.out⟩
 case round =>
  obtain ⟨k, hk, rfl, hr, hbw⟩ := hrel
  have HR := hid hr
  have hgr := hr.lt
  have hwr := hbw.size
  by_cases hlt : k < L.length
  ·have hlt' : (k : Int) < (L.length : Int) := by omega
   obtain ⟨b1, o1, rfl, e1, e2⟩ := V1.out k hlt
   have f1 : wr.cell? ⟨b1, o1 + k * 2, none⟩ = some (.string ⟨L[k].name.toArray⟩) := (hbw.cell (World.block_lt_of_cell? w _ e1)).trans e1
   have f2 : wr.cell? ⟨b1, o1 + k * 2 + 1, none⟩ = some (.string ⟨L[k].value.toArray⟩) := (hbw.cell (World.block_lt_of_cell? w _ e2)).trans e2
   clear e1 e2
   obtain ⟨nm, hnm⟩ : ∃ x : ByteArray, x = ⟨L[k].name.toArray⟩ := ⟨_, rfl⟩
   obtain ⟨vl, hvl⟩ : ∃ x : ByteArray, x = ⟨L[k].value.toArray⟩ := ⟨_, rfl⟩
   rw [← hnm] at f1
   rw [← hvl] at f2
   have hsz : nm.size ≤ 140737488351232 := by rw [hnm, xsize]; exact (HZ.out _ (List.getElem_mem hlt)).1
   obtain ⟨lo, hlo⟩ : ∃ x : ByteArray, x = ⟨(low nm.data.toList).toArray⟩ := ⟨_, rfl⟩
   have HLo := hid hlo
   have HS := hid (show (lowTo5 L k).set k ⟨lo.data.toList, vl.data.toList⟩ = lowTo5 L (k + 1) by rw [← lowTo5_set L k hlt, hlo, hnm, hvl]; rfl)
   have hkl : k < (lowTo5 L k).length := by rw [lowTo5_len L k hk]; exact hlt
   have HLw : Hid (∀ X : World, Calls Tryz.prog 89 #[.string nm] X fun e w' => e = .returned (.string lo) ∧ Below X.heap.size X w') := hid (fun X => by rw [hlo]; exact lower_any nm X hsz)
   have hne : w.heap.size ≠ wr.heap.size := by omega
   have HY : Hid (∀ Y : World, Below (wr.heap.size + 1) (wr.alloc (.cells #[.string nm, .string vl] 38)).drew Y → (Y.cell? ⟨wr.heap.size, 0, none⟩ = some (.string nm) ∧ Y.cell? ⟨wr.heap.size, 1, none⟩ = some (.string vl)) ∧ RowH Y w.heap.size (lowTo5 L k) ∧ Below w.heap.size w Y) := hid (fun Y hY => by
    have hb2 : Below wr.heap.size wr (wr.alloc (.cells #[.string nm, .string vl] 38)).drew := (belowA (Below.refl _ _) _).drew
    have hb3 := hb2.trans (hY.mono (by omega))
    refine ⟨⟨?_, ?_⟩, HR.out.kept hb3, hbw.trans (hb3.mono (by omega))⟩
    ·rw [hY.cell (by show wr.heap.size < _; omega)]
     rw [Lib.cell_of_heap (show (wr.alloc (.cells #[.string nm, .string vl] 38)).drew.heap[wr.heap.size]? = some (.cells #[.string nm, .string vl] 38) from heap_alloc_new wr _)]
     rfl
    ·rw [hY.cell (by show wr.heap.size < _; omega)]
     rw [Lib.cell_of_heap (show (wr.alloc (.cells #[.string nm, .string vl] 38)).drew.heap[wr.heap.size]? = some (.cells #[.string nm, .string vl] 38) from heap_alloc_new wr _)]
     rfl)
   clear hnm hvl hlo hr
   go_wp2
   go_region_held_law (fun wx => wx.cell? ⟨wr.heap.size, 0, none⟩ = some (.string nm) ∧ wx.cell? ⟨wr.heap.size, 1, none⟩ = some (.string vl))
    (first | exact (HY.out _ (Below.refl _ _)).1 | exact (HY.out _ (by assumption)).1 | (refine ⟨?_, ?_⟩ <;> (rw [World.cell?_setCell_far _ _ _ _ hne, World.cell?_setCell_far _ _ _ _ hne]; first | exact s0 | exact s1)))
    (first | (go_at_call 89; refine (HLw.out _).mono ?_; rintro e wy ⟨rfl, hby⟩; have hby2 : Below (wr.heap.size + 1) (wr.alloc (.cells #[.string nm, .string vl] 38)).drew wy := (by first | exact hby | simpa using hby); obtain ⟨⟨s0, s1⟩, hry, hbY⟩ := HY.out wy hby2; have y0 := (hry.cells k hkl).1; have y1 := (hry.cells k hkl).2; have f0 : wy.frozen? ⟨w.heap.size, k * 2, none⟩ = false := Lib.frozen_of_heap hry _; have f1 : wy.frozen? ⟨w.heap.size, k * 2 + 1, none⟩ = false := Lib.frozen_of_heap hry _))
   all_goals
    (try dsimp only at *)
    go_wp2
    go_roundw
    case rel =>
     refine ⟨k + 1, by omega, by go_num, ?_, ?_⟩
     ·rw [← HS.out]
      exact hry.set k lo vl
     ·exact (hbY.setCell (p := ⟨w.heap.size, k * 2, none⟩) (Nat.le_refl _) _).setCell (p := ⟨w.heap.size, k * 2 + 1, none⟩) (Nat.le_refl _) _
    case measure => simp [intOf]; omega
  ·have hke : k = L.length := by omega
   subst hke
   have HRe := hid (show RowH wr w.heap.size (lowH L) by rw [← lowTo5_end]; exact HR.out)
   clear hr
   go_wp2
   go_ret
   exact ⟨_, rfl, HRe.out, Nat.le_refl _, hbw⟩

end Go.Proofs.YtgoefeaopegdoaaGreatDoor
