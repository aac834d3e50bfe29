/-
  The walks of ostiarybook's Roomy and Intact over headers.
-/
import Derived.Test.YtknlmifjadolpaaDoorZi
set_option linter.unusedSimpArgs false
set_option linter.unusedVariables false
namespace Go.Proofs.YtknlmifjadolpaaDoor
open Go.RowKit

/-- A copy of n elements of two cells each to the head of a longer list. -/
theorem run_copy_head {P : Program} (w : World) (dT sT ty elem : TypeId) (g n dLen dCap : Nat) (a : Option Addr) (sCap : Nat) (cur : Array Value) (t : TypeId) (cs : List Value) (hnd : n ≤ dLen)
    (hu : P.underlying dT = some (.slice elem)) (hs : (P.info? elem).map (·.size) = some 2)
    (hg : w.heap[g]? = some (.cells cur t (0, 0))) (hn : cs.length = n * 2)
    (hsrc : ∀ j v, cs[j]? = some v → ∃ ad, a = some ad ∧ w.cell? (ad.add j) = some v) (hfit : cs.length ≤ cur.size) (h1 : ∀ v ∈ cs, v.oneCell' = true) :
    (Builtin.copy_ #[dT, sT] ty #[.slice (some ⟨g, 0, none⟩) dLen dCap, .slice a n sCap]).run P w =
      .ok (goInt n) (w.setRow g (cs ++ cur.toList.drop cs.length).toArray) := by
  have hst := run_storeCells_at P g 0 t cs 0 cur w hg (by simpa using hfit) h1
  simp only [Nat.add_zero, Nat.zero_add, List.take_zero, List.nil_append] at hst
  have hmin : Nat.min n dLen = n := Nat.min_eq_left hnd
  cases hq : P.info? elem with
  | none => simp [hq] at hs
  | some i =>
    have hi : i.size = 2 := by simpa [hq] using hs
    by_cases h0 : n = 0
    · subst h0
      have : cs = [] := List.eq_nil_of_length_eq_zero (by simpa using hn)
      subst this
      have hl : ∀ (x : Addr), (loadCells x 0).run P w = .ok #[] w := fun x => by simpa using run_loadCells_list (P := P) w x [] (by simp)
      have hsr : w.setRow g cur = w := setRow_self w g cur t (0, 0) hg
      cases a <;> simp [Builtin.copy_, run_underlying hu, Builtin.lenOf, Builtin.firstCells, sizeOf, typeInfo, hq, storeCells, hl, hsr, hmin]
    · have hpos : 0 < cs.length := by omega
      obtain ⟨ad, rfl, _⟩ := hsrc 0 cs[0] (by rw [List.getElem?_eq_getElem hpos])
      have hl := run_loadCells_list (P := P) w ad cs (fun j v hv => by obtain ⟨ad', e, h⟩ := hsrc j v hv; cases e; exact h)
      rw [hn] at hl
      simp [Builtin.copy_, run_underlying hu, Builtin.lenOf, Builtin.firstCells, sizeOf, typeInfo, hq, hi, hl, hst, hmin]

/-- Block g holds the headers M, and nothing else. -/
def RowH (w : World) (g : Nat) (M : List Hd) : Prop := w.heap[g]? = some (.cells (cellsH M).toArray 28 (0, 0))

theorem RowH.at {w : World} {g : Nat} {M : List Hd} (h : RowH w g M) (hm : M.length ≤ maxLen) : HdAt w (.slice (some ⟨g, 0, none⟩) M.length M.length) M :=
  hd_of (Nat.le_refl _) hm fun j hj => by
    have := cellsH_at M j hj
    rw [Nat.zero_add, Lib.cell_of_heap h, Lib.cell_of_heap h]
    simpa using this

theorem cellsH_set : ∀ (M : List Hd) (i : Nat) (h : Hd), ((cellsH M).set (i * 2) (.string ⟨h.name.toArray⟩)).set (i * 2 + 1) (.string ⟨h.value.toArray⟩) = cellsH (M.set i h)
  | [], i, h => by simp [cellsH]
  | a :: M, 0, h => rfl
  | a :: M, i + 1, h => by
    have ih := cellsH_set M i h
    have e : cellsH (a :: M) = Value.string ⟨a.name.toArray⟩ :: Value.string ⟨a.value.toArray⟩ :: cellsH M := rfl
    have e2 : cellsH ((a :: M).set (i + 1) h) = Value.string ⟨a.name.toArray⟩ :: Value.string ⟨a.value.toArray⟩ :: cellsH (M.set i h) := rfl
    rw [e, e2, show (i + 1) * 2 = i * 2 + 1 + 1 by omega, List.set_cons_succ, List.set_cons_succ, List.set_cons_succ, List.set_cons_succ, ih]

theorem RowH.set {w : World} {g : Nat} {M : List Hd} (h : RowH w g M) (i : Nat) (a b : ByteArray) : RowH ((w.setCell ⟨g, i * 2, none⟩ (.string a)).setCell ⟨g, i * 2 + 1, none⟩ (.string b)) g (M.set i ⟨a.data.toList, b.data.toList⟩) := by
  have h1 := Lib.heap_setCell_same h (i := i * 2) (.string a)
  have h2 := Lib.heap_setCell_same h1 (i := i * 2 + 1) (.string b)
  unfold RowH
  rw [h2]
  have := cellsH_set M i ⟨a.data.toList, b.data.toList⟩
  rw [← xself a, ← xself b] at this
  rw [← this]
  simp

/-- The list and its room, j places of it marked. -/
def romL (L : List Hd) (mk : Hd) (j : Nat) : List Hd := L ++ (List.replicate j mk ++ List.replicate (80 - j) ⟨[], []⟩)

theorem romL_len (L : List Hd) (mk : Hd) (j : Nat) (h : j ≤ 80) : (romL L mk j).length = L.length + 80 := by simp [romL]; omega

theorem romL_set (L : List Hd) (mk : Hd) (j : Nat) (h : j < 80) : (romL L mk j).set (L.length + j) mk = romL L mk (j + 1) := by
  unfold romL
  rw [List.set_append, if_neg (by omega), Nat.add_sub_cancel_left, List.set_append, if_neg (by simp), List.length_replicate, Nat.sub_self, show 80 - j = (80 - (j + 1)) + 1 by omega, List.replicate_succ, List.set_cons_zero, List.replicate_succ' (n := j)]
  simp

/-- The room, marked. -/
def markL (mk : Hd) : List Hd := List.replicate 80 mk

theorem romL_end (L : List Hd) (mk : Hd) : romL L mk 80 = L ++ markL mk := by simp [romL, markL]

theorem made_zero (m : Nat) : madeCells #[Value.string ByteArray.empty, .string ByteArray.empty] (m * 2) = (cellsH (List.replicate m ⟨[], []⟩)).toArray := by
  have hl : (cellsH (List.replicate m (⟨[], []⟩ : Hd))).length = m * 2 := by rw [cellsH_len]; simp
  apply Array.ext_getElem?
  intro j
  by_cases hj : j < m * 2
  · have h1 : (madeCells #[Value.string ByteArray.empty, .string ByteArray.empty] (m * 2))[j]? = some (.string ByteArray.empty) := by
      unfold madeCells
      rcases (show j % 2 = 0 ∨ j % 2 = 1 by omega) with h | h <;> simp [hj, h]
    rw [h1]
    have hu : j < (cellsH (List.replicate m (⟨[], []⟩ : Hd))).length := by rw [hl]; exact hj
    obtain ⟨k, hk, ⟨_, e⟩ | ⟨_, e⟩⟩ := cellsH_cell _ j _ (List.getElem?_eq_getElem hu)
    · simp only [List.getElem?_toArray, List.getElem?_eq_getElem hu]
      rw [e]; simp; rfl
    · simp only [List.getElem?_toArray, List.getElem?_eq_getElem hu]
      rw [e]; simp; rfl
  · rw [Array.getElem?_eq_none (by rw [size_madeCells]; omega), Array.getElem?_eq_none (by simp [hl]; omega)]

theorem far_two {w : World} {g o o' b i : Nat} (h : b ≠ g) (x y : Value) : ((w.setCell ⟨g, o, none⟩ x).setCell ⟨g, o', none⟩ y).cell? ⟨b, i, none⟩ = w.cell? ⟨b, i, none⟩ := by
  have far : ∀ (w : World) (o : Nat) (x : Value), (w.setCell ⟨g, o, none⟩ x).cell? ⟨b, i, none⟩ = w.cell? ⟨b, i, none⟩ := fun w o x => by
    refine World.cell?_of_block ?_
    have hb : Below g w (w.setCell ⟨g, o, none⟩ x) ∨ g < b ∨ b < g := by omega
    simp [World.setCell, Array.getElem?_modify, Ne.symm h]
  rw [far, far]

set_option maxHeartbeats 2000000 in
set_option maxRecDepth 100000 in
theorem roomy_any (v : Value) (L : List Hd) (nm vl : ByteArray) (w : World) (h : HdAt w v L) (hl : L.length ≤ 100000) :
    Calls Tryd.prog 22 #[v, hdVal nm vl] w fun e w' => ∃ g, e = .returned (.slice (some ⟨g, 0, none⟩) (L.length + 80) (L.length + 80)) ∧ RowH w' g (L ++ markL ⟨nm.data.toList, vl.data.toList⟩) ∧ Below w.heap.size w w' := by
  obtain ⟨i0, hi, hz0, hz1, hz2⟩ := info3 infoHd
  have hbx := h.kept (belowA (Below.refl _ w) (.cells #[.string nm, .string vl] 28))
  obtain ⟨a1, c1, rfl, hc1, hm1, hv1⟩ := h.view
  clear h hv1
  have hmk := run_make (P := Tryd.prog) (w.alloc (.cells #[.string nm, .string vl] 28)) 22 28 i0 _ Tryd.underlying22 hi hz0 .i64 .i64 ((L.length : Int) + 80) ((L.length : Int) + 80) (by omega) (by omega) (by rw [hz2]; omega) (by omega)
  have hcp : ∃ W3, (Builtin.copy_ #[22, 22] 3 #[.slice (some ⟨w.heap.size + 1, 0, none⟩) (L.length + 80) (L.length + 80), .slice a1 L.length c1]).run Tryd.prog ((w.alloc (.cells #[.string nm, .string vl] 28)).alloc (.cells (madeCells #[.string ByteArray.empty, .string ByteArray.empty] ((L.length + 80) * 2)) 28)) = .ok (goInt L.length) W3 ∧
      RowH W3 (w.heap.size + 1) (romL L ⟨nm.data.toList, vl.data.toList⟩ 0) ∧ Below w.heap.size w W3 ∧ W3.cell? ⟨w.heap.size, 0, none⟩ = some (.string nm) ∧ W3.cell? ⟨w.heap.size, 1, none⟩ = some (.string vl) := by
    obtain ⟨W1, hW1⟩ : ∃ W1, W1 = w.alloc (.cells #[.string nm, .string vl] 28) := ⟨_, rfl⟩
    rw [made_zero, ← hW1]
    obtain ⟨cur, hcur⟩ : ∃ c, c = (cellsH (List.replicate (L.length + 80) (⟨[], []⟩ : Hd))).toArray := ⟨_, rfl⟩
    rw [← hcur]
    have hcs : cur.size = (L.length + 80) * 2 := by rw [hcur]; simp [cellsH_len]
    have hsz1 : W1.heap.size = w.heap.size + 1 := by rw [hW1]; simp
    have hg2 : (W1.alloc (.cells cur 28)).heap[w.heap.size + 1]? = some (.cells cur 28 (0, 0)) := by
      rw [← hsz1]; exact heap_alloc_new _ _
    have hx2 : HdAt (W1.alloc (.cells cur 28)) (.slice a1 L.length c1) L := by
      rw [← hW1] at hbx
      exact hbx.kept (belowA (Below.refl _ _) _)
    have hb2 : Below w.heap.size w (W1.alloc (.cells cur 28)) := by
      rw [hW1]
      exact belowA (belowA (Below.refl _ _) _) _
    have hr := run_copy_head (P := Tryd.prog) (W1.alloc (.cells cur 28)) 22 22 3 28 (w.heap.size + 1) L.length (L.length + 80) (L.length + 80) a1 c1 cur 28 (cellsH L) (by omega) Tryd.underlying22 (by kernel_rfl) hg2 (cellsH_len L) hx2.cells.2 (by rw [cellsH_len]; omega) (cellsH_oneCell L)
    have hg3 := setRow_heap (W1.alloc (.cells cur 28)) (w.heap.size + 1) _ (cellsH L ++ cur.toList.drop (cellsH L).length).toArray 28 _ hg2
    have ho : ∀ k, k ≠ w.heap.size + 1 → ((W1.alloc (.cells cur 28)).setRow (w.heap.size + 1) (cellsH L ++ cur.toList.drop (cellsH L).length).toArray).heap[k]? = (W1.alloc (.cells cur 28)).heap[k]? := fun k hk => setRow_other _ _ k _ hk
    have hrow : cellsH L ++ cur.toList.drop (cellsH L).length = cellsH (romL L ⟨nm.data.toList, vl.data.toList⟩ 0) := by
      unfold romL
      rw [cellsH_app]
      congr 1
      rw [hcur, cellsH_len, Nat.add_comm L.length 80, ← List.replicate_append_replicate, cellsH_app]
      simp only [List.replicate_zero, List.nil_append, Nat.sub_zero]
      rw [show cellsH (List.replicate 80 (⟨[], []⟩ : Hd)) ++ cellsH (List.replicate L.length ⟨[], []⟩) = cellsH (List.replicate L.length ⟨[], []⟩) ++ cellsH (List.replicate 80 ⟨[], []⟩) by rw [← cellsH_app, ← cellsH_app, List.replicate_append_replicate, List.replicate_append_replicate, Nat.add_comm]]
      rw [List.drop_append, List.drop_of_length_le (by rw [cellsH_len]; simp), cellsH_len]; simp
    rw [hrow] at hg3 hr ho
    refine ⟨_, hr, hg3, below_setRow hb2 (by omega) _, ?_, ?_⟩
    · rw [World.cell?_of_block (ho w.heap.size (by omega)), hW1]; simp [go_sem]
    · rw [World.cell?_of_block (ho w.heap.size (by omega)), hW1]; simp [go_sem]
  obtain ⟨W3, hcopy, hrow3, hb3, g0, g1⟩ := hcp
  have HR := hid hrow3
  have HB := hid hb3
  have HG0 := hid g0
  have HG1 := hid g1
  have ht80 : ((L.length : Int) + 80).toNat = L.length + 80 := by omega
  rw [hz1, ht80] at hmk
  clear hrow3 hb3 hbx g0 g1
  unfold hdVal
  go_enter Tryd.func22, Tryd.ntmps22
  go_wp2
  clear hmk hcopy
  go_loopw [6] (fun i wr => ∃ j : Nat, j ≤ 80 ∧ i = .int .i64 ((L.length + j : Nat) : Int) ∧ RowH wr (w.heap.size + 1) (romL L ⟨nm.data.toList, vl.data.toList⟩ j) ∧ Below w.heap.size w wr ∧ wr.cell? ⟨w.heap.size, 0, none⟩ = some (.string nm) ∧ wr.cell? ⟨w.heap.size, 1, none⟩ = some (.string vl))
    (fun i _ => L.length + 80 - (intOf i).toNat)
  case atStart => exact ⟨0, by omega, by go_num, HR.out, HB.out, HG0.out, HG1.out⟩
  case round =>
    obtain ⟨j, hj, rfl, hr, hbw, g0, g1⟩ := hrel
    by_cases hlt : j < 80
    · have hlt' : ((L.length + j : Nat) : Int) < (L.length : Int) + 80 := by omega
      have hcell := fun i (hi : i < L.length + 80) => cellsH_at (romL L ⟨nm.data.toList, vl.data.toList⟩ j) i (by rw [romL_len _ _ _ hj]; exact hi)
      obtain ⟨hc0, hc1⟩ := hcell (L.length + j) (by omega)
      obtain ⟨x0, hx0⟩ : ∃ x, wr.cell? ⟨w.heap.size + 1, (L.length + j) * 2, none⟩ = some x := ⟨_, by rw [Lib.cell_of_heap hr]; simpa using hc0⟩
      obtain ⟨x1, hx1⟩ : ∃ x, wr.cell? ⟨w.heap.size + 1, (L.length + j) * 2 + 1, none⟩ = some x := ⟨_, by rw [Lib.cell_of_heap hr]; simpa using hc1⟩
      have hf0 : wr.frozen? ⟨w.heap.size + 1, (L.length + j) * 2, none⟩ = false := Lib.frozen_of_heap hr _
      have hf1 : wr.frozen? ⟨w.heap.size + 1, (L.length + j) * 2 + 1, none⟩ = false := Lib.frozen_of_heap hr _
      have HRw := hid hr
      have HS := hid (romL_set L ⟨nm.data.toList, vl.data.toList⟩ j hlt)
      clear hr hc0 hc1 hcell
      obtain ⟨p, hp⟩ : ∃ p, p = L.length + j := ⟨_, rfl⟩
      rw [← hp] at hx0 hx1 hf0 hf1 hlt'
      rw [← hp]
      have HP := hid hp
      have hps : (p : Int) < 1000000 := by omega
      clear hp
      go_wp2
      go_roundw
      case rel =>
        refine ⟨j + 1, by omega, by have := HP.out; go_num, ?_, (hbw.setCell (p := ⟨w.heap.size + 1, p * 2, none⟩) (Nat.le_succ _) _).setCell (p := ⟨w.heap.size + 1, p * 2 + 1, none⟩) (Nat.le_succ _) _, ?_, ?_⟩
        · rw [← HS.out, ← HP.out]
          exact HRw.out.set p nm vl
        · exact (far_two (by omega) _ _).trans g0
        · exact (far_two (by omega) _ _).trans g1
      case measure => have := HP.out; simp [intOf]; omega
    · have hje : j = 80 := by omega
      subst hje
      have hlt' : ¬ ((L.length + 80 : Nat) : Int) < (L.length : Int) + 80 := by omega
      have HRw := hid hr
      clear hr
      go_wp2
      go_ret
      exact ⟨_, rfl, by rw [← romL_end]; exact HRw.out, hbw⟩

end Go.Proofs.YtknlmifjadolpaaDoor
