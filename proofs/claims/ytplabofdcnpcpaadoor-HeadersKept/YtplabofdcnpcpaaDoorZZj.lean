/-
  The walks of ostiarybook's Roomy and Intact over headers.
-/
import Derived.Test.YtplabofdcnpcpaaDoorZZi
set_option linter.unusedSimpArgs false
set_option linter.unusedVariables false
namespace Go.Proofs.YtplabofdcnpcpaaDoor
open Go.RowKit

/-- A copy of n elements of two cells each to the head of a longer list. -/
theorem run_copy_head {P : Program} (w : World) (dT sT ty elem : TypeId) (g n dLen dCap : Nat) (a : Option Addr) (sCap : Nat) (cur : Array Value) (t : TypeId) (cs : List Value) (hnd : n ≤ dLen)
    (hu : P.underlying dT = some (.slice elem)) (hs : (P.info? elem).map (·.size) = some 2)
    (hg : w.heap[g]? = some (.cells cur t (0, 0))) (hn : cs.length = n * 2)
    (hsrc : ∀ j v, cs[j]? = some v → ∃ ad, a = some ad ∧ w.cell? (ad.add j) = some v) (hfit : cs.length ≤ cur.size) (h1 : ∀ v ∈ cs, v.oneCell' = true) :
    (Builtin.copy_ #[dT, sT] ty #[.slice (some ⟨g, 0, none⟩) dLen dCap, .slice a n sCap]).run P w =
      .ok (goInt n) (w.setRow g (cs ++ cur.toList.drop cs.length).toArray) := by
  have hst := run_storeCells_at P g 0 t cs 0 cur w hg (by simpa using hfit) h1
  simp only [Nat.add_zero, Nat.zero_add, List.take_zero, List.nil_append] at hst
  have hmin : Nat.min n dLen = n := Nat.min_eq_left hnd
  cases hq : P.info? elem with
  | none => simp [hq] at hs
  | some i =>
    have hi : i.size = 2 := by simpa [hq] using hs
    by_cases h0 : n = 0
    · subst h0
      have : cs = [] := List.eq_nil_of_length_eq_zero (by simpa using hn)
      subst this
      have hl : ∀ (x : Addr), (loadCells x 0).run P w = .ok #[] w := fun x => by simpa using run_loadCells_list (P := P) w x [] (by simp)
      have hsr : w.setRow g cur = w := setRow_self w g cur t (0, 0) hg
      cases a <;> simp [Builtin.copy_, run_underlying hu, Builtin.lenOf, Builtin.firstCells, sizeOf, typeInfo, hq, storeCells, hl, hsr, hmin]
    · have hpos : 0 < cs.length := by omega
      obtain ⟨ad, rfl, _⟩ := hsrc 0 cs[0] (by rw [List.getElem?_eq_getElem hpos])
      have hl := run_loadCells_list (P := P) w ad cs (fun j v hv => by obtain ⟨ad', e, h⟩ := hsrc j v hv; cases e; exact h)
      rw [hn] at hl
      simp [Builtin.copy_, run_underlying hu, Builtin.lenOf, Builtin.firstCells, sizeOf, typeInfo, hq, hi, hl, hst, hmin]

/-- Block g holds the headers M, and nothing else. -/
def RowH (w : World) (g : Nat) (M : List Hd) : Prop := w.heap[g]? = some (.cells (cellsH M).toArray 38 (0, 0))

theorem RowH.at {w : World} {g : Nat} {M : List Hd} (h : RowH w g M) (hm : M.length ≤ maxLen) : HdAt w (.slice (some ⟨g, 0, none⟩) M.length M.length) M :=
  hd_of (Nat.le_refl _) hm fun j hj => by
    have := cellsH_at M j hj
    rw [Nat.zero_add, Lib.cell_of_heap h, Lib.cell_of_heap h]
    simpa using this

theorem cellsH_set : ∀ (M : List Hd) (i : Nat) (h : Hd), ((cellsH M).set (i * 2) (.string ⟨h.name.toArray⟩)).set (i * 2 + 1) (.string ⟨h.value.toArray⟩) = cellsH (M.set i h)
  | [], i, h => by simp [cellsH]
  | a :: M, 0, h => rfl
  | a :: M, i + 1, h => by
    have ih := cellsH_set M i h
    have e : cellsH (a :: M) = Value.string ⟨a.name.toArray⟩ :: Value.string ⟨a.value.toArray⟩ :: cellsH M := rfl
    have e2 : cellsH ((a :: M).set (i + 1) h) = Value.string ⟨a.name.toArray⟩ :: Value.string ⟨a.value.toArray⟩ :: cellsH (M.set i h) := rfl
    rw [e, e2, show (i + 1) * 2 = i * 2 + 1 + 1 by omega, List.set_cons_succ, List.set_cons_succ, List.set_cons_succ, List.set_cons_succ, ih]

theorem RowH.set {w : World} {g : Nat} {M : List Hd} (h : RowH w g M) (i : Nat) (a b : ByteArray) : RowH ((w.setCell ⟨g, i * 2, none⟩ (.string a)).setCell ⟨g, i * 2 + 1, none⟩ (.string b)) g (M.set i ⟨a.data.toList, b.data.toList⟩) := by
  have h1 := Lib.heap_setCell_same h (i := i * 2) (.string a)
  have h2 := Lib.heap_setCell_same h1 (i := i * 2 + 1) (.string b)
  unfold RowH
  rw [h2]
  have := cellsH_set M i ⟨a.data.toList, b.data.toList⟩
  rw [← xself a, ← xself b] at this
  rw [← this]
  simp

/-- The list and its room, j places of it marked. -/
def romL (L : List Hd) (mk : Hd) (j : Nat) : List Hd := L ++ (List.replicate j mk ++ List.replicate (80 - j) ⟨[], []⟩)

theorem romL_len (L : List Hd) (mk : Hd) (j : Nat) (h : j ≤ 80) : (romL L mk j).length = L.length + 80 := by simp [romL]; omega

theorem romL_set (L : List Hd) (mk : Hd) (j : Nat) (h : j < 80) : (romL L mk j).set (L.length + j) mk = romL L mk (j + 1) := by
  unfold romL
  rw [List.set_append, if_neg (by omega), Nat.add_sub_cancel_left, List.set_append, if_neg (by simp), List.length_replicate, Nat.sub_self, show 80 - j = (80 - (j + 1)) + 1 by omega, List.replicate_succ, List.set_cons_zero, List.replicate_succ' (n := j)]
  simp

/-- The room, marked. -/
def markL (mk : Hd) : List Hd := List.replicate 80 mk

theorem romL_end (L : List Hd) (mk : Hd) : romL L mk 80 = L ++ markL mk := by simp [romL, markL]

theorem made_zero (m : Nat) : madeCells #[Value.string ByteArray.empty, .string ByteArray.empty] (m * 2) = (cellsH (List.replicate m ⟨[], []⟩)).toArray := by
  have hl : (cellsH (List.replicate m (⟨[], []⟩ : Hd))).length = m * 2 := by rw [cellsH_len]; simp
  apply Array.ext_getElem?
  intro j
  by_cases hj : j < m * 2
  · have h1 : (madeCells #[Value.string ByteArray.empty, .string ByteArray.empty] (m * 2))[j]? = some (.string ByteArray.empty) := by
      unfold madeCells
      rcases (show j % 2 = 0 ∨ j % 2 = 1 by omega) with h | h <;> simp [hj, h]
    rw [h1]
    have hu : j < (cellsH (List.replicate m (⟨[], []⟩ : Hd))).length := by rw [hl]; exact hj
    obtain ⟨k, hk, ⟨_, e⟩ | ⟨_, e⟩⟩ := cellsH_cell _ j _ (List.getElem?_eq_getElem hu)
    · simp only [List.getElem?_toArray, List.getElem?_eq_getElem hu]
      rw [e]; simp; rfl
    · simp only [List.getElem?_toArray, List.getElem?_eq_getElem hu]
      rw [e]; simp; rfl
  · rw [Array.getElem?_eq_none (by rw [size_madeCells]; omega), Array.getElem?_eq_none (by simp [hl]; omega)]

theorem far_two {w : World} {g o o' b i : Nat} (h : b ≠ g) (x y : Value) : ((w.setCell ⟨g, o, none⟩ x).setCell ⟨g, o', none⟩ y).cell? ⟨b, i, none⟩ = w.cell? ⟨b, i, none⟩ := by
  have far : ∀ (w : World) (o : Nat) (x : Value), (w.setCell ⟨g, o, none⟩ x).cell? ⟨b, i, none⟩ = w.cell? ⟨b, i, none⟩ := fun w o x => by
    refine World.cell?_of_block ?_
    have hb : Below g w (w.setCell ⟨g, o, none⟩ x) ∨ g < b ∨ b < g := by omega
    simp [World.setCell, Array.getElem?_modify, Ne.symm h]
  rw [far, far]

end Go.Proofs.YtplabofdcnpcpaaDoor
