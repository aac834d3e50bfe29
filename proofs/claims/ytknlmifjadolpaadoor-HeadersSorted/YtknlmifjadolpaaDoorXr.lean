/-
  A copy of a list of headers into new memory; the walk of headers' with.
-/
import Derived.Test.YtknlmifjadolpaaDoorXm
import Derived.Laws.CopyOwn
import Derived.Laws.MakeOwn
set_option linter.unusedSimpArgs false
set_option linter.unusedVariables false
namespace Go.Proofs.YtknlmifjadolpaaDoor
open Go.RowKit

section
variable {P : Program}

/-- A copy of n elements of two cells each to the head of a block. -/
theorem run_copy_two (w : World) (dT sT ty elem : TypeId) (g n dCap : Nat) (a : Option Addr) (sCap : Nat) (cur : Array Value) (t : TypeId) (cs : List Value)
    (hu : P.underlying dT = some (.slice elem)) (hs : (P.info? elem).map (·.size) = some 2)
    (hg : w.heap[g]? = some (.cells cur t (0, 0))) (hn : cs.length = n * 2)
    (hsrc : ∀ j v, cs[j]? = some v → ∃ ad, a = some ad ∧ w.cell? (ad.add j) = some v) (hfit : cs.length ≤ cur.size) (h1 : ∀ v ∈ cs, v.oneCell' = true) :
    (Builtin.copy_ #[dT, sT] ty #[.slice (some ⟨g, 0, none⟩) n dCap, .slice a n sCap]).run P w =
      .ok (goInt n) (w.setRow g (cs ++ cur.toList.drop cs.length).toArray) := by
  have hst := run_storeCells_at P g 0 t cs 0 cur w hg (by simpa using hfit) h1
  simp only [Nat.add_zero, Nat.zero_add, List.take_zero, List.nil_append] at hst
  cases hq : P.info? elem with
  | none => simp [hq] at hs
  | some i =>
    have hi : i.size = 2 := by simpa [hq] using hs
    by_cases h0 : n = 0
    · subst h0
      have : cs = [] := List.eq_nil_of_length_eq_zero (by simpa using hn)
      subst this
      have hl : ∀ (x : Addr), (loadCells x 0).run P w = .ok #[] w := fun x => by simpa using run_loadCells_list (P := P) w x [] (by simp)
      have hsr : w.setRow g cur = w := setRow_self w g cur t (0, 0) hg
      cases a <;> simp [Builtin.copy_, run_underlying hu, Builtin.lenOf, Builtin.firstCells, sizeOf, typeInfo, hq, storeCells, hl, hsr]
    · have hpos : 0 < cs.length := by omega
      obtain ⟨ad, rfl, _⟩ := hsrc 0 cs[0] (by rw [List.getElem?_eq_getElem hpos])
      have hl := run_loadCells_list (P := P) w ad cs (fun j v hv => by obtain ⟨ad', e, h⟩ := hsrc j v hv; cases e; exact h)
      rw [hn] at hl
      simp [Builtin.copy_, run_underlying hu, Builtin.lenOf, Builtin.firstCells, sizeOf, typeInfo, hq, hi, hl, hst]

theorem wpList_copy_two {w : World} {ops : Array Oper} {rest : List Oper} {o : Oper} {a : Act} {Q : Exit → Act → World → Prop} (hgd : o.guard = none) (d s : Operand) (dT sT : TypeId)
    (ho : o.op = .call { callee := .builtin .copy, args := #[d, s], argTypes := #[dT, sT] }) (elem : TypeId) (hu : P.underlying dT = some (.slice elem)) (hsz : (P.info? elem).map (·.size) = some 2)
    (g n dCap : Nat) (ad : Option Addr) (sCap : Nat) (hd : a.eval d = .slice (some ⟨g, 0, none⟩) n dCap) (hs : a.eval s = .slice ad n sCap)
    (cur : Array Value) (t : TypeId) (hg : w.heap[g]? = some (.cells cur t (0, 0))) (cs : List Value) (hn : cs.length = n * 2)
    (hsrc : ∀ j v, cs[j]? = some v → ∃ x, ad = some x ∧ w.cell? (x.add j) = some v) (hfit : cs.length ≤ cur.size) (h1 : ∀ v ∈ cs, v.oneCell' = true)
    (h : wpList P ops Q rest (a.put o.dst (goInt n)) (w.setRow g (cs ++ cur.toList.drop cs.length).toArray)) : wpList P ops Q (o :: rest) a w := by
  refine wpList_plain hgd fun K hK => ?_
  have hrun := run_copy_two (P := P) w dT sT o.type elem g n dCap ad sCap cur t cs hu hsz hg hn hsrc hfit h1
  unfold Oper.wp
  simp [execOp, ho, resolve, invoke, builtin, hd, hs, hrun, Result.andThen]
  exact hK _ _ h

end

theorem cellsH_cell (L : List Hd) (j : Nat) (u : Value) (h : (cellsH L)[j]? = some u) : ∃ k, ∃ hk : k < L.length, (j = k * 2 ∧ u = .string ⟨L[k].name.toArray⟩) ∨ (j = k * 2 + 1 ∧ u = .string ⟨L[k].value.toArray⟩) := by
  have hj : j < L.length * 2 := by
    rw [← cellsH_len]
    exact (List.getElem?_eq_some_iff.1 h).1
  refine ⟨j / 2, by omega, ?_⟩
  have h2 := cellsH_at L (j / 2) (by omega)
  rcases (show j = j / 2 * 2 ∨ j = j / 2 * 2 + 1 by omega) with e | e
  · left
    refine ⟨e, ?_⟩
    rw [e, h2.1] at h
    exact (Option.some.inj h).symm
  · right
    refine ⟨e, ?_⟩
    rw [e, h2.2] at h
    exact (Option.some.inj h).symm

theorem cellsH_oneCell (L : List Hd) : ∀ u ∈ cellsH L, u.oneCell' = true := fun u hu => by
  obtain ⟨j, hj⟩ := List.getElem?_of_mem hu
  obtain ⟨k, hk, ⟨_, rfl⟩ | ⟨_, rfl⟩⟩ := cellsH_cell L j u hj <;> rfl

theorem add_of (b off j : Nat) : (⟨b, off, none⟩ : Addr).add j = ⟨b, off + j, none⟩ := by unfold Addr.add; split <;> simp_all

/-- The cells of a list of headers, one by one. -/
theorem HdAt.cells {w : World} {a : Option Addr} {n cap : Nat} {L : List Hd} (h : HdAt w (.slice a n cap) L) : n = L.length ∧ ∀ j u, (cellsH L)[j]? = some u → ∃ x, a = some x ∧ w.cell? (x.add j) = some u := by
  obtain ⟨a', cap', e, _, _, hc⟩ := h
  cases e
  refine ⟨rfl, fun j u hu => ?_⟩
  obtain ⟨k, hk, h⟩ := cellsH_cell L j u hu
  obtain ⟨b, off, rfl, c1, c2⟩ := hc k hk
  refine ⟨_, rfl, ?_⟩
  rw [add_of]
  rcases h with ⟨rfl, rfl⟩ | ⟨rfl, rfl⟩
  · exact c1
  · rw [← Nat.add_assoc]; exact c2

/-- A list of headers of the call's own, as it is answered. -/
def HdPost (L : List Hd) (w : World) (e : Ending) (w' : World) : Prop := ∃ v, e = .returned v ∧ w'.ownsRow w.heap.size 28 2 v L.length (cellsH L) ∧ Below w.heap.size w w'

set_option maxHeartbeats 2000000 in
set_option maxRecDepth 100000 in
theorem with_any (v : Value) (L : List Hd) (nm vl : ByteArray) (w : World) (h : HdAt w v L) (hl : L.length ≤ 1000000) :
    Calls Tryd.prog 43 #[v, hdVal nm vl] w (HdPost (L ++ [⟨nm.data.toList, vl.data.toList⟩]) w) := by
  obtain ⟨i0, hi, hz0, hz1, hz2⟩ := info3 infoHd
  have hbx := h.kept (belowA (Below.refl _ w) (.cells #[.string nm, .string vl] 28))
  obtain ⟨a1, c1, rfl, hc1, hm1, hv1⟩ := h.view
  clear h hv1
  have hmk := run_make (P := Tryd.prog) (w.alloc (.cells #[.string nm, .string vl] 28)) 22 28 i0 _ Tryd.underlying22 hi hz0 .i64 .i64 (L.length : Int) ((L.length : Int) + 1) (by omega) (by omega) (by rw [hz2]; omega) (by omega)
  have hcp : ∃ W3, (Builtin.copy_ #[22, 22] 3 #[.slice (some ⟨w.heap.size + 1, 0, none⟩) L.length (L.length + 1), .slice a1 L.length c1]).run Tryd.prog ((w.alloc (.cells #[.string nm, .string vl] 28)).alloc (.cells (madeCells #[.string ByteArray.empty, .string ByteArray.empty] ((L.length + 1) * 2)) 28)) = .ok (goInt L.length) W3 ∧
      W3.ownsRow w.heap.size 28 2 (.slice (some ⟨w.heap.size + 1, 0, none⟩) L.length (L.length + 1)) L.length (cellsH L) ∧ Below w.heap.size w W3 ∧ W3.cell? ⟨w.heap.size, 0, none⟩ = some (.string nm) ∧ W3.cell? ⟨w.heap.size, 1, none⟩ = some (.string vl) := by
    obtain ⟨W1, hW1⟩ : ∃ W1, W1 = w.alloc (.cells #[.string nm, .string vl] 28) := ⟨_, rfl⟩
    obtain ⟨cur, hcur⟩ : ∃ c, c = madeCells #[Value.string ByteArray.empty, .string ByteArray.empty] ((L.length + 1) * 2) := ⟨_, rfl⟩
    rw [← hW1, ← hcur]
    have hcs : cur.size = (L.length + 1) * 2 := by rw [hcur, size_madeCells]
    have hsz1 : W1.heap.size = w.heap.size + 1 := by rw [hW1]; simp
    have hg2 : (W1.alloc (.cells cur 28)).heap[w.heap.size + 1]? = some (.cells cur 28 (0, 0)) := by
      rw [← hsz1]; exact heap_alloc_new _ _
    have hx2 : HdAt (W1.alloc (.cells cur 28)) (.slice a1 L.length c1) L := by
      rw [← hW1] at hbx
      exact hbx.kept (belowA (Below.refl _ _) _)
    have hb2 : Below w.heap.size w (W1.alloc (.cells cur 28)) := by
      rw [hW1]
      exact belowA (belowA (Below.refl _ _) _) _
    have hr := run_copy_two (P := Tryd.prog) (W1.alloc (.cells cur 28)) 22 22 3 28 (w.heap.size + 1) L.length (L.length + 1) a1 c1 cur 28 (cellsH L) Tryd.underlying22 (by kernel_rfl) hg2 (cellsH_len L) hx2.cells.2 (by rw [cellsH_len]; omega) (cellsH_oneCell L)
    have hg3 := setRow_heap (W1.alloc (.cells cur 28)) (w.heap.size + 1) _ (cellsH L ++ cur.toList.drop (cellsH L).length).toArray 28 _ hg2
    have ho : ∀ k, k ≠ w.heap.size + 1 → ((W1.alloc (.cells cur 28)).setRow (w.heap.size + 1) (cellsH L ++ cur.toList.drop (cellsH L).length).toArray).heap[k]? = (W1.alloc (.cells cur 28)).heap[k]? := fun k hk => setRow_other _ _ k _ hk
    refine ⟨_, hr, ⟨cellsH_len L, .inr ⟨w.heap.size + 1, L.length + 1, _, rfl, by omega, hg3, by omega, by unfold maxLen; omega, by simp [cellsH_len, hcs]; omega, ?_⟩⟩, below_setRow hb2 (by omega) _, ?_, ?_⟩
    · rw [List.toList_toArray, List.take_append, ← cellsH_len L]; simp
    · rw [World.cell?_of_block (ho w.heap.size (by omega)), hW1]; simp [go_sem]
    · rw [World.cell?_of_block (ho w.heap.size (by omega)), hW1]; simp [go_sem]
  obtain ⟨W3, hcopy, hown3, hb3, g0, g1⟩ := hcp
  have HO := hid hown3
  have HB := hid hb3
  have hw3 := hb3.size
  clear hown3 hb3 hbx
  unfold hdVal
  go_enter Tryd.func43, Tryd.ntmps43
  go_wp2_with (at_builtin; go_must (refine wpList_append_own _ rfl _ _ 22 rfl w.heap.size 28 i0 _ 2 32 Tryd.underlying22 hi hz0 hz1 hz2 rfl (by decide) _ _ _ rfl (HO.out.alloc _) ⟨W3.heap.size, 0, none⟩ 1 1 [.string nm, .string vl] rfl rfl ?c1 ?c2 ?c3 ?c4 ?c5 ?_))
  case c1 =>
    intro q u hq
    match q, hq with
    | 0, hq => simp at hq; subst hq; simp [Addr.add]
    | 1, hq => simp at hq; subst hq; simp [Addr.add]
  case c2 => intro u hu; simp at hu; rcases hu with rfl | rfl <;> rfl
  case c3 => unfold maxLen; omega
  case c4 => omega
  case c5 => simp; omega
  intro v' w4 hown' hgrow hnil
  have HO4 := hid hown'
  have HB4 := hid (show Below w.heap.size w w4 from (HB.out.alloc hw3 _).grown hgrow (by simp; omega) (fun g hg => (HO.out.lt g hg).1))
  clear hown' hgrow hnil
  go_wp2
  go_ret
  refine ⟨_, rfl, ?_, HB4.out⟩
  rw [cellsH_app, List.length_append]
  have := HO4.out
  exact this

end Go.Proofs.YtknlmifjadolpaaDoor
