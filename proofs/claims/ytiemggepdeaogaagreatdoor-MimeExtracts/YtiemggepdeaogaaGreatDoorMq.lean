/-
  The walk of the law MimeParams.
-/
import Derived.Test.YtiemggepdeaogaaGreatDoorMp
set_option linter.unusedSimpArgs false
set_option linter.unusedVariables false
namespace Go.Proofs.YtiemggepdeaogaaGreatDoor
open Go.RowKit

set_option maxRecDepth 100000 in
theorem wrd_tok {x : List UInt8} (h : Wrd x) : tokL x = true ∧ low x = x := by
  have key : ∀ c : UInt8, 97 ≤ c.toNat ∧ c.toNat ≤ 122 → tokC c = true ∧ lowC c = c := fun c hc => by
    have := byte_all (p := fun c => !(decide (97 ≤ c.toNat) && decide (c.toNat ≤ 122)) || (tokC c && lowC c == c)) (by decide) c
    simp [hc.1, hc.2] at this
    exact this
  refine ⟨tokL_of (fun c hc => (key c (wrd_mem h hc)).1) h.1, ?_⟩
  unfold low
  have : ∀ c ∈ x, lowC c = c := fun c hc => (key c (wrd_mem h hc)).2
  rw [List.map_congr_left this, List.map_id']

theorem fit_snoc (V : List UInt8) (c : UInt8) (h : fitV V = true) (hc : fitC c = true) : fitV (V ++ [c]) = true := by
  unfold fitV at *; rw [List.all_append, h]; simp [hc]

theorem hd_new6 (w : World) (L : List Hd) (t : TypeId) (hl : L.length ≤ 1000) : HdAt (w.alloc (.cells (cellsH L).toArray t)) (.slice (some ⟨w.heap.size, 0, none⟩) L.length L.length) L := by
  refine hd_of (Nat.le_refl _) (by unfold maxLen; omega) fun j hj => ?_
  have h := cellsH_at L j hj
  have hc : ∀ i, (w.alloc (.cells (cellsH L).toArray t)).cell? ⟨w.heap.size, i, none⟩ = (cellsH L)[i]? := fun i => by
    rw [Lib.cell_of_heap (heap_alloc_new w _)]; simp
  rw [Nat.zero_add, hc, hc]
  exact h

def mpK (T V : List UInt8) : Kn := ⟨[97], [98], [⟨T, V⟩]⟩

theorem mpK_good (T V : List UInt8) (hT : Wrd T) (hV : fitV V = true) : GoodK (mpK T V) := by
  have h := wrd_tok hT
  refine ⟨show tokL [97] = true by decide, show low [97] = [97] by decide, show tokL [98] = true by decide, show low [98] = [98] by decide, ?_, List.pairwise_singleton _ _⟩
  intro p hp
  obtain rfl := List.mem_singleton.1 hp
  exact ⟨h.1, h.2, hV⟩

theorem mpK_len (T V : List UInt8) (hT : T.length ≤ 12) (hV : V.length ≤ 60) : (txtV (mpK T V)).length ≤ 10000 := by
  have := wrt_len V
  simp [txtV, essV, mpK, prmT]
  omega

end Go.Proofs.YtiemggepdeaogaaGreatDoor
