/-
  The walk of ostiarybook's Stays at bytes.
-/
import Derived.Test.YtplabofdcnpcpaaWr
import Derived.Test.YtplabofdcnpcpaaRb
import Derived.Deep.RegionHeld
set_option linter.unusedSimpArgs false
set_option linter.unusedVariables false
namespace Go.Proofs.Ytplabofdcnpcpaa
open Go.RowKit

theorem setCell_idle {w : World} {p i : Nat} {cs : Array Value} {T : TypeId} {v : Value} (hp : w.heap[p]? = some (.cells cs T (0, 0))) (h : cs.setIfInBounds i v = cs) (q : Addr) : (w.setCell ⟨p, i, none⟩ v).cell? q = w.cell? q := by
  refine World.cell?_of_block ?_
  by_cases hq : q.block = p
  · rw [hq, heap_setCell_same w p i cs T v hp, h, hp]
  · exact heap_setCell_other w ⟨p, i, none⟩ q.block v hq

end Go.Proofs.Ytplabofdcnpcpaa
