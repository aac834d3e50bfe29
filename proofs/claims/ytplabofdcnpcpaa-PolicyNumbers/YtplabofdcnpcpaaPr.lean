/-
  What a walk is told of a slice of bytes that came in.
-/
import Derived.WalkKit
import Derived.Lib.UnsafeStr
set_option linter.unusedSimpArgs false
set_option linter.unusedVariables false
namespace Go.Proofs.Ytplabofdcnpcpaa
open Go.RowKit

/-- It is nil; or it leads to a row of cap cells, the numbers zs (the first len are its elements), each fitting its kind. -/
def IsRow (k : IntKind) (w : World) (a : Option Addr) (len cap : Nat) (zs : List Int) : Prop :=
  (a = none ∧ len = 0 ∧ cap = 0 ∧ zs = []) ∨
  ∃ x, a = some x ∧ len ≤ cap ∧ cap ≤ maxLen ∧ zs.length = cap ∧ (∀ i, i < zs.length → w.cell? (x.add i) = some (.int k (zs.getD i 0))) ∧ ∀ n ∈ zs, (Lit.int k n).wf = true

theorem IsRow.block {k : IntKind} {w : World} {a : Option Addr} {len cap : Nat} {zs : List Int} (h : IsRow k w a len cap zs) {y : Addr} (hy : a = some y) {j : Nat} (hj : j < zs.length) : (y.add j).block < w.heap.size := by
  rcases h with ⟨rfl, _⟩ | ⟨x, rfl, _, _, _, hcell, _⟩
  · cases hy
  · obtain rfl := Option.some.inj hy
    exact World.block_lt_of_cell? w _ (hcell j hj)

end Go.Proofs.Ytplabofdcnpcpaa
