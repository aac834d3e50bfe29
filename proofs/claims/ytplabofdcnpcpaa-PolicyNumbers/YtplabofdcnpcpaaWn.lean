/-
  The walks of ostiarykeep.FewBytes and ostiarybook.Within.
-/
import Derived.Test.YtplabofdcnpcpaaProg
import Derived.Test.YtplabofdcnpcpaaPs
import Derived.Test.YtplabofdcnpcpaaPa
import Derived.WalkSpells
import Derived.WalkLawsBesides
set_option linter.unusedSimpArgs false
set_option linter.unusedVariables false
namespace Go.Proofs.Ytplabofdcnpcpaa
open Go.RowKit

theorem n_within_mod (n m : Int) (hm : 1 ≤ m) : 0 - m < n.tmod m ∧ n.tmod m < m := by
  have h1 := Int.tmod_lt_of_pos n (b := m) (by omega)
  have h2 := Int.tmod_lt_of_pos (-n) (b := m) (by omega)
  rw [Int.neg_tmod] at h2
  omega

/-- A number brought into lo .. hi. -/
def n_withinI (n lo hi : Int) : Int := if n.tmod (hi - lo + 1) < 0 then lo + (n.tmod (hi - lo + 1) + hi - lo + 1) else lo + n.tmod (hi - lo + 1)

theorem n_withinI_bounds (n lo hi : Int) (h : lo ≤ hi) : lo ≤ n_withinI n lo hi ∧ n_withinI n lo hi ≤ hi := by
  have := n_within_mod n (hi - lo + 1) (by omega)
  unfold n_withinI
  split <;> omega

end Go.Proofs.Ytplabofdcnpcpaa
