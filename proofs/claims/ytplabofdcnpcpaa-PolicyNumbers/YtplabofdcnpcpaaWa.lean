/-
  The walks of package infra's functions on single bytes.
-/
import Derived.Test.YtplabofdcnpcpaaProg
import Derived.Test.YtplabofdcnpcpaaPa
import Derived.WalkKit
import Derived.WalkSpells
import Derived.WalkLawsBesides
set_option linter.unusedSimpArgs false
set_option linter.unusedVariables false
namespace Go.Proofs.Ytplabofdcnpcpaa
open Go.RowKit

end Go.Proofs.Ytplabofdcnpcpaa
