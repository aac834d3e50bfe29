/-
  The walk of infra.Int. 
-/
import Derived.Test.YtplabofdcnpcpaaWa
import Derived.Test.YtplabofdcnpcpaaPh
set_option linter.unusedSimpArgs false
set_option linter.unusedVariables false
namespace Go.Proofs.Ytplabofdcnpcpaa
open Go.RowKit

end Go.Proofs.Ytplabofdcnpcpaa
