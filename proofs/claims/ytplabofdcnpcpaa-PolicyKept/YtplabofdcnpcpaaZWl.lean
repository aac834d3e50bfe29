/-
  The walk of infra.Int. 
-/
import Derived.Test.YtplabofdcnpcpaaZWa
import Derived.Test.YtplabofdcnpcpaaZa
set_option linter.unusedSimpArgs false
set_option linter.unusedVariables false
namespace Go.Proofs.Ytplabofdcnpcpaa
open Go.RowKit

end Go.Proofs.Ytplabofdcnpcpaa
