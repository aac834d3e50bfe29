/-
  The walk of the document's own answer: ostiaryref5's Set. 
-/
import Derived.Test.YtplabofdcnpcpaaDoorZZh
set_option linter.unusedSimpArgs false
set_option linter.unusedVariables false
namespace Go.Proofs.YtplabofdcnpcpaaDoor
open Go.RowKit

end Go.Proofs.YtplabofdcnpcpaaDoor
