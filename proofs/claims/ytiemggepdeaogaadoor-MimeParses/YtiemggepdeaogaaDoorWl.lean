/-
  The walk of infra.Int. 
-/
import Derived.Test.YtiemggepdeaogaaDoorWa
import Derived.Test.YtiemggepdeaogaaDoorPh
set_option linter.unusedSimpArgs false
set_option linter.unusedVariables false
namespace Go.Proofs.YtiemggepdeaogaaDoor
open Go.RowKit

end Go.Proofs.YtiemggepdeaogaaDoor
