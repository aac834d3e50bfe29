/-
  The walk of infra.Int. 
-/
import Derived.Test.YtiemggepdeaogaaGreatDoorWa
import Derived.Test.YtiemggepdeaogaaGreatDoorPh
set_option linter.unusedSimpArgs false
set_option linter.unusedVariables false
namespace Go.Proofs.YtiemggepdeaogaaGreatDoor
open Go.RowKit

end Go.Proofs.YtiemggepdeaogaaGreatDoor
