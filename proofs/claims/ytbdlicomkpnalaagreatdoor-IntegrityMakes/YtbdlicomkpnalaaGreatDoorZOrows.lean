/-
  What the world's shape and the rows' lists give for chapter 9's statements.
-/
import Derived.Test.YtbdlicomkpnalaaGreatDoorZOi
import Derived.Test.YtbdlicomkpnalaaGreatDoorZLrows
set_option linter.unusedSimpArgs false
set_option linter.unusedVariables false
namespace Go.Proofs.YtbdlicomkpnalaaGreatDoor
open Go.RowKit

theorem gm_of_shaped {W : World} (hsh : W.ShapedOpen Tryz.prog) : Gm W := Tryz.laysM145.s1_3 W hsh

end Go.Proofs.YtbdlicomkpnalaaGreatDoor
