/-
  What the world's shape and the rows' lists give for chapter 9's statements.
-/
import Derived.Test.YtbdlicomkpnalaaDoorZOi
import Derived.Test.YtbdlicomkpnalaaDoorZLrows
set_option linter.unusedSimpArgs false
set_option linter.unusedVariables false
namespace Go.Proofs.YtbdlicomkpnalaaDoor
open Go.RowKit

theorem gm_of_shaped {W : World} (hsh : W.ShapedOpen Tryd.prog) : Gm W := Tryd.laysM145.s1_3 W hsh

end Go.Proofs.YtbdlicomkpnalaaDoor
