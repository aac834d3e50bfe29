/-
  What the rows' lists and the world's shape give at this translation: the library's own variable is there; a start for the witness.
-/
import Derived.Test.YtknlmifjadolpaaDoorXj
import Derived.Test.YtknlmifjadolpaaDoorTie
import Derived.Stop.LaidErr
import Derived.LaidMore
set_option linter.unusedSimpArgs false
set_option linter.unusedVariables false
namespace Go.Proofs.YtknlmifjadolpaaDoor
open Go.RowKit

def laid5 : List (String × DataW Unit) := [("unicode/utf8.acceptRanges", Rows.laid_unicode_utf8_acceptRanges), ("unicode/utf8.first", Rows.laid_unicode_utf8_first)]

theorem g5_of_shaped {W : World} (hsh : W.ShapedOpen Tryd.prog) : G5 W := Tryd.laysM145.s1_3 W hsh

theorem ownK : ownKnob Tryd.prog.godebug = none := by kernel_rfl

/-- A start for the witness: what the door lays, and the pinned table beside it. -/
noncomputable def startW (os : Os) : World :=
  { World.doorLaid Tryd.prog 19 os with heap := (World.doorLaid Tryd.prog 19 os).heap.setIfInBounds 1 (.cells (Pinned.utf8FirstZ.map fun (n : Nat) => Value.int .u8 (n : Int)).toArray 130 (0, 0)) }

theorem door_met (os : Os) (args : Array Value) : laidMetH Tryd.prog laid5 ((startW os).forCall (fun _ _ => 0) ⟨#[], args, []⟩).memory :=
  laidMetH_of_parts3 (fuel := 8) (laidMet_of_run' 8 (by kernel_rfl) (by kernel_rfl)) (by kernel_rfl) (by kernel_rfl)

end Go.Proofs.YtknlmifjadolpaaDoor
