/-
  What the rows' lists and the world's shape give: the library's variables stand as they were laid.
-/
import Derived.Test.YtdpihilikhbamaaGreatDoorVb
import Derived.Test.YtdpihilikhbamaaGreatDoorTie
import Derived.Stop.LaidErr
import Derived.LaidMore
set_option linter.unusedSimpArgs false
set_option linter.unusedVariables false
namespace Go.Proofs.YtdpihilikhbamaaGreatDoor
open Go.RowKit

def laid3 : List (String × DataW Unit) := [("math/bits.deBruijn32tab", Rows.laid_math_bits_deBruijn32tab), ("math/bits.deBruijn64tab", Rows.laid_math_bits_deBruijn64tab), ("internal/strconv.uint64pow10", Rows.laid_internal_strconv_uint64pow10)]

theorem gd_of_laid {W : World} (h : laidMetH Tryz.prog laid3 W) (hsh : W.ShapedOpen Tryz.prog) : Gd W := by
  have h' : laidMet Tryz.prog laid3 W := h
  have h2 := h'.tail
  have h3 := h2.tail
  refine ⟨Tryz.laysM144.s1_3 W hsh, ?_, ?_⟩
  · exact Lib.tabIs_of_head (rest := []) gPow10 (by kernel_rfl) Tryz.underlying116 Tryz.underlying51 (by kernel_rfl) (by kernel_rfl) h3
  · exact Lib.tabIs_of_head gDB64 (by kernel_rfl) Tryz.underlying123 Tryz.underlying5 (by kernel_rfl) (by kernel_rfl) h2

theorem ownK : ownKnob Tryz.prog.godebug = none := by kernel_rfl

theorem door_met (os : Os) (args : Array Value) : laidMetH Tryz.prog laid3 ((World.doorLaid Tryz.prog 24 os).forCall (fun _ _ => 0) ⟨#[], args, []⟩).memory :=
  laidMetH_of_parts3 (fuel := 8) (laidMet_of_run' 8 (by kernel_rfl) (by kernel_rfl)) (by kernel_rfl) (by kernel_rfl)

end Go.Proofs.YtdpihilikhbamaaGreatDoor
