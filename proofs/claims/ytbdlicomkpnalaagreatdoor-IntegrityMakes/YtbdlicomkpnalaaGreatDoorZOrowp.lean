/-
  What a row's list gives that has the library's table of tens, too.
-/
import Derived.Test.YtbdlicomkpnalaaGreatDoorZOrows
set_option linter.unusedSimpArgs false
set_option linter.unusedVariables false
namespace Go.Proofs.YtbdlicomkpnalaaGreatDoor
open Go.RowKit

def laid9 : List (String × DataW Unit) := [("math/bits.deBruijn32tab", Rows.laid_math_bits_deBruijn32tab), ("math/bits.deBruijn64tab", Rows.laid_math_bits_deBruijn64tab), ("internal/strconv.uint64pow10", Rows.laid_internal_strconv_uint64pow10), ("ostiary/digest.squareRoots", Rows.laid_ostiary_digest_squareRoots), ("ostiary/digest.cubeRoots", Rows.laid_ostiary_digest_cubeRoots)]

theorem gp_of_laid9 {W : World} (h : laidMetH Tryz.prog laid9 W) : Gp W := by
  have h' : laidMet Tryz.prog laid9 W := h
  exact Lib.tabIs_of_head gPow9 (by kernel_rfl) Tryz.underlying144 Tryz.underlying54 (by kernel_rfl) (by kernel_rfl) h'.tail.tail

theorem gt_of_laid9 {W : World} (h : laidMetH Tryz.prog laid9 W) : Gt W := by
  have h' : laidMet Tryz.prog laid9 W := h
  have h2 : laidMet Tryz.prog laid8 W := h'.tail.tail.tail
  exact gt_of_laid (show laidMetH Tryz.prog laid8 W from h2)

theorem door_met9 (os : Os) (args : Array Value) : laidMetH Tryz.prog laid9 ((World.doorLaid Tryz.prog 24 os).forCall (fun _ _ => 0) ⟨#[], args, []⟩).memory :=
  laidMetH_of_parts3 (fuel := 8) (laidMet_of_run' 8 (by kernel_rfl) (by kernel_rfl)) (by kernel_rfl) (by kernel_rfl)

end Go.Proofs.YtbdlicomkpnalaaGreatDoor
