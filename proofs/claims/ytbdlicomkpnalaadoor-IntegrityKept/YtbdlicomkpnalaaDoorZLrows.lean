/-
  What the rows' lists give at this translation: the package's variables hold the roots.
-/
import Derived.Test.YtbdlicomkpnalaaDoorZa
import Derived.Test.YtbdlicomkpnalaaDoorTie
import Derived.Stop.LaidErr
import Derived.LaidMore
set_option linter.unusedSimpArgs false
set_option linter.unusedVariables false
namespace Go.Proofs.YtbdlicomkpnalaaDoor
open Go.RowKit

def laid8 : List (String × DataW Unit) := [("ostiary/digest.squareRoots", Rows.laid_ostiary_digest_squareRoots), ("ostiary/digest.cubeRoots", Rows.laid_ostiary_digest_cubeRoots)]

theorem gSqr : Tryd.prog.globalNamed "ostiary/digest.squareRoots" = some 0 := by kernel_rfl
theorem gCbr : Tryd.prog.globalNamed "ostiary/digest.cubeRoots" = some 1 := by kernel_rfl

theorem gt_of_laid {W : World} (h : laidMetH Tryd.prog laid8 W) : Gt W := by
  have h' : laidMet Tryd.prog laid8 W := h
  have h2 := h'.tail
  have t1 : Lib.TabIs Tryd.prog W "ostiary/digest.squareRoots" .u64 (sqr.map fun (n : Nat) => (n : Int)) := Lib.tabIs_of_head gSqr (by kernel_rfl) Tryd.underlying62 Tryd.underlying60 (by kernel_rfl) (by kernel_rfl) h'
  have t2 : Lib.TabIs Tryd.prog W "ostiary/digest.cubeRoots" .u64 (cbr.map fun (n : Nat) => (n : Int)) := Lib.tabIs_of_head (rest := []) gCbr (by kernel_rfl) Tryd.underlying61 Tryd.underlying60 (by kernel_rfl) (by kernel_rfl) h2
  refine ⟨fun i hi => ?_, fun i hi => ?_⟩
  · have := t1.cell gSqr i (by rw [List.length_map]; exact hi)
    rw [this]
    have hl : i < sqr.length := hi
    simp [List.getD, hl]
  · have := t2.cell gCbr i (by rw [List.length_map]; exact hi)
    rw [this]
    have hl : i < cbr.length := hi
    simp [List.getD, hl]

theorem ownK : ownKnob Tryd.prog.godebug = none := by kernel_rfl

theorem door_met (os : Os) (args : Array Value) : laidMetH Tryd.prog laid8 ((World.doorLaid Tryd.prog 24 os).forCall (fun _ _ => 0) ⟨#[], args, []⟩).memory :=
  laidMetH_of_parts3 (fuel := 8) (laidMet_of_run' 8 (by kernel_rfl) (by kernel_rfl)) (by kernel_rfl) (by kernel_rfl)

end Go.Proofs.YtbdlicomkpnalaaDoor
