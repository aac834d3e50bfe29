/-
  What the rows' lists give at this translation: the package's variables hold the roots.
-/
import Derived.Test.YtbdlicomkpnalaaGreatDoorZa
import Derived.Test.YtbdlicomkpnalaaGreatDoorTie
import Derived.Stop.LaidErr
import Derived.LaidMore
set_option linter.unusedSimpArgs false
set_option linter.unusedVariables false
namespace Go.Proofs.YtbdlicomkpnalaaGreatDoor
open Go.RowKit

def laid8 : List (String × DataW Unit) := [("ostiary/digest.squareRoots", Rows.laid_ostiary_digest_squareRoots), ("ostiary/digest.cubeRoots", Rows.laid_ostiary_digest_cubeRoots)]

theorem gSqr : Tryz.prog.globalNamed "ostiary/digest.squareRoots" = some 0 := by kernel_rfl
theorem gCbr : Tryz.prog.globalNamed "ostiary/digest.cubeRoots" = some 1 := by kernel_rfl

theorem gt_of_laid {W : World} (h : laidMetH Tryz.prog laid8 W) : Gt W := by
  have h' : laidMet Tryz.prog laid8 W := h
  have h2 := h'.tail
  have t1 : Lib.TabIs Tryz.prog W "ostiary/digest.squareRoots" .u64 (sqr.map fun (n : Nat) => (n : Int)) := Lib.tabIs_of_head gSqr (by kernel_rfl) Tryz.underlying56 Tryz.underlying54 (by kernel_rfl) (by kernel_rfl) h'
  have t2 : Lib.TabIs Tryz.prog W "ostiary/digest.cubeRoots" .u64 (cbr.map fun (n : Nat) => (n : Int)) := Lib.tabIs_of_head (rest := []) gCbr (by kernel_rfl) Tryz.underlying55 Tryz.underlying54 (by kernel_rfl) (by kernel_rfl) h2
  refine ⟨fun i hi => ?_, fun i hi => ?_⟩
  · have := t1.cell gSqr i (by rw [List.length_map]; exact hi)
    rw [this]
    have hl : i < sqr.length := hi
    simp [List.getD, hl]
  · have := t2.cell gCbr i (by rw [List.length_map]; exact hi)
    rw [this]
    have hl : i < cbr.length := hi
    simp [List.getD, hl]

theorem ownK : ownKnob Tryz.prog.godebug = none := by kernel_rfl

theorem door_met (os : Os) (args : Array Value) : laidMetH Tryz.prog laid8 ((World.doorLaid Tryz.prog 24 os).forCall (fun _ _ => 0) ⟨#[], args, []⟩).memory :=
  laidMetH_of_parts3 (fuel := 8) (laidMet_of_run' 8 (by kernel_rfl) (by kernel_rfl)) (by kernel_rfl) (by kernel_rfl)

end Go.Proofs.YtbdlicomkpnalaaGreatDoor
