/-
  Slices of bytes: parts of them.
-/
import Derived.Test.YtmjokddplikegaaDoorLn
set_option linter.unusedSimpArgs false
set_option linter.unusedVariables false
namespace Go.Proofs.YtmjokddplikegaaDoor
open Go.RowKit

theorem sizeByte (w : World) : (sizeOf (Tryd.prog.elem 22)).run Tryd.prog w = .ok 1 w := by kernel_rfl
theorem undB : Tryd.prog.underlying 22 = some (.slice (Tryd.prog.elem 22)) := by kernel_rfl

theorem slice_lh (x : Addr) (n cap a b : Nat) (w : World) (A B : Int) (hA : A = a) (hB : B = b) (hab : a ≤ b) (hb : b ≤ cap) (hne : a < cap) :
    (Instr.sliceAt 22 (.slice (some x) n cap) (some (.int .i64 A)) (some (.int .i64 B)) none).run Tryd.prog w = .ok (.slice (some (x.add a)) (b - a) (cap - a)) w := by
  subst hA hB
  rw [run_sliceAt_slice (h := undB), run_slice_lh (ht := undB) (h0 := by omega) (h1 := by omega) (h2 := by omega), sizeByte]
  simp only [Result.andThen, sliced, Int.toNat_natCast, Nat.mul_one, Option.map_some]
  rw [if_neg (by omega)]

end Go.Proofs.YtmjokddplikegaaDoor
