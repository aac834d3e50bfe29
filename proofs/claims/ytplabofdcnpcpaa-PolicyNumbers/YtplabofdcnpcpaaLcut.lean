/-
  Parts of a function's code, by name; a way through a part alone.
-/
import Derived.Test.YtplabofdcnpcpaaLn
set_option linter.unusedSimpArgs false
set_option linter.unusedVariables false
namespace Go.Proofs.Ytplabofdcnpcpaa
open Go.RowKit

/-- The region of that number. -/
def regionOf (n : Nat) : Code → Option Code
  | .region id ops d => if id = n then some (.region id ops d) else none
  | .seq a b => match regionOf n a with
    | some c => some c
    | none => regionOf n b
  | .block _ c => regionOf n c
  | .loop c => regionOf n c
  | .scope c => regionOf n c
  | .cond _ a b => match regionOf n a with
    | some c => some c
    | none => regionOf n b
  | _ => none

/-- The bodies of all loops, in the text's order, those outside ahead of those inside them. -/
def loopsOf : Code → List Code
  | .seq a b => loopsOf a ++ loopsOf b
  | .block _ c => loopsOf c
  | .loop c => c :: loopsOf c
  | .scope c => loopsOf c
  | .cond _ a b => loopsOf a ++ loopsOf b
  | _ => []

/-- What leaves a loop by its own test. -/
def exit0 (K : Act → World → Prop) : Exit → Act → World → Prop
  | .exit 0, a, w => K a w
  | _, _, _ => False
def exit2 (K : Act → World → Prop) : Exit → Act → World → Prop
  | .exit 2, a, w => K a w
  | _, _, _ => False

theorem wp_cut0 {P : Program} {c : Code} {Q : Exit → Act → World → Prop} {a : Act} {w : World} (h : c.wp P (exit0 fun a w => Q (.exit 0) a w) a w) : c.wp P Q a w :=
  Code.wp_mono (fun e a w h => by unfold exit0 at h; split at h <;> first | exact h | exact h.elim) h
theorem wp_cut2 {P : Program} {c : Code} {Q : Exit → Act → World → Prop} {a : Act} {w : World} (h : c.wp P (exit2 fun a w => Q (.exit 2) a w) a w) : c.wp P Q a w :=
  Code.wp_mono (fun e a w h => by unfold exit2 at h; split at h <;> first | exact h | exact h.elim) h

theorem wp_cut {P : Program} {c : Code} {Q : Exit → Act → World → Prop} {a : Act} {w : World} (h : c.wp P (Exit.then (fun a w => Q .normal a w) fun _ _ _ => False) a w) : c.wp P Q a w :=
  Code.wp_mono (fun e a w h => by cases e <;> first | exact h | exact h.elim) h

end Go.Proofs.Ytplabofdcnpcpaa
