/-
  MetaKept: the call returns true (the card).
-/
import Derived.Test.YtgoefeaopegdoaaGreatDoorFkMetaKept
import Derived.Test.YtgoefeaopegdoaaGreatDoorCards
import Derived.Test.YtgoefeaopegdoaaGreatDoorTie
import Derived.ProofKit
import Derived.OpenShut
import Derived.ShutString
import Derived.ChangeOld
import Derived.Below
import Derived.Deep.DeepHandedRow
import Derived.SliceStrings
set_option linter.unusedSimpArgs false
set_option linter.unusedVariables false
namespace Go.Proofs.YtgoefeaopegdoaaGreatDoor
open Go.ChangeShapes Go.WideShapes Go.ChangeAt Go.RowKit

theorem goes_none (P : Program) (c : OpenClaim) (hs : c.start = .entering) (h : P.funcs.any Func.goes = false) : false = c.goesBy P := by
  unfold OpenClaim.goesBy Program.goesAt
  rw [hs]
  unfold Program.goesFrom
  cases P.funcNamed c.func with
  | none => rfl
  | some f =>
    show false = (P.goes f || false)
    unfold Program.goes
    rw [h, Bool.and_false, Bool.or_false, Bool.or_false]
    symm
    rw [List.any_eq_false]
    intro g _
    cases hf : P.funcs[g]? with
    | none => simp
    | some fn =>
      have hm : fn ∈ P.funcs := Array.mem_of_getElem? hf
      have := Array.any_eq_false'.1 h fn hm
      simpa using this

theorem metaKept_goes : Tryz.prog.funcs.any Func.goes = false := by kernel_rfl

theorem metaKept_holds : Rows.MetaKeptCardSaid :=
  Claim7.holds_tied_plain_at .later [] _ _ _ _ metaKept_said (fun _ h => by cases h) (by kernel_rfl) (fun _ h => by cases h) metaKept_row_tie rfl ⟨rfl, rfl⟩ (by kernel_rfl) rfl metaKept_plain (goes_none _ _ rfl metaKept_goes)

end Go.Proofs.YtgoefeaopegdoaaGreatDoor
