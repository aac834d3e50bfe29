/-
  MetaKept: the call returns true (the card).
-/
import Derived.Test.YtgoefeaopegdoaaGreatDoorFkMetaKept
import Derived.Test.YtgoefeaopegdoaaGreatDoorCards
import Derived.Test.YtgoefeaopegdoaaGreatDoorTie
import Derived.ProofKit
import Derived.OpenShut
import Derived.ShutString
import Derived.ChangeOld
import Derived.Below
import Derived.Deep.DeepHandedRow
import Derived.SliceStrings
set_option linter.unusedSimpArgs false
set_option linter.unusedVariables false
namespace Go.Proofs.YtgoefeaopegdoaaGreatDoor
open Go.ChangeShapes Go.WideShapes Go.ChangeAt Go.RowKit

theorem metaKept_holds : Rows.MetaKeptCardSaid :=
  Claim7.holds_tied_plain_at .later [] _ _ _ _ metaKept_said (fun _ h => by cases h) (by kernel_rfl) (fun _ h => by cases h) metaKept_row_tie rfl ⟨rfl, rfl⟩ (by kernel_rfl) rfl metaKept_plain (by kernel_rfl)

end Go.Proofs.YtgoefeaopegdoaaGreatDoor
