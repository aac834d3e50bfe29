/-
  The walks of ostiarybook.Same over texts and over headers.
-/
import Derived.Test.YtiemggepdeaogaaGreatDoorXg
set_option linter.unusedSimpArgs false
set_option linter.unusedVariables false
namespace Go.Proofs.YtiemggepdeaogaaGreatDoor
open Go.RowKit

theorem list_eq_of {α : Type} {A B : List α} (hl : A.length = B.length) (h : ∀ j (h1 : j < A.length) (h2 : j < B.length), A[j] = B[j]) : A = B :=
  List.ext_getElem hl fun j h1 h2 => h j h1 h2

theorem str_beq (x y : List UInt8) : ((⟨x.toArray⟩ : ByteArray).toList == (⟨y.toArray⟩ : ByteArray).toList) = decide (x = y) := by
  rw [Lib.toList_data, Lib.toList_data]
  rw [Bool.eq_iff_iff]; simp

end Go.Proofs.YtiemggepdeaogaaGreatDoor
