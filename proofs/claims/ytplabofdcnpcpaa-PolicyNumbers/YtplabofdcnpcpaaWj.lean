/-
  The walk of infra.Strip. 
-/
import Derived.Test.YtplabofdcnpcpaaWa
import Derived.Test.YtplabofdcnpcpaaPg
import Derived.Test.YtplabofdcnpcpaaPe
set_option linter.unusedSimpArgs false
set_option linter.unusedVariables false
namespace Go.Proofs.Ytplabofdcnpcpaa
open Go.RowKit

theorem ret_str {l : List UInt8} {t : ByteArray} (h : t.data.toList = l) : Ending.returned (.string t) = .returned (.string ⟨l.toArray⟩) := by
  rw [← h]

theorem strip_extract (s : ByteArray) (k m : Nat) (hkm : k ≤ m) (hm : m ≤ s.size) (hA : (s.data.toList.take k).all blC = true) (hB : (s.data.toList.drop m).all blC = true)
    (h : k = m ∨ ∃ h1 : k < s.size, ∃ h2 : m - 1 < s.size, k < m ∧ blankI (s[k].toNat : Int) = false ∧ blankI (s[m - 1].toNat : Int) = false) : (s.extract k m).data.toList = strip s.data.toList := by
  rw [Lib.extract_data, strip_between s.data.toList k m hkm (by simpa using hm) hA hB ?_, List.drop_take]
  rcases h with h | ⟨h1, h2, h3, c1, c2⟩
  · exact .inl h
  · exact .inr ⟨by simpa using h1, by simpa using h2, h3, c1, c2⟩

end Go.Proofs.Ytplabofdcnpcpaa
