/-
  The walks of headers' functions on bounds and bytes, and of the laws' small functions.
-/
import Derived.Test.YtplabofdcnpcpaaXe
import Derived.Test.YtplabofdcnpcpaaWl
import Derived.Deep.LoopGhost
set_option linter.unusedSimpArgs false
set_option linter.unusedVariables false
namespace Go.Proofs.Ytplabofdcnpcpaa
open Go.RowKit

theorem xempty_yes (s : ByteArray) (h : s.data.toList = []) : s.toList.isEmpty = true := by rw [Lib.toList_data, h]; rfl
theorem xempty_no (s : ByteArray) (h : s.data.toList ≠ []) : s.toList.isEmpty = false := by
  rw [Lib.toList_data]
  cases hl : s.data.toList with
  | nil => exact absurd hl h
  | cons a b => rfl

def riskI (c : Int) : Bool := c == 34 || (c == 40 || (c == 41 || (c == 58 || (c == 60 || (c == 62 || (c == 63 || (c == 64 || (c == 91 || (c == 92 || (c == 93 || (c == 123 || (c == 125 || (c == 127 || (decide (c < 32) && !(c == 9)))))))))))))))
def langI (c : Int) : Bool := c == 32 || (c == 42 || (c == 44 || (c == 45 || (c == 46 || (c == 59 || (c == 61 || (letterI c || digitI c)))))))
def harmV (l : List UInt8) : Bool := l.all fun c => !riskI c.toNat
def langV (l : List UInt8) : Bool := l.all fun c => langI c.toNat

theorem all_stop (p : UInt8 → Bool) (s : ByteArray) (k : Nat) (h : k < s.size) (hp : p s[k] = false) : s.data.toList.all p = false := by
  rw [List.all_eq_false]
  refine ⟨s[k], ?_, by simp [hp]⟩
  have : s[k] = s.data.toList[k]'(by simpa using h) := rfl
  rw [this]; exact List.getElem_mem _

theorem xtens_app (d : Nat) (h : d < 10) (T : List UInt8) : (⟨#[48, 49, 50, 51, 52, 53, 54, 55, 56, 57]⟩ : ByteArray).extract d (d + 1) ++ ⟨T.toArray⟩ = ⟨(decC d :: T).toArray⟩ := by
  refine xext ?_
  rw [ByteArray.data_append, Array.toList_append]
  have : ((⟨#[48, 49, 50, 51, 52, 53, 54, 55, 56, 57]⟩ : ByteArray).extract d (d + 1)).data.toList = [decC d] := by
    rcases (show d = 0 ∨ d = 1 ∨ d = 2 ∨ d = 3 ∨ d = 4 ∨ d = 5 ∨ d = 6 ∨ d = 7 ∨ d = 8 ∨ d = 9 from by omega) with
      rfl | rfl | rfl | rfl | rfl | rfl | rfl | rfl | rfl | rfl <;> (rw [Lib.extract_data]; rfl)
  rw [this]; rfl

theorem tNe {T : List UInt8} (h : T ≠ []) : (⟨T.toArray⟩ : ByteArray).toList.isEmpty = false := xempty_no _ h

theorem wrd_q : Wrd [113] := ⟨by simp, by decide⟩

theorem word_app (s : ByteArray) (k : Nat) (h : k < s.size) (T : List UInt8) : (⟨T.toArray⟩ : ByteArray) ++ s.extract k (k + 1) = ⟨(T ++ [s[k]]).toArray⟩ := by
  refine xext ?_
  rw [ByteArray.data_append, Array.toList_append, Lib.extract_data, show k + 1 - k = 1 by omega, drop_cons s k h]
  rfl

end Go.Proofs.Ytplabofdcnpcpaa
