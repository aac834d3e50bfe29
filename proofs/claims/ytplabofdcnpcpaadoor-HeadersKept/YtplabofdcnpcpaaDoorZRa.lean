/-
  The walks of the document's own answers of chapter 1: ostiaryref1's Blank, Digit, Letter, Lower, Strip, Token, Int.
-/
import Derived.Test.YtplabofdcnpcpaaDoorZGe
import Derived.Test.YtplabofdcnpcpaaDoorZGa
import Derived.LoopN
set_option linter.unusedSimpArgs false
set_option linter.unusedVariables false
namespace Go.Proofs.YtplabofdcnpcpaaDoor
open Go.RowKit

def strN : Value → Nat
  | .string s => s.size
  | _ => 0

theorem data_ext {t u : ByteArray} (h : t.data.toList = u.data.toList) : t = u := by
  apply ByteArray.ext
  exact Array.toList_inj.1 h

theorem extract_one (t : ByteArray) (h : 0 < t.size) : t.data.toList = t[0] :: (t.extract 1 t.size).data.toList := by
  rw [extract_drop]
  have := drop_cons t 0 h
  simpa using this

theorem extract_last (u : ByteArray) (h : u.size - 1 < u.size) : u.data.toList = (u.extract 0 (u.size - 1)).data.toList ++ [u[u.size - 1]] := by
  rw [Lib.extract_data]
  have := take_snoc u (u.size - 1) h
  rw [take_all u (u.size - 1 + 1) (by omega)] at this
  simpa using this

theorem strip_ref (s A M B : List UInt8) (e : s = A ++ M ++ B) (hA : A.all blC = true) (hB : B.all blC = true) (h : M = [] ∨ (∃ c r, M = c :: r ∧ blC c = false) ∧ ∃ r c, M = r ++ [c] ∧ blC c = false) : M = strip s := by
  rw [e, strip_parts A M B hA hB h]

def signsL : List UInt8 := [33, 35, 36, 37, 38, 39, 42, 43, 45, 46, 94, 95, 96, 124, 126]

/-- The first k signs, or a letter, or a digit. -/
def tokTo (c : Int) (k : Nat) : Bool := (letterI c || digitI c) || (signsL.take k).any fun x => c == (x.toNat : Int)

theorem tokTo_zero (c : Int) : tokTo c 0 = (letterI c || digitI c) := by simp [tokTo]

theorem tokTo_all (c : Int) : tokTo c 15 = tokI c := by
  have : signsL.take 15 = signsL := rfl
  unfold tokTo tokI signI
  rw [this]
  simp only [signsL, List.any_cons, List.any_nil, Bool.or_false]
  rw [Bool.or_comm]
  rfl

theorem tokTo_succ (c : Int) (k : Nat) (h : k < (ByteArray.mk #[33, 35, 36, 37, 38, 39, 42, 43, 45, 46, 94, 95, 96, 124, 126]).size) : tokTo c (k + 1) = (tokTo c k || c == ((ByteArray.mk #[33, 35, 36, 37, 38, 39, 42, 43, 45, 46, 94, 95, 96, 124, 126])[k].toNat : Int)) := by
  have h' : k < signsL.length := h
  unfold tokTo
  rw [List.take_succ_eq_append_getElem h', List.any_append, Bool.or_assoc]
  have e : [signsL[k]].any (fun x => c == (x.toNat : Int)) = (c == (signsL[k].toNat : Int)) := by simp
  rw [e]
  simp only [Bool.or_assoc]
  rfl

end Go.Proofs.YtplabofdcnpcpaaDoor
