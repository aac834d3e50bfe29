/-
  The walks of headers' closing and cutPiece.
-/
import Derived.Test.YtplabofdcnpcpaaXc
import Derived.Test.YtplabofdcnpcpaaXd
import Derived.Test.YtplabofdcnpcpaaWi
import Derived.Test.YtplabofdcnpcpaaPe
import Derived.Deep.QuietTactic
import Derived.BigQuiet
set_option linter.unusedSimpArgs false
set_option linter.unusedVariables false
namespace Go.Proofs.Ytplabofdcnpcpaa
open Go.RowKit

theorem byteInt (c : UInt8) (n : Nat) (h : n < 256) : ((c.toNat : Int) == (n : Int)) = decide (c = UInt8.ofNat n) := by
  have h1 : (UInt8.ofNat n).toNat = n := by simp [UInt8.toNat_ofNat']; omega
  rw [Bool.eq_iff_iff]
  simp only [beq_iff_eq, decide_eq_true_eq]
  constructor
  · intro e; exact UInt8.toNat_inj.1 (by rw [h1]; omega)
  · intro e; rw [e, h1]

theorem byteNe {c : UInt8} {n : Nat} (h : n < 256) (e : c ≠ UInt8.ofNat n) : ((c.toNat : Int) == (n : Int)) = false := by
  rw [byteInt c n h]; simpa using e

theorem clos_le : ∀ (n : Nat) (l : List UInt8), l.length ≤ n → clos l ≤ l.length + 1 := by
  intro n
  induction n with
  | zero =>
    intro l hl
    have : l = [] := List.eq_nil_of_length_eq_zero (by omega)
    subst this; simp [clos]
  | succ n ih =>
    intro l hl
    cases l with
    | nil => simp [clos]
    | cons c r =>
      simp at hl
      by_cases h1 : c = 34
      · subst h1; rw [clos_quote]; simp
      · by_cases h2 : c = 92
        · subst h2
          rw [clos_back]
          have := ih (r.drop 1) (by simp; omega)
          cases r with
          | nil => simp [clos]
          | cons d r => simp at this ⊢; omega
        · rw [clos_other c r h1 h2]
          have := ih r (by omega)
          simp; omega

/-- What cutPiece answers. -/
def cutA (l : List UInt8) : List UInt8 := match cutQ false l with | none => l | some k => l.take k
def cutR (l : List UInt8) : List UInt8 := match cutQ false l with | none => [] | some k => l.drop (k + 1)
def cutB (l : List UInt8) : Bool := (cutQ false l).isSome

theorem xret_ssb {a b c d : ByteArray} {x y : Bool} (h : a = b) (h2 : c = d) (g : x = y) : Ending.returned (.tuple #[.string a, .string c, .bool x]) = .returned (.tuple #[.string b, .string d, .bool y]) := by rw [h, h2, g]

theorem xext {a : ByteArray} {l : List UInt8} (h : a.data.toList = l) : a = ⟨l.toArray⟩ := xba h

end Go.Proofs.Ytplabofdcnpcpaa
