/-
  Plain facts: the number that digits are, held at the greatest.
-/
import Derived.Test.YtplabofdcnpcpaaPb
set_option linter.unusedSimpArgs false
set_option linter.unusedVariables false
namespace Go.Proofs.Ytplabofdcnpcpaa

def ten (n d : Int) : Int := if (9223372036854775807 - d) / 10 < n then 9223372036854775807 else n * 10 + d

def numI (l : List UInt8) : Int := l.foldl (fun n c => ten n ((c.toNat : Int) - 48)) 0
def digP (c : UInt8) : Bool := digitI c.toNat
def intV (l : List UInt8) : Int := if l.all digP && !l.isEmpty then numI l else 0
def intOk (l : List UInt8) : Bool := l.all digP && !l.isEmpty

theorem numI_snoc (l : List UInt8) (c : UInt8) : numI (l ++ [c]) = ten (numI l) ((c.toNat : Int) - 48) := by simp [numI]

theorem ten_range (n d : Int) (h : 0 ≤ n ∧ n ≤ 9223372036854775807) (hd : 0 ≤ d ∧ d ≤ 9) : 0 ≤ ten n d ∧ ten n d ≤ 9223372036854775807 := by
  unfold ten; split <;> omega

theorem numI_range (l : List UInt8) (h : l.all digP = true) : 0 ≤ numI l ∧ numI l ≤ 9223372036854775807 := by
  suffices H : ∀ (l : List UInt8) (n : Int), 0 ≤ n ∧ n ≤ 9223372036854775807 → l.all digP = true → 0 ≤ l.foldl (fun n c => ten n ((c.toNat : Int) - 48)) n ∧ l.foldl (fun n c => ten n ((c.toNat : Int) - 48)) n ≤ 9223372036854775807 from H l 0 (by omega) h
  intro l
  induction l with
  | nil => intro n h _; exact h
  | cons c l ih =>
    intro n hn hall
    simp only [List.all_cons, Bool.and_eq_true] at hall
    refine ih _ (ten_range n _ hn ?_) hall.2
    have := hall.1
    simp [digP, digitI] at this
    omega

end Go.Proofs.Ytplabofdcnpcpaa
