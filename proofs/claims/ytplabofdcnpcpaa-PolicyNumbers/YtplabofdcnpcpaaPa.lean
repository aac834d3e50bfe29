/-
  Plain functions on bytes and lists of bytes that the walks of package infra speak of: nothing of the program stands here.
-/
import Derived.WalkKit
set_option linter.unusedSimpArgs false
set_option linter.unusedVariables false
namespace Go.Proofs.Ytplabofdcnpcpaa

def blankI (c : Int) : Bool := c == 9 || (c == 10 || (c == 12 || (c == 13 || c == 32)))
def digitI (c : Int) : Bool := decide (48 ≤ c) && decide (c ≤ 57)
def letterI (c : Int) : Bool := (decide (65 ≤ c) && decide (c ≤ 90)) || (decide (97 ≤ c) && decide (c ≤ 122))
def signI (c : Int) : Bool := c == 33 || (c == 35 || (c == 36 || (c == 37 || (c == 38 || (c == 39 || (c == 42 || (c == 43 || (c == 45 || (c == 46 || (c == 94 || (c == 95 || (c == 96 || (c == 124 || c == 126)))))))))))))
def tokI (c : Int) : Bool := signI c || (letterI c || digitI c)
def is64I (c : Int) : Bool := letterI c || (digitI c || (c == 43 || c == 47))
def val64I (c : Int) : Int :=
  if 65 ≤ c ∧ c ≤ 90 then c - 65 else if 97 ≤ c ∧ c ≤ 122 then c - 71 else if 48 ≤ c ∧ c ≤ 57 then c + 4 else if c = 43 then 62 else if c = 47 then 63 else 0
def is16I (c : Int) : Bool := digitI c || ((decide (65 ≤ c) && decide (c ≤ 70)) || (decide (97 ≤ c) && decide (c ≤ 102)))
def val16I (c : Int) : Int :=
  if 97 ≤ c ∧ c ≤ 102 then c - 87 else if 65 ≤ c ∧ c ≤ 70 then c - 55 else if 48 ≤ c ∧ c ≤ 57 then c - 48 else 0

theorem hid {p : Prop} (h : p) : RowKit.Hid p := h
theorem ret_bool {a b : Bool} (h : a = b) : Ending.returned (.bool a) = .returned (.bool b) := by rw [h]
theorem ret_int {k : IntKind} {a b : Int} (h : a = b) : Ending.returned (.int k a) = .returned (.int k b) := by rw [h]
theorem ret_ib {k : IntKind} {a b : Int} {x y : Bool} (h : a = b) (g : x = y) : Ending.returned (.tuple #[.int k a, .bool x]) = .returned (.tuple #[.int k b, .bool y]) := by rw [h, g]

end Go.Proofs.Ytplabofdcnpcpaa
