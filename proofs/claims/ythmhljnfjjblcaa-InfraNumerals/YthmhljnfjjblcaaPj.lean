/-
  Plain facts: a number that is written is read.
-/
import Derived.Test.YthmhljnfjjblcaaPh
set_option linter.unusedSimpArgs false
set_option linter.unusedVariables false
namespace Go.Proofs.Ythmhljnfjjblcaa

/-- The number that digits are, unheld. -/
def natV (l : List UInt8) : Nat := l.foldl (fun n c => n * 10 + (c.toNat - 48)) 0

theorem natV_from (l : List UInt8) : ∀ n, l.foldl (fun n c => n * 10 + (c.toNat - 48)) n = n * 10 ^ l.length + natV l := by
  unfold natV
  induction l with
  | nil => intro n; simp
  | cons c l ih =>
    intro n
    simp only [List.foldl_cons, List.length_cons]
    rw [ih (n * 10 + (c.toNat - 48)), ih (0 * 10 + (c.toNat - 48)), Nat.add_mul, Nat.mul_assoc, ← Nat.pow_succ']
    simp [Nat.add_assoc]

theorem natV_cons (c : UInt8) (l : List UInt8) : natV (c :: l) = (c.toNat - 48) * 10 ^ l.length + natV l := by
  have := natV_from l (0 * 10 + (c.toNat - 48))
  simpa [natV] using this

theorem natV_snoc (l : List UInt8) (c : UInt8) : natV (l ++ [c]) = natV l * 10 + (c.toNat - 48) := by simp [natV]

theorem numI_held (l : List UInt8) (h : l.all digC = true) : numI l = if (natV l : Int) ≤ 9223372036854775807 then (natV l : Int) else 9223372036854775807 := by
  suffices H : ∀ (l : List UInt8) (n : Int) (m : Nat), n = (if (m : Int) ≤ 9223372036854775807 then (m : Int) else 9223372036854775807) → l.all digC = true →
      l.foldl (fun n c => ten n ((c.toNat : Int) - 48)) n = if ((l.foldl (fun n c => n * 10 + (c.toNat - 48)) m : Nat) : Int) ≤ 9223372036854775807 then ((l.foldl (fun n c => n * 10 + (c.toNat - 48)) m : Nat) : Int) else 9223372036854775807 from H l 0 0 rfl h
  intro l
  induction l with
  | nil => intro n m h _; exact h
  | cons c l ih =>
    intro n m hn hall
    simp only [List.all_cons, Bool.and_eq_true] at hall
    simp only [List.foldl_cons]
    refine ih _ _ ?_ hall.2
    have hc := hall.1
    simp [digC, digitI] at hc
    obtain ⟨h1, h2⟩ := hc
    have e : ((m * 10 + (c.toNat - 48) : Nat) : Int) = (m : Int) * 10 + ((c.toNat : Int) - 48) := by omega
    rw [e, hn]
    generalize ((c.toNat : Int) - 48) = d at *
    have hd : 0 ≤ d ∧ d ≤ 9 := by omega
    unfold ten
    by_cases hm : (m : Int) ≤ 9223372036854775807
    · rw [if_pos hm]
      split <;> split <;> omega
    · rw [if_neg hm]
      split <;> split <;> omega

/-- A byte that is a digit of ten. -/
def decD (n : Nat) : UInt8 := UInt8.ofNat (48 + n)

theorem decD_toNat (n : Nat) (h : n < 10) : (decD n).toNat = 48 + n := by
  have : (decD n).toNat = (48 + n) % 256 := by simp [decD]
  rw [this]; omega

theorem decD_dig (n : Nat) (h : n < 10) : digC (decD n) = true := by
  simp [digC, digitI, decD_toNat n h]; omega

/-- One digit more ahead. -/
theorem natV_step (k : Nat) (l : List UInt8) : k / 10 * 10 ^ (decD (k % 10) :: l).length + natV (decD (k % 10) :: l) = k * 10 ^ l.length + natV l := by
  rw [natV_cons, decD_toNat _ (Nat.mod_lt _ (by omega)), List.length_cons, Nat.pow_succ]
  have e : 48 + k % 10 - 48 = k % 10 := by omega
  rw [e, ← Nat.add_assoc]
  congr 1
  have : k = k / 10 * 10 + k % 10 := by omega
  conv => rhs; rw [this]
  rw [Nat.add_mul, Nat.mul_comm (10 ^ l.length) 10, Nat.mul_assoc]

theorem natV_nought (l : List UInt8) : natV (48 :: l) = natV l := by
  rw [natV_cons]; simp

theorem intV_of (l : List UInt8) (h : l.all digC = true) (h0 : l ≠ []) (hn : (natV l : Int) ≤ 9223372036854775807) : intV l = natV l ∧ intOk l = true := by
  have h1 : l.isEmpty = false := by simpa using h0
  constructor
  · unfold intV; rw [h, h1]; simp [numI_held l h, hn]
  · unfold intOk; rw [h, h1]; rfl

theorem intV_more (l : List UInt8) (c : UInt8) (h : l.all digC = true) (hc : digC c = true) (hn : (natV l : Int) ≤ 9223372036854775807) : (natV l : Int) ≤ intV (l ++ [c]) ∧ intOk (l ++ [c]) = true := by
  have ha : (l ++ [c]).all digC = true := by simp [h, hc]
  have h1 : (l ++ [c]).isEmpty = false := by simp
  constructor
  · unfold intV
    rw [ha, h1]
    simp only [Bool.not_false, Bool.and_self, if_true]
    rw [numI_held _ ha, natV_snoc]
    split <;> omega
  · unfold intOk; rw [ha, h1]; rfl

theorem intOk_in (a b : List UInt8) (c : UInt8) (ha : (a ++ b).all digC = true) : intOk (a ++ [c] ++ b) = digC c := by
  simp only [List.all_append, Bool.and_eq_true] at ha
  unfold intOk
  simp [ha.1, ha.2]

end Go.Proofs.Ythmhljnfjjblcaa
