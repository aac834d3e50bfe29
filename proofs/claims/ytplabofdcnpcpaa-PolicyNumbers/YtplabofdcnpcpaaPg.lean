/-
  Plain facts: texts without the blanks at their ends.
-/
import Derived.Test.YtplabofdcnpcpaaPb
set_option linter.unusedSimpArgs false
set_option linter.unusedVariables false
namespace Go.Proofs.Ytplabofdcnpcpaa

def blC (c : UInt8) : Bool := blankI c.toNat
def strip (l : List UInt8) : List UInt8 := (((l.dropWhile blC).reverse).dropWhile blC).reverse

theorem dropBl_all (A X : List UInt8) (h : A.all blC = true) : (A ++ X).dropWhile blC = X.dropWhile blC := by
  induction A with
  | nil => rfl
  | cons a A ih =>
    simp only [List.all_cons, Bool.and_eq_true] at h
    simp [List.dropWhile_cons, h.1, ih h.2]

theorem dropWhile_stop (c : UInt8) (X : List UInt8) (h : blC c = false) : (c :: X).dropWhile blC = c :: X := by simp [List.dropWhile_cons, h]

theorem all_reverse (A : List UInt8) (h : A.all blC = true) : A.reverse.all blC = true := by simpa using h

theorem strip_parts (A M B : List UInt8) (hA : A.all blC = true) (hB : B.all blC = true) (hM : M = [] ∨ (∃ c r, M = c :: r ∧ blC c = false) ∧ ∃ r c, M = r ++ [c] ∧ blC c = false) : strip (A ++ M ++ B) = M := by
  unfold strip
  rw [List.append_assoc, dropBl_all A _ hA]
  rcases hM with rfl | ⟨⟨c, r, e1, h1⟩, ⟨r2, c2, e2, h2⟩⟩
  · have : B.dropWhile blC = [] := by
      have := dropBl_all B [] hB
      simpa using this
    simp [this]
  · rw [e1, List.cons_append, dropWhile_stop _ _ h1, ← List.cons_append, ← e1, List.reverse_append, dropBl_all _ _ (all_reverse B hB), e2, List.reverse_append]
    simp [dropWhile_stop, h2, List.dropWhile_cons]

/-- The text between two places, with blanks alone outside. -/
theorem strip_between (l : List UInt8) (k m : Nat) (hkm : k ≤ m) (hm : m ≤ l.length) (hA : (l.take k).all blC = true) (hB : (l.drop m).all blC = true)
    (h : k = m ∨ ∃ h1 : k < l.length, ∃ h2 : m - 1 < l.length, k < m ∧ blC l[k] = false ∧ blC l[m - 1] = false) : strip l = (l.take m).drop k := by
  have e : l = l.take k ++ (l.take m).drop k ++ l.drop m := by
    have h1 : l.take k = (l.take m).take k := by rw [List.take_take]; congr 1; omega
    rw [h1, List.take_append_drop, List.take_append_drop]
  conv => lhs; rw [e]
  refine strip_parts _ _ _ hA hB ?_
  rcases h with rfl | ⟨h1, h2, hlt, c1, c2⟩
  · left; simp
  · right
    refine ⟨⟨l[k], (l.take m).drop (k + 1), ?_, c1⟩, ⟨(l.take (m - 1)).drop k, l[m - 1], ?_, c2⟩⟩
    · rw [List.drop_eq_getElem_cons (by simp; omega)]; simp
    · have e2 : l.take m = l.take (m - 1) ++ [l[m - 1]] := by
        have := List.take_succ_eq_append_getElem h2
        rwa [show m - 1 + 1 = m by omega] at this
      rw [e2, List.drop_append]
      have : k - (l.take (m - 1)).length = 0 := by simp; omega
      rw [this]; rfl

end Go.Proofs.Ytplabofdcnpcpaa
