/-
  The walks of the document's own answers: ostiaryref1's ends, Trim; ostiaryref5's Value, fits.
-/
import Derived.Test.YtplabofdcnpcpaaDoorZZd
set_option linter.unusedSimpArgs false
set_option linter.unusedVariables false
namespace Go.Proofs.YtplabofdcnpcpaaDoor
open Go.RowKit

def endI (c : Int) : Bool := c == 9 || (c == 32 || (c == 10 || c == 13))
def endT (c : Int) : Bool := c == 9 || c == 32
def endC (t : Bool) (c : UInt8) : Bool := if t then endT c.toNat else endI c.toNat

theorem dropWhile_left (p : UInt8 → Bool) (A X : List UInt8) (h : A.all p = true) : (A ++ X).dropWhile p = X.dropWhile p := by
  induction A with
  | nil => rfl
  | cons a A ih =>
    simp only [List.all_cons, Bool.and_eq_true] at h
    rw [List.cons_append, List.dropWhile_cons_of_pos h.1, ih h.2]

theorem dropWhile_stop5 (p : UInt8 → Bool) (X Y : List UInt8) (c : UInt8) (hc : p c = false) : (X ++ c :: Y).dropWhile p = X.dropWhile p ++ c :: Y := by
  induction X with
  | nil => rw [List.nil_append, List.dropWhile_cons_of_neg (by simp [hc])]; rfl
  | cons x X ih =>
    cases hx : p x with
    | true => rw [List.cons_append, List.dropWhile_cons_of_pos hx, List.dropWhile_cons_of_pos hx, ih]
    | false => rw [List.cons_append, List.dropWhile_cons_of_neg (by simp [hx]), List.dropWhile_cons_of_neg (by simp [hx])]; rfl

theorem all_split (p : UInt8 → Bool) : ∀ l : List UInt8, ¬ l.all p = true → ∃ A c r, A.all p = true ∧ p c = false ∧ l = A ++ c :: r
  | [], h => absurd rfl h
  | x :: l, h => by
    cases hx : p x with
    | false => exact ⟨[], x, l, rfl, hx, rfl⟩
    | true =>
      obtain ⟨A, c, r, h1, h2, h3⟩ := all_split p l (fun e => h (by rw [List.all_cons, hx, e]; rfl))
      exact ⟨x :: A, c, r, by rw [List.all_cons, hx, h1]; rfl, h2, by rw [h3]; rfl⟩

/-- Which end is stripped first does not matter. -/
theorem trim_comm (p : UInt8 → Bool) (l : List UInt8) : ((l.dropWhile p).reverse.dropWhile p).reverse = (l.reverse.dropWhile p).reverse.dropWhile p := by
  by_cases h : l.all p = true
  · have h1 : l.dropWhile p = [] := by
      have := dropWhile_left p l [] h
      simpa using this
    have h2 : l.reverse.dropWhile p = [] := by
      have := dropWhile_left p l.reverse [] (by simpa using h)
      simpa using this
    rw [h1, h2]; rfl
  · obtain ⟨A, c, r, hA, hc, rfl⟩ := all_split p l h
    rw [dropWhile_left p A _ hA, List.dropWhile_cons_of_neg (by simp [hc])]
    rw [List.reverse_cons, List.reverse_append, List.reverse_cons, List.append_assoc, List.singleton_append]
    rw [dropWhile_stop5 p _ _ c hc, dropWhile_stop5 p _ _ c hc]
    rw [List.reverse_append, List.reverse_append, List.reverse_cons, List.reverse_cons, List.reverse_reverse]
    simp only [List.reverse_nil, List.nil_append, List.append_assoc, List.singleton_append]
    rw [dropWhile_left p A _ hA, List.dropWhile_cons_of_neg (by simp [hc])]

def pE (c : UInt8) : Bool := endI c.toNat

theorem pE_contains (c : UInt8) : [(9 : UInt8), 10, 13, 32].contains c = pE c := by
  rw [Bool.eq_iff_iff]
  simp only [List.contains_eq_mem, List.mem_cons, List.not_mem_nil, or_false, decide_eq_true_eq, pE, endI, Bool.or_eq_true, beq_iff_eq]
  have e : ∀ n : Nat, n < 256 → ((c.toNat : Int) = (n : Int) ↔ c = UInt8.ofNat n) := fun n hn => by
    have := byteInt c n hn
    rw [Bool.eq_iff_iff] at this
    simpa using this
  have e9 : (c.toNat : Int) = 9 ↔ c = 9 := e 9 (by omega)
  have e10 : (c.toNat : Int) = 10 ↔ c = 10 := e 10 (by omega)
  have e13 : (c.toNat : Int) = 13 ↔ c = 13 := e 13 (by omega)
  have e32 : (c.toNat : Int) = 32 ↔ c = 32 := e 32 (by omega)
  constructor
  · rintro (h | h | h | h) <;> (subst h; decide)
  · rintro (h | h | h | h)
    · exact .inl (e9.1 h)
    · exact .inr (.inr (.inr (e32.1 h)))
    · exact .inr (.inl (e10.1 h))
    · exact .inr (.inr (.inl (e13.1 h)))

theorem valT_strip (l : List UInt8) : valT l = ((l.dropWhile pE).reverse.dropWhile pE).reverse := by
  rw [trim_comm]
  unfold valT Lib.trimS Lib.trimLeftS Lib.trimRightS
  have : (fun c => [(9 : UInt8), 10, 13, 32].contains c) = pE := funext pE_contains
  rw [this]

theorem ext_from1 (S : ByteArray) (h : 0 < S.size) : S.data.toList = S[0] :: (S.extract 1 S.size).data.toList := by
  have := drop_cons S 0 h
  rw [List.drop_zero] at this
  rw [this, extract_drop]

theorem ext_to1 (S : ByteArray) (h : 0 < S.size) : S.data.toList = (S.extract 0 (S.size - 1)).data.toList ++ [S[S.size - 1]'(by omega)] := by
  have h2 : S.data.toList.drop (S.size - 1) = [S[S.size - 1]'(by omega)] := by
    have h3 := drop_cons S (S.size - 1) (by omega)
    have h4 : S.data.toList.drop (S.size - 1 + 1) = [] := List.drop_eq_nil_of_le (by simp; omega)
    rw [h4] at h3
    exact h3
  rw [Lib.extract_data, List.drop_zero, Nat.sub_zero, ← h2, List.take_append_drop]

end Go.Proofs.YtplabofdcnpcpaaDoor
