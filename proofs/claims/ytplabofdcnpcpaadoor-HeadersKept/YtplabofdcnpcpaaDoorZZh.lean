/-
  The walks of the document's own answers: ostiaryref5's Add and Set. 
-/
import Derived.Test.YtplabofdcnpcpaaDoorZZg
set_option linter.unusedSimpArgs false
set_option linter.unusedVariables false
namespace Go.Proofs.YtplabofdcnpcpaaDoor
open Go.RowKit

/-- A slice that is nil is so in all its parts. -/
def NilOk (v : Value) : Prop := v = .slice none 0 0 ∨ ∃ x n c, v = .slice (some x) n c

theorem own_emptyH (w : World) : (w.alloc (.cells #[] 38)).ownsRow w.heap.size 38 2 (.slice (some ⟨w.heap.size, 0, none⟩) 0 0) 0 (cellsH []) :=
  ⟨rfl, .inr ⟨w.heap.size, 0, #[], rfl, Nat.le_refl _, heap_alloc_new w _, Nat.le_refl _, Nat.zero_le _, rfl, rfl⟩⟩

theorem own_base {w : World} {B B' : Nat} {e : TypeId} {k n : Nat} {v : Value} {xs : List Value} (h : w.ownsRow B e k v n xs) (hb : B' ≤ B) : w.ownsRow B' e k v n xs := by
  rcases h.2 with h' | ⟨g, cap, cur, e1, e2, e3⟩
  · exact ⟨h.1, .inl h'⟩
  · exact ⟨h.1, .inr ⟨g, cap, cur, e1, Nat.le_trans hb e2, e3⟩⟩

/-- What the document's own Set makes of a list, 'd': the value is placed. -/
def rsetV (n V : List UInt8) : Bool → List Hd → List Hd
  | _, [] => []
  | d, h :: r => if isN n h then (if d then rsetV n V d r else ⟨h.name, V⟩ :: rsetV n V true r) else h :: rsetV n V d r

theorem rset_true (n V : List UInt8) (L : List Hd) : rsetV n V true L = dropV L n := by
  induction L with
  | nil => rfl
  | cons h L ih =>
    cases hh : isN n h with
    | true => rw [rsetV, if_pos hh, if_pos rfl, ih]; unfold dropV; rw [List.filter_cons_of_neg (by simp [hh])]
    | false => rw [rsetV, if_neg (by simp [hh]), ih]; unfold dropV; rw [List.filter_cons_of_pos (by simp [hh])]

theorem rset_none (n V : List UInt8) (L : List Hd) (h : L.any (isN n) = false) : rsetV n V false L = L := by
  induction L with
  | nil => rfl
  | cons x L ih =>
    simp only [List.any_cons, Bool.or_eq_false_iff] at h
    rw [rsetV, if_neg (by simp [h.1]), ih h.2]

theorem rset_some (n V : List UInt8) : ∀ (L : List Hd) (k : Nat) (hk : k < L.length), isN n L[k] = true → (∀ j (hj : j < L.length), j < k → isN n L[j] = false) → rsetV n V false L = L.take k ++ [⟨L[k].name, V⟩] ++ dropV (L.drop (k + 1)) n
  | [], k, hk, _, _ => by simp at hk
  | x :: L, 0, _, h1, _ => by
    have h1' : isN n x = true := h1
    rw [rsetV, if_pos h1', if_neg (by simp), rset_true]; rfl
  | x :: L, k + 1, hk, h1, h2 => by
    have hx : isN n x = false := h2 0 (by simp) (by omega)
    rw [rsetV, if_neg (by simp [hx]), rset_some n V L k (by simpa using hk) h1 (fun j hj hjk => h2 (j + 1) (by simpa using hj) (by omega))]
    rfl

theorem first_any_iff (L : List Hd) (n : List UInt8) : (firstV L n = none ∧ L.any (isN n) = false) ∨ (∃ k, firstV L n = some k ∧ L.any (isN n) = true) := by
  cases h : firstV L n with
  | none =>
    left
    refine ⟨rfl, ?_⟩
    unfold firstV at h
    rw [List.findIdx?_eq_none_iff] at h
    rw [List.any_eq_false]
    intro x hx
    simp [h x hx]
  | some k =>
    right
    refine ⟨k, rfl, ?_⟩
    obtain ⟨hk, h1, _⟩ := first_ahead L n k h
    rw [List.any_eq_true]
    exact ⟨L[k], List.getElem_mem hk, h1⟩

theorem rset_set (L : List Hd) (n v : List UInt8) (h : L.any (isN n) = true) : rsetV n (valT v) false L = setV L n v ∧ setE L n v = hdE n v := by
  rcases first_any_iff L n with ⟨_, h'⟩ | ⟨k, hk, _⟩
  · rw [h] at h'; cases h'
  · have hf := hk
    unfold firstV at hk
    rw [List.findIdx?_eq_some_iff_getElem] at hk
    obtain ⟨hkl, h1, h2⟩ := hk
    constructor
    · rw [rset_some n (valT v) L k hkl h1 (fun j hj hjk => by have := h2 j hjk; simpa using this)]
      unfold setV
      rw [hf]
      simp [List.getD, hkl]
    · unfold setE; rw [hf]

theorem rset_add (L : List Hd) (n v : List UInt8) (h : L.any (isN n) = false) : setV L n v = L ++ [⟨n, valT v⟩] ∧ setE L n v = addE L n v := by
  rcases first_any_iff L n with ⟨hf, _⟩ | ⟨k, _, h'⟩
  · exact ⟨by unfold setV; rw [hf], by unfold setE; rw [hf]⟩
  · rw [h] at h'; cases h'

theorem rset_len (n V : List UInt8) : ∀ (d : Bool) (L : List Hd), (rsetV n V d L).length ≤ L.length
  | _, [] => Nat.le_refl _
  | d, h :: r => by
    rw [rsetV]
    split
    · split
      · have := rset_len n V d r; simp; omega
      · have := rset_len n V true r; simp; omega
    · have := rset_len n V d r; simp; omega

/-- What is known at each round's head. -/
def RsInv (L : List Hd) (n V : List UInt8) (k : Nat) (out : List Hd) (d : Bool) : Prop := out ++ rsetV n V d (L.drop k) = rsetV n V false L ∧ d = (L.take k).any (isN n) ∧ out.length ≤ k

theorem RsInv.skip {L : List Hd} {n V : List UInt8} {k : Nat} {out : List Hd} {d : Bool} (h : RsInv L n V k out d) (hk : k < L.length) (hn : isN n L[k] = false) : RsInv L n V (k + 1) (out ++ [L[k]]) d := by
  obtain ⟨h1, h2, h3⟩ := h
  refine ⟨?_, ?_, by simp; omega⟩
  · rw [← h1, ← List.getElem_cons_drop hk, rsetV, if_neg (by simp [hn])]; simp
  · rw [List.take_add_one, List.getElem?_eq_getElem hk, h2, List.any_append]; simp [hn]

theorem RsInv.place {L : List Hd} {n V : List UInt8} {k : Nat} {out : List Hd} (h : RsInv L n V k out false) (hk : k < L.length) (hn : isN n L[k] = true) : RsInv L n V (k + 1) (out ++ [⟨L[k].name, V⟩]) true := by
  obtain ⟨h1, h2, h3⟩ := h
  refine ⟨?_, ?_, by simp; omega⟩
  · rw [← h1, ← List.getElem_cons_drop hk, rsetV, if_pos hn, if_neg (by simp)]; simp
  · rw [List.take_add_one, List.getElem?_eq_getElem hk, List.any_append]; simp [hn]

theorem RsInv.pass {L : List Hd} {n V : List UInt8} {k : Nat} {out : List Hd} (h : RsInv L n V k out true) (hk : k < L.length) (hn : isN n L[k] = true) : RsInv L n V (k + 1) out true := by
  obtain ⟨h1, h2, h3⟩ := h
  refine ⟨?_, ?_, by omega⟩
  · rw [← h1, ← List.getElem_cons_drop hk, rsetV, if_pos hn, if_pos rfl]
  · rw [List.take_add_one, List.getElem?_eq_getElem hk, List.any_append]; simp [hn]

end Go.Proofs.YtplabofdcnpcpaaDoor
