/-
  Plain facts of Set: what is set is got, what is dropped is not, others stay; the walk of ostiaryref5.Named.
-/
import Derived.Test.YtplabofdcnpcpaaDoorZGg
import Derived.Test.YtplabofdcnpcpaaDoorZRa
set_option linter.unusedSimpArgs false
set_option linter.unusedVariables false
namespace Go.Proofs.YtplabofdcnpcpaaDoor
open Go.RowKit

theorem selV_app (A B : List Hd) (n : List UInt8) : selV (A ++ B) n = selV A n ++ selV B n := by unfold selV; simp
theorem dropV_app (A B : List Hd) (n : List UInt8) : dropV (A ++ B) n = dropV A n ++ dropV B n := by unfold dropV; simp
theorem selV_drop (L : List Hd) (n : List UInt8) : selV (dropV L n) n = [] := by
  unfold selV dropV
  rw [List.filter_filter]
  simp
theorem dropV_twice (L : List Hd) (n : List UInt8) : dropV (dropV L n) n = dropV L n := by
  unfold dropV; rw [List.filter_filter]; simp

theorem isN_other {n o : List UInt8} (h : low n ≠ low o) (x : Hd) (hx : isN n x = true) : isN o x = false := by
  unfold isN at hx ⊢
  rw [beq_iff_eq] at hx
  rw [beq_eq_false_iff_ne, hx]
  exact h

theorem selV_other (L : List Hd) (n o : List UInt8) (h : low n ≠ low o) : selV (dropV L n) o = selV L o := by
  unfold selV dropV
  rw [List.filter_filter]
  congr 1
  apply List.filter_congr
  intro x _
  cases hx : isN n x with
  | false => simp
  | true => simp [isN_other h x hx]

/-- The list ahead of the first header of that name has none of it. -/
theorem first_ahead (L : List Hd) (n : List UInt8) (k : Nat) (h : firstV L n = some k) : ∃ hk : k < L.length, isN n L[k] = true ∧ selV (L.take k) n = [] ∧ dropV (L.take k) n = L.take k := by
  unfold firstV at h
  rw [List.findIdx?_eq_some_iff_getElem] at h
  obtain ⟨hk, h1, h2⟩ := h
  have hno : ∀ x ∈ L.take k, isN n x = false := fun x hx => by
    obtain ⟨j, hj, rfl⟩ := List.getElem_of_mem hx
    have hj' : j < k := by simp at hj; omega
    have := h2 j hj'
    simpa using this
  refine ⟨hk, h1, ?_, ?_⟩
  · unfold selV
    rw [List.filter_eq_nil_iff.2 (fun x hx => by rw [hno x hx]; simp)]; rfl
  · unfold dropV
    rw [List.filter_eq_self]
    intro x hx
    rw [hno x hx]; rfl

theorem first_none (L : List Hd) (n : List UInt8) (h : firstV L n = none) : selV L n = [] ∧ dropV L n = L := by
  unfold firstV at h
  rw [List.findIdx?_eq_none_iff] at h
  constructor
  · unfold selV
    rw [List.filter_eq_nil_iff.2 (fun x hx => by rw [h x hx]; simp)]; rfl
  · unfold dropV
    rw [List.filter_eq_self]
    intro x hx
    rw [h x hx]; rfl

theorem isN_self (n v : List UInt8) : isN n ⟨n, v⟩ = true := by unfold isN; simp
theorem isN_name (n v : List UInt8) (x : Hd) (h : isN n x = true) : isN n ⟨x.name, v⟩ = true := h

theorem set_sel (L : List Hd) (n v : List UInt8) : selV (setV L n v) n = [valT v] := by
  unfold setV
  cases h : firstV L n with
  | none =>
    simp only
    rw [selV_snoc, (first_none L n h).1, isN_self]; rfl
  | some k =>
    obtain ⟨hk, h1, h2, h3⟩ := first_ahead L n k h
    simp only
    rw [selV_app, selV_app, h2, selV_drop]
    unfold selV
    rw [List.getD_eq_getElem?_getD, List.getElem?_eq_getElem hk, Option.getD_some, List.filter_cons_of_pos (isN_name n _ L[k] h1)]; rfl

theorem set_drop (L : List Hd) (n v : List UInt8) : dropV (setV L n v) n = dropV L n := by
  unfold setV
  cases h : firstV L n with
  | none =>
    simp only
    rw [dropV_snoc, isN_self]; simp
  | some k =>
    obtain ⟨hk, h1, h2, h3⟩ := first_ahead L n k h
    simp only
    rw [dropV_app, dropV_app, h3, dropV_twice]
    have hL : L = L.take k ++ ([L[k]] ++ L.drop (k + 1)) := by
      rw [List.singleton_append, List.getElem_cons_drop, List.take_append_drop]
    have e1 : dropV [(⟨(L.getD k ⟨[], []⟩).name, valT v⟩ : Hd)] n = [] := by
      unfold dropV
      rw [List.getD_eq_getElem?_getD, List.getElem?_eq_getElem hk, Option.getD_some, List.filter_cons_of_neg (by rw [isN_name n _ L[k] h1]; simp)]; rfl
    have e2 : dropV [L[k]] n = [] := by
      unfold dropV
      rw [List.filter_cons_of_neg (by rw [h1]; simp)]; rfl
    rw [e1]
    conv => rhs; rw [hL, dropV_app, dropV_app, e2, h3]
    simp

theorem set_other (L : List Hd) (n v o : List UInt8) (hno : low n ≠ low o) : selV (setV L n v) o = selV L o := by
  rw [← selV_other (setV L n v) n o hno, set_drop, selV_other L n o hno]

theorem set_len (L : List Hd) (n v : List UInt8) : (setV L n v).length ≤ L.length + 1 := by
  unfold setV
  cases h : firstV L n with
  | none => simp
  | some k =>
    obtain ⟨hk, _⟩ := first_ahead L n k h
    have := dropV_len (L.drop (k + 1)) n
    simp at this ⊢
    omega

theorem setE_val (L : List Hd) (n v : List UInt8) (h : setE L n v = 0) : valB v = true ∧ n.length ≤ 4096 ∧ (valT v).length ≤ 4096 := by
  have h0 : hdE n v = 0 := by
    unfold setE at h
    cases hf : firstV L n with
    | none =>
      rw [hf] at h
      simp only at h
      unfold addE at h
      by_cases hh : hdE n v = 0
      · exact hh
      · rw [if_pos hh] at h; exact h
    | some k => rw [hf] at h; exact h
  unfold hdE at h0
  split at h0
  · cases h0
  · rename_i h1
    split at h0
    · cases h0
    · rename_i h2
      refine ⟨?_, by omega, by omega⟩
      cases hb : valB v with
      | true => rfl
      | false => exact absurd (.inl hb) h1

theorem set_szd (L : List Hd) (n v : List UInt8) (b : Nat) (hL : Szd b L) (h : setE L n v = 0) (hb : 4096 ≤ b) : Szd b (setV L n v) := by
  obtain ⟨_, h1, h2⟩ := setE_val L n v h
  intro x hx
  unfold setV at hx
  cases hf : firstV L n with
  | none =>
    rw [hf] at hx
    simp only at hx
    rcases List.mem_append.1 hx with hx | hx
    · exact hL x hx
    · simp at hx; subst hx; exact ⟨by simp; omega, by simp; omega⟩
  | some k =>
    obtain ⟨hk, _⟩ := first_ahead L n k hf
    rw [hf] at hx
    simp only at hx
    rcases List.mem_append.1 hx with hx | hx
    · rcases List.mem_append.1 hx with hx | hx
      · exact hL x (List.mem_of_mem_take hx)
      · simp only [List.mem_singleton] at hx
        subst hx
        rw [List.getD_eq_getElem?_getD, List.getElem?_eq_getElem hk, Option.getD_some]
        exact ⟨(hL _ (List.getElem_mem hk)).1, by simp; omega⟩
    · exact hL x (List.mem_of_mem_drop (List.mem_filter.1 hx).1)

theorem drop_szd (L : List Hd) (n : List UInt8) (b : Nat) (hL : Szd b L) : Szd b (dropV L n) := fun x hx => hL x ((List.mem_filter.1 hx).1)

theorem getT_one (L : List Hd) (n x : List UInt8) (h : selV L n = [x]) : getT L n = x ∧ getB L n = true := by
  unfold getT getB
  rw [h]
  exact ⟨by simp [Lib.join, List.intercalate], rfl⟩

theorem getB_none (L : List Hd) (n : List UInt8) (h : selV L n = []) : getB L n = false := by unfold getB; rw [h]; rfl

end Go.Proofs.YtplabofdcnpcpaaDoor
