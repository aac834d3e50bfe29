/-
  Plain facts: the last label; parting a text at a byte.
-/
import Derived.Test.YtdpihilikhbamaaGreatDoorHa
import Derived.Lib.LastIndexByte
set_option linter.unusedSimpArgs false
set_option linter.unusedVariables false
namespace Go.Proofs.YtdpihilikhbamaaGreatDoor

theorem ba_ext {a : ByteArray} {l : List UInt8} (h : a.data.toList = l) : a = ⟨l.toArray⟩ := by
  subst h; exact (Lib.mk_data a).symm

theorem lastLab_none (l : List UInt8) (h : ∀ c ∈ l, c ≠ 46) : lastLab l = l := by
  unfold lastLab
  have e := List.takeWhile_append_of_pos (p := fun x : UInt8 => x != 46) (l₁ := l.reverse) (l₂ := []) (by intro c hc; have := h c (by simpa using hc); simpa using this)
  rw [List.append_nil] at e
  rw [e]
  simp

theorem lastLab_some (a l : List UInt8) (h : ∀ c ∈ l, c ≠ 46) : lastLab (a ++ 46 :: l) = l := by
  unfold lastLab
  have e : (a ++ 46 :: l).reverse = l.reverse ++ 46 :: a.reverse := by simp
  rw [e, List.takeWhile_append_of_pos (by intro c hc; have := h c (by simpa using hc); simpa using this)]
  simp

theorem bang_at (s : ByteArray) (j : Nat) (h : j < s.size) : s.data[j]! = s.data.toList[j]'(by simpa using h) := by
  have h' : j < s.data.size := h
  rw [getElem!_pos s.data j h']; simp

theorem lastIdx_lab (s : ByteArray) : ∃ k : Nat, k ≤ s.size ∧ Lib.lastIndexByte s 46 = (k : Int) - 1 ∧ s.data.toList.drop k = lastLab s.data.toList := by
  have key : ∀ k : Nat, k ≤ s.size → (∀ j, k ≤ j → j < s.size → ((s.data[j]!).toNat : Int) ≠ 46) → ∀ c ∈ s.data.toList.drop k, c ≠ 46 := by
    intro k hk h c hc
    obtain ⟨i, hi, rfl⟩ := List.getElem_of_mem hc
    have hi' : k + i < s.size := by simp at hi; omega
    have := h (k + i) (by omega) hi'
    rw [bang_at s _ hi'] at this
    intro e
    apply this
    rw [List.getElem_drop] at e
    rw [e]; rfl
  rcases Lib.lastIdx_spec s 46 s.size with ⟨h1, h2⟩ | ⟨i, hi, h1, h2, h3⟩
  · refine ⟨0, Nat.zero_le _, h1, ?_⟩
    have := key 0 (Nat.zero_le _) (fun j _ hj => h2 j hj)
    rw [List.drop_zero] at this ⊢
    exact (lastLab_none _ this).symm
  · refine ⟨i + 1, hi, by show Lib.lastIdx s 46 s.size = _; rw [h1]; omega, ?_⟩
    have hn := key (i + 1) hi (fun j hj hj' => h3 j (by omega) hj')
    rw [bang_at s i hi] at h2
    have h46 : s.data.toList[i]'(by simpa using hi) = 46 := by
      apply UInt8.toNat_inj.1
      have : (46 : UInt8).toNat = 46 := rfl
      omega
    have e : s.data.toList = s.data.toList.take i ++ 46 :: s.data.toList.drop (i + 1) := by
      rw [← h46, ← List.drop_eq_getElem_cons (by simpa using hi), List.take_append_drop]
    conv => rhs; rw [e]
    exact (lastLab_some _ _ hn).symm

def er {α : Type} (o : Option α) : Int := match o with | some _ => 0 | none => 10
theorem er_some {α : Type} {o : Option α} {x : α} (h : o = some x) : er o = 0 := by rw [h]; rfl
theorem er_none {α : Type} {o : Option α} (h : o = none) : er o = 10 := by rw [h]; rfl

theorem noDot_le (l : List UInt8) : (noDot l).length ≤ l.length := Lib.trimSuffix_le _ _

theorem cut_le (l sep : List UInt8) : (Lib.cut l sep).1.length ≤ l.length ∧ (Lib.cut l sep).2.1.length ≤ l.length := by
  unfold Lib.cut
  split
  · simp
    omega
  · simp

end Go.Proofs.YtdpihilikhbamaaGreatDoor
