/-
  Plain facts: percented twice is percented once; a greater set leaves no more bytes as they are.
-/
import Derived.Test.YtdpihilikhbamaaDoorPe
set_option linter.unusedSimpArgs false
set_option linter.unusedVariables false
namespace Go.Proofs.YtdpihilikhbamaaDoor

theorem inSet_out (c set : Int) (h : ¬ inSetP c set) : inSetI c set = false := by
  rw [← Bool.not_eq_true, inSetI_iff]; exact h

theorem hexD_range (n : Nat) (h : n < 16) : (48 ≤ (hexD n).toNat ∧ (hexD n).toNat ≤ 57) ∨ (65 ≤ (hexD n).toNat ∧ (hexD n).toNat ≤ 70) := by
  unfold hexD
  split
  · left
    have : (UInt8.ofNat (48 + n)).toNat = (48 + n) % 256 := by simp
    rw [this]; omega
  · right
    have : (UInt8.ofNat (55 + n)).toNat = (55 + n) % 256 := by simp
    rw [this]; omega

theorem pct1_mem (set : Int) (c d : UInt8) (h : d ∈ pct1 set c) : inSetI d.toNat set = false := by
  unfold pct1 at h
  split at h
  · unfold esc at h
    have hc := c.toNat_lt
    have h1 := hexD_range (c.toNat / 16) (by omega)
    have h2 := hexD_range (c.toNat % 16) (by omega)
    simp only [List.mem_cons, List.not_mem_nil, or_false] at h
    apply inSet_out
    rcases h with rfl | rfl | rfl
    · have : ((37 : UInt8).toNat : Int) = 37 := rfl
      rw [this]; unfold inSetP; omega
    · unfold inSetP; omega
    · unfold inSetP; omega
  · simp only [List.mem_cons, List.not_mem_nil, or_false] at h
    subst h
    rename_i h'
    exact Bool.eq_false_iff.2 h'

theorem pct_mem (set : Int) (l : List UInt8) (d : UInt8) (h : d ∈ pct set l) : inSetI d.toNat set = false := by
  unfold pct at h
  rw [List.mem_flatMap] at h
  obtain ⟨c, _, hd⟩ := h
  exact pct1_mem set c d hd

theorem pct_none (set : Int) (l : List UInt8) (h : ∀ d ∈ l, inSetI d.toNat set = false) : pct set l = l := by
  induction l with
  | nil => rfl
  | cons c l ih =>
    have h1 := h c (by simp)
    have h2 := ih fun d hd => h d (by simp [hd])
    have e : pct set (c :: l) = pct1 set c ++ pct set l := by simp [pct]
    rw [e, h2]
    simp [pct1, h1]

theorem pct_idem (set : Int) (l : List UInt8) : pct set (pct set l) = pct set l := pct_none _ _ fun d hd => pct_mem set l d hd

theorem pct_range (set : Int) (l : List UInt8) (d : UInt8) (hs : 1 ≤ set ∧ set ≤ 6) (h : d ∈ pct set l) : 32 ≤ d.toNat ∧ d.toNat ≤ 126 := by
  have h1 := pct_mem set l d h
  have h2 : ¬ inSetP d.toNat set := by rw [← inSetI_iff, h1]; simp
  unfold inSetP at h2
  omega

theorem pct1_len (s t : Int) (c : UInt8) (h : inSetI c.toNat s = true → inSetI c.toNat t = true) : (pct1 s c).length ≤ (pct1 t c).length := by
  unfold pct1
  by_cases h1 : inSetI c.toNat s = true
  · rw [if_pos h1, if_pos (h h1)]; exact Nat.le_refl _
  · rw [if_neg h1]
    split <;> simp [esc]

theorem pct_mono (s t : Int) (l : List UInt8) (h : ∀ c : UInt8, inSetI c.toNat s = true → inSetI c.toNat t = true) : (pct s l).length ≤ (pct t l).length := by
  induction l with
  | nil => simp [pct]
  | cons c l ih =>
    have e1 : pct s (c :: l) = pct1 s c ++ pct s l := by simp [pct]
    have e2 : pct t (c :: l) = pct1 t c ++ pct t l := by simp [pct]
    have := pct1_len s t c (h c)
    rw [e1, e2]; simp; omega

theorem chain_mono (s t : Int) (h : s = 1 ∧ t = 3 ∨ s = 3 ∧ t = 5 ∨ s = 5 ∧ t = 6) (c : UInt8) (hc : inSetI c.toNat s = true) : inSetI c.toNat t = true := by
  rw [inSetI_iff] at hc ⊢
  obtain ⟨_, hc⟩ := hc
  rcases h with ⟨rfl, rfl⟩ | ⟨rfl, rfl⟩ | ⟨rfl, rfl⟩
  all_goals
    refine ⟨by omega, ?_⟩
    rcases hc with h | h | h | h | h | h | h | h
    all_goals omega

end Go.Proofs.YtdpihilikhbamaaDoor
