/-
  Plain facts: what is percented, and has no percent sign, is unpercented to itself.
-/
import Derived.Test.YthmhljnfjjblcaaPi
set_option linter.unusedSimpArgs false
set_option linter.unusedVariables false
namespace Go.Proofs.Ythmhljnfjjblcaa

theorem hexD_facts : ∀ k, k < 16 → is16I (hexD k).toNat = true ∧ val16I (hexD k).toNat = k := by decide +kernel

theorem unpct_esc (c : UInt8) (r : List UInt8) : unpct (esc c ++ r) = c :: unpct r := by
  have hc := c.toNat_lt
  have h1 := hexD_facts (c.toNat / 16) (by omega)
  have h2 := hexD_facts (c.toNat % 16) (by omega)
  have e : pcd (37 :: hexD (c.toNat / 16) :: hexD (c.toNat % 16) :: r) = (c, true) := by
    rw [pcd_three, h1.1, h2.1, h1.2, h2.2]
    simp only [Bool.and_self, if_true]
    congr 1
    apply UInt8.toNat_inj.1
    simp
    omega
  show unpct (37 :: (hexD (c.toNat / 16) :: hexD (c.toNat % 16) :: r)) = _
  rw [unpct_cons, e]
  rfl

theorem unpct_pct (set : Int) (l : List UInt8) (h : ∀ c ∈ l, c ≠ 37) : unpct (pct set l) = l := by
  induction l with
  | nil => rfl
  | cons c l ih =>
    have h1 := h c (by simp)
    have h2 := ih fun d hd => h d (by simp [hd])
    have e : pct set (c :: l) = pct1 set c ++ pct set l := by simp [pct]
    rw [e]
    unfold pct1
    split
    · rw [unpct_esc, h2]
    · show unpct (c :: pct set l) = _
      rw [unpct_cons, pcd_other _ _ h1]
      simp [h2]

end Go.Proofs.Ythmhljnfjjblcaa
