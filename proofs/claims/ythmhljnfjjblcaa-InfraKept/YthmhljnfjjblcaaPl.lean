/-
  Plain facts: what is told in base 64 is read as itself.
-/
import Derived.Test.YthmhljnfjjblcaaPk
set_option linter.unusedSimpArgs false
set_option linter.unusedVariables false
namespace Go.Proofs.Ythmhljnfjjblcaa

theorem d64_facts : ∀ k, k < 64 → val64I (d64 k).toNat = k ∧ is64 (d64 k) = true ∧ d64 k ≠ 61 ∧ blankI (d64 k).toNat = false := by decide +kernel

theorem d64_val (k : Nat) (h : k < 64) : (val64I (d64 k).toNat).toNat = k := by rw [(d64_facts k h).1]; rfl

/-- The digits without the padding. -/
def eD : List UInt8 → List UInt8
  | [] => []
  | [a] => [d64 (a.toNat / 4), d64 (a.toNat % 4 * 16)]
  | [a, b] => [d64 (a.toNat / 4), d64 (a.toNat % 4 * 16 + b.toNat / 16), d64 (b.toNat % 16 * 4)]
  | a :: b :: c :: r => [d64 (a.toNat / 4), d64 (a.toNat % 4 * 16 + b.toNat / 16), d64 (b.toNat % 16 * 4 + c.toNat / 64), d64 (c.toNat % 64)] ++ eD r

def padE : List UInt8 → List UInt8
  | [] => []
  | [_] => [61, 61]
  | [_, _] => [61]
  | _ :: _ :: _ :: r => padE r

theorem e64_split (l : List UInt8) : e64 l = eD l ++ padE l := by
  match l with
  | [] => rfl
  | [a] => rfl
  | [a, b] => rfl
  | a :: b :: c :: r =>
    have := e64_split r
    simp [e64, eD, padE, this]

theorem padE_forms (l : List UInt8) : padE l = [] ∨ padE l = [61] ∨ padE l = [61, 61] := by
  match l with
  | [] => simp [padE]
  | [a] => simp [padE]
  | [a, b] => simp [padE]
  | a :: b :: c :: r => exact padE_forms r

theorem eD_mem (l : List UInt8) : ∀ d ∈ eD l, ∃ k, k < 64 ∧ d = d64 k := by
  match l with
  | [] => intro d h; simp [eD] at h
  | [a] =>
    intro d h
    have ha := a.toNat_lt
    simp [eD] at h
    rcases h with rfl | rfl
    · exact ⟨_, by omega, rfl⟩
    · exact ⟨_, by omega, rfl⟩
  | [a, b] =>
    intro d h
    have ha := a.toNat_lt
    have hb := b.toNat_lt
    simp [eD] at h
    rcases h with rfl | rfl | rfl
    · exact ⟨_, by omega, rfl⟩
    · exact ⟨_, by omega, rfl⟩
    · exact ⟨_, by omega, rfl⟩
  | a :: b :: c :: r =>
    intro d h
    have ha := a.toNat_lt
    have hb := b.toNat_lt
    have hc := c.toNat_lt
    simp [eD] at h
    rcases h with rfl | rfl | rfl | rfl | h
    · exact ⟨_, by omega, rfl⟩
    · exact ⟨_, by omega, rfl⟩
    · exact ⟨_, by omega, rfl⟩
    · exact ⟨_, by omega, rfl⟩
    · exact eD_mem r d h

theorem e64_mod (l : List UInt8) : (e64 l).length % 4 = 0 := by
  match l with
  | [] => rfl
  | [a] => simp [e64]
  | [a, b] => simp [e64]
  | a :: b :: c :: r =>
    have := e64_mod r
    simp [e64]
    omega

theorem eD_mod (l : List UInt8) : (eD l).length % 4 ≠ 1 := by
  match l with
  | [] => simp [eD]
  | [a] => simp [eD]
  | [a, b] => simp [eD]
  | a :: b :: c :: r =>
    have := eD_mod r
    simp [eD]
    omega

theorem step_0 (n : Nat) (out : List UInt8) (k : Nat) (h : k < 64) : step64 (n, 0, out) (d64 k) = (n * 64 + k, 6, out) := by
  unfold step64; simp [d64_val k h]
theorem step_6 (n : Nat) (out : List UInt8) (k : Nat) (h : k < 64) : step64 (n, 6, out) (d64 k) = (n * 64 + k, 4, out ++ [UInt8.ofNat ((n * 64 + k) / 16)]) := by
  unfold step64; simp [d64_val k h]
theorem step_4 (n : Nat) (out : List UInt8) (k : Nat) (h : k < 64) : step64 (n, 4, out) (d64 k) = (n * 64 + k, 2, out ++ [UInt8.ofNat ((n * 64 + k) / 4)]) := by
  unfold step64; simp [d64_val k h]
theorem step_2 (n : Nat) (out : List UInt8) (k : Nat) (h : k < 64) : step64 (n, 2, out) (d64 k) = (n * 64 + k, 0, out ++ [UInt8.ofNat (n * 64 + k)]) := by
  unfold step64; simp [d64_val k h]

theorem byte_is (a : UInt8) (m : Nat) (h : m % 256 = a.toNat) : UInt8.ofNat m = a := by
  apply UInt8.toNat_inj.1
  simp [h]

theorem run_eD (l : List UInt8) : ∀ (n : Nat) (out : List UInt8), ((eD l).foldl step64 (n, 0, out)).2.2 = out ++ l := by
  match l with
  | [] => intro n out; simp [eD]
  | [a] =>
    intro n out
    have ha := a.toNat_lt
    simp only [eD, List.foldl_cons, List.foldl_nil]
    rw [step_0 _ _ _ (by omega), step_6 _ _ _ (by omega), byte_is a _ (by omega)]
  | [a, b] =>
    intro n out
    have ha := a.toNat_lt
    have hb := b.toNat_lt
    simp only [eD, List.foldl_cons, List.foldl_nil]
    rw [step_0 _ _ _ (by omega), step_6 _ _ _ (by omega), step_4 _ _ _ (by omega), byte_is a _ (by omega), byte_is b _ (by omega)]
    simp
  | a :: b :: c :: r =>
    intro n out
    have ha := a.toNat_lt
    have hb := b.toNat_lt
    have hc := c.toNat_lt
    have ih := run_eD r
    simp only [eD, List.cons_append, List.nil_append, List.foldl_cons]
    rw [step_0 _ _ _ (by omega), step_6 _ _ _ (by omega), step_4 _ _ _ (by omega), step_2 _ _ _ (by omega), ih, byte_is a _ (by omega), byte_is b _ (by omega), byte_is c _ (by omega)]
    simp

theorem trim_yes (x : List UInt8) : Lib.trimSuffix (x ++ [61]) [61] = x := by
  unfold Lib.trimSuffix
  have : Lib.hasSuffix (x ++ [61]) [61] = true := by
    rw [← Lib.hasSuffix_of_drop]; simp
  simp [this]

theorem trim_no (x : List UInt8) (h : ∀ d ∈ x, d ≠ 61) : Lib.trimSuffix x [61] = x := by
  unfold Lib.trimSuffix
  have : Lib.hasSuffix x [61] = false := by
    rw [← Lib.hasSuffix_of_drop]
    rw [Bool.and_eq_false_iff]
    by_cases hx : x = []
    · left; simp [hx]
    · right
      rw [beq_eq_false_iff_ne]
      intro e
      have hm : (61 : UInt8) ∈ x.drop (x.length - 1) := by
        have e' : x.drop (x.length - 1) = [61] := e
        rw [e']; simp
      exact h 61 (List.mem_of_mem_drop hm) rfl
  simp [this]

theorem unpadded (l : List UInt8) : noPadding (e64 l) = eD l := by
  have hne : ∀ d ∈ eD l, d ≠ 61 := by
    intro d hd
    obtain ⟨k, hk, rfl⟩ := eD_mem l d hd
    exact (d64_facts k hk).2.2.1
  unfold noPadding
  rw [if_pos (e64_mod l), e64_split]
  rcases padE_forms l with h | h | h
  · rw [h, List.append_nil, trim_no _ hne, trim_no _ hne]
  · rw [h, trim_yes, trim_no _ hne]
  · rw [h, show eD l ++ [61, 61] = (eD l ++ [61]) ++ [61] by simp, trim_yes, trim_yes]

theorem e64_noBlank (l : List UInt8) : ∀ d ∈ e64 l, blankI d.toNat = false := by
  intro d hd
  rw [e64_split, List.mem_append] at hd
  rcases hd with hd | hd
  · obtain ⟨k, hk, rfl⟩ := eD_mem l d hd
    exact (d64_facts k hk).2.2.2
  · rcases padE_forms l with h | h | h <;> rw [h] at hd <;> simp at hd
    · subst hd; rfl
    · subst hd; rfl

theorem noBlanks_same (l : List UInt8) (h : ∀ d ∈ l, blankI d.toNat = false) : noBlanks l = l := by
  unfold noBlanks
  rw [List.filter_eq_self]
  intro d hd
  simp [h d hd]

theorem b64_of (l m : List UInt8) (h : noBlanks m = e64 l) : b64 m = some l := by
  unfold b64
  rw [h, unpadded, if_neg (eD_mod l)]
  have hall : (eD l).all is64 = true := by
    rw [List.all_eq_true]
    intro d hd
    obtain ⟨k, hk, rfl⟩ := eD_mem l d hd
    exact (d64_facts k hk).2.1
  rw [hall]
  simp only [if_true]
  unfold run64
  rw [run_eD]
  rfl

theorem b64_back (l : List UInt8) : b64 (e64 l) = some l := b64_of l _ (noBlanks_same _ (e64_noBlank l))

theorem b64_blanks (l : List UInt8) (i : Nat) : b64 ((e64 l).take i ++ ([32, 10] ++ (e64 l).drop i)) = some l := by
  apply b64_of
  have h1 : noBlanks ((e64 l).take i) = (e64 l).take i := noBlanks_same _ fun d hd => e64_noBlank l d (List.mem_of_mem_take hd)
  have h2 : noBlanks ((e64 l).drop i) = (e64 l).drop i := noBlanks_same _ fun d hd => e64_noBlank l d (List.mem_of_mem_drop hd)
  have h3 : noBlanks ([32, 10] : List UInt8) = [] := by decide
  have happ : ∀ x y : List UInt8, noBlanks (x ++ y) = noBlanks x ++ noBlanks y := fun x y => by simp [noBlanks]
  rw [happ, happ, h1, h2, h3, List.nil_append, List.take_append_drop]

end Go.Proofs.Ythmhljnfjjblcaa
