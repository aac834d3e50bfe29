/-
  Plain facts of names in order; the walk of headers' byName.
-/
import Derived.Test.YtplabofdcnpcpaaDoorZZj
set_option linter.unusedSimpArgs false
set_option linter.unusedVariables false
namespace Go.Proofs.YtplabofdcnpcpaaDoor
open Go.RowKit

/-- a stands ahead of b. -/
def ltN (a b : List UInt8) : Bool := decide (Lib.compareBytes a b < 0)

theorem cmp_cons (x y : UInt8) (a b : List UInt8) : Lib.compareBytes (x :: a) (y :: b) = if x < y then -1 else if y < x then 1 else Lib.compareBytes a b := rfl

theorem cmp_anti : ∀ (a b : List UInt8), Lib.compareBytes a b = - Lib.compareBytes b a
  | [], [] => rfl
  | [], _ :: _ => rfl
  | _ :: _, [] => rfl
  | x :: a, y :: b => by
    rw [cmp_cons, cmp_cons]
    have := cmp_anti a b
    by_cases h1 : x < y
    · have h2 : ¬ y < x := fun h => absurd (UInt8.lt_trans h1 h) (UInt8.lt_irrefl _)
      simp [h1, h2]
    · by_cases h2 : y < x
      · simp [h1, h2]
      · simp [h1, h2, this]

theorem cmp_zero : ∀ (a b : List UInt8), Lib.compareBytes a b = 0 → a = b
  | [], [], _ => rfl
  | [], _ :: _, h => by cases h
  | _ :: _, [], h => by cases h
  | x :: a, y :: b, h => by
    rw [cmp_cons] at h
    by_cases h1 : x < y
    · simp [h1] at h
    · by_cases h2 : y < x
      · simp [h1, h2] at h
      · simp [h1, h2] at h
        have : x = y := by
          apply UInt8.toNat_inj.1
          rw [UInt8.lt_iff_toNat_lt] at h1 h2
          omega
        rw [this, cmp_zero a b h]

theorem cmp_self : ∀ a : List UInt8, Lib.compareBytes a a = 0
  | [] => rfl
  | x :: a => by rw [cmp_cons, if_neg (UInt8.lt_irrefl _), if_neg (UInt8.lt_irrefl _)]; exact cmp_self a

theorem cmp_trans : ∀ (a b c : List UInt8), Lib.compareBytes a b < 0 → Lib.compareBytes b c < 0 → Lib.compareBytes a c < 0
  | [], _, [], _, h2 => by
    rename_i b h1
    cases b with
    | nil => simp [Lib.compareBytes] at h1
    | cons y b => simp [Lib.compareBytes] at h2
  | [], _, _ :: _, _, _ => by simp [Lib.compareBytes]
  | x :: a, [], _, h1, _ => by simp [Lib.compareBytes] at h1
  | x :: a, y :: b, [], _, h2 => by simp [Lib.compareBytes] at h2
  | x :: a, y :: b, z :: c, h1, h2 => by
    rw [cmp_cons] at h1 h2 ⊢
    simp only [UInt8.lt_iff_toNat_lt] at h1 h2 ⊢
    have ih := cmp_trans a b c
    split at h1
    · split at h2
      · rw [if_pos (by omega)]; decide
      · split at h2
        · omega
        · rw [if_pos (by omega)]; decide
    · split at h1
      · omega
      · split at h2
        · rw [if_pos (by omega)]; decide
        · split at h2
          · omega
          · rw [if_neg (by omega), if_neg (by omega)]; exact ih h1 h2

theorem ltN_irrefl (a : List UInt8) : ltN a a = false := by unfold ltN; rw [cmp_self]; rfl
theorem ltN_trans {a b c : List UInt8} (h1 : ltN a b = true) (h2 : ltN b c = true) : ltN a c = true := by
  unfold ltN at *; simp at *; exact cmp_trans a b c h1 h2
theorem ltN_asymm {a b : List UInt8} (h : ltN a b = true) : ltN b a = false := by
  cases h2 : ltN b a with
  | false => rfl
  | true => have := ltN_trans h h2; rw [ltN_irrefl] at this; cases this
theorem ltN_total (a b : List UInt8) : ltN a b = true ∨ a = b ∨ ltN b a = true := by
  have h := cmp_anti a b
  rcases Int.lt_trichotomy (Lib.compareBytes a b) 0 with h1 | h1 | h1
  · left; unfold ltN; simpa using h1
  · right; left; exact cmp_zero a b h1
  · right; right; unfold ltN; simp; omega
theorem leN_trans {a b c : List UInt8} (h1 : ltN b a = false) (h2 : ltN c b = false) : ltN c a = false := by
  cases h3 : ltN c a with
  | false => rfl
  | true =>
    rcases ltN_total a b with h | h | h
    · have := ltN_trans h3 h; rw [h2] at this; cases this
    · subst h; rw [h3] at h2; cases h2
    · rw [h1] at h; cases h

set_option maxHeartbeats 1000000 in
theorem byName_any (a b c d : ByteArray) (w : World) :
    Calls Tryd.prog 36 #[.agg #[.string a, .string b], .agg #[.string c, .string d]] w fun e w' => e = .returned (.int .i64 (Lib.compareBytes a.data.toList c.data.toList)) ∧ Below w.heap.size w w' := by
  go_enter Tryd.func36, Tryd.ntmps36
  go_wp2_with fail
  refine (Tryd.strings_Compare a c _).mono ?_
  rintro e w1 ⟨rfl, rfl⟩
  go_wp2
  go_ret
  exact ⟨rfl, belowA (belowA (Below.refl _ _) _) _⟩

/-! Lists in order. -/
def nmAt (M : List Hd) (i : Nat) : List UInt8 := (M.getD i ⟨[], []⟩).name

/-- The first b headers stand in order. -/
def Srt (M : List Hd) (b : Nat) : Prop := ∀ p q, p < q → q < b → ltN (nmAt M q) (nmAt M p) = false

/-- The headers of each name stand as they stood. -/
def Stab (M0 M : List Hd) : Prop := ∀ x : List UInt8, M.filter (fun h => h.name == x) = M0.filter (fun h => h.name == x)

theorem Stab.refl (M : List Hd) : Stab M M := fun _ => rfl
theorem Stab.trans {A B C : List Hd} (h1 : Stab A B) (h2 : Stab B C) : Stab A C := fun x => (h2 x).trans (h1 x)

/-- The headers at m and m + 1 change their places. -/
def swp (M : List Hd) (m : Nat) : List Hd := (M.set (m + 1) (M.getD m ⟨[], []⟩)).set m (M.getD (m + 1) ⟨[], []⟩)

theorem swp_len (M : List Hd) (m : Nat) : (swp M m).length = M.length := by simp [swp]

theorem swp_app (A B : List Hd) (x y : Hd) : swp (A ++ x :: y :: B) A.length = A ++ y :: x :: B ∧ (A ++ x :: y :: B).getD A.length ⟨[], []⟩ = x ∧ (A ++ x :: y :: B).getD (A.length + 1) ⟨[], []⟩ = y := by
  have e1 : (A ++ x :: y :: B).getD A.length ⟨[], []⟩ = x := by
    rw [List.getD_eq_getElem?_getD, List.getElem?_append_right (Nat.le_refl _), Nat.sub_self]; rfl
  have e2 : (A ++ x :: y :: B).getD (A.length + 1) ⟨[], []⟩ = y := by
    rw [List.getD_eq_getElem?_getD, List.getElem?_append_right (by omega), show A.length + 1 - A.length = 1 by omega]; rfl
  refine ⟨?_, e1, e2⟩
  unfold swp
  rw [e1, e2, List.set_append, if_neg (by omega), show A.length + 1 - A.length = 1 by omega, List.set_append, if_neg (by omega), Nat.sub_self]; rfl

theorem swp_split (M : List Hd) (m : Nat) (h : m + 1 < M.length) : ∃ A x y B, M = A ++ x :: y :: B ∧ A.length = m ∧ swp M m = A ++ y :: x :: B ∧ M.getD m ⟨[], []⟩ = x ∧ M.getD (m + 1) ⟨[], []⟩ = y := by
  have hM : M = M.take m ++ M[m] :: M[m + 1] :: M.drop (m + 2) := by
    rw [List.getElem_cons_drop, List.getElem_cons_drop, List.take_append_drop]
  have hA : (M.take m).length = m := by simp; omega
  have := swp_app (M.take m) (M.drop (m + 2)) M[m] M[m + 1]
  rw [hA, ← hM] at this
  exact ⟨M.take m, M[m], M[m + 1], M.drop (m + 2), hM, hA, this.1, this.2.1, this.2.2⟩

theorem swp_stab (M : List Hd) (m : Nat) (h : m + 1 < M.length) (hne : nmAt M m ≠ nmAt M (m + 1)) : Stab M (swp M m) := by
  obtain ⟨A, x, y, B, rfl, hA, h2, h3, h4⟩ := swp_split M m h
  intro z
  rw [h2]
  unfold nmAt at hne
  rw [h3, h4] at hne
  rw [List.filter_append, List.filter_append]
  congr 1
  by_cases hx : x.name = z
  · have hy : ¬ y.name = z := fun e => hne (hx.trans e.symm)
    simp [List.filter_cons, hx, hy]
  · simp [List.filter_cons, hx]

theorem nmAt_swp (M : List Hd) (m : Nat) (h : m + 1 < M.length) (j : Nat) : nmAt (swp M m) j = if j = m then nmAt M (m + 1) else if j = m + 1 then nmAt M m else nmAt M j := by
  have h0 : m < M.length := by omega
  unfold nmAt swp
  simp only [List.getD_eq_getElem?_getD, List.getElem?_set, List.length_set]
  by_cases a1 : j = m
  · subst a1
    rw [if_pos rfl, if_pos rfl, if_pos h0]; rfl
  · by_cases a2 : j = m + 1
    · subst a2
      rw [if_neg (by omega), if_pos rfl, if_pos h, if_neg (by omega), if_pos rfl]; rfl
    · rw [if_neg (by omega), if_neg (by omega), if_neg a1, if_neg a2]

/-- While the header that came to stand at j finds its place among the first i + 1. -/
def Ins (M : List Hd) (i j : Nat) : Prop := j ≤ i ∧ (∀ p q, p < q → q ≤ i → p ≠ j → q ≠ j → ltN (nmAt M q) (nmAt M p) = false) ∧ (∀ q, j < q → q ≤ i → ltN (nmAt M q) (nmAt M j) = false)

theorem Ins.start {M : List Hd} {i : Nat} (h : Srt M i) : Ins M i i := ⟨Nat.le_refl _, fun p q h1 h2 _ h4 => h p q h1 (by omega), fun q h1 h2 => by omega⟩

theorem Ins.done {M : List Hd} {i j : Nat} (h : Ins M i j) (hd : j = 0 ∨ ltN (nmAt M j) (nmAt M (j - 1)) = false) : Srt M (i + 1) := by
  obtain ⟨h1, h2, h3⟩ := h
  intro p q hpq hq
  by_cases e1 : p = j
  · subst e1; exact h3 q hpq (by omega)
  · by_cases e2 : q = j
    · subst e2
      rcases hd with hd | hd
      · omega
      · by_cases e3 : p = q - 1
        · subst e3; exact hd
        · exact leN_trans (h2 p (q - 1) (by omega) (by omega) e1 (by omega)) hd
    · exact h2 p q hpq (by omega) e1 e2

theorem Ins.swap {M : List Hd} {i m : Nat} (h : Ins M i (m + 1)) (hi : i < M.length) (hlt : ltN (nmAt M (m + 1)) (nmAt M m) = true) : Ins (swp M m) i m := by
  obtain ⟨h1, h2, h3⟩ := h
  have hml : m + 1 < M.length := by omega
  refine ⟨by omega, fun p q hpq hq hp1 hq1 => ?_, fun q hq hqi => ?_⟩
  · rw [nmAt_swp M m hml, nmAt_swp M m hml, if_neg hq1, if_neg hp1]
    by_cases e1 : q = m + 1
    · rw [if_pos e1, if_neg (by omega)]
      exact h2 p m (by omega) (by omega) (by omega) (by omega)
    · rw [if_neg e1]
      by_cases e2 : p = m + 1
      · rw [if_pos e2]; exact h2 m q (by omega) hq (by omega) (by omega)
      · rw [if_neg e2]; exact h2 p q hpq hq e2 e1
  · rw [nmAt_swp M m hml, nmAt_swp M m hml, if_neg (by omega), if_pos rfl]
    by_cases e1 : q = m + 1
    · rw [if_pos e1]; exact ltN_asymm hlt
    · rw [if_neg e1]; exact h3 q (by omega) hqi

theorem ltN_ne {a b : List UInt8} (h : ltN a b = true) : a ≠ b := fun e => by subst e; rw [ltN_irrefl] at h; cases h

end Go.Proofs.YtplabofdcnpcpaaDoor
