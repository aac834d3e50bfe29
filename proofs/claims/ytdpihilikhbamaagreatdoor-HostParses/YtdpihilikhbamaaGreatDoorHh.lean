/-
  How a text of eight pieces grows, piece by piece: plain facts.
-/
import Derived.Test.YtdpihilikhbamaaGreatDoorRm
set_option linter.unusedSimpArgs false
set_option linter.unusedVariables false
namespace Go.Proofs.YtdpihilikhbamaaGreatDoor

theorem joined_nil : joined [] = [] := by simp [joined, Lib.join, List.intercalate]
theorem joined_one (n : Nat) : joined [n] = hex16 n := by simp [joined, Lib.join, List.intercalate]
theorem joined_cons (a b : Nat) (l : List Nat) : joined (a :: b :: l) = hex16 a ++ ([58] ++ joined (b :: l)) := by simp [joined, Lib.join, List.intercalate]

theorem joined_snoc : ∀ (l : List Nat) (n : Nat), l ≠ [] → joined (l ++ [n]) = joined l ++ ([58] ++ hex16 n)
  | [], _, h => absurd rfl h
  | [a], n, _ => by
    show joined (a :: n :: []) = _
    rw [joined_cons, joined_one, joined_one]
  | a :: b :: l, n, _ => by
    show joined (a :: b :: (l ++ [n])) = _
    have := joined_snoc (b :: l) n (by simp)
    rw [joined_cons, joined_cons]
    rw [show b :: (l ++ [n]) = (b :: l) ++ [n] from rfl, this]
    simp

theorem hex16_no58 (n : Nat) : 58 ∉ hex16 n := by
  intro h
  have hall := digsN_all (fun c => c != 58) 16 (by omega) (by decide) 4 n [] rfl
  have := List.all_eq_true.1 hall 58 h
  simp at this
theorem hex16_ne (n : Nat) : hex16 n ≠ [] := digsN_ne 16 4 n [] (.inr (by decide))

theorem last_of (l : List UInt8) (h : l ≠ []) : ∃ A c, l = A ++ [c] := ⟨l.dropLast, l.getLast h, (List.dropLast_concat_getLast h).symm⟩

/-- It ends with a byte that is no ':'. -/
def EndsWell (T : List UInt8) : Prop := ∃ A c, T = A ++ [c] ∧ c ≠ 58

theorem EndsWell.app (P : List UInt8) {T : List UInt8} (h : EndsWell T) : EndsWell (P ++ T) := by
  obtain ⟨A, c, e, hc⟩ := h
  exact ⟨P ++ A, c, by rw [e, List.append_assoc], hc⟩

theorem hex16_ends (n : Nat) : EndsWell (hex16 n) := by
  obtain ⟨A, c, e⟩ := last_of _ (hex16_ne n)
  refine ⟨A, c, e, fun hc => hex16_no58 n ?_⟩
  rw [e, hc]; simp

theorem joined_ends (l : List Nat) (h : l ≠ []) : EndsWell (joined l) := by
  have e : l = l.dropLast ++ [l.getLast h] := (List.dropLast_concat_getLast h).symm
  rw [e]
  by_cases h0 : l.dropLast = []
  · rw [h0, List.nil_append, joined_one]; exact hex16_ends _
  · rw [joined_snoc _ _ h0]
    exact ((hex16_ends _).app [58]).app _

/-- What is written when the pieces from i on are still to come. -/
def t6 (x : List Nat) (fr to i : Nat) : List UInt8 :=
  if fr = to ∨ i ≤ fr then joined (x.take i) else joined (x.take fr) ++ ([58, 58] ++ joined ((x.take i).drop to))

theorem t6_step (x : List Nat) (fr to i : Nat) (hi : i < x.length) (hft : fr ≤ to) (hc : fr = to ∨ i < fr ∨ to ≤ i) :
    (t6 x fr to i = [] ∧ t6 x fr to (i + 1) = hex16 x[i]) ∨ ((∃ A, t6 x fr to i = A ++ [58]) ∧ t6 x fr to (i + 1) = t6 x fr to i ++ hex16 x[i]) ∨ (EndsWell (t6 x fr to i) ∧ t6 x fr to (i + 1) = t6 x fr to i ++ ([58] ++ hex16 x[i])) := by
  have htk : x.take (i + 1) = x.take i ++ [x[i]] := (List.take_append_getElem hi).symm
  by_cases hA : fr = to ∨ i < fr
  · have h1 : t6 x fr to i = joined (x.take i) := by rw [t6, if_pos (by omega)]
    have h2 : t6 x fr to (i + 1) = joined (x.take i ++ [x[i]]) := by rw [t6, if_pos (by omega), htk]
    rw [h1, h2]
    by_cases h0 : i = 0
    · left
      subst h0
      rw [List.take_zero]
      exact ⟨joined_nil, by rw [List.nil_append, joined_one]⟩
    · right; right
      have hne : x.take i ≠ [] := by
        intro h
        have := congrArg List.length h
        rw [List.length_take, List.length_nil] at this; omega
      exact ⟨joined_ends _ hne, joined_snoc _ _ hne⟩
  · have hti : to ≤ i := by omega
    have h1 : t6 x fr to i = joined (x.take fr) ++ ([58, 58] ++ joined ((x.take i).drop to)) := by rw [t6, if_neg (by omega)]
    have h2 : t6 x fr to (i + 1) = joined (x.take fr) ++ ([58, 58] ++ joined ((x.take i).drop to ++ [x[i]])) := by
      rw [t6, if_neg (by omega), htk, List.drop_append_of_le_length (by simp; omega)]
    rw [h1, h2]
    by_cases h0 : i = to
    · right; left
      have hd : (x.take i).drop to = [] := List.drop_eq_nil_of_le (by simp; omega)
      rw [hd, joined_nil, List.nil_append, joined_one]
      exact ⟨⟨joined (x.take fr) ++ [58], by simp⟩, by simp⟩
    · right; right
      have hne : (x.take i).drop to ≠ [] := by
        intro h
        have := congrArg List.length h
        simp at this; omega
      refine ⟨((joined_ends _ hne).app _).app _, ?_⟩
      rw [joined_snoc _ _ hne]; simp

theorem t6_mark (x : List Nat) (fr to : Nat) (h : fr < to) (hx : to ≤ x.length) : t6 x fr to to = t6 x fr to fr ++ [58, 58] := by
  have hd : (x.take to).drop to = [] := List.drop_eq_nil_of_le (by simp; omega)
  rw [t6, if_neg (by omega), t6, if_pos (by omega), hd, joined_nil]; simp

theorem t6_end (x : List Nat) (hx : x.length = 8) (hl : (lrun x).1 = (lrun x).2 ∨ (lrun x).1 < (lrun x).2) (h2 : (lrun x).2 ≤ 8) : t6 x (lrun x).1 (lrun x).2 8 = text6 x := by
  have h8 : x.take 8 = x := List.take_of_length_le (by omega)
  unfold text6
  by_cases h : (lrun x).1 = (lrun x).2
  · rw [if_pos h, t6, if_pos (.inl h), h8]
  · rw [if_neg h, t6, if_neg (by omega), h8]

theorem t6_le (x : List Nat) (fr to i : Nat) (hx : x.length = 8) : (t6 x fr to i).length ≤ 200 := by
  unfold t6
  split
  · have := joined_le (x.take i)
    have h2 : (x.take i).length ≤ 8 := by simp; omega
    omega
  · have h1 := joined_le (x.take fr)
    have h3 := joined_le ((x.take i).drop to)
    have h2 : (x.take fr).length ≤ 8 := by simp; omega
    have h4 : ((x.take i).drop to).length ≤ 8 := by simp; omega
    simp only [List.length_append, List.length_cons, List.length_nil]
    omega

end Go.Proofs.YtdpihilikhbamaaGreatDoor
