/-
  What Parse answers is parsed to itself: plain facts.
-/
import Derived.Test.YtdpihilikhbamaaDoorHi
import Derived.Test.YtdpihilikhbamaaDoorHf
import Derived.Test.YtdpihilikhbamaaDoorHc
import Derived.Test.YtdpihilikhbamaaDoorPi
set_option linter.unusedSimpArgs false
set_option linter.unusedVariables false
namespace Go.Proofs.YtdpihilikhbamaaDoor

theorem trim_one (l : List UInt8) (c : UInt8) : Lib.hasSuffix (l ++ [c]) [c] = true ∧ Lib.trimSuffix (l ++ [c]) [c] = l := by
  have h : Lib.hasSuffix (l ++ [c]) [c] = true := by
    unfold Lib.hasSuffix
    rw [List.isSuffixOf_iff_suffix]
    exact ⟨l, rfl⟩
  refine ⟨h, ?_⟩
  unfold Lib.trimSuffix
  rw [if_pos h]
  simp

theorem bracket_back (x : List Nat) (h8 : x.length = 8) (h16 : ∀ n ∈ x, n < 65536) (b : Bool) : parseV (91 :: (text6 x ++ [93])) b = some (91 :: (text6 x ++ [93])) := by
  have hp : Lib.hasPrefix (91 :: (text6 x ++ [93])) [91] = true := by simp [Lib.hasPrefix, List.isPrefixOf]
  rw [parseV_six hp]
  obtain ⟨h1, h2⟩ := trim_one (text6 x) 93
  exact bracketV_some (l := text6 x ++ [93]) h1 (by rw [h2]; exact six_text6 x h8 h16)

theorem low_low (l : List UInt8) : low (low l) = low l := by
  have key : ∀ n < 256, lowC (lowC (UInt8.ofNat n)) = lowC (UInt8.ofNat n) := by decide +kernel
  have hc : ∀ c : UInt8, lowC (lowC c) = lowC c := by
    intro c
    have := key c.toNat c.toNat_lt
    simpa using this
  simp [low, List.map_map, Function.comp_def, hc]

theorem nameB_facts (c : UInt8) (h : nameB c = true) : c ≠ 37 ∧ c ≠ 91 := by
  constructor
  · rintro rfl; revert h; decide
  · rintro rfl; revert h; decide

theorem no_prefix (l : List UInt8) (h : ∀ c ∈ l, c ≠ 91) : Lib.hasPrefix l [91] = false := by
  cases l with
  | nil => rfl
  | cons c l =>
    have := h c (by simp)
    rw [Lib.hasPrefix]
    simp [List.isPrefixOf]
    exact fun e => this e.symm

theorem name_back (m a : List UInt8) (hl : low m = m) (h : nameV m = some a) : parseV a true = some a := by
  by_cases hb : m = [] ∨ allN m = false ∨ coded m = true
  · rw [nameV_bad hb] at h; simp at h
  · have h0 : m ≠ [] := fun e => hb (.inl e)
    have h1 : allN m = true := by cases e : allN m with | true => rfl | false => exact absurd (.inr (.inl e)) hb
    have h2 : coded m = false := by cases e : coded m with | false => rfl | true => exact absurd (.inr (.inr e)) hb
    cases h3 : numberedV m with
    | true =>
      rw [nameV_num h0 h1 h2 h3] at h
      cases hf : fourV m with
      | none => rw [hf] at h; simp at h
      | some n =>
        rw [hf] at h
        simp only [Option.map_some, Option.some.injEq] at h
        subst h
        exact text4_parse n (fourV_lt hf)
    | false =>
      rw [nameV_name h0 h1 h2 h3] at h
      simp only [Option.some.injEq] at h
      subst h
      have hall := List.all_eq_true.1 (show m.all nameB = true from h1)
      rw [parseV_name (no_prefix m fun c hc => (nameB_facts c (hall c hc)).2), unpct_plain m (fun e => (nameB_facts _ (hall _ e)).1 rfl), hl]
      exact nameV_name h0 h1 h2 h3

theorem forb_hexD : ∀ n < 16, forb (hexD n) = false := by decide +kernel

theorem pct_forb (l : List UInt8) (h : l.any forb = false) : (pct 1 l).any forb = false := by
  rw [List.any_eq_false] at h ⊢
  intro d hd
  unfold pct at hd
  rw [List.mem_flatMap] at hd
  obtain ⟨c, hc, hd⟩ := hd
  unfold pct1 at hd
  split at hd
  · unfold esc at hd
    have h1 := forb_hexD (c.toNat / 16) (by have := c.toNat_lt; omega)
    have h2 := forb_hexD (c.toNat % 16) (by omega)
    simp only [List.mem_cons, List.not_mem_nil, or_false] at hd
    rcases hd with rfl | rfl | rfl
    · decide
    · rw [h1]; decide
    · rw [h2]; decide
  · simp only [List.mem_cons, List.not_mem_nil, or_false] at hd
    subst hd
    exact h d hc

theorem other_back (l a : List UInt8) (h : otherV l = some a) : parseV a false = some a := by
  unfold otherV at h
  split at h
  · simp at h
  · rename_i hn
    simp only [Option.some.injEq] at h
    subst h
    have hn' : (pct 1 l).any forb = false := pct_forb l (by simpa using hn)
    have h91 : ∀ c ∈ pct 1 l, c ≠ 91 := by
      rintro c hc rfl
      rw [List.any_eq_false] at hn'
      exact hn' _ hc (by decide)
    rw [parseV_other (no_prefix _ h91), otherV, if_neg (by rw [hn']; decide), pct_idem]

/-- What is answered is parsed to itself. -/
theorem parse_back (l a : List UInt8) (b : Bool) (h : parseV l b = some a) : parseV a b = some a := by
  cases hp : Lib.hasPrefix l [91] with
  | true =>
    rw [parseV_six hp] at h
    unfold bracketV at h
    split at h
    · cases hs : sixV (Lib.trimSuffix (l.drop 1) [93]) with
      | none => rw [hs] at h; simp at h
      | some x =>
        rw [hs] at h
        simp only [Option.map_some, Option.some.injEq] at h
        subst h
        exact bracket_back x (sixV_ok hs).1 (sixV_ok hs).2 b
    · simp at h
  | false =>
    cases b with
    | true => rw [parseV_name hp] at h; exact name_back _ a (low_low _) h
    | false => rw [parseV_other hp] at h; exact other_back l a h

end Go.Proofs.YtdpihilikhbamaaDoor
