/-
  Plain facts for the law HostBad: a forbidden byte stays, and refuses.
-/
import Derived.Test.YtdpihilikhbamaaGreatDoorVn
set_option linter.unusedSimpArgs false
set_option linter.unusedVariables false
namespace Go.Proofs.YtdpihilikhbamaaGreatDoor

theorem pcd_fst_or (c : UInt8) (l : List UInt8) : (pcd (c :: l)).1 = c ∧ (pcd (c :: l)).2 = false ∨ (c = 37 ∧ ∃ a b r, l = a :: b :: r ∧ is16I a.toNat = true ∧ is16I b.toNat = true ∧ (pcd (c :: l)).2 = true) := by
  by_cases hc : c = 37
  · subst hc
    match l with
    | [] => left; exact ⟨rfl, rfl⟩
    | [a] => left; rw [pcd_short [a] 37 (by simp)]; exact ⟨rfl, rfl⟩
    | a :: b :: r =>
      rw [pcd_three]
      by_cases h : (is16I a.toNat && is16I b.toNat) = true
      · right
        rw [if_pos h]
        rw [Bool.and_eq_true] at h
        exact ⟨rfl, a, b, r, rfl, h.1, h.2, rfl⟩
      · left
        rw [if_neg h]; exact ⟨rfl, rfl⟩
  · left
    rw [pcd_other l c hc]; exact ⟨rfl, rfl⟩

/-- A byte that is no digit of sixteen and no percent sign stays. -/
theorem mem_unpct (x : UInt8) (h16 : is16I x.toNat = false) (h37 : x ≠ 37) : ∀ (n : Nat) (l : List UInt8), l.length ≤ n → x ∈ l → x ∈ unpct l
  | 0, l, hn, h => by
    have : l = [] := List.eq_nil_of_length_eq_zero (by omega)
    subst this; simp at h
  | n + 1, [], _, h => by simp at h
  | n + 1, c :: l, hn, h => by
    simp at hn
    rw [unpct_cons]
    rcases pcd_fst_or c l with ⟨h1, h2⟩ | ⟨rfl, a, b, r, rfl, ha, hb, h2⟩
    · rw [h1, h2]
      rcases List.mem_cons.1 h with rfl | h
      · exact List.mem_cons_self
      · exact List.mem_cons_of_mem _ (mem_unpct x h16 h37 n l hn h)
    · rw [h2]
      refine List.mem_cons_of_mem _ ?_
      simp only [if_true, List.drop_succ_cons, List.drop_zero]
      refine mem_unpct x h16 h37 n r (by simp at hn; omega) ?_
      rcases List.mem_cons.1 h with h | h
      · exact absurd h h37
      · rcases List.mem_cons.1 h with h | h
        · rw [h, ha] at h16; cases h16
        · rcases List.mem_cons.1 h with h | h
          · rw [h, hb] at h16; cases h16
          · exact h

theorem forb_facts : ∀ x ∈ forbL, is16I x.toNat = false ∧ x ≠ 37 ∧ lowC x = x ∧ forb x = true ∧ nameB x = false := by decide +kernel

theorem name_refused (l : List UInt8) (x : UInt8) (hx : x ∈ forbL) (h : x ∈ l) : nameV (low (unpct l)) = none := by
  obtain ⟨h1, h2, h3, h4, h5⟩ := forb_facts x hx
  have hm := mem_unpct x h1 h2 l.length l (Nat.le_refl _) h
  have hm2 : x ∈ low (unpct l) := by
    rw [low, List.mem_map]
    exact ⟨x, hm, h3⟩
  refine nameV_bad (.inr (.inl ?_))
  rw [allN, List.all_eq_false]
  exact ⟨x, hm2, by simp [h5]⟩

theorem other_refused (l : List UInt8) (x : UInt8) (hx : x ∈ forbL) (h : x ∈ l) : otherV l = none := by
  rw [otherV, if_pos]
  rw [List.any_eq_true]
  exact ⟨x, h, (forb_facts x hx).2.2.2.1⟩

theorem parse_refused (l : List UInt8) (c x : UInt8) (b : Bool) (hc : c ≠ 91) (hx : x ∈ forbL) (h : x ∈ c :: l) : parseV (c :: l) b = none := by
  have hp : Lib.hasPrefix (c :: l) [91] = false := by
    rw [Lib.hasPrefix]
    simp [List.isPrefixOf]
    exact fun h => hc h.symm
  cases b
  · rw [parseV_other hp]; exact other_refused _ x hx h
  · rw [parseV_name hp]; exact name_refused _ x hx h

theorem hex16_pos (n : Nat) : 0 < (hex16 n).length := by
  have key : ∀ (f m : Nat) (acc : List UInt8), acc.length ≤ (digsN 16 f m acc).length := by
    intro f
    induction f with
    | zero => intro m acc; simp [digsN]
    | succ f ih =>
      intro m acc
      rw [digsN]
      split
      · simp
      · have := ih (m / 16) (digC (m % 16) :: acc)
        simp at this
        omega
  unfold hex16
  rw [digsN]
  split
  · simp
  · have := key 3 (n / 16) [digC (n % 16)]
    simp at this
    omega

theorem text6_pos (x : List Nat) (h : x.length = 8) : 0 < (text6 x).length := by
  unfold text6
  split
  · match x, h with
    | a :: b :: x, _ =>
      have e : joined (a :: b :: x) = hex16 a ++ [58] ++ Lib.join ((b :: x).map hex16) [58] := by
        simp [joined, Lib.join, List.intercalate, List.intersperse]
      rw [e]
      simp; omega
  · simp; omega

/-- What stands between brackets is refused, or told between brackets. -/
theorem bracket_form (l : List UInt8) (b : Bool) : parseV (91 :: l) b = none ∨ ∃ r, parseV (91 :: l) b = some (91 :: r) ∧ 1 < r.length := by
  have hp : Lib.hasPrefix (91 :: l) [91] = true := by simp [Lib.hasPrefix, List.isPrefixOf]
  rw [parseV_six hp]
  unfold bracketV
  split
  · cases hs : sixV (Lib.trimSuffix ((91 :: l).drop 1) [93]) with
    | none => left; rfl
    | some x =>
      right
      have := text6_pos x (sixV_ok hs).1
      exact ⟨text6 x ++ [93], rfl, by simp; omega⟩
  · left; rfl

end Go.Proofs.YtdpihilikhbamaaGreatDoor
