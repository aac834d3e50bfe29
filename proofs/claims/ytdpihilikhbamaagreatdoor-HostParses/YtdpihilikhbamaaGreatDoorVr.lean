/-
  The walk of ostiarylaw2.digits.
-/
import Derived.Test.YtdpihilikhbamaaGreatDoorVo
import Derived.Test.YtdpihilikhbamaaGreatDoorHf
import Derived.Deep.LoopGhost
set_option linter.unusedSimpArgs false
set_option linter.unusedVariables false
namespace Go.Proofs.YtdpihilikhbamaaGreatDoor
open Go.RowKit

theorem hexs_at (d : Nat) (h : d < 16) : ((⟨#[48, 49, 50, 51, 52, 53, 54, 55, 56, 57, 97, 98, 99, 100, 101, 102]⟩ : ByteArray).extract d (d + 1)).data.toList = [digC d] := by
  rcases (show d = 0 ∨ d = 1 ∨ d = 2 ∨ d = 3 ∨ d = 4 ∨ d = 5 ∨ d = 6 ∨ d = 7 ∨ d = 8 ∨ d = 9 ∨ d = 10 ∨ d = 11 ∨ d = 12 ∨ d = 13 ∨ d = 14 ∨ d = 15 from by omega) with
    rfl | rfl | rfl | rfl | rfl | rfl | rfl | rfl | rfl | rfl | rfl | rfl | rfl | rfl | rfl | rfl <;> (rw [Lib.extract_data]; rfl)

theorem hexs_app (d : Nat) (h : d < 16) (T : List UInt8) : (⟨#[48, 49, 50, 51, 52, 53, 54, 55, 56, 57, 97, 98, 99, 100, 101, 102]⟩ : ByteArray).extract d (d + 1) ++ ⟨T.toArray⟩ = ⟨(digC d :: T).toArray⟩ := by
  refine ba_ext ?_
  rw [ByteArray.data_append, Array.toList_append, hexs_at d h]; simp

/-- What is known at each round's head. -/
def DigInv (base n f u : Nat) (T : List UInt8) : Prop :=
  u < base ^ f ∧ f ≤ 40 ∧ T.length + f = 40 ∧ ((digsN base f u T = digs base n ∧ (0 < u ∨ T = [])) ∨ (u = 0 ∧ T = digs base n ∧ T ≠ []))

theorem DigInv.step {base n f u : Nat} {T : List UInt8} (h2 : 2 ≤ base) (h : DigInv base n f u T) (hp : 0 < u ∨ T = []) : ∃ g, f = g + 1 ∧ DigInv base n g (u / base) (digC (u % base) :: T) := by
  obtain ⟨h1, hf, hT, hc⟩ := h
  have hd : digsN base f u T = digs base n := by
    rcases hc with ⟨h, _⟩ | ⟨h0, _, hne⟩
    · exact h
    · rcases hp with hp | hp
      · omega
      · exact absurd hp hne
  cases f with
  | zero =>
    simp at h1
    rcases hp with hp | hp
    · omega
    · subst hp; simp at hT
  | succ g =>
    refine ⟨g, rfl, ?_, by omega, by simp; omega, ?_⟩
    · rw [Nat.div_lt_iff_lt_mul (by omega)]; rw [Nat.pow_succ] at h1; exact h1
    · by_cases hu : u < base
      · right
        rw [digsN_last _ _ _ _ hu] at hd
        refine ⟨Nat.div_eq_of_lt hu, by rw [Nat.mod_eq_of_lt hu]; exact hd, by simp⟩
      · left
        rw [digsN_more _ _ _ _ hu] at hd
        exact ⟨hd, .inl (Nat.div_pos (by omega) (by omega))⟩

theorem DigInv.done {base n f u : Nat} {T : List UInt8} (h : DigInv base n f u T) (h0 : u = 0) (hT : T ≠ []) : T = digs base n := by
  obtain ⟨_, _, _, hc⟩ := h
  rcases hc with ⟨_, hp | hp⟩ | ⟨_, h, _⟩
  · omega
  · exact absurd hp hT
  · exact h

end Go.Proofs.YtdpihilikhbamaaGreatDoor
