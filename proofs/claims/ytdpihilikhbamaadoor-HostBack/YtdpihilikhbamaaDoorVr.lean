/-
  The walk of ostiarylaw2.digits.
-/
import Derived.Test.YtdpihilikhbamaaDoorVo
import Derived.Test.YtdpihilikhbamaaDoorHf
import Derived.Deep.LoopGhost
set_option linter.unusedSimpArgs false
set_option linter.unusedVariables false
namespace Go.Proofs.YtdpihilikhbamaaDoor
open Go.RowKit

theorem hexs_at (d : Nat) (h : d < 16) : ((⟨#[48, 49, 50, 51, 52, 53, 54, 55, 56, 57, 97, 98, 99, 100, 101, 102]⟩ : ByteArray).extract d (d + 1)).data.toList = [digC d] := by
  rcases (show d = 0 ∨ d = 1 ∨ d = 2 ∨ d = 3 ∨ d = 4 ∨ d = 5 ∨ d = 6 ∨ d = 7 ∨ d = 8 ∨ d = 9 ∨ d = 10 ∨ d = 11 ∨ d = 12 ∨ d = 13 ∨ d = 14 ∨ d = 15 from by omega) with
    rfl | rfl | rfl | rfl | rfl | rfl | rfl | rfl | rfl | rfl | rfl | rfl | rfl | rfl | rfl | rfl <;> (rw [Lib.extract_data]; rfl)

theorem hexs_app (d : Nat) (h : d < 16) (T : List UInt8) : (⟨#[48, 49, 50, 51, 52, 53, 54, 55, 56, 57, 97, 98, 99, 100, 101, 102]⟩ : ByteArray).extract d (d + 1) ++ ⟨T.toArray⟩ = ⟨(digC d :: T).toArray⟩ := by
  refine ba_ext ?_
  rw [ByteArray.data_append, Array.toList_append, hexs_at d h]; simp

/-- What is known at each round's head. -/
def DigInv (base n f u : Nat) (T : List UInt8) : Prop :=
  u < base ^ f ∧ f ≤ 40 ∧ T.length + f = 40 ∧ ((digsN base f u T = digs base n ∧ (0 < u ∨ T = [])) ∨ (u = 0 ∧ T = digs base n ∧ T ≠ []))

theorem DigInv.step {base n f u : Nat} {T : List UInt8} (h2 : 2 ≤ base) (h : DigInv base n f u T) (hp : 0 < u ∨ T = []) : ∃ g, f = g + 1 ∧ DigInv base n g (u / base) (digC (u % base) :: T) := by
  obtain ⟨h1, hf, hT, hc⟩ := h
  have hd : digsN base f u T = digs base n := by
    rcases hc with ⟨h, _⟩ | ⟨h0, _, hne⟩
    · exact h
    · rcases hp with hp | hp
      · omega
      · exact absurd hp hne
  cases f with
  | zero =>
    simp at h1
    rcases hp with hp | hp
    · omega
    · subst hp; simp at hT
  | succ g =>
    refine ⟨g, rfl, ?_, by omega, by simp; omega, ?_⟩
    · rw [Nat.div_lt_iff_lt_mul (by omega)]; rw [Nat.pow_succ] at h1; exact h1
    · by_cases hu : u < base
      · right
        rw [digsN_last _ _ _ _ hu] at hd
        refine ⟨Nat.div_eq_of_lt hu, by rw [Nat.mod_eq_of_lt hu]; exact hd, by simp⟩
      · left
        rw [digsN_more _ _ _ _ hu] at hd
        exact ⟨hd, .inl (Nat.div_pos (by omega) (by omega))⟩

theorem DigInv.done {base n f u : Nat} {T : List UInt8} (h : DigInv base n f u T) (h0 : u = 0) (hT : T ≠ []) : T = digs base n := by
  obtain ⟨_, _, _, hc⟩ := h
  rcases hc with ⟨_, hp | hp⟩ | ⟨_, h, _⟩
  · omega
  · exact absurd hp hT
  · exact h

set_option maxHeartbeats 2000000 in
theorem digits_any (n base : Nat) (w : World) (hb : base = 8 ∨ base = 10 ∨ base = 16) (hn : n ≤ 4294967296) :
    Calls Tryd.prog 20 #[.int .u64 n, .int .u64 base] w fun e w' => e = .returned (.string ⟨(digs base n).toArray⟩) ∧ w = w' := by
  have h40 : n < base ^ 40 := by
    have h1 : 2 ^ 40 ≤ base ^ 40 := Nat.pow_le_pow_left (by omega) 40
    have h3 : (4294967296 : Nat) < 2 ^ 40 := by decide
    omega
  have H0 := hid (show DigInv base n 40 n [] from ⟨h40, by omega, rfl, .inl ⟨rfl, .inr rfl⟩⟩)
  clear h40
  have h2 : 2 ≤ base := by omega
  have h16 : base ≤ 16 := by omega
  go_enter Tryd.func20, Tryd.ntmps20
  go_wp2
  go_loopg [0, 5] 40 (fun f nv sv wr => ∃ (u : Nat) (T : List UInt8), nv = .int .u64 u ∧ sv = .string ⟨T.toArray⟩ ∧ u ≤ 4294967296 ∧ DigInv base n f u T ∧ wr = w)
  case atStart => exact ⟨n, [], rfl, rfl, hn, H0.out, rfl⟩
  case round =>
    obtain ⟨u, T, rfl, rfl, hu, hinv, rfl⟩ := hrel
    have hTl : T.length ≤ 40 := by have := hinv.2.2.1; omega
    have HI := hid hinv
    clear hinv
    have hm : u % base < 16 := by have := Nat.mod_lt u (by omega : 0 < base); omega
    by_cases hp : 0 < u ∨ T = []
    · obtain ⟨g, rfl, hnext⟩ := HI.out.step h2 hp
      have HN := hid hnext
      have HX := hid (hexs_app (u % base) hm T)
      have hul : u / base ≤ 4294967296 := Nat.le_trans (Nat.div_le_self _ _) hu
      clear hnext
      by_cases h0 : 0 < u
      · have h0' : (0 : Int) < (u : Int) := by omega
        clear hp
        rcases hb with rfl | rfl | rfl
        all_goals
          go_wp2
          go_roundg g
          case measure => omega
          case rel => exact ⟨_, _, by go_num, by rw [HX.out], hul, HN.out, rfl⟩
      · have hT0 : T = [] := hp.resolve_left h0
        have hu0 : u = 0 := by omega
        subst hT0
        subst hu0
        clear hp h0
        rcases hb with rfl | rfl | rfl
        all_goals
          go_wp2
          go_roundg g
          case measure => omega
          case rel => exact ⟨_, _, by go_num, by rw [HX.out], hul, HN.out, rfl⟩
    · have hu0 : u = 0 := by omega
      have hT : T ≠ [] := fun h => hp (.inr h)
      have HD := hid (HI.out.done hu0 hT)
      have he : T.isEmpty = false := by simpa using hT
      subst hu0
      clear hp hT
      go_wp2
      go_ret
      rw [HD.out]
      exact ⟨rfl, rfl⟩

end Go.Proofs.YtdpihilikhbamaaDoor
