/-
  The walks of the document's own digits of sixteen and of its Numeral of numbers from nought on.
-/
import Derived.Test.YtdpihilikhbamaaGreatDoorVr
set_option linter.unusedSimpArgs false
set_option linter.unusedVariables false
namespace Go.Proofs.YtdpihilikhbamaaGreatDoor
open Go.RowKit

theorem tens_at (d : Nat) (h : d < 10) : ((⟨#[48, 49, 50, 51, 52, 53, 54, 55, 56, 57]⟩ : ByteArray).extract d (d + 1)).data.toList = [digC d] := by
  rcases (show d = 0 ∨ d = 1 ∨ d = 2 ∨ d = 3 ∨ d = 4 ∨ d = 5 ∨ d = 6 ∨ d = 7 ∨ d = 8 ∨ d = 9 from by omega) with
    rfl | rfl | rfl | rfl | rfl | rfl | rfl | rfl | rfl | rfl <;> (rw [Lib.extract_data]; rfl)

theorem tens_app (d : Nat) (h : d < 10) (T : List UInt8) : (⟨#[48, 49, 50, 51, 52, 53, 54, 55, 56, 57]⟩ : ByteArray).extract d (d + 1) ++ ⟨T.toArray⟩ = ⟨(digC d :: T).toArray⟩ := by
  refine ba_ext ?_
  rw [ByteArray.data_append, Array.toList_append, tens_at d h]; simp

theorem digsN_fuel (base : Nat) (h2 : 2 ≤ base) : ∀ (f g n : Nat) (T : List UInt8), f ≠ 0 → g ≠ 0 → n < base ^ f → n < base ^ g → digsN base f n T = digsN base g n T
  | 0, _, _, _, h, _, _, _ => absurd rfl h
  | _, 0, _, _, _, h, _, _ => absurd rfl h
  | f + 1, g + 1, n, T, _, _, hf, hg => by
    by_cases hn : n < base
    · rw [digsN_last _ _ _ _ hn, digsN_last _ _ _ _ hn]
    · rw [digsN_more _ _ _ _ hn, digsN_more _ _ _ _ hn]
      have hd : 0 < base := by omega
      have h1 : n / base < base ^ f := by rw [Nat.div_lt_iff_lt_mul hd]; rw [Nat.pow_succ] at hf; exact hf
      have h3 : n / base < base ^ g := by rw [Nat.div_lt_iff_lt_mul hd]; rw [Nat.pow_succ] at hg; exact hg
      have h0 : n / base ≠ 0 := Nat.pos_iff_ne_zero.1 (Nat.div_pos (by omega) hd)
      refine digsN_fuel base h2 f g _ _ ?_ ?_ h1 h3
      · rintro rfl; simp at h1; omega
      · rintro rfl; simp at h3; omega

theorem hex16_digs (n : Nat) (h : n < 65536) : hex16 n = digs 16 n := by
  unfold hex16 digs
  refine digsN_fuel 16 (by omega) 4 40 n [] (by omega) (by omega) (by omega) ?_
  have h1 : 16 ^ 4 ≤ 16 ^ 40 := Nat.pow_le_pow_right (by omega) (by omega)
  omega

set_option maxHeartbeats 2000000 in
theorem rdigits_any (n : Nat) (w : World) (hn : n < 65536) :
    Calls Tryz.prog 54 #[.int .u16 n] w fun e w' => e = .returned (.string ⟨(hex16 n).toArray⟩) ∧ w = w' := by
  rw [hex16_digs n hn]
  have h40 : n < 16 ^ 40 := by
    have h1 : 16 ^ 4 ≤ 16 ^ 40 := Nat.pow_le_pow_right (by omega) (by omega)
    omega
  have H0 := hid (show DigInv 16 n 40 n [] from ⟨h40, by omega, rfl, .inl ⟨rfl, .inr rfl⟩⟩)
  clear h40
  go_enter Tryz.func54, Tryz.ntmps54
  go_wp2
  go_loopg [0, 3] 40 (fun f nv sv wr => ∃ (u : Nat) (T : List UInt8), nv = .int .u16 u ∧ sv = .string ⟨T.toArray⟩ ∧ u < 65536 ∧ DigInv 16 n f u T ∧ wr = w)
  case atStart => exact ⟨n, [], rfl, rfl, hn, H0.out, rfl⟩
  case round =>
    obtain ⟨u, T, rfl, rfl, hu, hinv, rfl⟩ := hrel
    have hTl : T.length ≤ 40 := by have := hinv.2.2.1; omega
    have HI := hid hinv
    clear hinv
    have hm : u % 16 < 16 := by omega
    by_cases hp : 0 < u ∨ T = []
    · obtain ⟨g, rfl, hnext⟩ := HI.out.step (by omega) hp
      have HN := hid hnext
      have HX := hid (hexs_app (u % 16) hm T)
      have hul : u / 16 < 65536 := by omega
      clear hnext
      by_cases h0 : 0 < u
      · have h0' : (0 : Int) < (u : Int) := by omega
        clear hp
        go_wp2
        go_roundg g
        case measure => omega
        case rel => exact ⟨_, _, by go_num, by rw [HX.out], hul, HN.out, rfl⟩
      · have hT0 : T = [] := hp.resolve_left h0
        have hu0 : u = 0 := by omega
        subst hT0
        subst hu0
        clear hp h0
        go_wp2
        go_roundg g
        case measure => omega
        case rel => exact ⟨_, _, by go_num, by rw [HX.out], hul, HN.out, rfl⟩
    · have hu0 : u = 0 := by omega
      have hT : T ≠ [] := fun h => hp (.inr h)
      have HD := hid (HI.out.done hu0 hT)
      have he : T.isEmpty = false := by simpa using hT
      subst hu0
      clear hp hT
      go_wp2
      go_ret
      rw [HD.out]
      exact ⟨rfl, rfl⟩

set_option maxHeartbeats 2000000 in
theorem numeral_nat (n : Nat) (w : World) (hn : n ≤ 9223372036854775807) :
    Calls Tryz.prog 57 #[.int .i64 n] w fun e w' => e = .returned (.string ⟨(digs 10 n).toArray⟩) ∧ w = w' := by
  have h40 : n < 10 ^ 40 := by
    have h3 : (9223372036854775807 : Nat) < 10 ^ 40 := by decide
    omega
  have H0 := hid (show DigInv 10 n 40 n [] from ⟨h40, by omega, rfl, .inl ⟨rfl, .inr rfl⟩⟩)
  clear h40
  have hq1 : ((n : Int) == -9223372036854775808) = false := by rw [beq_eq_false_iff_ne]; omega
  have hq2 : decide ((n : Int) < 0) = false := decide_eq_false (by omega)
  go_enter Tryz.func57, Tryz.ntmps57
  go_wp2
  go_loopg [0, 3] 40 (fun f nv sv wr => ∃ (u : Nat) (T : List UInt8), nv = .int .i64 u ∧ sv = .string ⟨T.toArray⟩ ∧ u ≤ 9223372036854775807 ∧ DigInv 10 n f u T ∧ wr = w)
  case atStart => exact ⟨n, [], rfl, rfl, hn, H0.out, rfl⟩
  case round =>
    obtain ⟨u, T, rfl, rfl, hu, hinv, rfl⟩ := hrel
    have hTl : T.length ≤ 40 := by have := hinv.2.2.1; omega
    have HI := hid hinv
    clear hinv
    have hm : u % 10 < 10 := by omega
    have ht1 : (u : Int).tmod 10 = ((u % 10 : Nat) : Int) := by rw [Int.tmod_eq_emod_of_nonneg (by omega)]; omega
    have ht2 : (u : Int).tdiv 10 = ((u / 10 : Nat) : Int) := by rw [Int.tdiv_eq_ediv_of_nonneg (by omega)]; omega
    by_cases hp : 0 < u ∨ T = []
    · obtain ⟨g, rfl, hnext⟩ := HI.out.step (by omega) hp
      have HN := hid hnext
      have HX := hid (tens_app (u % 10) hm T)
      have hul : u / 10 ≤ 9223372036854775807 := by omega
      clear hnext
      by_cases h0 : 0 < u
      · have h0' : (0 : Int) < (u : Int) := by omega
        clear hp
        go_wp2
        go_roundg g
        case measure => omega
        case rel => exact ⟨_, _, by go_num, by rw [HX.out], hul, HN.out, rfl⟩
      · have hT0 : T = [] := hp.resolve_left h0
        have hu0 : u = 0 := by omega
        subst hT0
        subst hu0
        clear hp h0
        go_wp2
        go_roundg g
        case measure => omega
        case rel => exact ⟨_, _, by go_num, by rw [HX.out], hul, HN.out, rfl⟩
    · have hu0 : u = 0 := by omega
      have hT : T ≠ [] := fun h => hp (.inr h)
      have HD := hid (HI.out.done hu0 hT)
      have he : T.isEmpty = false := by simpa using hT
      subst hu0
      clear hp hT
      go_wp2
      go_ret
      rw [HD.out]
      exact ⟨rfl, rfl⟩

end Go.Proofs.YtdpihilikhbamaaGreatDoor
