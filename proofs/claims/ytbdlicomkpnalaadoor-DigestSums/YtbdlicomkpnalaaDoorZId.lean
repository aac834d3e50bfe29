/-
  Plain facts about a root's bits.
-/
import Derived.Test.YtbdlicomkpnalaaDoorZIc
set_option linter.unusedSimpArgs false
set_option linter.unusedVariables false
namespace Go.Proofs.YtbdlicomkpnalaaDoor
open Go.RowKit

/-- The greatest number of so many bits that meets the test, bit by bit from above. -/
def rtV (t : Nat → Bool) : Nat → Nat → Nat
  | 0, lo => lo
  | k + 1, lo => force (if t (lo + 2 ^ k) then lo + 2 ^ k else lo) fun x => rtV t k x

def rootV (cube : Bool) (p : Nat) : Nat := rtV (tst cube p) 72 0 % 2 ^ 64

theorem or_bit (a r : Nat) (h : a % 2 ^ (r + 1) = 0) : a ||| 2 ^ r = a + 2 ^ r := by
  have h2 : a = (a / 2 ^ (r + 1)) * 2 ^ (r + 1) := by
    have := Nat.div_add_mod a (2 ^ (r + 1))
    rw [h, Nat.add_zero, Nat.mul_comm] at this
    exact this.symm
  have h3 := Nat.shiftLeft_add_eq_or_of_lt (i := r + 1) (b := 2 ^ r) (Nat.pow_lt_pow_right (by decide) (Nat.lt_succ_self r)) (a / 2 ^ (r + 1))
  rw [Nat.shiftLeft_eq, ← h2] at h3
  exact h3.symm

/-- All bits below k are noughts. -/
def LowZ (O : List Nat) (k : Nat) : Prop := (∀ j, (j + 1) * 16 ≤ k → O.getD j 0 = 0) ∧ (k % 16 ≠ 0 → O.getD (k / 16) 0 % 2 ^ (k % 16) = 0)

theorem low_at {O : List Nat} {k : Nat} (h : LowZ O (k + 1)) : O.getD (k / 16) 0 % 2 ^ (k % 16 + 1) = 0 := by
  by_cases hr : k % 16 = 15
  · have h1 := h.1 (k / 16) (by omega)
    rw [h1]; simp
  · have h2 := h.2 (by omega)
    rwa [show (k + 1) % 16 = k % 16 + 1 by omega, show (k + 1) / 16 = k / 16 by omega] at h2

theorem low_down {O : List Nat} {k : Nat} (h : LowZ O (k + 1)) : LowZ O k := by
  refine ⟨fun j hj => h.1 j (by omega), fun hr => ?_⟩
  have := low_at h
  have e : O.getD (k / 16) 0 % 2 ^ (k % 16 + 1) % 2 ^ (k % 16) = 0 := by rw [this]; simp
  rwa [Nat.mod_mod_of_dvd _ (Nat.pow_dvd_pow 2 (Nat.le_succ _))] at e

theorem low_set {O : List Nat} {k : Nat} (hl : k / 16 < O.length) (h : LowZ O (k + 1)) : LowZ (O.set (k / 16) (O.getD (k / 16) 0 + 2 ^ (k % 16))) k := by
  refine ⟨fun j hj => ?_, fun hr => ?_⟩
  · rw [get_set _ _ _ _ (by omega)]; exact h.1 j (by omega)
  · have e : (O.set (k / 16) (O.getD (k / 16) 0 + 2 ^ (k % 16))).getD (k / 16) 0 = O.getD (k / 16) 0 + 2 ^ (k % 16) := by simp [List.getD, hl]
    rw [e, Nat.add_mod_right]
    have := low_at h
    have e2 : O.getD (k / 16) 0 % 2 ^ (k % 16 + 1) % 2 ^ (k % 16) = 0 := by rw [this]; simp
    rwa [Nat.mod_mod_of_dvd _ (Nat.pow_dvd_pow 2 (Nat.le_succ _))] at e2

theorem bit_room {a r : Nat} (h : a % 2 ^ (r + 1) = 0) (ha : a < 65536) (hr : r < 16) : a + 2 ^ r < 65536 := by
  obtain ⟨q, hq⟩ := Nat.dvd_of_mod_eq_zero h
  obtain ⟨s, hs⟩ : ∃ s, s + (r + 1) = 16 := ⟨16 - (r + 1), by omega⟩
  have e : 2 ^ (r + 1) * 2 ^ s = 65536 := by rw [← Nat.pow_add, show r + 1 + s = 16 by omega]
  have hlt : q < 2 ^ s := by
    rcases Nat.lt_or_ge q (2 ^ s) with h1 | h1
    · exact h1
    · have := Nat.mul_le_mul_left (2 ^ (r + 1)) h1
      rw [e, ← hq] at this
      omega
  have h2 := Nat.mul_le_mul_left (2 ^ (r + 1)) (show q + 1 ≤ 2 ^ s from hlt)
  rw [e, Nat.mul_add, Nat.mul_one, ← hq, Nat.pow_succ] at h2
  have := Nat.two_pow_pos r
  omega

theorem vl_bit (O : List Nat) (k : Nat) (hl : k / 16 < O.length) : vlV (O.set (k / 16) (O.getD (k / 16) 0 + 2 ^ (k % 16))) = vlV O + 2 ^ k := by
  have h := vl_set O (k / 16) (O.getD (k / 16) 0 + 2 ^ (k % 16)) hl
  rw [Nat.mul_add] at h
  have e : 65536 ^ (k / 16) * 2 ^ (k % 16) = 2 ^ k := by
    rw [show (65536 : Nat) = 2 ^ 16 by decide, ← Nat.pow_mul, ← Nat.pow_add, Nat.div_add_mod]
  rw [e] at h
  omega

theorem vl_low4 {O : List Nat} (hO : Lmb O) : vlV O % 2 ^ 64 = O.getD 0 0 + 65536 * (O.getD 1 0 + 65536 * (O.getD 2 0 + 65536 * O.getD 3 0)) := by
  have h1 := vl_split O 4 (by rw [hO.1]; omega)
  have h2 : vlV (O.take 4) = O.getD 0 0 + 65536 * (O.getD 1 0 + 65536 * (O.getD 2 0 + 65536 * O.getD 3 0)) := by
    have l := hO.1
    rw [take_step O 3 (by omega), take_step O 2 (by omega), take_step O 1 (by omega), take_step O 0 (by omega)]
    simp [vlV]
    omega
  have a0 := hO.2 0
  have a1 := hO.2 1
  have a2 := hO.2 2
  have a3 := hO.2 3
  rw [h1, h2, show (65536 : Nat) ^ 4 = 2 ^ 64 by decide, Nat.add_mul_mod_self_left]
  exact Nat.mod_eq_of_lt (by omega)

theorem or_up (a b n : Nat) (ha : a < 2 ^ n) : a ||| b * 2 ^ n = a + b * 2 ^ n := by
  have := Nat.shiftLeft_add_eq_or_of_lt (i := n) (b := a) ha b
  rw [Nat.shiftLeft_eq] at this
  rw [Nat.or_comm, ← this, Nat.add_comm]

end Go.Proofs.YtbdlicomkpnalaaDoor
