/-
  The walk of the document's own answer of chapter 1: ostiaryref1's value64; plain facts for its Base64.
-/
import Derived.Test.YthmhljnfjjblcaaRh
import Derived.Test.YthmhljnfjjblcaaPc
import Derived.Test.YthmhljnfjjblcaaPl
set_option linter.unusedSimpArgs false
set_option linter.unusedVariables false
namespace Go.Proofs.Ythmhljnfjjblcaa
open Go.RowKit

def v64 (c : UInt8) : Int := if is64 c then val64I c.toNat else -1

theorem v64_all : ∀ n, n < 256 → is64I ((n : Nat) : Int) = true → (d64 (val64I ((n : Nat) : Int)).toNat).toNat = n ∧ (val64I ((n : Nat) : Int)).toNat < 64 := by decide +kernel

theorem v64_none (c : UInt8) (h : ∀ j, j < 64 → d64 j ≠ c) : v64 c = -1 := by
  unfold v64
  by_cases h6 : is64 c = true
  · have := v64_all c.toNat c.toNat_lt h6
    exact absurd (UInt8.toNat_inj.1 this.1) (h _ this.2)
  · rw [if_neg h6]

theorem v64_at (k : Nat) (h : k < 64) : v64 (d64 k) = k := by
  have := d64_facts k h
  unfold v64
  rw [if_pos this.2.1, this.1]

theorem size64 : (ByteArray.mk #[65, 66, 67, 68, 69, 70, 71, 72, 73, 74, 75, 76, 77, 78, 79, 80, 81, 82, 83, 84, 85, 86, 87, 88, 89, 90, 97, 98, 99, 100, 101, 102, 103, 104, 105, 106, 107, 108, 109, 110, 111, 112, 113, 114, 115, 116, 117, 118, 119, 120, 121, 122, 48, 49, 50, 51, 52, 53, 54, 55, 56, 57, 43, 47]).size = 64 := rfl

set_option maxHeartbeats 1000000 in
theorem rvalue64_any (c : UInt8) (w : World) :
    Calls Try.prog 55 #[.int .u8 c.toNat] w fun e w' => e = .returned (.int .i64 (v64 c)) ∧ w = w' := by
  have hs64 := size64
  go_enter Try.func55, Try.ntmps55
  go_wp2
  go_loop [3] (fun i => ∃ k : Nat, k ≤ 64 ∧ i = .int .i64 k ∧ ∀ j, j < k → d64 j ≠ c) (fun i => 64 - (intOf i).toNat)
  case atStart => exact ⟨0, Nat.zero_le _, rfl, fun j hj => absurd hj (by omega)⟩
  case round =>
    obtain ⟨k, hk, rfl, hall⟩ := hrel
    have HA := hid hall
    clear hall
    by_cases hlt : k < 64
    · have hat := d64_at k (by rw [hs64]; exact hlt)
      have hki : (k : Int) < 64 := by omega
      have hkz : k < (ByteArray.mk #[65, 66, 67, 68, 69, 70, 71, 72, 73, 74, 75, 76, 77, 78, 79, 80, 81, 82, 83, 84, 85, 86, 87, 88, 89, 90, 97, 98, 99, 100, 101, 102, 103, 104, 105, 106, 107, 108, 109, 110, 111, 112, 113, 114, 115, 116, 117, 118, 119, 120, 121, 122, 48, 49, 50, 51, 52, 53, 54, 55, 56, 57, 43, 47]).size := by rw [hs64]; exact hlt
      by_cases hc : d64 k = c
      · have hq : (((d64 k).toNat : Int) == (c.toNat : Int)) = true := by rw [hc]; simp
        have HC := hid hc
        clear hc
        go_wp2
        go_ret
        refine ⟨ret_int ?_, rfl⟩
        rw [← HC.out, v64_at k hlt]
      · have hq : (((d64 k).toNat : Int) == (c.toNat : Int)) = false := by
          rw [beq_eq_false_iff_ne]
          intro e
          exact hc (UInt8.toNat_inj.1 (by omega))
        have HC := hid hc
        clear hc
        go_wp2
        go_round
        case rel =>
          refine ⟨k + 1, by omega, by go_num, fun j hj => ?_⟩
          by_cases e : j = k
          · rw [e]; exact HC.out
          · exact HA.out j (by omega)
        case measure => simp [intOf]; omega
    · obtain rfl : k = 64 := by omega
      go_wp2
      go_ret
      exact ⟨ret_int (v64_none c HA.out).symm, rfl⟩

def trim1 (l : List UInt8) : List UInt8 := Lib.trimSuffix l [61]
def padN : Nat → List UInt8 → List UInt8
  | 0, l => l
  | n + 1, l => padN n (trim1 l)

theorem trim1_nil : trim1 [] = [] := rfl

theorem trim1_last (l : List UInt8) (h : l.length - 1 < l.length) : trim1 l = if l[l.length - 1] = 61 then l.take (l.length - 1) else l := by
  unfold trim1 Lib.trimSuffix
  have e : l.drop (l.length - 1) = [l[l.length - 1]] := by
    rw [List.drop_eq_getElem_cons h, List.drop_of_length_le (by omega)]
  have hs : Lib.hasSuffix l [61] = decide (l[l.length - 1] = 61) := by
    rw [← Lib.hasSuffix_of_drop]
    show (decide (1 ≤ l.length) && (l.drop (l.length - 1) == [61])) = _
    rw [e]
    have : 1 ≤ l.length := by omega
    rw [Bool.eq_iff_iff]
    simp [this]
  rw [hs]
  simp

theorem padN_same (n : Nat) (l : List UInt8) (h : trim1 l = l) : padN n l = l := by
  induction n with
  | zero => rfl
  | succ n ih => unfold padN; rw [h]; exact ih

theorem noPadding_padN (l : List UInt8) (h : l.length % 4 = 0) : padN 2 l = noPadding l := by
  unfold noPadding
  rw [if_pos h]
  rfl

theorem noPadding_id (l : List UInt8) (h : ¬ l.length % 4 = 0) : noPadding l = l := by unfold noPadding; rw [if_neg h]

theorem mod16 (n v : Nat) : ((n % 65536 : Nat) : Int) * 64 + (v : Int) = ((n % 65536 * 64 + v : Nat) : Int) := by omega

theorem shr16 (m h : Nat) (hh : h ≤ 4) : ((m % 65536 : Nat) : Int) / 2 ^ h % 256 = ((UInt8.ofNat (m / 2 ^ h)).toNat : Int) := by
  have e : (UInt8.ofNat (m / 2 ^ h)).toNat = m / 2 ^ h % 256 := by simp
  rw [e]
  rcases (show h = 0 ∨ h = 1 ∨ h = 2 ∨ h = 3 ∨ h = 4 from by omega) with rfl | rfl | rfl | rfl | rfl <;> simp <;> omega

end Go.Proofs.Ythmhljnfjjblcaa
