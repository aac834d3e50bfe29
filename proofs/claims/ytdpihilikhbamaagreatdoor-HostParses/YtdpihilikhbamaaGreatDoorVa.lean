/-
  The walks of host.digit, host.valueOf and host.digitsAlone.
-/
import Derived.Test.YtdpihilikhbamaaGreatDoorProg
import Derived.Test.YtdpihilikhbamaaGreatDoorHa
import Derived.WalkKit
import Derived.WalkSpells
import Derived.WalkLawsBesides
set_option linter.unusedSimpArgs false
set_option linter.unusedVariables false
namespace Go.Proofs.YtdpihilikhbamaaGreatDoor
open Go.RowKit

theorem dig16_le (c : UInt8) : dig16 c ≤ 16 := by
  unfold dig16; split
  · omega
  · split
    · omega
    · split <;> omega

theorem ret_u64b {a b : Int} {x y : Bool} (h : a = b) (g : x = y) : Ending.returned (.tuple #[.int .u64 a, .bool x]) = .returned (.tuple #[.int .u64 b, .bool y]) := by rw [h, g]

def digR (base : Nat) (c : UInt8) : Nat := if dig16 c < base then dig16 c else 0
def digOk (base : Nat) (c : UInt8) : Bool := decide (dig16 c < base)

theorem dig16_cases (c : UInt8) : (48 ≤ c.toNat ∧ c.toNat ≤ 57 ∧ dig16 c = c.toNat - 48) ∨ (97 ≤ c.toNat ∧ c.toNat ≤ 102 ∧ dig16 c = c.toNat - 87) ∨ (65 ≤ c.toNat ∧ c.toNat ≤ 70 ∧ dig16 c = c.toNat - 55) ∨
    (¬ (48 ≤ c.toNat ∧ c.toNat ≤ 57) ∧ ¬ (97 ≤ c.toNat ∧ c.toNat ≤ 102) ∧ ¬ (65 ≤ c.toNat ∧ c.toNat ≤ 70) ∧ dig16 c = 16) := by
  unfold dig16
  split
  · omega
  · split
    · omega
    · split <;> omega

theorem dig_yes {base : Nat} {c : UInt8} (h : dig16 c < base) : digR base c = dig16 c ∧ digOk base c = true := by simp [digR, digOk, h]
theorem dig_no {base : Nat} {c : UInt8} (h : ¬ dig16 c < base) : digR base c = 0 ∧ digOk base c = false := by simp [digR, digOk, h]

theorem ret_dig {a : Int} {x : Bool} {base : Nat} {c : UInt8} (h : (dig16 c < base ∧ a = dig16 c ∧ x = true) ∨ (¬ dig16 c < base ∧ a = 0 ∧ x = false)) : Ending.returned (.tuple #[.int .u64 a, .bool x]) = .returned (.tuple #[.int .u64 (digR base c : Nat), .bool (digOk base c)]) := by
  rcases h with ⟨h, rfl, rfl⟩ | ⟨h, rfl, rfl⟩
  · rw [(dig_yes h).1, (dig_yes h).2]
  · rw [(dig_no h).1, (dig_no h).2]; rfl

set_option maxHeartbeats 1000000 in
theorem hdigit_any (c : UInt8) (base : Nat) (w : World) (hb : base ≤ 16) :
    Calls Tryz.prog 62 #[.int .u8 c.toNat, .int .u64 base] w fun e w' => e = .returned (.tuple #[.int .u64 (digR base c : Nat), .bool (digOk base c)]) ∧ w = w' := by
  have hc : c.toNat < 256 := c.toNat_lt
  have HD := hid (dig16_cases c)
  go_enter Tryz.func62, Tryz.ntmps62
  go_wp2
  all_goals
    go_ret2
    refine ⟨ret_dig ?_, rfl⟩
    have hd := HD.out
    clear HD
    first
      | (left; refine ⟨by omega, by omega, rfl⟩)
      | (right; refine ⟨by omega, by omega, rfl⟩)

set_option maxHeartbeats 1000000 in
theorem valueOf_any (s : ByteArray) (base : Nat) (w : World) (hb : base ≤ 16) (hs : s.size ≤ 140737488351232) :
    Calls Tryz.prog 60 #[.string s, .int .u64 base] w fun e w' => e = .returned (.tuple #[.int .u64 ((valV base s.data.toList).getD 0 : Nat), .bool (valV base s.data.toList).isSome]) ∧ w = w' := by
  go_enter Tryz.func60, Tryz.ntmps60
  go_wp2
  go_loop [6, 12] (fun n i => ∃ k m : Nat, k ≤ s.size ∧ i = .int .i64 k ∧ n = .int .u64 m ∧ m ≤ 4294967296 ∧ valN base m (s.data.toList.drop k) = valV base s.data.toList) (fun _ i => s.size - (intOf i).toNat)
  case atStart => exact ⟨0, 0, Nat.zero_le _, rfl, rfl, by omega, rfl⟩
  case round =>
    obtain ⟨k, m, hk, rfl, rfl, hm, hv⟩ := hrel
    have HV := hid hv
    clear hv
    by_cases hlt : k < s.size
    · have HD := hid (drop_cons s k hlt)
      have h16 := dig16_le s[k]
      by_cases hd : dig16 s[k] < base
      · have h1 := (dig_yes hd).1
        have h2 := (dig_yes hd).2
        have hmb : m * base ≤ 4294967296 * 16 := Nat.mul_le_mul hm hb
        have HN := hid (show valN base (min (m * base + dig16 s[k]) 4294967296) (s.data.toList.drop (k + 1)) = valV base s.data.toList by
          rw [← HV.out, HD.out, valN, if_pos hd])
        have hp : (m : Int) * (base : Int) = ((m * base : Nat) : Int) := (Int.natCast_mul m base).symm
        generalize m * base = p at hp hmb HN
        by_cases hle : p + dig16 s[k] ≤ 4294967296
        · have hmin : min (p + dig16 s[k]) 4294967296 = p + dig16 s[k] := by omega
          rw [hmin] at HN
          clear hmin
          go_wp2_with (go_at_call 62; refine (hdigit_any _ _ _ hb).mono ?_; rintro e w' ⟨rfl, rfl⟩; rw [h1, h2])
          go_round
          case rel => exact ⟨k + 1, p + dig16 s[k], by omega, by go_num, by go_num, hle, HN.out⟩
          case measure => simp [intOf]; omega
        · have hmin : min (p + dig16 s[k]) 4294967296 = 4294967296 := by omega
          rw [hmin] at HN
          clear hmin
          go_wp2_with (go_at_call 62; refine (hdigit_any _ _ _ hb).mono ?_; rintro e w' ⟨rfl, rfl⟩; rw [h1, h2])
          go_round
          case rel => exact ⟨k + 1, 4294967296, by omega, by go_num, by go_num, by omega, HN.out⟩
          case measure => simp [intOf]; omega
      · have h1 := (dig_no hd).1
        have h2 := (dig_no hd).2
        have HN := hid (show valV base s.data.toList = none by rw [← HV.out, HD.out, valN, if_neg hd])
        go_wp2_with (go_at_call 62; refine (hdigit_any _ _ _ hb).mono ?_; rintro e w' ⟨rfl, rfl⟩; rw [h1, h2])
        go_ret2
        exact ⟨ret_u64b (by rw [HN.out]; rfl) (by rw [HN.out]; rfl), rfl⟩
    · have HN := hid (show valV base s.data.toList = some m by rw [← HV.out, drop_none s k hlt, valN])
      go_wp2
      go_ret2
      exact ⟨ret_u64b (by rw [HN.out]; rfl) (by rw [HN.out]; rfl), rfl⟩

set_option maxHeartbeats 400000 in
theorem digitsAlone_any (s : ByteArray) (base : Nat) (w : World) (hb : base ≤ 16) (hs : s.size ≤ 140737488351232) :
    Calls Tryz.prog 39 #[.string s, .int .u64 base] w fun e w' => e = .returned (.bool (valV base s.data.toList).isSome) ∧ w = w' := by
  go_enter Tryz.func39, Tryz.ntmps39
  go_wp2_with (go_at_call 60; refine (valueOf_any _ _ _ hb hs).mono ?_; rintro e w' ⟨rfl, rfl⟩)
  go_ret
  exact ⟨rfl, rfl⟩

/-- The same, where the text's bytes have a name. -/
theorem valueOf_l (s : ByteArray) (l : List UInt8) (base : Nat) (w : World) (hl : s.data.toList = l) (hb : base ≤ 16) (hs : s.size ≤ 140737488351232) :
    Calls Tryz.prog 60 #[.string s, .int .u64 base] w fun e w' => e = .returned (.tuple #[.int .u64 ((valV base l).getD 0 : Nat), .bool (valV base l).isSome]) ∧ w = w' := by
  subst hl; exact valueOf_any s base w hb hs

theorem digitsAlone_l (s : ByteArray) (l : List UInt8) (base : Nat) (w : World) (hl : s.data.toList = l) (hb : base ≤ 16) (hs : s.size ≤ 140737488351232) :
    Calls Tryz.prog 39 #[.string s, .int .u64 base] w fun e w' => e = .returned (.bool (valV base l).isSome) ∧ w = w' := by
  subst hl; exact digitsAlone_any s base w hb hs

end Go.Proofs.YtdpihilikhbamaaGreatDoor
