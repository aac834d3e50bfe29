/-
  The walk of digest's read, at 64 bits.
-/
import Derived.Test.YtmjokddplikegaaDoorLb6
import Derived.Test.YtmjokddplikegaaDoorLm
set_option linter.unusedSimpArgs false
set_option linter.unusedVariables false
namespace Go.Proofs.YtmjokddplikegaaDoor
open Go.RowKit

theorem shl8_6 (m : Nat) (c : UInt8) (hm : m < 256 ^ (8 - 1)) : bits .or .u64 ((m : Int) * 256 % 18446744073709551616) (c.toNat : Int) = ((m * 256 + c.toNat : Nat) : Int) := by
  have hc := c.toNat_lt
  have h7 : (256 : Nat) ^ (8 - 1) * 256 = 18446744073709551616 := by decide
  have hm' : m * 256 + c.toNat < 18446744073709551616 := by
    have h8 : m + 1 ≤ 256 ^ (8 - 1) := hm
    have h9 := Nat.mul_le_mul_right 256 h8
    rw [h7] at h9
    omega
  clear hm h7
  have e2 : (m : Int) * 256 % 18446744073709551616 = ((m * 256 : Nat) : Int) := by omega
  have g1 : m * 256 < 18446744073709551616 := Nat.lt_of_le_of_lt (Nat.le_add_right _ _) hm'
  have g2 : c.toNat < 18446744073709551616 := Nat.lt_of_le_of_lt (Nat.le_add_left _ _) hm'
  rw [e2, u64_or_nat _ _ g1 g2, or_byte _ _ hc]

set_option maxHeartbeats 1000000 in
theorem read64 (x : Addr) (cap : Nat) (l : List UInt8) (w : World) (hc : ∀ j (h : j < l.length), w.cell? (x.add j) = some (.int .u8 (l[j].toNat : Int))) (hl : l.length = 8) :
    Calls Tryd.prog 60 #[.slice (some x) 8 cap] w fun e w' => e = .returned (.int .u64 ((beN 0 l : Nat) : Int)) ∧ w = w' := by
  have HL := hid hl
  have HC := hid hc
  clear hc hl
  go_enter Tryd.func60, Tryd.ntmps60
  go_wp2
  go_loop [3, 8] (fun n i => ∃ k m : Nat, k ≤ 8 ∧ i = .int .i64 k ∧ n = .int .u64 m ∧ m < 256 ^ k ∧ beN m (l.drop k) = beN 0 l) (fun _ i => 8 - (intOf i).toNat)
  case atStart => exact ⟨0, 0, by omega, rfl, rfl, by decide, rfl⟩
  case round =>
    obtain ⟨k, m, hk, rfl, rfl, hm, hv⟩ := hrel
    have HV := hid hv
    clear hv
    by_cases hlt : k < 8
    · have hkl : k < l.length := by rw [HL.out]; exact hlt
      have hcell := HC.out k hkl
      have hm7 : m < 256 ^ (8 - 1) := Nat.lt_of_lt_of_le hm (Nat.pow_le_pow_right (by decide) (by omega))
      have hor := shl8_6 m l[k] hm7
      have HN := hid (show beN (m * 256 + l[k].toNat) (l.drop (k + 1)) = beN 0 l by rw [← HV.out, List.drop_eq_getElem_cons hkl, beN])
      have HM := hid (show m * 256 + l[k].toNat < 256 ^ (k + 1) by have := l[k].toNat_lt; rw [Nat.pow_succ]; omega)
      clear hm hm7
      obtain ⟨C, hC⟩ : ∃ C : Nat, C = l[k].toNat := ⟨_, rfl⟩
      have hC8 : C < 256 := by rw [hC]; exact l[k].toNat_lt
      rw [← hC] at hcell hor HN HM
      clear hC hkl
      go_wp2
      go_round
      case rel => exact ⟨k + 1, m * 256 + C, by omega, by go_num, by first | rw [hor] | (rw [IntKind.wrap_u64, hor]) | go_num, HM.out, HN.out⟩
      case measure => simp [intOf]; omega
    · have HN := hid (show m = beN 0 l by rw [← HV.out, List.drop_eq_nil_of_le (by rw [HL.out]; omega), beN])
      clear hm
      go_wp2
      go_ret
      exact ⟨ret6 (by rw [HN.out]), rfl⟩

end Go.Proofs.YtmjokddplikegaaDoor
