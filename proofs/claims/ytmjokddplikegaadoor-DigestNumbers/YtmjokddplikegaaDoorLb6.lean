/-
  The walks of digest's functions of one word, at 64 bits.
-/
import Derived.Test.YtmjokddplikegaaDoorLp
import Derived.Laws.Shifts
import Derived.Deep.QuietTactic
import Derived.BigQuiet
set_option linter.unusedSimpArgs false
set_option linter.unusedVariables false
namespace Go.Proofs.YtmjokddplikegaaDoor
open Go.RowKit

theorem ret6 {a b : Int} (h : a = b) : Ending.returned (.int .u64 a) = .returned (.int .u64 b) := by rw [h]

theorem max6 : IntKind.max .u64 = ((2 ^ 64 - 1 : Nat) : Int) := by decide

theorem rot6 (x n : Nat) (hx : x < 18446744073709551616) : bits .or .u64 ((x : Int) / 2 ^ n) ((x : Int) * 2 ^ (64 - n) % 18446744073709551616) = ((rotV 64 x n : Nat) : Int) := by
  have e1 : (x : Int) / 2 ^ n = ((x / 2 ^ n : Nat) : Int) := by
    rw [Int.natCast_ediv, Int.natCast_pow]; rfl
  have e2 : (x : Int) * 2 ^ (64 - n) % 18446744073709551616 = ((x * 2 ^ (64 - n) % 18446744073709551616 : Nat) : Int) := by
    rw [Int.natCast_emod, Int.natCast_mul, Int.natCast_pow]; rfl
  rw [e1, e2, u64_or_nat _ _ (Nat.lt_of_le_of_lt (Nat.div_le_self _ _) hx) (Nat.mod_lt _ (by decide))]
  rfl

set_option maxHeartbeats 1000000 in
theorem turned64 (x n : Nat) (w : World) (hx : x < 18446744073709551616) (hn : n < 64) :
    Calls Tryd.prog 62 #[.int .u64 (x : Int), .int .u64 (n : Int), .int .u64 64] w fun e w' => e = .returned (.int .u64 ((rotV 64 x n : Nat) : Int)) ∧ w = w' := by
  go_enter Tryd.func62, Tryd.ntmps62
  go_wp2
  go_ret
  exact ⟨ret6 (rot6 x n hx), rfl⟩

theorem ch6 (a b c : Nat) (ha : a < 18446744073709551616) (hb : b < 18446744073709551616) (hc : c < 18446744073709551616) : bits .xor .u64 (bits .and .u64 (a : Int) (b : Int)) (bits .and .u64 (bits .xor .u64 (IntKind.max .u64) (a : Int)) (c : Int)) = ((chV 64 a b c : Nat) : Int) := by
  rw [max6, u64_xor_nat _ _ (by decide) ha, not_xor 64 a ha, u64_and_nat _ _ ha hb, u64_and_nat _ _ (by omega) hc, u64_xor_nat _ _ (and_lt_l (W := 64) ha) (and_lt_l (W := 64) (by omega))]
  rfl

theorem mj6 (a b c : Nat) (ha : a < 18446744073709551616) (hb : b < 18446744073709551616) (hc : c < 18446744073709551616) : bits .xor .u64 (bits .xor .u64 (bits .and .u64 (a : Int) (b : Int)) (bits .and .u64 (a : Int) (c : Int))) (bits .and .u64 (b : Int) (c : Int)) = ((mjV a b c : Nat) : Int) := by
  rw [u64_and_nat _ _ ha hb, u64_and_nat _ _ ha hc, u64_and_nat _ _ hb hc, u64_xor_nat _ _ (and_lt_l (W := 64) ha) (and_lt_l (W := 64) ha), u64_xor_nat _ _ (Nat.xor_lt_two_pow (n := 64) (and_lt_l (W := 64) ha) (and_lt_l (W := 64) ha)) (and_lt_l (W := 64) hb)]
  rfl

set_option maxHeartbeats 1000000 in
theorem choice64 (a b c : Nat) (w : World) (ha : a < 18446744073709551616) (hb : b < 18446744073709551616) (hc : c < 18446744073709551616) :
    Calls Tryd.prog 55 #[.int .u64 (a : Int), .int .u64 (b : Int), .int .u64 (c : Int)] w fun e w' => e = .returned (.int .u64 ((chV 64 a b c : Nat) : Int)) ∧ w = w' := by
  have hsg : ¬ IntKind.signed .u64 = true := by decide
  go_enter Tryd.func55, Tryd.ntmps55
  go_wp2
  go_ret
  exact ⟨ret6 (ch6 a b c ha hb hc), rfl⟩

set_option maxHeartbeats 1000000 in
theorem majority64 (a b c : Nat) (w : World) (ha : a < 18446744073709551616) (hb : b < 18446744073709551616) (hc : c < 18446744073709551616) :
    Calls Tryd.prog 56 #[.int .u64 (a : Int), .int .u64 (b : Int), .int .u64 (c : Int)] w fun e w' => e = .returned (.int .u64 ((mjV a b c : Nat) : Int)) ∧ w = w' := by
  go_enter Tryd.func56, Tryd.ntmps56
  go_wp2
  go_ret
  exact ⟨ret6 (mj6 a b c ha hb hc), rfl⟩

set_option maxHeartbeats 1000000 in
theorem upper64 (x : Nat) (w : World) (hx : x < 18446744073709551616) :
    Calls Tryd.prog 45 #[.int .u64 (x : Int), .int .u64 64] w fun e w' => e = .returned (.int .u64 ((x / 2 ^ (64 - 64) : Nat) : Int)) ∧ w = w' := by
  go_enter Tryd.func45, Tryd.ntmps45
  go_wp2
  go_ret
  refine ⟨ret6 ?_, rfl⟩
  simp

theorem upper_l64 (x Y : Nat) (w : World) (hx : x < 18446744073709551616) (hY : Y = x / 2 ^ (64 - 64)) :
    Calls Tryd.prog 45 #[.int .u64 (x : Int), .int .u64 64] w fun e w' => e = .returned (.int .u64 (Y : Int)) ∧ w = w' := by subst hY; exact upper64 x w hx

theorem sm6 (x a b c : Nat) (hx : x < 18446744073709551616) : bits .xor .u64 (bits .xor .u64 ((rotV 64 x a : Nat) : Int) ((rotV 64 x b : Nat) : Int)) ((x : Int) / 2 ^ c) = ((smV 64 a b c x : Nat) : Int) := by
  have e1 : (x : Int) / 2 ^ c = ((x / 2 ^ c : Nat) : Int) := by
    rw [Int.natCast_ediv, Int.natCast_pow]; rfl
  rw [e1, u64_xor_nat _ _ (rot_lt (W := 64) hx) (rot_lt (W := 64) hx), u64_xor_nat _ _ (Nat.xor_lt_two_pow (n := 64) (rot_lt (W := 64) hx) (rot_lt (W := 64) hx)) (Nat.lt_of_le_of_lt (Nat.div_le_self _ _) hx)]
  rfl

theorem gr6 (x a b c : Nat) (hx : x < 18446744073709551616) : bits .xor .u64 (bits .xor .u64 ((rotV 64 x a : Nat) : Int) ((rotV 64 x b : Nat) : Int)) ((rotV 64 x c : Nat) : Int) = ((grV 64 a b c x : Nat) : Int) := by
  rw [u64_xor_nat _ _ (rot_lt (W := 64) hx) (rot_lt (W := 64) hx), u64_xor_nat _ _ (Nat.xor_lt_two_pow (n := 64) (rot_lt (W := 64) hx) (rot_lt (W := 64) hx)) (rot_lt (W := 64) hx)]
  rfl

end Go.Proofs.YtmjokddplikegaaDoor
