/-
  The walks of digest's functions of one word, at 32 bits.
-/
import Derived.Test.YtmjokddplikegaaDoorLp
import Derived.Laws.Shifts
import Derived.Deep.QuietTactic
import Derived.BigQuiet
set_option linter.unusedSimpArgs false
set_option linter.unusedVariables false
namespace Go.Proofs.YtmjokddplikegaaDoor
open Go.RowKit

theorem ret3 {a b : Int} (h : a = b) : Ending.returned (.int .u32 a) = .returned (.int .u32 b) := by rw [h]

theorem max3 : IntKind.max .u32 = ((2 ^ 32 - 1 : Nat) : Int) := by decide

theorem rot3 (x n : Nat) (hx : x < 4294967296) : bits .or .u32 ((x : Int) / 2 ^ n) ((x : Int) * 2 ^ (32 - n) % 4294967296) = ((rotV 32 x n : Nat) : Int) := by
  have e1 : (x : Int) / 2 ^ n = ((x / 2 ^ n : Nat) : Int) := by
    rw [Int.natCast_ediv, Int.natCast_pow]; rfl
  have e2 : (x : Int) * 2 ^ (32 - n) % 4294967296 = ((x * 2 ^ (32 - n) % 4294967296 : Nat) : Int) := by
    rw [Int.natCast_emod, Int.natCast_mul, Int.natCast_pow]; rfl
  rw [e1, e2, u32_or_nat _ _ (Nat.lt_of_le_of_lt (Nat.div_le_self _ _) hx) (Nat.mod_lt _ (by decide))]
  rfl

set_option maxHeartbeats 1000000 in
theorem turned32 (x n : Nat) (w : World) (hx : x < 4294967296) (hn : n < 32) :
    Calls Tryd.prog 59 #[.int .u32 (x : Int), .int .u64 (n : Int), .int .u64 32] w fun e w' => e = .returned (.int .u32 ((rotV 32 x n : Nat) : Int)) ∧ w = w' := by
  go_enter Tryd.func59, Tryd.ntmps59
  go_wp2
  go_ret
  exact ⟨ret3 (rot3 x n hx), rfl⟩

theorem ch3 (a b c : Nat) (ha : a < 4294967296) (hb : b < 4294967296) (hc : c < 4294967296) : bits .xor .u32 (bits .and .u32 (a : Int) (b : Int)) (bits .and .u32 (bits .xor .u32 (IntKind.max .u32) (a : Int)) (c : Int)) = ((chV 32 a b c : Nat) : Int) := by
  rw [max3, u32_xor_nat _ _ (by decide) ha, not_xor 32 a ha, u32_and_nat _ _ ha hb, u32_and_nat _ _ (by omega) hc, u32_xor_nat _ _ (and_lt_l (W := 32) ha) (and_lt_l (W := 32) (by omega))]
  rfl

theorem mj3 (a b c : Nat) (ha : a < 4294967296) (hb : b < 4294967296) (hc : c < 4294967296) : bits .xor .u32 (bits .xor .u32 (bits .and .u32 (a : Int) (b : Int)) (bits .and .u32 (a : Int) (c : Int))) (bits .and .u32 (b : Int) (c : Int)) = ((mjV a b c : Nat) : Int) := by
  rw [u32_and_nat _ _ ha hb, u32_and_nat _ _ ha hc, u32_and_nat _ _ hb hc, u32_xor_nat _ _ (and_lt_l (W := 32) ha) (and_lt_l (W := 32) ha), u32_xor_nat _ _ (Nat.xor_lt_two_pow (n := 32) (and_lt_l (W := 32) ha) (and_lt_l (W := 32) ha)) (and_lt_l (W := 32) hb)]
  rfl

set_option maxHeartbeats 1000000 in
theorem choice32 (a b c : Nat) (w : World) (ha : a < 4294967296) (hb : b < 4294967296) (hc : c < 4294967296) :
    Calls Tryd.prog 51 #[.int .u32 (a : Int), .int .u32 (b : Int), .int .u32 (c : Int)] w fun e w' => e = .returned (.int .u32 ((chV 32 a b c : Nat) : Int)) ∧ w = w' := by
  have hsg : ¬ IntKind.signed .u32 = true := by decide
  go_enter Tryd.func51, Tryd.ntmps51
  go_wp2
  go_ret
  exact ⟨ret3 (ch3 a b c ha hb hc), rfl⟩

set_option maxHeartbeats 1000000 in
theorem majority32 (a b c : Nat) (w : World) (ha : a < 4294967296) (hb : b < 4294967296) (hc : c < 4294967296) :
    Calls Tryd.prog 52 #[.int .u32 (a : Int), .int .u32 (b : Int), .int .u32 (c : Int)] w fun e w' => e = .returned (.int .u32 ((mjV a b c : Nat) : Int)) ∧ w = w' := by
  go_enter Tryd.func52, Tryd.ntmps52
  go_wp2
  go_ret
  exact ⟨ret3 (mj3 a b c ha hb hc), rfl⟩

set_option maxHeartbeats 1000000 in
theorem upper32 (x : Nat) (w : World) (hx : x < 18446744073709551616) :
    Calls Tryd.prog 40 #[.int .u64 (x : Int), .int .u64 32] w fun e w' => e = .returned (.int .u32 ((x / 2 ^ (64 - 32) : Nat) : Int)) ∧ w = w' := by
  go_enter Tryd.func40, Tryd.ntmps40
  go_wp2
  go_ret
  refine ⟨ret3 ?_, rfl⟩
  simp

theorem upper_l32 (x Y : Nat) (w : World) (hx : x < 18446744073709551616) (hY : Y = x / 2 ^ (64 - 32)) :
    Calls Tryd.prog 40 #[.int .u64 (x : Int), .int .u64 32] w fun e w' => e = .returned (.int .u32 (Y : Int)) ∧ w = w' := by subst hY; exact upper32 x w hx

theorem sm3 (x a b c : Nat) (hx : x < 4294967296) : bits .xor .u32 (bits .xor .u32 ((rotV 32 x a : Nat) : Int) ((rotV 32 x b : Nat) : Int)) ((x : Int) / 2 ^ c) = ((smV 32 a b c x : Nat) : Int) := by
  have e1 : (x : Int) / 2 ^ c = ((x / 2 ^ c : Nat) : Int) := by
    rw [Int.natCast_ediv, Int.natCast_pow]; rfl
  rw [e1, u32_xor_nat _ _ (rot_lt (W := 32) hx) (rot_lt (W := 32) hx), u32_xor_nat _ _ (Nat.xor_lt_two_pow (n := 32) (rot_lt (W := 32) hx) (rot_lt (W := 32) hx)) (Nat.lt_of_le_of_lt (Nat.div_le_self _ _) hx)]
  rfl

theorem gr3 (x a b c : Nat) (hx : x < 4294967296) : bits .xor .u32 (bits .xor .u32 ((rotV 32 x a : Nat) : Int) ((rotV 32 x b : Nat) : Int)) ((rotV 32 x c : Nat) : Int) = ((grV 32 a b c x : Nat) : Int) := by
  rw [u32_xor_nat _ _ (rot_lt (W := 32) hx) (rot_lt (W := 32) hx), u32_xor_nat _ _ (Nat.xor_lt_two_pow (n := 32) (rot_lt (W := 32) hx) (rot_lt (W := 32) hx)) (rot_lt (W := 32) hx)]
  rfl

end Go.Proofs.YtmjokddplikegaaDoor
