/-
  Plain facts about words: bounds, a word's opposite, bytes of words.
-/
import Derived.Test.YtplabofdcnpcpaaLa
import Derived.Laws.BitsAll
set_option linter.unusedSimpArgs false
set_option linter.unusedVariables false
namespace Go.Proofs.Ytplabofdcnpcpaa
open Go.RowKit

theorem not_xor (W a : Nat) (h : a < 2 ^ W) : (2 ^ W - 1) ^^^ a = 2 ^ W - 1 - a := by
  have h1 : (BitVec.allOnes W ^^^ BitVec.ofNat W a).toNat = (~~~ (BitVec.ofNat W a)).toNat := by rw [BitVec.allOnes_xor]
  rw [BitVec.toNat_xor, BitVec.toNat_not, BitVec.toNat_allOnes, BitVec.toNat_ofNat, Nat.mod_eq_of_lt h] at h1
  exact h1

theorem rot_lt {W x n : Nat} (hx : x < 2 ^ W) : rotV W x n < 2 ^ W :=
  Nat.or_lt_two_pow (Nat.lt_of_le_of_lt (Nat.div_le_self _ _) hx) (Nat.mod_lt _ (Nat.two_pow_pos _))
theorem sm_lt {W a b c x : Nat} (hx : x < 2 ^ W) : smV W a b c x < 2 ^ W :=
  Nat.xor_lt_two_pow (Nat.xor_lt_two_pow (rot_lt hx) (rot_lt hx)) (Nat.lt_of_le_of_lt (Nat.div_le_self _ _) hx)
theorem gr_lt {W a b c x : Nat} (hx : x < 2 ^ W) : grV W a b c x < 2 ^ W :=
  Nat.xor_lt_two_pow (Nat.xor_lt_two_pow (rot_lt hx) (rot_lt hx)) (rot_lt hx)
theorem and_lt_l {W a b : Nat} (ha : a < 2 ^ W) : a &&& b < 2 ^ W := Nat.lt_of_le_of_lt Nat.and_le_left ha
theorem ch_lt {W a b c : Nat} (ha : a < 2 ^ W) : chV W a b c < 2 ^ W :=
  Nat.xor_lt_two_pow (and_lt_l ha) (and_lt_l (by have := Nat.two_pow_pos W; omega))
theorem mj_lt {W a b c : Nat} (ha : a < 2 ^ W) (hb : b < 2 ^ W) : mjV a b c < 2 ^ W :=
  Nat.xor_lt_two_pow (Nat.xor_lt_two_pow (and_lt_l ha) (and_lt_l ha)) (and_lt_l hb)

theorem or_byte (x c : Nat) (hc : c < 256) : x * 256 ||| c = x * 256 + c := by
  have := Nat.shiftLeft_add_eq_or_of_lt (i := 8) (b := c) hc x
  rw [Nat.shiftLeft_eq] at this
  exact this.symm

theorem beN_lt : ∀ (l : List UInt8) (w m : Nat), w < 256 ^ m → beN w l < 256 ^ (m + l.length)
  | [], _, _, h => h
  | c :: r, w, m, h => by
    have hc := c.toNat_lt
    have h2 := beN_lt r (w * 256 + c.toNat) (m + 1) (by rw [Nat.pow_succ]; omega)
    rw [beN, List.length_cons, show m + (r.length + 1) = m + 1 + r.length by omega]
    exact h2

end Go.Proofs.Ytplabofdcnpcpaa
