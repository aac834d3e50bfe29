/-
  Plain facts about what is filled up behind a text.
-/
import Derived.Test.YtmjokddplikegaaDoorLx
set_option linter.unusedSimpArgs false
set_option linter.unusedVariables false
namespace Go.Proofs.YtmjokddplikegaaDoor
open Go.RowKit

def zrs (n : Nat) : List Nat := List.replicate n 0
theorem zrs_len (n : Nat) : (zrs n).length = n := by simp [zrs]

def natsV (l : List UInt8) : List Nat := l.map fun c => c.toNat
theorem nats_len (l : List UInt8) : (natsV l).length = l.length := by simp [natsV]
theorem nats_cells (l : List UInt8) : cW .u8 (natsV l) = Lib.byteCells l := by simp [cW, natsV, Lib.byteCells]

/-- The last j of the eight bytes that a number is. -/
def lowV (x j : Nat) : List Nat := natsV ((bytesV 8 x).drop (8 - j))
theorem low_zero (x : Nat) : lowV x 0 = [] := by
  unfold lowV
  rw [List.drop_eq_nil_of_le (by rw [bytes_len]; omega)]; rfl
theorem low_len (x j : Nat) (hj : j ≤ 8) : (lowV x j).length = j := by
  unfold lowV
  rw [nats_len, List.length_drop, bytes_len]; omega
theorem low_step (x j : Nat) (hj : j < 8) : lowV x (j + 1) = (x / 256 ^ j % 256) :: lowV x j := by
  unfold lowV
  have h1 : 8 - (j + 1) < (bytesV 8 x).length := by rw [bytes_len]; omega
  rw [List.drop_eq_getElem_cons h1, show 8 - (j + 1) + 1 = 8 - j by omega]
  have h2 := bytes_get 8 x (8 - (j + 1)) (by omega)
  rw [List.getElem?_eq_getElem h1] at h2
  rw [Option.some.inj h2, show 8 * (8 - 1 - (8 - (j + 1))) = 8 * j by omega, Nat.pow_mul, show (2 : Nat) ^ 8 = 256 by decide]
  simp [natsV]
theorem low_all (x : Nat) : lowV x 8 = natsV (bytesV 8 x) := rfl

/-- Behind the number's last byte that is none there are noughts. -/
theorem low_rest (x j : Nat) (hj : j ≤ 8) (hx : x / 256 ^ j = 0) : lowV x 8 = List.replicate (8 - j) 0 ++ lowV x j := by
  have key : ∀ n, j + n ≤ 8 → lowV x (j + n) = List.replicate n 0 ++ lowV x j := by
    intro n
    induction n with
    | zero => intro _; simp
    | succ n ih =>
      intro h
      have e : x / 256 ^ (j + n) = 0 := by rw [Nat.pow_add, ← Nat.div_div_eq_div_mul, hx, Nat.zero_div]
      rw [← Nat.add_assoc, low_step x (j + n) (by omega), ih (by omega), e, List.replicate_succ]
      rfl
  have := key (8 - j) (by omega)
  rwa [show j + (8 - j) = 8 by omega] at this

/-- What stands there when j bytes of the length are written. -/
def fldE (R : List Nat) (N x j : Nat) : List Nat := R ++ 128 :: (List.replicate (N - R.length - 1 - j) 0 ++ lowV x j)

theorem fldE_len (R : List Nat) (N x j : Nat) (hj : j ≤ 8) (hN : R.length + 9 ≤ N) : (fldE R N x j).length = N := by
  simp [fldE, low_len x j hj]; omega

theorem fldE_step (R : List Nat) (N x j y : Nat) (hj : j < 8) (hN : R.length + 9 ≤ N) (hy : y = x / 256 ^ j % 256) : (fldE R N x j).set (N - 1 - j) y = fldE R N x (j + 1) := by
  unfold fldE
  rw [low_step x j hj, ← hy, List.set_append_right _ _ (by omega)]
  congr 1
  rw [show N - 1 - j - R.length = (N - R.length - 1 - (j + 1)) + 1 by omega, List.set_cons_succ]
  congr 1
  rw [show N - R.length - 1 - j = (N - R.length - 1 - (j + 1)) + 1 by omega, List.replicate_succ', List.append_assoc, List.set_append_right _ _ (by simp)]
  simp

theorem fldE_fin (R : List Nat) (N x j : Nat) (hj : j ≤ 8) (hN : R.length + 9 ≤ N) (hx : x / 256 ^ j = 0) : fldE R N x j = R ++ 128 :: (List.replicate (N - R.length - 9) 0 ++ natsV (bytesV 8 x)) := by
  unfold fldE
  rw [← low_all, low_rest x j hj hx, ← List.append_assoc, List.replicate_append_replicate, show N - R.length - 9 + (8 - j) = N - R.length - 1 - j by omega]

theorem fldE_zero (R : List Nat) (N x : Nat) (hN : R.length + 9 ≤ N) : (R ++ zrs (N - R.length)).set R.length 128 = fldE R N x 0 := by
  unfold fldE zrs
  rw [low_zero, List.set_append_right _ _ (Nat.le_refl _), Nat.sub_self, show N - R.length = (N - R.length - 1) + 1 by omega, List.replicate_succ, List.set_cons_zero]
  simp

theorem splice_zero (N : Nat) (l : List UInt8) (h : l.length ≤ N) : splice (cW .u8 (zrs N)) 0 (Lib.byteCells l) = cW .u8 (natsV l ++ zrs (N - l.length)) := by
  unfold splice zrs
  rw [List.take_zero, List.nil_append, Nat.zero_add, Lib.byteCells_length]
  simp [cW, natsV, Lib.byteCells]

theorem end_eq (k : Kd) (l : List UInt8) (N : Nat) (hN : endLen k l.length = N) (hq : l.length % k.size + 9 ≤ N) :
    natsV (endV k l) = natsV (l.drop (l.length - l.length % k.size)) ++ 128 :: (List.replicate (N - (natsV (l.drop (l.length - l.length % k.size))).length - 9) 0 ++ natsV (bytesV 8 (l.length * 8))) := by
  have hd : (l.drop (l.length - l.length % k.size)).length = l.length % k.size := by
    have := Nat.mod_le l.length k.size
    rw [List.length_drop]; omega
  rw [nats_len, hd]
  unfold endV natsV
  rw [hN]
  simp

theorem end_len (k : Kd) (l : List UInt8) (hq : l.length % k.size + 9 ≤ endLen k l.length) : (endV k l).length = endLen k l.length := by
  have := Nat.mod_le l.length k.size
  unfold endV
  simp [bytes_len]
  omega

theorem byte_one (l : List UInt8) : ∀ v ∈ Lib.byteCells l, v.oneCell' = true := by
  intro v hv
  simp only [Lib.byteCells, List.mem_map] at hv
  obtain ⟨b, _, rfl⟩ := hv
  rfl

theorem end_le (k : Kd) (l : List UInt8) (h9 : 9 ≤ 2 * k.B + 1) (hz : 2 * k.B + 1 ≤ k.size) (h0 : 0 < k.size) : (endV k l).length = endLen k l.length ∧ endLen k l.length ≤ 2 * k.size := by
  have hm := Nat.mod_lt l.length h0
  have h2 : endLen k l.length ≤ 2 * k.size := by unfold endLen; split <;> omega
  refine ⟨end_len k l ?_, h2⟩
  unfold endLen
  split <;> omega

theorem end_max (k : Kd) (l : List UInt8) (h9 : 9 ≤ 2 * k.B + 1) (hz : 2 * k.B + 1 ≤ k.size) (h0 : 0 < k.size ∧ k.size ≤ 1000) : (endV k l).length ≤ maxLen := by
  have := end_le k l h9 hz h0.1
  unfold maxLen
  omega

theorem end_div (k : Kd) (l : List UInt8) (h9 : 9 ≤ 2 * k.B + 1) (hz : 2 * k.B + 1 ≤ k.size) (h0 : 0 < k.size ∧ k.size ≤ 1000) : (endV k l).length / k.size ≤ 2 := by
  have := end_le k l h9 hz h0.1
  rw [this.1]
  calc endLen k l.length / k.size ≤ (2 * k.size) / k.size := Nat.div_le_div_right this.2
    _ = 2 := Nat.mul_div_cancel _ h0.1

end Go.Proofs.YtmjokddplikegaaDoor
