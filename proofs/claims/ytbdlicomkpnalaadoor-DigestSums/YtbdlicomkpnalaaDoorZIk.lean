/-
  Plain facts: the blocks of a text that is filled up, one behind the other, are its whole blocks and then those of its end.
-/
import Derived.Test.YtbdlicomkpnalaaDoorZIi3
import Derived.Test.YtbdlicomkpnalaaDoorZIi6
set_option linter.unusedSimpArgs false
set_option linter.unusedVariables false
namespace Go.Proofs.YtbdlicomkpnalaaDoor
open Go.RowKit

theorem work_snoc (k : Kd) (Ks : List Nat) (n : Nat) : ∀ (m : Nat) (s : St) (l : List UInt8), (m + 1) * n ≤ l.length → workV k Ks n (m + 1) s l = foldV k Ks (workV k Ks n m s l) ((l.drop (m * n)).take n)
  | 0, s, l, h => by
    rw [show workV k Ks n (0 + 1) s l = if n ≤ l.length then workV k Ks n 0 (foldV k Ks s (l.take n)) (l.drop n) else s from rfl, if_pos (by simpa using h)]
    simp [workV]
  | m + 1, s, l, h => by
    have h1 : n ≤ l.length := by rw [Nat.succ_mul] at h; omega
    have h2 : (m + 1) * n ≤ (l.drop n).length := by rw [Nat.succ_mul] at h; rw [List.length_drop]; omega
    rw [workV, if_pos h1, work_snoc k Ks n m _ _ h2, List.drop_drop, show workV k Ks n (m + 1) s l = workV k Ks n m (foldV k Ks s (l.take n)) (l.drop n) by rw [workV, if_pos h1], Nat.succ_mul, Nat.add_comm n]

theorem work_app (k : Kd) (Ks : List Nat) (n : Nat) : ∀ (m : Nat) (s : St) (l r : List UInt8), m * n ≤ l.length → workV k Ks n m s (l ++ r) = workV k Ks n m s l
  | 0, s, l, r, h => rfl
  | m + 1, s, l, r, h => by
    have h1 : n ≤ l.length := by rw [Nat.succ_mul] at h; omega
    have h2 : m * n ≤ (l.drop n).length := by rw [Nat.succ_mul] at h; rw [List.length_drop]; omega
    rw [workV, if_pos (by rw [List.length_append]; omega), workV, if_pos h1, List.take_append_of_le_length h1, List.drop_append_of_le_length h1, work_app k Ks n m _ _ _ h2]

theorem work_add (k : Kd) (Ks : List Nat) (n j : Nat) : ∀ (m : Nat) (s : St) (l : List UInt8), m * n ≤ l.length → workV k Ks n (m + j) s l = workV k Ks n j (workV k Ks n m s l) (l.drop (m * n))
  | 0, s, l, h => by simp [workV]
  | m + 1, s, l, h => by
    have h1 : n ≤ l.length := by rw [Nat.succ_mul] at h; omega
    have h2 : m * n ≤ (l.drop n).length := by rw [Nat.succ_mul] at h; rw [List.length_drop]; omega
    rw [show m + 1 + j = (m + j) + 1 by omega, workV, if_pos h1, work_add k Ks n j m _ _ h2, List.drop_drop, show workV k Ks n (m + 1) s l = workV k Ks n m (foldV k Ks s (l.take n)) (l.drop n) by rw [workV, if_pos h1], Nat.succ_mul, Nat.add_comm n]

theorem work_more (k : Kd) (Ks : List Nat) (n j : Nat) (s : St) (l : List UInt8) (m : Nat) (h : m * n ≤ l.length) (h2 : l.length < (m + 1) * n) : workV k Ks n (m + j) s l = workV k Ks n m s l := by
  rw [work_add k Ks n j m s l h]
  cases j with
  | zero => rfl
  | succ j => rw [workV, if_neg (by rw [Nat.succ_mul] at h2; rw [List.length_drop]; omega)]

theorem pad_doc (k : Kd) (Ks : List Nat) (s : St) (l : List UInt8) (pd M : Nat) (r : List UInt8) (h0 : 0 < k.size) (he : endLen k l.length = k.size ∨ endLen k l.length = 2 * k.size)
    (hr : (128 : UInt8) :: r = 128 :: (List.replicate (endLen k l.length - l.length % k.size - 9) 0 ++ bytesV 8 (l.length * 8))) (hlen : M * k.size = l.length - l.length % k.size + endLen k l.length) (hend : (endV k l).length = endLen k l.length) :
    workV k Ks k.size M s (l ++ 128 :: r) = workV k Ks k.size 2 (workV k Ks k.size (l.length / k.size) s l) (endV k l) := by
  have hq : l.length / k.size * k.size = l.length - l.length % k.size := by
    have := Nat.div_add_mod' l.length k.size
    omega
  have hqle : l.length / k.size * k.size ≤ l.length := by omega
  have hend2 : (l ++ 128 :: r).drop (l.length / k.size * k.size) = endV k l := by
    rw [List.drop_append_of_le_length hqle, hr, hq]; rfl
  have key : ∀ j, M = l.length / k.size + j → workV k Ks k.size M s (l ++ 128 :: r) = workV k Ks k.size j (workV k Ks k.size (l.length / k.size) s l) (endV k l) := by
    intro j hj
    rw [hj, work_add k Ks k.size j _ s _ (by rw [List.length_append]; omega), work_app k Ks k.size _ s l _ hqle, hend2]
  rcases he with he | he
  · have hM : M = l.length / k.size + 1 := by
      apply Nat.eq_of_mul_eq_mul_right h0
      rw [hlen, he, Nat.succ_mul, hq]
    rw [key 1 hM]
    exact (work_more k Ks k.size 1 _ _ 1 (by rw [hend, he]; omega) (by rw [hend, he]; omega)).symm
  · have hM : M = l.length / k.size + 2 := by
      apply Nat.eq_of_mul_eq_mul_right h0
      rw [hlen, he, Nat.add_mul, hq]
    exact key 2 hM

theorem pad_doc3 (Ks : List Nat) (s : St) (l : List UInt8) (M : Nat) (hM : M * 64 = (padL3 l (padN3 l.length) ++ lenB3 l.length).length) :
    workV nar Ks 64 M s (padL3 l (padN3 l.length) ++ lenB3 l.length) = workV nar Ks 64 2 (workV nar Ks 64 (l.length / 64) s l) (endV nar l) := by
  have hz : nar.size = 64 := rfl
  have hlt := Nat.mod_lt l.length (show 64 > 0 by decide)
  have hp : padL3 l (padN3 l.length) ++ lenB3 l.length = l ++ 128 :: (List.replicate (padN3 l.length) 0 ++ lenB3 l.length) := by simp [padL3]
  rw [hp]
  have hpn : padN3 l.length = endLen nar l.length - l.length % 64 - 9 := by unfold padN3; omega
  have hel : l.length % 64 + 9 ≤ endLen nar l.length := by rw [endLen_val3]; split <;> omega
  refine pad_doc nar Ks s l 0 M _ (by decide) ?_ ?_ ?_ ?_
  · rw [endLen_val3, hz]; split
    · exact .inr rfl
    · exact .inl rfl
  · rw [hpn, hz]; simp [lenB3]
  · rw [hp] at hM
    rw [hz, hM]
    simp [len_len3, hpn]
    omega
  · exact end_len nar l (by rw [hz]; exact hel)

theorem pad_doc6 (Ks : List Nat) (s : St) (l : List UInt8) (M : Nat) (hM : M * 128 = (padL6 l (padN6 l.length) ++ lenB6 l.length).length) :
    workV wid Ks 128 M s (padL6 l (padN6 l.length) ++ lenB6 l.length) = workV wid Ks 128 2 (workV wid Ks 128 (l.length / 128) s l) (endV wid l) := by
  have hz : wid.size = 128 := rfl
  have hlt := Nat.mod_lt l.length (show 128 > 0 by decide)
  have hp : padL6 l (padN6 l.length) ++ lenB6 l.length = l ++ 128 :: (List.replicate (padN6 l.length) 0 ++ lenB6 l.length) := by simp [padL6]
  rw [hp]
  have hpn : padN6 l.length = endLen wid l.length - l.length % 128 - 17 := by unfold padN6; omega
  have hel : l.length % 128 + 17 ≤ endLen wid l.length := by rw [endLen_val6]; split <;> omega
  refine pad_doc wid Ks s l 0 M _ (by decide) ?_ ?_ ?_ ?_
  · rw [endLen_val6, hz]; split
    · exact .inr rfl
    · exact .inl rfl
  · rw [hpn, hz]
    unfold lenB6
    rw [← List.append_assoc, List.replicate_append_replicate, show endLen wid l.length - l.length % 128 - 17 + (2 * 8 - 8) = endLen wid l.length - l.length % 128 - 9 by omega]
  · rw [hp] at hM
    rw [hz, hM]
    simp [len_len6, hpn]
    omega
  · exact end_len wid l (by rw [hz]; omega)

theorem pad_whole3 (l : List UInt8) : ∃ M, M * 64 = (padL3 l (padN3 l.length) ++ lenB3 l.length).length ∧ M ≤ l.length / 64 + 2 := by
  have hlt := Nat.mod_lt l.length (show 64 > 0 by decide)
  have hd := Nat.div_add_mod' l.length 64
  rcases (show endLen nar l.length = 64 ∨ endLen nar l.length = 128 by rw [endLen_val3]; split <;> omega) with h | h
  · refine ⟨l.length / 64 + 1, ?_, by omega⟩
    have h9 : l.length % 64 + 9 ≤ 64 := by rw [endLen_val3] at h; split at h <;> omega
    simp [padL3, len_len3, padN3, h]; omega
  · refine ⟨l.length / 64 + 2, ?_, by omega⟩
    simp [padL3, len_len3, padN3, h]; omega
theorem pad_whole6 (l : List UInt8) : ∃ M, M * 128 = (padL6 l (padN6 l.length) ++ lenB6 l.length).length ∧ M ≤ l.length / 128 + 2 := by
  have hlt := Nat.mod_lt l.length (show 128 > 0 by decide)
  have hd := Nat.div_add_mod' l.length 128
  rcases (show endLen wid l.length = 128 ∨ endLen wid l.length = 256 by rw [endLen_val6]; split <;> omega) with h | h
  · refine ⟨l.length / 128 + 1, ?_, by omega⟩
    have h9 : l.length % 128 + 17 ≤ 128 := by rw [endLen_val6] at h; split at h <;> omega
    simp [padL6, len_len6, padN6, h]; omega
  · refine ⟨l.length / 128 + 2, ?_, by omega⟩
    simp [padL6, len_len6, padN6, h]; omega

end Go.Proofs.YtbdlicomkpnalaaDoor
