/-
  Plain facts: four bytes written are read; the mixed forms of a number.
-/
import Derived.Test.YtdpihilikhbamaaGreatDoorHe
set_option linter.unusedSimpArgs false
set_option linter.unusedVariables false
namespace Go.Proofs.YtdpihilikhbamaaGreatDoor

theorem num_dec8 (n : Nat) (h : n < 256) : numV (dec8 n) = some n := by rw [dec8_digs n h]; exact num_dec n (by omega)
theorem dec8_no46 (n : Nat) (h : n < 256) : 46 ∉ dec8 n := by rw [dec8_digs n h]; exact no46 10 n (by omega) (by omega)
theorem dec8_ne (n : Nat) (h : n < 256) : dec8 n ≠ [] := by rw [dec8_digs n h]; exact digs_ne 10 n
theorem dec8_hostC (n : Nat) (h : n < 256) : (dec8 n).all hostC = true := by rw [dec8_digs n h]; exact digs_hostC 10 n (by omega) (by omega)

theorem text4_eq (n : Nat) : text4 n = dec8 (n / 16777216 % 256) ++ 46 :: (dec8 (n / 65536 % 256) ++ 46 :: (dec8 (n / 256 % 256) ++ 46 :: dec8 (n % 256))) := rfl

theorem text4_tail (n : Nat) : text4 n = (dec8 (n / 16777216 % 256) ++ 46 :: (dec8 (n / 65536 % 256) ++ 46 :: dec8 (n / 256 % 256))) ++ 46 :: dec8 (n % 256) := by
  rw [text4_eq]; simp

theorem text4_hostC (n : Nat) : (text4 n).all hostC = true := by
  rw [text4_eq]
  simp only [List.all_append, List.all_cons, dec8_hostC _ (Nat.mod_lt _ (by decide : 0 < 256))]
  decide

theorem text4_ne (n : Nat) : text4 n ≠ [] := by rw [text4_eq]; simp

theorem text4_noDot (n : Nat) : noDot (text4 n) = text4 n := by
  have e : text4 n = (dec8 (n / 16777216 % 256) ++ 46 :: (dec8 (n / 65536 % 256) ++ 46 :: (dec8 (n / 256 % 256) ++ [46]))) ++ dec8 (n % 256) := by rw [text4_eq]; simp
  rw [e]
  exact noDot_tail _ _ (dec8_ne _ (Nat.mod_lt _ (by decide))) (dec8_no46 _ (Nat.mod_lt _ (by decide)))

theorem text4_four (n : Nat) (hn : n < 4294967296) : fourN 4 0 (text4 n) = some n := by
  have m : ∀ k, k % 256 < 256 := fun k => Nat.mod_lt _ (by decide)
  rw [text4_eq, four_cons 3 0 _ _ _ (num_dec8 _ (m _)) (dec8_no46 _ (m _)) (by have := m (n / 16777216); omega), four_cons 2 _ _ _ _ (num_dec8 _ (m _)) (dec8_no46 _ (m _)) (by have := m (n / 65536); omega), four_cons 1 _ _ _ _ (num_dec8 _ (m _)) (dec8_no46 _ (m _)) (by have := m (n / 256); omega),
    four_one 0 _ _ _ (num_dec8 _ (m _)) (dec8_no46 _ (m _)) (by simpa using m n)]
  congr 1
  simp only [Nat.zero_add, Nat.mul_one, Nat.reduceMul, Nat.reducePow, Nat.zero_mul]
  omega

theorem text4_lab (n : Nat) : lastLab (text4 n) = dec8 (n % 256) := by
  rw [text4_tail]
  exact lastLab_some _ _ (fun c hc e => dec8_no46 _ (Nat.mod_lt _ (by decide)) (e ▸ hc))

theorem text4_labs (n : Nat) : marked (dec8 (n % 256)) = false ∧ dec8 (n % 256) ≠ [] ∧ (valV 10 (dec8 (n % 256))).isSome = true := by
  rw [dec8_digs _ (Nat.mod_lt _ (by decide))]
  exact lab_dec _ (by have := Nat.mod_lt n (by decide : 0 < 256); omega)

theorem text4_fourV (n : Nat) (hn : n < 4294967296) : fourV (text4 n) = some n := by unfold fourV; rw [text4_noDot]; exact text4_four n hn

theorem text4_parse (n : Nat) (hn : n < 4294967296) : parseV (text4 n) true = some (text4 n) := by
  refine host_num _ n (text4_ne n) (text4_hostC n) ?_ (text4_fourV n hn)
  refine numbered_lab _ _ ?_ (.inr (text4_labs n))
  rw [text4_noDot]; exact text4_lab n

theorem form4 (n : Nat) (hn : n < 4294967296) : parseV (text4 n ++ [46]) true = some (text4 n) := by
  refine host_num _ n (by simp) (by rw [List.all_append, text4_hostC]; decide) ?_ ?_
  · refine numbered_lab _ _ ?_ (.inr (text4_labs n))
    rw [noDot_dot]; exact text4_lab n
  · unfold fourV
    rw [noDot_dot]; exact text4_four n hn

theorem form5 (n : Nat) (hn : n < 4294967296) : parseV (48 :: 120 :: digs 16 (n / 16777216) ++ 46 :: digs 10 (n % 16777216)) true = some (text4 n) := by
  have h46 : 46 ∉ (48 :: 120 :: digs 16 (n / 16777216)) := by
    simp
    exact no46 16 _ (by omega) (by omega)
  have hd : noDot (48 :: 120 :: digs 16 (n / 16777216) ++ 46 :: digs 10 (n % 16777216)) = 48 :: 120 :: digs 16 (n / 16777216) ++ 46 :: digs 10 (n % 16777216) := by
    have e : 48 :: 120 :: digs 16 (n / 16777216) ++ 46 :: digs 10 (n % 16777216) = (48 :: 120 :: digs 16 (n / 16777216) ++ [46]) ++ digs 10 (n % 16777216) := by simp
    rw [e]
    exact noDot_tail _ _ (digs_ne _ _) (no46 10 _ (by omega) (by omega))
  refine host_num _ n (by simp) ?_ ?_ ?_
  · simp only [List.all_append, List.all_cons, digs_hostC 16 _ (by omega : 1 ≤ 16) (by omega), digs_hostC 10 _ (by omega : 1 ≤ 10) (by omega)]
    decide
  · refine numbered_lab _ (digs 10 (n % 16777216)) ?_ (.inr (lab_dec _ (by omega)))
    rw [hd]
    exact lastLab_some _ _ (fun c hc e => no46 10 _ (by omega) (by omega) (e ▸ hc))
  · unfold fourV
    rw [hd, four_cons 3 0 _ _ _ (num_hex _ (by omega)) h46 (by omega), four_one 2 _ _ _ (num_dec _ (by omega)) (no46 10 _ (by omega) (by omega)) (by simp; omega)]
    congr 1
    simp only [Nat.zero_add, Nat.mul_one, Nat.reduceMul, Nat.reducePow, Nat.zero_mul, Nat.reduceAdd]
    omega

theorem form6 (n : Nat) (hn : n < 4294967296) : parseV (digs 10 (n / 16777216) ++ 46 :: (48 :: digs 8 (n / 65536 % 256) ++ 46 :: digs 10 (n % 65536))) true = some (text4 n) := by
  have h46 : 46 ∉ (48 :: digs 8 (n / 65536 % 256)) := by
    simp
    exact no46 8 _ (by omega) (by omega)
  have hd : noDot (digs 10 (n / 16777216) ++ 46 :: (48 :: digs 8 (n / 65536 % 256) ++ 46 :: digs 10 (n % 65536))) = digs 10 (n / 16777216) ++ 46 :: (48 :: digs 8 (n / 65536 % 256) ++ 46 :: digs 10 (n % 65536)) := by
    have e : digs 10 (n / 16777216) ++ 46 :: (48 :: digs 8 (n / 65536 % 256) ++ 46 :: digs 10 (n % 65536)) = (digs 10 (n / 16777216) ++ 46 :: (48 :: digs 8 (n / 65536 % 256) ++ [46])) ++ digs 10 (n % 65536) := by simp
    rw [e]
    exact noDot_tail _ _ (digs_ne _ _) (no46 10 _ (by omega) (by omega))
  refine host_num _ n (by simp) ?_ ?_ ?_
  · simp only [List.all_append, List.all_cons, digs_hostC 8 _ (by omega : 1 ≤ 8) (by omega), digs_hostC 10 _ (by omega : 1 ≤ 10) (by omega)]
    decide
  · refine numbered_lab _ (digs 10 (n % 65536)) ?_ (.inr (lab_dec _ (by omega)))
    rw [hd]
    have e : digs 10 (n / 16777216) ++ 46 :: (48 :: digs 8 (n / 65536 % 256) ++ 46 :: digs 10 (n % 65536)) = (digs 10 (n / 16777216) ++ 46 :: (48 :: digs 8 (n / 65536 % 256))) ++ 46 :: digs 10 (n % 65536) := by simp
    rw [e]
    exact lastLab_some _ _ (fun c hc e => no46 10 _ (by omega) (by omega) (e ▸ hc))
  · unfold fourV
    rw [hd, four_cons 3 0 _ _ _ (num_dec _ (by omega)) (no46 10 _ (by omega) (by omega)) (by omega), four_cons 2 _ _ _ _ (num_oct _ (by omega)) h46 (by omega), four_one 1 _ _ _ (num_dec _ (by omega)) (no46 10 _ (by omega) (by omega)) (by simp; omega)]
    congr 1
    simp only [Nat.zero_add, Nat.mul_one, Nat.reduceMul, Nat.reducePow, Nat.zero_mul, Nat.reduceAdd]
    omega

end Go.Proofs.YtdpihilikhbamaaGreatDoor
