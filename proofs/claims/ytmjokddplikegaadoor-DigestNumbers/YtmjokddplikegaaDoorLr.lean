/-
  Plain facts about the schedule's words and the rounds.
-/
import Derived.Test.YtmjokddplikegaaDoorLp
set_option linter.unusedSimpArgs false
set_option linter.unusedVariables false
namespace Go.Proofs.YtmjokddplikegaaDoor
open Go.RowKit

theorem nxt_agree (k : Kd) (w v : List Nat) (t : Nat) (ht : 16 ≤ t) (h : ∀ i, i < t → w.getD i 0 = v.getD i 0) : nxtV k w t = nxtV k v t := by
  unfold nxtV
  rw [h (t - 2) (by omega), h (t - 7) (by omega), h (t - 15) (by omega), h (t - 16) (by omega)]

theorem ext_len (k : Kd) : ∀ (n : Nat) (w : List Nat), (extV k n w).length = w.length + n
  | 0, w => rfl
  | n + 1, w => by rw [extV, force_eq, ext_len k n]; simp; omega

theorem getD_app (w v : List Nat) (i : Nat) (h : i < w.length) : (w ++ v).getD i 0 = w.getD i 0 := by
  simp [List.getD, List.getElem?_append_left h]

theorem ext_pre (k : Kd) : ∀ (n : Nat) (w : List Nat) (i : Nat), i < w.length → (extV k n w).getD i 0 = w.getD i 0
  | 0, w, i, h => rfl
  | n + 1, w, i, h => by
    rw [extV, force_eq, ext_pre k n _ i (by simp; omega)]
    exact getD_app w _ i h

theorem ext_at (k : Kd) : ∀ (n : Nat) (w : List Nat) (t : Nat), 16 ≤ w.length → w.length ≤ t → t < w.length + n → (extV k n w).getD t 0 = nxtV k (extV k n w) t
  | 0, w, t, h, h1, h2 => by omega
  | n + 1, w, t, h, h1, h2 => by
    rw [extV, force_eq]
    rcases Nat.eq_or_lt_of_le h1 with rfl | h3
    · rw [ext_pre k n _ _ (by simp)]
      have e : (w ++ [nxtV k w w.length]).getD w.length 0 = nxtV k w w.length := by simp [List.getD]
      rw [e]
      refine nxt_agree k _ _ _ h ?_
      intro i hi
      rw [ext_pre k n _ i (by simp; omega), getD_app w _ i hi]
    · exact ext_at k n _ t (by simp; omega) (by simp; omega) (by simp; omega)

/-- The words of all rounds, and noughts behind them: eighty. -/
def w80V (k : Kd) (l : List UInt8) : List Nat := schV k l ++ List.replicate (80 - k.R) 0

theorem words_len (B : Nat) (l : List UInt8) : (wordsV B l).length = 16 := by simp [wordsV]
theorem sch_len (k : Kd) (l : List UInt8) (hR : 16 ≤ k.R) : (schV k l).length = k.R := by rw [schV, ext_len, words_len]; omega
theorem w80_len (k : Kd) (l : List UInt8) (hR : 16 ≤ k.R) (hR2 : k.R ≤ 80) : (w80V k l).length = 80 := by rw [w80V, List.length_append, sch_len k l hR, List.length_replicate]; omega
theorem w80_low (k : Kd) (l : List UInt8) (t : Nat) (hR : 16 ≤ k.R) (ht : t < 16) : (w80V k l).getD t 0 = wordV (k.W / 8) l t := by
  rw [w80V, getD_app _ _ _ (by rw [sch_len k l hR]; omega), schV, ext_pre _ _ _ _ (by rw [words_len]; exact ht)]
  simp [wordsV, List.getD, ht]
theorem w80_nxt (k : Kd) (l : List UInt8) (t : Nat) (hR : 16 ≤ k.R) (h1 : 16 ≤ t) (h2 : t < k.R) : (w80V k l).getD t 0 = nxtV k (w80V k l) t := by
  rw [w80V, getD_app _ _ _ (by rw [sch_len k l hR]; omega)]
  have := ext_at k (k.R - 16) (wordsV (k.W / 8) l) t (by rw [words_len]; exact Nat.le_refl _) (by rw [words_len]; exact h1) (by rw [words_len]; omega)
  have e : (schV k l).getD t 0 = nxtV k (schV k l) t := this
  rw [e]
  refine nxt_agree k _ _ t h1 ?_
  intro i hi
  rw [getD_app _ _ _ (by rw [sch_len k l hR]; omega)]

theorem w80_fill (k : Kd) (l : List UInt8) (hR : 16 ≤ k.R) : (w80V k l).take k.R ++ List.replicate (80 - k.R) 0 = w80V k l := by
  unfold w80V
  rw [List.take_append_of_le_length (by rw [sch_len k l hR]; exact Nat.le_refl _), List.take_of_length_le (by rw [sch_len k l hR]; exact Nat.le_refl _)]

theorem word_lt (B : Nat) (l : List UInt8) (t : Nat) : wordV B l t < 2 ^ (8 * B) := by
  have h := beN_lt ((l.drop (t * B)).take B) 0 0 (by decide)
  have hl : ((l.drop (t * B)).take B).length ≤ B := by simp; omega
  refine Nat.lt_of_lt_of_le h ?_
  rw [Nat.zero_add, Nat.pow_mul, show (2 : Nat) ^ 8 = 256 by decide]
  exact Nat.pow_le_pow_right (by decide) hl

theorem w80_lt (k : Kd) (l : List UInt8) (t : Nat) (hR : 16 ≤ k.R) (hR2 : k.R ≤ 80) (hW : 8 * (k.W / 8) = k.W) : (w80V k l).getD t 0 < 2 ^ k.W := by
  rcases Nat.lt_or_ge t 16 with h | h
  · rw [w80_low k l t hR h]; have := word_lt (k.W / 8) l t; rwa [hW] at this
  · rcases Nat.lt_or_ge t k.R with h2 | h2
    · rw [w80_nxt k l t hR h h2]; exact Nat.mod_lt _ (Nat.two_pow_pos _)
    · rw [w80V]
      have : (schV k l ++ List.replicate (80 - k.R) 0).getD t 0 = 0 := by
        simp only [List.getD]
        rw [List.getElem?_append_right (by rw [sch_len k l hR]; exact h2)]
        simp [List.getElem?_replicate]
        split <;> rfl
      rw [this]; exact Nat.two_pow_pos _

theorem rds_stop (k : Kd) : ∀ (Ks ws z : List Nat) (s : St), Ks.length ≤ ws.length → rdsV k Ks (ws ++ z) s = rdsV k Ks ws s
  | [], _, _, _, _ => by simp [rdsV]
  | K :: Ks, [], _, _, h => by simp at h
  | K :: Ks, w :: ws, z, s, h => by
    rw [List.cons_append, rdsV, rdsV]
    exact rds_stop k Ks ws z _ (by simpa using h)

theorem rds_w80 (k : Kd) (Ks : List Nat) (l : List UInt8) (s : St) (hR : 16 ≤ k.R) : rdsV k (Ks.take k.R) (w80V k l) s = rdsV k (Ks.take k.R) (schV k l) s := by
  unfold w80V
  refine rds_stop k _ _ _ s ?_
  rw [sch_len k l hR]; simp; omega

theorem rnd_eq (k : Kd) (s : St) (K w : Nat) : rndV k s K w = ⟨(t1V k s K w + t2V k s) % 2 ^ k.W, s.a, s.b, s.c, (s.d + t1V k s K w) % 2 ^ k.W, s.e, s.f, s.g⟩ := by
  unfold rndV
  rw [force_eq, force_eq, force_eq]

theorem add_eq (k : Kd) (s v : St) : addV k s v = ⟨(s.a + v.a) % 2 ^ k.W, (s.b + v.b) % 2 ^ k.W, (s.c + v.c) % 2 ^ k.W, (s.d + v.d) % 2 ^ k.W, (s.e + v.e) % 2 ^ k.W, (s.f + v.f) % 2 ^ k.W, (s.g + v.g) % 2 ^ k.W, (s.h + v.h) % 2 ^ k.W⟩ := by
  unfold addV
  rw [force_eq, force_eq, force_eq, force_eq, force_eq, force_eq, force_eq, force_eq]

theorem rds_step (k : Kd) (Ks ws : List Nat) (i : Nat) (s : St) (hK : i < Ks.length) (hw : i < ws.length) : rdsV k (Ks.drop i) (ws.drop i) s = rdsV k (Ks.drop (i + 1)) (ws.drop (i + 1)) (rndV k s (Ks.getD i 0 / 2 ^ (64 - k.W)) (ws.getD i 0)) := by
  rw [List.drop_eq_getElem_cons hK, List.drop_eq_getElem_cons hw, rdsV]
  simp [List.getD, hK, hw]

/-- Each of a state's words fits. -/
def BdS (n : Nat) (s : St) : Prop := s.a < n ∧ s.b < n ∧ s.c < n ∧ s.d < n ∧ s.e < n ∧ s.f < n ∧ s.g < n ∧ s.h < n

theorem rnd_bd {k : Kd} {s : St} {K w : Nat} (h : BdS (2 ^ k.W) s) : BdS (2 ^ k.W) (rndV k s K w) := by
  obtain ⟨ha, hb, hc, hd, he, hf, hg, hh⟩ := h
  rw [rnd_eq]
  exact ⟨Nat.mod_lt _ (Nat.two_pow_pos _), ha, hb, hc, Nat.mod_lt _ (Nat.two_pow_pos _), he, hf, hg⟩

theorem add_bd (k : Kd) (s v : St) : BdS (2 ^ k.W) (addV k s v) := by
  rw [add_eq]
  have := Nat.two_pow_pos k.W
  exact ⟨Nat.mod_lt _ this, Nat.mod_lt _ this, Nat.mod_lt _ this, Nat.mod_lt _ this, Nat.mod_lt _ this, Nat.mod_lt _ this, Nat.mod_lt _ this, Nat.mod_lt _ this⟩

end Go.Proofs.YtmjokddplikegaaDoor
