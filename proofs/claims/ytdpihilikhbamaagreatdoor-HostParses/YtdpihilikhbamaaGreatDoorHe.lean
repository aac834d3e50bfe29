/-
  Plain facts: hosts that are numbers, in all their forms.
-/
import Derived.Test.YtdpihilikhbamaaGreatDoorHd
set_option linter.unusedSimpArgs false
set_option linter.unusedVariables false
namespace Go.Proofs.YtdpihilikhbamaaGreatDoor

/-- Digits, small letters up to f, x and the point. -/
def hostC (c : UInt8) : Bool := numC c || (c == 46 || c == 120)

theorem hostC_facts (c : UInt8) (h : hostC c = true) : nameB c = true ∧ lowC c = c ∧ c ≠ 37 ∧ c ≠ 45 ∧ c ≠ 91 := by
  have key : ∀ n < 256, hostC (UInt8.ofNat n) = true → nameB (UInt8.ofNat n) = true ∧ lowC (UInt8.ofNat n) = UInt8.ofNat n ∧ UInt8.ofNat n ≠ 37 ∧ UInt8.ofNat n ≠ 45 ∧ UInt8.ofNat n ≠ 91 := by decide +kernel
  have e : UInt8.ofNat c.toNat = c := by simp
  have := key c.toNat c.toNat_lt
  rw [e] at this
  exact this h

theorem unpct_plain : ∀ (l : List UInt8), 37 ∉ l → unpct l = l
  | [], _ => rfl
  | c :: l, h => by
    have hc : c ≠ 37 := fun e => h (by simp [e])
    rw [unpct_cons, pcd_other l c hc]
    simp only [Bool.false_eq_true, if_false]
    rw [unpct_plain l (fun e => h (by simp [e]))]

theorem low_plain (l : List UInt8) (h : ∀ c ∈ l, lowC c = c) : low l = l := by
  unfold low
  rw [List.map_congr_left h]; simp

theorem index_infix : ∀ (l sub : List UInt8), Lib.index l sub ≠ -1 → ∃ a b, l = a ++ (sub ++ b)
  | [], sub, h => by
    unfold Lib.index at h
    split at h
    · rename_i hs
      have : sub = [] := by simpa using hs
      exact ⟨[], [], by rw [this]; rfl⟩
    · exact absurd rfl h
  | c :: l, sub, h => by
    unfold Lib.index at h
    split at h
    · rename_i hp
      rw [List.isPrefixOf_iff_prefix] at hp
      obtain ⟨b, hb⟩ := hp
      exact ⟨[], b, by rw [← hb]; rfl⟩
    · split at h
      · exact absurd rfl h
      · rename_i hn
        obtain ⟨a, b, e⟩ := index_infix l sub (by simpa using hn)
        exact ⟨c :: a, b, by rw [e]; rfl⟩

theorem coded_minus (l : List UInt8) (h : 45 ∉ l) : coded l = false := by
  unfold coded
  rw [Bool.or_eq_false_iff]
  constructor
  · rw [← Bool.not_eq_true]
    intro hp
    rw [Lib.hasPrefix, List.isPrefixOf_iff_prefix] at hp
    obtain ⟨b, hb⟩ := hp
    exact h (by rw [← hb]; simp)
  · rw [Lib.contains, decide_eq_false_iff_not]
    intro hi
    obtain ⟨a, b, e⟩ := index_infix l [46, 120, 110, 45, 45] (by omega)
    exact h (by rw [e]; simp)

theorem hostC_all {l : List UInt8} (h : l.all hostC = true) : ∀ c ∈ l, hostC c = true := List.all_eq_true.1 h

/-- A text of such signs that is a number is parsed to its four bytes. -/
theorem host_num (l : List UInt8) (n : Nat) (h0 : l ≠ []) (hall : l.all hostC = true) (hn : numberedV l = true) (hf : fourV l = some n) : parseV l true = some (text4 n) := by
  have ha := hostC_all hall
  have h37 : 37 ∉ l := fun e => (hostC_facts _ (ha _ e)).2.2.1 rfl
  have h45 : 45 ∉ l := fun e => (hostC_facts _ (ha _ e)).2.2.2.1 rfl
  have hp : Lib.hasPrefix l [91] = false := by
    rw [← Bool.not_eq_true]
    intro hp
    rw [Lib.hasPrefix, List.isPrefixOf_iff_prefix] at hp
    obtain ⟨b, hb⟩ := hp
    exact (hostC_facts 91 (ha 91 (by rw [← hb]; simp))).2.2.2.2 rfl
  rw [parseV_name hp, unpct_plain l h37, low_plain l (fun c hc => (hostC_facts c (ha c hc)).2.1)]
  rw [nameV_num h0 (List.all_eq_true.2 fun c hc => (hostC_facts c (ha c hc)).1) (coded_minus l h45) hn, hf]
  rfl

theorem noDot_tail (pre t : List UInt8) (ht : t ≠ []) (h46 : 46 ∉ t) : noDot (pre ++ t) = pre ++ t := by
  have e := List.dropLast_concat_getLast ht
  have hl : t.getLast ht ≠ 46 := fun h => h46 (by rw [← h]; exact List.getLast_mem ht)
  rw [← e, ← List.append_assoc]
  exact noDot_none _ _ hl

theorem valN_some (base : Nat) : ∀ (l : List UInt8) (n : Nat), l.all (fun c => decide (dig16 c < base)) = true → (valN base n l).isSome = true
  | [], n, _ => rfl
  | c :: l, n, h => by
    rw [List.all_cons, Bool.and_eq_true, decide_eq_true_eq] at h
    rw [valN, if_pos h.1]
    exact valN_some base l _ h.2

theorem numbered_lab (l t : List UInt8) (hl : lastLab (noDot l) = t) (h : (marked t = true ∧ (valV 16 (t.drop 2)).isSome = true) ∨ (marked t = false ∧ t ≠ [] ∧ (valV 10 t).isSome = true)) : numberedV l = true := by
  unfold numberedV
  rw [hl]
  rcases h with ⟨h1, h2⟩ | ⟨h1, h2, h3⟩
  · rw [if_pos h1]; exact h2
  · rw [if_neg (by rw [h1]; decide)]; simp [h2, h3]

theorem four_one (r h n : Nat) (t : List UInt8) (hn : numV t = some n) (h46 : 46 ∉ t) (hlt : n < 2 ^ (8 * (r + 1))) : fourN (r + 1) h t = some (h * 2 ^ (8 * (r + 1)) + n) :=
  fourN_last (by rw [cut_none t 46 h46]; exact hn) (by rw [cut_none t 46 h46]) hlt

theorem four_cons (r h n : Nat) (a t : List UInt8) (hn : numV a = some n) (h46 : 46 ∉ a) (hlt : n ≤ 255) : fourN (r + 1) h (a ++ 46 :: t) = fourN r (h * 256 + n) t := by
  rw [fourN_more (n := n) (by rw [cut_some a t 46 h46]; exact hn) (by rw [cut_some a t 46 h46]) (by omega), cut_some a t 46 h46]

theorem digs_no (base n : Nat) (c : UInt8) (hb : 1 ≤ base) (hc : ∀ k < base, digC k ≠ c) : c ∉ digs base n := by
  intro hm
  have := digsN_all (fun x => x != c) base hb (fun k hk => by simpa using hc k hk) 40 n [] rfl
  have h2 := List.all_eq_true.1 this c hm
  simp at h2

theorem digs_hostC (base n : Nat) (hb : 1 ≤ base) (h16 : base ≤ 16) : (digs base n).all hostC = true := by
  refine digsN_all hostC base hb (fun k hk => ?_) 40 n [] rfl
  rw [hostC, numC_digC k (by omega)]; rfl

theorem digs_small (base n : Nat) (hb : 1 ≤ base) (h10 : base ≤ 10) : (digs base n).all (fun c => decide (dig16 c < 10)) = true := by
  refine digsN_all _ base hb (fun k hk => ?_) 40 n [] rfl
  rw [dig16_digC k (by omega)]
  simp; omega

theorem dec8_digs : ∀ n < 256, dec8 n = digs 10 n := by decide +kernel

theorem no46 (base n : Nat) (hb : 1 ≤ base) (h16 : base ≤ 16) : 46 ∉ digs base n := by
  refine digs_no base n 46 hb (fun k hk => ?_)
  have key : ∀ k < 16, digC k ≠ 46 := by decide
  exact key k (by omega)

theorem lab_dec (n : Nat) (hn : n ≤ 4294967296) : marked (digs 10 n) = false ∧ digs 10 n ≠ [] ∧ (valV 10 (digs 10 n)).isSome = true := by
  refine ⟨?_, digs_ne _ _, by rw [valV_digs 10 n (by omega) (by omega) hn]; rfl⟩
  rcases Nat.eq_zero_or_pos n with rfl | h0
  · rw [digs_zero 10 (by omega)]; decide
  · obtain ⟨c, r, e, hc⟩ := digs_head 10 n (by omega) (by omega) h0 hn
    rw [e]; exact not_marked_head c r hc

/-- The six forms of a number. -/
theorem form1 (n : Nat) (hn : n < 4294967296) : parseV (digs 10 n) true = some (text4 n) := by
  have hd : noDot (digs 10 n) = digs 10 n := noDot_tail [] _ (digs_ne _ _) (no46 10 n (by omega) (by omega))
  refine host_num _ n (digs_ne _ _) (digs_hostC 10 n (by omega) (by omega)) ?_ ?_
  · refine numbered_lab _ (digs 10 n) ?_ (.inr (lab_dec n (by omega)))
    rw [hd]
    exact lastLab_none _ (fun c hc e => no46 10 n (by omega) (by omega) (e ▸ hc))
  · unfold fourV
    rw [hd, four_one 3 0 n _ (num_dec n (by omega)) (no46 10 n (by omega) (by omega)) (by simpa using hn)]
    simp

theorem form2 (n : Nat) (hn : n < 4294967296) : parseV (48 :: 120 :: digs 16 n) true = some (text4 n) := by
  have h46 : 46 ∉ (48 :: 120 :: digs 16 n) := by
    simp
    exact no46 16 n (by omega) (by omega)
  have hd : noDot (48 :: 120 :: digs 16 n) = 48 :: 120 :: digs 16 n := noDot_tail [] _ (by simp) h46
  refine host_num _ n (by simp) (by simp [show hostC 48 = true by decide, show hostC 120 = true by decide]; have := digs_hostC 16 n (by omega) (by omega); simpa using this) ?_ ?_
  · refine numbered_lab _ (48 :: 120 :: digs 16 n) ?_ (.inl ⟨by simp [marked, Lib.hasPrefix, List.isPrefixOf], ?_⟩)
    · rw [hd]; exact lastLab_none _ (fun c hc e => h46 (e ▸ hc))
    · show (valV 16 (digs 16 n)).isSome = true
      rw [valV_digs 16 n (by omega) (by omega) (by omega)]; rfl
  · unfold fourV
    rw [hd, four_one 3 0 n _ (num_hex n (by omega)) h46 (by simpa using hn)]
    simp

theorem form3 (n : Nat) (hn : n < 4294967296) : parseV (48 :: digs 8 n) true = some (text4 n) := by
  have h46 : 46 ∉ (48 :: digs 8 n) := by
    simp
    exact no46 8 n (by omega) (by omega)
  have hd : noDot (48 :: digs 8 n) = 48 :: digs 8 n := noDot_tail [] _ (by simp) h46
  have hsm := digs_small 8 n (by omega) (by omega)
  refine host_num _ n (by simp) (by rw [List.all_cons, digs_hostC 8 n (by omega) (by omega)]; decide) ?_ ?_
  · refine numbered_lab _ (48 :: digs 8 n) ?_ (.inr ⟨?_, by simp, ?_⟩)
    · rw [hd]; exact lastLab_none _ (fun c hc e => h46 (e ▸ hc))
    · obtain ⟨c, r, e⟩ := digs_cons 8 n
      rw [e] at hsm ⊢
      rw [List.all_cons, Bool.and_eq_true, decide_eq_true_eq] at hsm
      refine not_marked_second 48 c r ?_ ?_
      · rintro rfl; exact absurd hsm.1 (by decide)
      · rintro rfl; exact absurd hsm.1 (by decide)
    · exact valN_some 10 _ 0 (by rw [List.all_cons, hsm]; decide)
  · unfold fourV
    rw [hd, four_one 3 0 n _ (num_oct n (by omega)) h46 (by simpa using hn)]
    simp

end Go.Proofs.YtdpihilikhbamaaGreatDoor
