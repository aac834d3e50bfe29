/-
  Plain facts for the law HostCases: a name in letters of either size, and told by percent signs.
-/
import Derived.Test.YtdpihilikhbamaaDoorHe
set_option linter.unusedSimpArgs false
set_option linter.unusedVariables false
namespace Go.Proofs.YtdpihilikhbamaaDoor

/-- Small letters, the stroke and the point. -/
def nmC (c : UInt8) : Bool := (decide (97 ≤ c.toNat) && decide (c.toNat ≤ 122)) || (c == 45 || c == 46)
def upC (c : UInt8) : UInt8 := if 97 ≤ c.toNat ∧ c.toNat ≤ 122 then UInt8.ofNat (c.toNat - 32) else c
def sgC (c : UInt8) : List UInt8 := [37, digC (c.toNat / 16), digC (c.toNat % 16)]

theorem nmC_facts (c : UInt8) (h : nmC c = true) : lowC c = c ∧ lowC (upC c) = c ∧ c ≠ 37 ∧ upC c ≠ 37 ∧ upC c ≠ 91 ∧ c ≠ 91 ∧ c ≠ 48 := by
  have key : ∀ n < 256, nmC (UInt8.ofNat n) = true → lowC (UInt8.ofNat n) = UInt8.ofNat n ∧ lowC (upC (UInt8.ofNat n)) = UInt8.ofNat n ∧ UInt8.ofNat n ≠ 37 ∧ upC (UInt8.ofNat n) ≠ 37 ∧ upC (UInt8.ofNat n) ≠ 91 ∧ UInt8.ofNat n ≠ 91 ∧ UInt8.ofNat n ≠ 48 := by decide +kernel
  have e : UInt8.ofNat c.toNat = c := by simp
  have := key c.toNat c.toNat_lt
  rw [e] at this
  exact this h

theorem pcd_sg (c : UInt8) (r : List UInt8) : pcd (37 :: digC (c.toNat / 16) :: digC (c.toNat % 16) :: r) = (c, true) := by
  have key : ∀ n < 256, (is16I (digC (n / 16)).toNat && is16I (digC (n % 16)).toNat) = true ∧ UInt8.ofNat (val16I (digC (n / 16)).toNat * 16 + val16I (digC (n % 16)).toNat).toNat = UInt8.ofNat n := by decide +kernel
  have k := key c.toNat c.toNat_lt
  rw [pcd_three, if_pos k.1, k.2]
  simp

theorem unpct_sg : ∀ (l : List UInt8), unpct (l.flatMap sgC) = l
  | [] => rfl
  | c :: l => by
    have e : (c :: l).flatMap sgC = 37 :: digC (c.toNat / 16) :: digC (c.toNat % 16) :: l.flatMap sgC := by simp [sgC]
    rw [e, unpct_cons, pcd_sg]
    simp only [if_true, List.drop_succ_cons, List.drop_zero]
    rw [unpct_sg l]

theorem not_bracket (c : UInt8) (l : List UInt8) (h : c ≠ 91) : Lib.hasPrefix (c :: l) [91] = false := by
  rw [Lib.hasPrefix]
  simp [List.isPrefixOf]
  exact fun e => h e.symm

theorem low_up (l : List UInt8) (h : ∀ c ∈ l, nmC c = true) : low (l.map upC) = l := by
  unfold low
  rw [List.map_map]
  have : l.map (lowC ∘ upC) = l.map id := List.map_congr_left (fun c hc => (nmC_facts c (h c hc)).2.1)
  rw [this]; simp

theorem parse_small (c : UInt8) (l : List UInt8) (h : ∀ x ∈ c :: l, nmC x = true) : parseV (c :: l) true = nameV (c :: l) := by
  rw [parseV_name (not_bracket c l (nmC_facts c (h c (by simp))).2.2.2.2.2.1), unpct_plain _ (fun e => (nmC_facts 37 (h 37 e)).2.2.1 rfl), low_plain _ (fun x hx => (nmC_facts x (h x hx)).1)]

theorem parse_large (c : UInt8) (l : List UInt8) (h : ∀ x ∈ c :: l, nmC x = true) : parseV ((c :: l).map upC) true = nameV (c :: l) := by
  have hb : Lib.hasPrefix ((c :: l).map upC) [91] = false := by
    rw [List.map_cons]; exact not_bracket _ _ (nmC_facts c (h c (by simp))).2.2.2.2.1
  have h37 : 37 ∉ (c :: l).map upC := by
    intro e
    obtain ⟨x, hx, e⟩ := List.mem_map.1 e
    exact (nmC_facts x (h x hx)).2.2.2.1 e
  rw [parseV_name hb, unpct_plain _ h37, low_up _ h]

theorem parse_signs (c : UInt8) (l : List UInt8) (h : ∀ x ∈ c :: l, nmC x = true) : parseV ((c :: l).flatMap sgC) true = nameV (c :: l) := by
  have hb : Lib.hasPrefix ((c :: l).flatMap sgC) [91] = false := by
    have e : (c :: l).flatMap sgC = 37 :: (digC (c.toNat / 16) :: digC (c.toNat % 16) :: l.flatMap sgC) := by simp [sgC]
    rw [e]; exact not_bracket _ _ (by decide)
  rw [parseV_name hb, unpct_sg, low_plain _ (fun x hx => (nmC_facts x (h x hx)).1)]

theorem valN_bad (base : Nat) (hb : base ≤ 16) : ∀ (l : List UInt8) (n : Nat) (c : UInt8), c ∈ l → dig16 c = 16 → valN base n l = none
  | [], _, _, h, _ => by simp at h
  | a :: l, n, c, h, hc => by
    rw [valN]
    split
    · rename_i ha
      rcases List.mem_cons.1 h with rfl | h
      · omega
      · exact valN_bad base hb l _ c h hc
    · rfl

theorem lastLab_suffix (l : List UInt8) : ∃ a, l = a ++ lastLab l := by
  unfold lastLab
  refine ⟨(l.reverse.dropWhile (· != 46)).reverse, ?_⟩
  rw [← List.reverse_append, List.takeWhile_append_dropWhile, List.reverse_reverse]

theorem lastLab_last (l : List UInt8) : lastLab (l ++ [113]) = lastLab l ++ [113] := by
  unfold lastLab
  simp

/-- Such a name that ends with q is no number. -/
theorem q_not_numbered (l : List UInt8) (h : ∀ x ∈ l ++ [113], nmC x = true) : numberedV (l ++ [113]) = false := by
  have hd : noDot (l ++ [113]) = l ++ [113] := noDot_none l 113 (by decide)
  unfold numberedV
  rw [hd, lastLab_last]
  have hmem : ∀ x ∈ lastLab l ++ [113], nmC x = true := by
    intro x hx
    obtain ⟨a, ha⟩ := lastLab_suffix l
    refine h x ?_
    rw [ha]
    simp at hx ⊢
    rcases hx with hx | hx
    · exact .inr (.inl hx)
    · exact .inr (.inr hx)
  have hm : marked (lastLab l ++ [113]) = false := by
    cases hl : lastLab l with
    | nil => decide
    | cons c r =>
      rw [List.cons_append]
      refine not_marked_head _ _ ?_
      exact (nmC_facts c (hmem c (by rw [hl]; simp))).2.2.2.2.2.2
  rw [hm]
  simp only [Bool.false_eq_true, if_false]
  rw [show valV 10 (lastLab l ++ [113]) = none from valN_bad 10 (by omega) _ 0 113 (by simp) (by decide)]
  simp

theorem q_name (l : List UInt8) (h : ∀ x ∈ l ++ [113], nmC x = true) : nameV (l ++ [113]) = none ∨ nameV (l ++ [113]) = some (l ++ [113]) := by
  unfold nameV
  split
  · left; rfl
  · rw [q_not_numbered l h]; right; rfl

theorem unpct_app : ∀ (a b : List UInt8), 37 ∉ a → unpct (a ++ b) = a ++ unpct b
  | [], _, _ => rfl
  | c :: a, b, h => by
    have hc : c ≠ 37 := fun e => h (by simp [e])
    rw [List.cons_append, unpct_cons, pcd_other _ c hc]
    simp only [Bool.false_eq_true, if_false]
    rw [unpct_app a b (fun e => h (by simp [e]))]; rfl

/-- A percent sign close to the end refuses the name. -/
theorem sign_refused (l : List UInt8) (i : Nat) (h : ∀ x ∈ l ++ [113], nmC x = true) (hi : i ≤ (l ++ [113]).length) (hn : ¬ i + 2 < (l ++ [113]).length) : parseV ((l ++ [113]).take i ++ 37 :: (l ++ [113]).drop i) true = none := by
  have h37 : 37 ∉ (l ++ [113]).take i := fun e => (nmC_facts 37 (h 37 (List.mem_of_mem_take e))).2.2.1 rfl
  have hstay : (pcd (37 :: (l ++ [113]).drop i)).2 = false ∧ (pcd (37 :: (l ++ [113]).drop i)).1 = 37 := by
    have hlen : ((l ++ [113]).drop i).length ≤ 2 := by rw [List.length_drop]; omega
    rcases pcd_fst_or 37 ((l ++ [113]).drop i) with ⟨h1, h2⟩ | ⟨_, a, b, r, e, _, hb, _⟩
    · exact ⟨h2, h1⟩
    · exfalso
      have hr : r = [] := by
        rw [e] at hlen
        simp at hlen
        exact hlen
      subst hr
      have hlast : ((l ++ [113]).drop i).getLast? = some 113 := by
        rw [List.getLast?_drop]
        have : ¬ (l ++ [113]).length ≤ i := by
          intro hle
          rw [List.drop_eq_nil_of_le hle] at e
          cases e
        rw [if_neg this]
        simp
      rw [e] at hlast
      simp at hlast
      rw [hlast] at hb
      exact absurd hb (by decide)
  have hu : 37 ∈ unpct ((l ++ [113]).take i ++ 37 :: (l ++ [113]).drop i) := by
    rw [unpct_app _ _ h37, unpct_cons, hstay.2]
    simp
  have hb : Lib.hasPrefix ((l ++ [113]).take i ++ 37 :: (l ++ [113]).drop i) [91] = false := by
    cases ht : (l ++ [113]).take i with
    | nil => exact not_bracket _ _ (by decide)
    | cons c r => exact not_bracket _ _ (nmC_facts c (h c (List.mem_of_mem_take (i := i) (by rw [ht]; simp)))).2.2.2.2.2.1
  rw [parseV_name hb]
  refine nameV_bad (.inr (.inl ?_))
  rw [allN, List.all_eq_false]
  exact ⟨37, by rw [low, List.mem_map]; exact ⟨37, hu, by decide⟩, by decide⟩

end Go.Proofs.YtdpihilikhbamaaDoor
