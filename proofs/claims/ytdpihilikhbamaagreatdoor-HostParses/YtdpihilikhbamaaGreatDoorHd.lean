/-
  Plain facts: numbers written by a base are read; hosts that are numbers.
-/
import Derived.Test.YtdpihilikhbamaaGreatDoorHc
set_option linter.unusedSimpArgs false
set_option linter.unusedVariables false
namespace Go.Proofs.YtdpihilikhbamaaGreatDoor

def digs (base n : Nat) : List UInt8 := digsN base 40 n []

theorem dig16_digC : ∀ n < 16, dig16 (digC n) = n := by decide

theorem valN_digs (base : Nat) (h2 : 2 ≤ base) (h16 : base ≤ 16) : ∀ (f u : Nat) (T : List UInt8), u < base ^ f → u ≤ 4294967296 → f ≠ 0 → valN base 0 (digsN base f u T) = valN base u T
  | 0, _, _, _, _, h => absurd rfl h
  | f + 1, u, T, hu, hc, _ => by
    by_cases h : u < base
    · rw [digsN_last _ _ _ _ h, valN, dig16_digC u (by omega), if_pos h]
      congr 1; omega
    · have hf : f ≠ 0 := by
        rintro rfl
        simp at hu
        omega
      have hd : u / base < base ^ f := by
        rw [Nat.div_lt_iff_lt_mul (by omega)]
        rw [Nat.pow_succ] at hu
        exact hu
      have hle : u / base ≤ u := Nat.div_le_self _ _
      have hm : u % base < base := Nat.mod_lt _ (by omega)
      rw [digsN_more _ _ _ _ h, valN_digs base h2 h16 f _ _ hd (by omega) hf, valN, dig16_digC _ (by omega), if_pos hm]
      have e : u / base * base + u % base = u := by rw [Nat.mul_comm]; exact Nat.div_add_mod u base
      rw [e]
      congr 1; omega

theorem valV_digs (base n : Nat) (h2 : 2 ≤ base) (h16 : base ≤ 16) (hn : n ≤ 4294967296) : valV base (digs base n) = some n := by
  have hp : n < base ^ 40 := by
    have h1 : 2 ^ 40 ≤ base ^ 40 := Nat.pow_le_pow_left h2 40
    have h3 : (4294967296 : Nat) < 2 ^ 40 := by decide
    omega
  have := valN_digs base h2 h16 40 n [] hp hn (by decide)
  rw [valN] at this
  exact this

/-- Signs that a number may be written by. -/
def numC (c : UInt8) : Bool := decide (dig16 c < 16) && !(decide (65 ≤ c.toNat) && decide (c.toNat ≤ 70))

theorem numC_digC : ∀ n < 16, numC (digC n) = true := by decide

theorem digsN_all (p : UInt8 → Bool) (base : Nat) (hb : 1 ≤ base) (hp : ∀ n < base, p (digC n) = true) : ∀ (f u : Nat) (T : List UInt8), T.all p = true → (digsN base f u T).all p = true
  | 0, _, T, h => by rw [digsN]; exact h
  | f + 1, u, T, h => by
    rw [digsN]
    split
    · rename_i hu
      rw [List.all_cons, hp u hu, h]; rfl
    · refine digsN_all p base hb hp f _ _ ?_
      rw [List.all_cons, hp _ (Nat.mod_lt _ (by omega)), h]; rfl

theorem digsN_ne (base : Nat) : ∀ (f u : Nat) (T : List UInt8), T ≠ [] ∨ f ≠ 0 → digsN base f u T ≠ []
  | 0, _, T, h => by rw [digsN]; exact h.resolve_right (by simp)
  | f + 1, u, T, _ => by
    rw [digsN]
    split
    · simp
    · exact digsN_ne base f _ _ (.inl (by simp))

theorem digs_ne (base n : Nat) : digs base n ≠ [] := digsN_ne _ _ _ _ (.inr (by decide))

/-- The first digit is no nought, but of nought itself. -/
theorem digsN_head (base : Nat) (h2 : 2 ≤ base) (h16 : base ≤ 16) : ∀ (f u : Nat) (T : List UInt8), 0 < u → u < base ^ f → ∃ c r, digsN base f u T = c :: r ∧ c ≠ 48
  | 0, u, _, h0, hu => by simp at hu; omega
  | f + 1, u, T, h0, hu => by
    rw [digsN]
    split
    · rename_i h
      refine ⟨_, _, rfl, ?_⟩
      have key : ∀ n < 16, 0 < n → digC n ≠ 48 := by decide
      exact key u (by omega) h0
    · rename_i h
      refine digsN_head base h2 h16 f _ _ (Nat.div_pos (by omega) (by omega)) ?_
      rw [Nat.div_lt_iff_lt_mul (by omega)]
      rw [Nat.pow_succ] at hu
      exact hu

theorem digs_zero (base : Nat) (h : 1 ≤ base) : digs base 0 = [48] := by
  unfold digs
  rw [digsN, if_pos (by omega)]; rfl

theorem digs_head (base n : Nat) (h2 : 2 ≤ base) (h16 : base ≤ 16) (h0 : 0 < n) (hn : n ≤ 4294967296) : ∃ c r, digs base n = c :: r ∧ c ≠ 48 := by
  have hp : n < base ^ 40 := by
    have h1 : 2 ^ 40 ≤ base ^ 40 := Nat.pow_le_pow_left h2 40
    have h3 : (4294967296 : Nat) < 2 ^ 40 := by decide
    omega
  exact digsN_head base h2 h16 40 n [] h0 hp

theorem not_marked_head (c : UInt8) (r : List UInt8) (h : c ≠ 48) : marked (c :: r) = false := by
  simp [marked, Lib.hasPrefix, List.isPrefixOf]
  exact ⟨fun e => absurd e.symm h, fun e => absurd e.symm h⟩

theorem not_marked_second (a c : UInt8) (r : List UInt8) (h : c ≠ 120) (h' : c ≠ 88) : marked (a :: c :: r) = false := by
  simp [marked, Lib.hasPrefix, List.isPrefixOf]
  exact ⟨fun _ e => absurd e.symm h, fun _ e => absurd e.symm h'⟩

theorem num_dec (n : Nat) (hn : n ≤ 4294967296) : numV (digs 10 n) = some n := by
  rcases Nat.eq_zero_or_pos n with rfl | h0
  · rw [digs_zero 10 (by omega)]; decide
  · obtain ⟨c, r, e, hc⟩ := digs_head 10 n (by omega) (by omega) h0 hn
    have hv := valV_digs 10 n (by omega) (by omega) hn
    rw [e] at hv ⊢
    rw [numV_ten (not_marked_head c r hc) hc]
    exact hv

theorem num_hex (n : Nat) (hn : n ≤ 4294967296) : numV (48 :: 120 :: digs 16 n) = some n := by
  have hm : marked (48 :: 120 :: digs 16 n) = true := by simp [marked, Lib.hasPrefix, List.isPrefixOf]
  rw [numV_marked hm, behind, if_pos hm]
  exact valV_digs 16 n (by omega) (by omega) hn

theorem digs_cons (base n : Nat) : ∃ c r, digs base n = c :: r := by
  cases h : digs base n with
  | nil => exact absurd h (digs_ne base n)
  | cons c r => exact ⟨c, r, rfl⟩

theorem num_oct (n : Nat) (hn : n ≤ 4294967296) : numV (48 :: digs 8 n) = some n := by
  obtain ⟨c, r, e⟩ := digs_cons 8 n
  have hall := digsN_all (fun c => c != 120 && c != 88) 8 (by omega) (by decide) 40 n [] rfl
  have hc : (c != 120 && c != 88) = true := by
    have h' : (digs 8 n).all (fun c => c != 120 && c != 88) = true := hall
    rw [e, List.all_cons, Bool.and_eq_true] at h'
    exact h'.1
  have hm : marked (48 :: digs 8 n) = false := by
    rw [e]
    simp at hc
    exact not_marked_second 48 c r hc.1 hc.2
  rw [numV_zero hm]
  exact valV_digs 8 n (by omega) (by omega) hn

/-! Parting at a byte. -/
theorem index_one_none (l : List UInt8) (c : UInt8) (h : c ∉ l) : Lib.index l [c] = -1 := by
  induction l with
  | nil => rfl
  | cons a l ih =>
    have ha : a ≠ c := fun e => h (by simp [e])
    have hl : c ∉ l := fun e => h (by simp [e])
    unfold Lib.index
    rw [ih hl]
    have : [c].isPrefixOf (a :: l) = false := by simp [List.isPrefixOf]; exact fun e => ha e.symm
    rw [this]; rfl

theorem index_one_some (a r : List UInt8) (c : UInt8) (h : c ∉ a) : Lib.index (a ++ c :: r) [c] = a.length := by
  induction a with
  | nil => unfold Lib.index; simp [List.isPrefixOf]
  | cons x a ih =>
    have hx : x ≠ c := fun e => h (by simp [e])
    have ha : c ∉ a := fun e => h (by simp [e])
    rw [List.cons_append]
    unfold Lib.index
    rw [ih ha]
    have : [c].isPrefixOf (x :: (a ++ c :: r)) = false := by simp [List.isPrefixOf]; exact fun e => hx e.symm
    rw [this]
    have h1 : ((a.length : Int) == -1) = false := by rw [beq_eq_false_iff_ne]; omega
    simp [h1]

theorem cut_none (l : List UInt8) (c : UInt8) (h : c ∉ l) : Lib.cut l [c] = (l, [], false) := by
  unfold Lib.cut
  rw [index_one_none l c h]; rfl

theorem cut_some (a r : List UInt8) (c : UInt8) (h : c ∉ a) : Lib.cut (a ++ c :: r) [c] = (a, r, true) := by
  unfold Lib.cut
  rw [index_one_some a r c h]
  simp

theorem noDot_none (l : List UInt8) (c : UInt8) (h : c ≠ 46) : noDot (l ++ [c]) = l ++ [c] := by
  unfold noDot Lib.trimSuffix
  rw [if_neg]
  unfold Lib.hasSuffix
  rw [List.isSuffixOf_iff_suffix]
  rintro ⟨t, ht⟩
  have := List.append_inj_right' ht rfl
  simp at this
  exact h this.symm

theorem noDot_dot (l : List UInt8) : noDot (l ++ [46]) = l := by
  unfold noDot Lib.trimSuffix
  rw [if_pos]
  · simp
  · unfold Lib.hasSuffix
    rw [List.isSuffixOf_iff_suffix]
    exact ⟨l, rfl⟩

theorem noDot_of (l : List UInt8) (h : ∀ t, l ≠ t ++ [46]) : noDot l = l := by
  unfold noDot Lib.trimSuffix
  rw [if_neg]
  unfold Lib.hasSuffix
  rw [List.isSuffixOf_iff_suffix]
  rintro ⟨t, ht⟩
  exact h t ht.symm

end Go.Proofs.YtdpihilikhbamaaGreatDoor
