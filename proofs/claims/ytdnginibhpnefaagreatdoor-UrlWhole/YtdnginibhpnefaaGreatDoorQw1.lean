/-
  Walks and plain facts that this claim leans on, put together out of 9 texts: Hd, He, Hf, Hi, Pi, Hj, Ym, Pm, Ert.
-/
import Derived.Test.YtdnginibhpnefaaGreatDoorProg
import Derived.Test.YtdnginibhpnefaaGreatDoorQa1
import Derived.Test.YtdnginibhpnefaaGreatDoorQa2
import Derived.Test.YtdnginibhpnefaaGreatDoorQa3
import Derived.Test.YtdnginibhpnefaaGreatDoorQa4
import Derived.Test.YtdnginibhpnefaaGreatDoorQa5
import Derived.Test.YtdnginibhpnefaaGreatDoorQa6
import Derived.Test.YtdnginibhpnefaaGreatDoorQa7
import Derived.Test.YtdnginibhpnefaaGreatDoorQa8
import Derived.Test.YtdnginibhpnefaaGreatDoorQa9
import Derived.Test.YtdnginibhpnefaaGreatDoorQa10
import Derived.Test.YtdnginibhpnefaaGreatDoorQa11
import Derived.Test.YtdnginibhpnefaaGreatDoorQa12
import Derived.Test.YtdnginibhpnefaaGreatDoorQa13
import Derived.Test.YtdnginibhpnefaaGreatDoorQa14
import Derived.Test.YtdnginibhpnefaaGreatDoorQa15
import Derived.Test.YtdnginibhpnefaaGreatDoorQa16
import Derived.Test.YtdnginibhpnefaaGreatDoorQa17
import Derived.Test.YtdnginibhpnefaaGreatDoorQa18
import Derived.Test.YtdnginibhpnefaaGreatDoorQa19
import Derived.Test.YtdnginibhpnefaaGreatDoorQa20
import Derived.Test.YtdnginibhpnefaaGreatDoorQa21
import Derived.Test.YtdnginibhpnefaaGreatDoorQa22
import Derived.Test.YtdnginibhpnefaaGreatDoorQa23
import Derived.Test.YtdnginibhpnefaaGreatDoorQa24
import Derived.Test.YtdnginibhpnefaaGreatDoorQa25
import Derived.Test.YtdnginibhpnefaaGreatDoorQa26
import Derived.Test.YtdnginibhpnefaaGreatDoorQa27
import Derived.Test.YtdnginibhpnefaaGreatDoorQa28
import Derived.Test.YtdnginibhpnefaaGreatDoorQa29
import Derived.Test.YtdnginibhpnefaaGreatDoorQa30
import Derived.Test.YtdnginibhpnefaaGreatDoorQa31
import Derived.Test.YtdnginibhpnefaaGreatDoorQa32
import Derived.Test.YtdnginibhpnefaaGreatDoorQa33
import Derived.Lib.Strings
import Derived.Lib.UnsafeStr
import Derived.Laws.IdiomStrings
import Derived.Laws.AppendOwn
import Derived.Laws.CopyOwn
import Derived.Laws.ResultCell
import Derived.Deep.MidRow
import Derived.WalkKit
import Derived.Shelf.Strings.Builder1
import Derived.Shelf.Strings.Builder2
import Derived.Shelf.Strings.OnBuilder
import Derived.Shelf.Strings.Trim
import Derived.Shelf.Small.Utf8
import Derived.Shelf.Small.Strs
import Derived.Shelf.Small.Wraps
import Derived.Shelf.Strings.BuilderF
import Derived.Shelf.Strings.BuilderK
import Derived.Shelf.Strings.Builder2Cap
import Derived.Shelf.Strconv.Itoa0
import Derived.Shelf.Strconv.Itoa1
import Derived.Shelf.LaysM
import Derived.Shelf.Strconv.Itoa2
import Derived.Shelf.Strconv.Itoa3
import Derived.Shelf.Strings.Search1
import Derived.Shelf.Strings.Search2
import Derived.Shelf.Strings.Search3
import Derived.Shelf.Strings.Cut
import Derived.Shelf.Strings.Count
import Derived.Shelf.Strings.Shaped
import Derived.Shelf.Strings.LastIndex
import Derived.Shelf.Strings.Prefix
import Derived.Shelf.Strings.Split
import Derived.Shelf.Strings.Replace
import Derived.Shelf.Strings.Runes
import Derived.Shelf.Strings.IndexAny
import Derived.Shelf.Strings.AsciiSet
import Derived.Shelf.Strings.IndexAnyAll
import Derived.Shelf.Unicode.DecodeSlow
import Derived.Ground.Names2Prog
import Derived.Shelf.Slices.Clone
import Derived.Ground.SlgnProg
import Derived.Shelf.SlicesE.Clone
import Derived.WalkSpells
import Derived.WalkLawsBesides
import Derived.Lib.Bytealg
import Derived.Lib.FrozenHead2
import Derived.Lib.OthersKept
import Derived.Lib.Builder
import Derived.Deep.LoopGhost
import Derived.Deep.RegionWith
import Derived.Lib.IndexMore
import Derived.Lib.Join
import Derived.Lib.BufferMore
import Derived.Laws.BitsAllLaws
import Derived.WalkMore
import Derived.Lib.LastIndexByte
import Derived.OwnWalk
import Derived.Lib.AppendIntMem
import Derived.Lib.SmallJoins
import Derived.WalkSmall
import Derived.Lib.IndexAny
import Derived.Lib.Replace
import Derived.Lib.TrimByte
import Derived.Lib.ItoaNum
import Derived.Lib.SlTrimSet
import Derived.Laws.BytesString
import Derived.LoopN
import Derived.RegionTactic
import Derived.Deep.QuietTactic
import Derived.BigQuiet
import Derived.Deep.WholeRow
import Derived.Deep.RegionLaw
import Derived.Scope
import Derived.ScopeJumps
import Derived.Laws.RangeAny
import Derived.Lib.DecodeN
import Derived.Lib.AppendStr
import Derived.Laws.OwnMore
import Derived.Deep.RegionHeld
import Derived.BigRegion
set_option linter.unusedSimpArgs false
set_option linter.unusedVariables false

namespace Go.Proofs.YtdnginibhpnefaaGreatDoor
theorem dig16_digC : ∀ n < 16, dig16 (digC n) = n := by decide

theorem valN_digs (base : Nat) (h2 : 2 ≤ base) (h16 : base ≤ 16) : ∀ (f u : Nat) (T : List UInt8), u < base ^ f → u ≤ 4294967296 → f ≠ 0 → valN base 0 (digsN base f u T) = valN base u T
  | 0, _, _, _, _, h => absurd rfl h
  | f + 1, u, T, hu, hc, _ => by
    by_cases h : u < base
    · rw [digsN_last _ _ _ _ h, valN, dig16_digC u (by omega), if_pos h]
      congr 1; omega
    · have hf : f ≠ 0 := by
        rintro rfl
        simp at hu
        omega
      have hd : u / base < base ^ f := by
        rw [Nat.div_lt_iff_lt_mul (by omega)]
        rw [Nat.pow_succ] at hu
        exact hu
      have hle : u / base ≤ u := Nat.div_le_self _ _
      have hm : u % base < base := Nat.mod_lt _ (by omega)
      rw [digsN_more _ _ _ _ h, valN_digs base h2 h16 f _ _ hd (by omega) hf, valN, dig16_digC _ (by omega), if_pos hm]
      have e : u / base * base + u % base = u := by rw [Nat.mul_comm]; exact Nat.div_add_mod u base
      rw [e]
      congr 1; omega

theorem valV_digs (base n : Nat) (h2 : 2 ≤ base) (h16 : base ≤ 16) (hn : n ≤ 4294967296) : valV base (digs base n) = some n := by
  have hp : n < base ^ 40 := by
    have h1 : 2 ^ 40 ≤ base ^ 40 := Nat.pow_le_pow_left h2 40
    have h3 : (4294967296 : Nat) < 2 ^ 40 := by decide
    omega
  have := valN_digs base h2 h16 40 n [] hp hn (by decide)
  rw [valN] at this
  exact this

/-- Signs that a number may be written by. -/
def numC (c : UInt8) : Bool := decide (dig16 c < 16) && !(decide (65 ≤ c.toNat) && decide (c.toNat ≤ 70))

theorem numC_digC : ∀ n < 16, numC (digC n) = true := by decide

/-- The first digit is no nought, but of nought itself. -/
theorem digsN_head (base : Nat) (h2 : 2 ≤ base) (h16 : base ≤ 16) : ∀ (f u : Nat) (T : List UInt8), 0 < u → u < base ^ f → ∃ c r, digsN base f u T = c :: r ∧ c ≠ 48
  | 0, u, _, h0, hu => by simp at hu; omega
  | f + 1, u, T, h0, hu => by
    rw [digsN]
    split
    · rename_i h
      refine ⟨_, _, rfl, ?_⟩
      have key : ∀ n < 16, 0 < n → digC n ≠ 48 := by decide
      exact key u (by omega) h0
    · rename_i h
      refine digsN_head base h2 h16 f _ _ (Nat.div_pos (by omega) (by omega)) ?_
      rw [Nat.div_lt_iff_lt_mul (by omega)]
      rw [Nat.pow_succ] at hu
      exact hu

theorem digs_zero (base : Nat) (h : 1 ≤ base) : digs base 0 = [48] := by
  unfold digs
  rw [digsN, if_pos (by omega)]; rfl

theorem digs_head (base n : Nat) (h2 : 2 ≤ base) (h16 : base ≤ 16) (h0 : 0 < n) (hn : n ≤ 4294967296) : ∃ c r, digs base n = c :: r ∧ c ≠ 48 := by
  have hp : n < base ^ 40 := by
    have h1 : 2 ^ 40 ≤ base ^ 40 := Nat.pow_le_pow_left h2 40
    have h3 : (4294967296 : Nat) < 2 ^ 40 := by decide
    omega
  exact digsN_head base h2 h16 40 n [] h0 hp

theorem not_marked_head (c : UInt8) (r : List UInt8) (h : c ≠ 48) : marked (c :: r) = false := by
  simp [marked, Lib.hasPrefix, List.isPrefixOf]
  exact ⟨fun e => absurd e.symm h, fun e => absurd e.symm h⟩

theorem num_dec (n : Nat) (hn : n ≤ 4294967296) : numV (digs 10 n) = some n := by
  rcases Nat.eq_zero_or_pos n with rfl | h0
  · rw [digs_zero 10 (by omega)]; decide
  · obtain ⟨c, r, e, hc⟩ := digs_head 10 n (by omega) (by omega) h0 hn
    have hv := valV_digs 10 n (by omega) (by omega) hn
    rw [e] at hv ⊢
    rw [numV_ten (not_marked_head c r hc) hc]
    exact hv

theorem noDot_none (l : List UInt8) (c : UInt8) (h : c ≠ 46) : noDot (l ++ [c]) = l ++ [c] := by
  unfold noDot Lib.trimSuffix
  rw [if_neg]
  unfold Lib.hasSuffix
  rw [List.isSuffixOf_iff_suffix]
  rintro ⟨t, ht⟩
  have := List.append_inj_right' ht rfl
  simp at this
  exact h this.symm

end Go.Proofs.YtdnginibhpnefaaGreatDoor

namespace Go.Proofs.YtdnginibhpnefaaGreatDoor
/-- Digits, small letters up to f, x and the point. -/
def hostC (c : UInt8) : Bool := numC c || (c == 46 || c == 120)

theorem hostC_facts (c : UInt8) (h : hostC c = true) : nameB c = true ∧ lowC c = c ∧ c ≠ 37 ∧ c ≠ 45 ∧ c ≠ 91 := by
  have key : ∀ n < 256, hostC (UInt8.ofNat n) = true → nameB (UInt8.ofNat n) = true ∧ lowC (UInt8.ofNat n) = UInt8.ofNat n ∧ UInt8.ofNat n ≠ 37 ∧ UInt8.ofNat n ≠ 45 ∧ UInt8.ofNat n ≠ 91 := by decide +kernel
  have e : UInt8.ofNat c.toNat = c := by simp
  have := key c.toNat c.toNat_lt
  rw [e] at this
  exact this h

theorem index_infix : ∀ (l sub : List UInt8), Lib.index l sub ≠ -1 → ∃ a b, l = a ++ (sub ++ b)
  | [], sub, h => by
    unfold Lib.index at h
    split at h
    · rename_i hs
      have : sub = [] := by simpa using hs
      exact ⟨[], [], by rw [this]; rfl⟩
    · exact absurd rfl h
  | c :: l, sub, h => by
    unfold Lib.index at h
    split at h
    · rename_i hp
      rw [List.isPrefixOf_iff_prefix] at hp
      obtain ⟨b, hb⟩ := hp
      exact ⟨[], b, by rw [← hb]; rfl⟩
    · split at h
      · exact absurd rfl h
      · rename_i hn
        obtain ⟨a, b, e⟩ := index_infix l sub (by simpa using hn)
        exact ⟨c :: a, b, by rw [e]; rfl⟩

theorem coded_minus (l : List UInt8) (h : 45 ∉ l) : coded l = false := by
  unfold coded
  rw [Bool.or_eq_false_iff]
  constructor
  · rw [← Bool.not_eq_true]
    intro hp
    rw [Lib.hasPrefix, List.isPrefixOf_iff_prefix] at hp
    obtain ⟨b, hb⟩ := hp
    exact h (by rw [← hb]; simp)
  · rw [Lib.contains, decide_eq_false_iff_not]
    intro hi
    obtain ⟨a, b, e⟩ := index_infix l [46, 120, 110, 45, 45] (by omega)
    exact h (by rw [e]; simp)

theorem hostC_all {l : List UInt8} (h : l.all hostC = true) : ∀ c ∈ l, hostC c = true := List.all_eq_true.1 h

/-- A text of such signs that is a number is parsed to its four bytes. -/
theorem host_num (l : List UInt8) (n : Nat) (h0 : l ≠ []) (hall : l.all hostC = true) (hn : numberedV l = true) (hf : fourV l = some n) : parseV l true = some (text4 n) := by
  have ha := hostC_all hall
  have h37 : 37 ∉ l := fun e => (hostC_facts _ (ha _ e)).2.2.1 rfl
  have h45 : 45 ∉ l := fun e => (hostC_facts _ (ha _ e)).2.2.2.1 rfl
  have hp : Lib.hasPrefix l [91] = false := by
    rw [← Bool.not_eq_true]
    intro hp
    rw [Lib.hasPrefix, List.isPrefixOf_iff_prefix] at hp
    obtain ⟨b, hb⟩ := hp
    exact (hostC_facts 91 (ha 91 (by rw [← hb]; simp))).2.2.2.2 rfl
  rw [parseV_name hp, unpct_plain l h37, low_plain l (fun c hc => (hostC_facts c (ha c hc)).2.1)]
  rw [nameV_num h0 (List.all_eq_true.2 fun c hc => (hostC_facts c (ha c hc)).1) (coded_minus l h45) hn, hf]
  rfl

theorem noDot_tail (pre t : List UInt8) (ht : t ≠ []) (h46 : 46 ∉ t) : noDot (pre ++ t) = pre ++ t := by
  have e := List.dropLast_concat_getLast ht
  have hl : t.getLast ht ≠ 46 := fun h => h46 (by rw [← h]; exact List.getLast_mem ht)
  rw [← e, ← List.append_assoc]
  exact noDot_none _ _ hl

theorem numbered_lab (l t : List UInt8) (hl : lastLab (noDot l) = t) (h : (marked t = true ∧ (valV 16 (t.drop 2)).isSome = true) ∨ (marked t = false ∧ t ≠ [] ∧ (valV 10 t).isSome = true)) : numberedV l = true := by
  unfold numberedV
  rw [hl]
  rcases h with ⟨h1, h2⟩ | ⟨h1, h2, h3⟩
  · rw [if_pos h1]; exact h2
  · rw [if_neg (by rw [h1]; decide)]; simp [h2, h3]

theorem four_one (r h n : Nat) (t : List UInt8) (hn : numV t = some n) (h46 : 46 ∉ t) (hlt : n < 2 ^ (8 * (r + 1))) : fourN (r + 1) h t = some (h * 2 ^ (8 * (r + 1)) + n) :=
  fourN_last (by rw [cut_none t 46 h46]; exact hn) (by rw [cut_none t 46 h46]) hlt

theorem four_cons (r h n : Nat) (a t : List UInt8) (hn : numV a = some n) (h46 : 46 ∉ a) (hlt : n ≤ 255) : fourN (r + 1) h (a ++ 46 :: t) = fourN r (h * 256 + n) t := by
  rw [fourN_more (n := n) (by rw [cut_some a t 46 h46]; exact hn) (by rw [cut_some a t 46 h46]) (by omega), cut_some a t 46 h46]

theorem digs_no (base n : Nat) (c : UInt8) (hb : 1 ≤ base) (hc : ∀ k < base, digC k ≠ c) : c ∉ digs base n := by
  intro hm
  have := digsN_all (fun x => x != c) base hb (fun k hk => by simpa using hc k hk) 40 n [] rfl
  have h2 := List.all_eq_true.1 this c hm
  simp at h2

theorem digs_hostC (base n : Nat) (hb : 1 ≤ base) (h16 : base ≤ 16) : (digs base n).all hostC = true := by
  refine digsN_all hostC base hb (fun k hk => ?_) 40 n [] rfl
  rw [hostC, numC_digC k (by omega)]; rfl

theorem no46 (base n : Nat) (hb : 1 ≤ base) (h16 : base ≤ 16) : 46 ∉ digs base n := by
  refine digs_no base n 46 hb (fun k hk => ?_)
  have key : ∀ k < 16, digC k ≠ 46 := by decide
  exact key k (by omega)

theorem lab_dec (n : Nat) (hn : n ≤ 4294967296) : marked (digs 10 n) = false ∧ digs 10 n ≠ [] ∧ (valV 10 (digs 10 n)).isSome = true := by
  refine ⟨?_, digs_ne _ _, by rw [valV_digs 10 n (by omega) (by omega) hn]; rfl⟩
  rcases Nat.eq_zero_or_pos n with rfl | h0
  · rw [digs_zero 10 (by omega)]; decide
  · obtain ⟨c, r, e, hc⟩ := digs_head 10 n (by omega) (by omega) h0 hn
    rw [e]; exact not_marked_head c r hc

end Go.Proofs.YtdnginibhpnefaaGreatDoor

namespace Go.Proofs.YtdnginibhpnefaaGreatDoor
theorem num_dec8 (n : Nat) (h : n < 256) : numV (dec8 n) = some n := by rw [dec8_digs n h]; exact num_dec n (by omega)

theorem dec8_no46 (n : Nat) (h : n < 256) : 46 ∉ dec8 n := by rw [dec8_digs n h]; exact no46 10 n (by omega) (by omega)

theorem dec8_hostC (n : Nat) (h : n < 256) : (dec8 n).all hostC = true := by rw [dec8_digs n h]; exact digs_hostC 10 n (by omega) (by omega)

theorem text4_eq (n : Nat) : text4 n = dec8 (n / 16777216 % 256) ++ 46 :: (dec8 (n / 65536 % 256) ++ 46 :: (dec8 (n / 256 % 256) ++ 46 :: dec8 (n % 256))) := rfl

theorem text4_tail (n : Nat) : text4 n = (dec8 (n / 16777216 % 256) ++ 46 :: (dec8 (n / 65536 % 256) ++ 46 :: dec8 (n / 256 % 256))) ++ 46 :: dec8 (n % 256) := by
  rw [text4_eq]; simp

theorem text4_hostC (n : Nat) : (text4 n).all hostC = true := by
  rw [text4_eq]
  simp only [List.all_append, List.all_cons, dec8_hostC _ (Nat.mod_lt _ (by decide : 0 < 256))]
  decide

theorem text4_ne (n : Nat) : text4 n ≠ [] := by rw [text4_eq]; simp

theorem text4_noDot (n : Nat) : noDot (text4 n) = text4 n := by
  have e : text4 n = (dec8 (n / 16777216 % 256) ++ 46 :: (dec8 (n / 65536 % 256) ++ 46 :: (dec8 (n / 256 % 256) ++ [46]))) ++ dec8 (n % 256) := by rw [text4_eq]; simp
  rw [e]
  exact noDot_tail _ _ (dec8_ne _ (Nat.mod_lt _ (by decide))) (dec8_no46 _ (Nat.mod_lt _ (by decide)))

theorem text4_four (n : Nat) (hn : n < 4294967296) : fourN 4 0 (text4 n) = some n := by
  have m : ∀ k, k % 256 < 256 := fun k => Nat.mod_lt _ (by decide)
  rw [text4_eq, four_cons 3 0 _ _ _ (num_dec8 _ (m _)) (dec8_no46 _ (m _)) (by have := m (n / 16777216); omega), four_cons 2 _ _ _ _ (num_dec8 _ (m _)) (dec8_no46 _ (m _)) (by have := m (n / 65536); omega), four_cons 1 _ _ _ _ (num_dec8 _ (m _)) (dec8_no46 _ (m _)) (by have := m (n / 256); omega),
    four_one 0 _ _ _ (num_dec8 _ (m _)) (dec8_no46 _ (m _)) (by simpa using m n)]
  congr 1
  simp only [Nat.zero_add, Nat.mul_one, Nat.reduceMul, Nat.reducePow, Nat.zero_mul]
  omega

theorem text4_lab (n : Nat) : lastLab (text4 n) = dec8 (n % 256) := by
  rw [text4_tail]
  exact lastLab_some _ _ (fun c hc e => dec8_no46 _ (Nat.mod_lt _ (by decide)) (e ▸ hc))

theorem text4_labs (n : Nat) : marked (dec8 (n % 256)) = false ∧ dec8 (n % 256) ≠ [] ∧ (valV 10 (dec8 (n % 256))).isSome = true := by
  rw [dec8_digs _ (Nat.mod_lt _ (by decide))]
  exact lab_dec _ (by have := Nat.mod_lt n (by decide : 0 < 256); omega)

theorem text4_fourV (n : Nat) (hn : n < 4294967296) : fourV (text4 n) = some n := by unfold fourV; rw [text4_noDot]; exact text4_four n hn

theorem text4_parse (n : Nat) (hn : n < 4294967296) : parseV (text4 n) true = some (text4 n) := by
  refine host_num _ n (text4_ne n) (text4_hostC n) ?_ (text4_fourV n hn)
  refine numbered_lab _ _ ?_ (.inr (text4_labs n))
  rw [text4_noDot]; exact text4_lab n

end Go.Proofs.YtdnginibhpnefaaGreatDoor

namespace Go.Proofs.YtdnginibhpnefaaGreatDoor
theorem np_cons (x : UInt8) (l : List UInt8) (h : x ≠ 58) (hl : noPair l = true) : noPair (x :: l) = true := by
  cases l with
  | nil => rfl
  | cons b l => simp [noPair, h, hl]

theorem np_pre : ∀ (h t : List UInt8), 58 ∉ h → noPair t = true → noPair (h ++ t) = true
  | [], _, _, ht => ht
  | x :: h, t, hx, ht => np_cons x (h ++ t) (fun e => hx (by simp [e])) (np_pre h t (fun e => hx (by simp [e])) ht)

theorem np_colon (c : UInt8) (t : List UInt8) (hc : c ≠ 58) (h : noPair (c :: t) = true) : noPair (58 :: c :: t) = true := by
  simp [noPair, hc, h]

theorem np_left : ∀ (a b : List UInt8), noPair (a ++ b) = true → noPair a = true
  | [], _, _ => rfl
  | [_], _, _ => rfl
  | x :: y :: a, b, h => by
    have h' : noPair (x :: y :: (a ++ b)) = true := h
    simp only [noPair, Bool.and_eq_true] at h' ⊢
    exact ⟨h'.1, np_left (y :: a) b h'.2⟩

theorem joined_np : ∀ (x : List Nat), x ≠ [] → noPair (joined x ++ [58]) = true ∧ ∃ c r, joined x = c :: r ∧ c ≠ 58
  | [], h => absurd rfl h
  | [n], _ => by
    rw [joined_one]
    refine ⟨np_pre _ _ (hex16_no58 n) rfl, ?_⟩
    cases he : hex16 n with
    | nil => exact absurd he (hex16_ne n)
    | cons c r => exact ⟨c, r, rfl, fun e => hex16_no58 n (by rw [he, e]; simp)⟩
  | n :: m :: l, _ => by
    obtain ⟨h1, c, r, e, hc⟩ := joined_np (m :: l) (by simp)
    rw [joined_cons]
    constructor
    · rw [List.append_assoc]
      refine np_pre _ _ (hex16_no58 n) ?_
      rw [List.append_assoc, e]
      rw [e] at h1
      exact np_colon c _ hc h1
    · cases he : hex16 n with
      | nil => exact absurd he (hex16_ne n)
      | cons c r => exact ⟨c, _, rfl, fun e => hex16_no58 n (by rw [he, e]; simp)⟩

theorem fold_digs : ∀ (f u : Nat) (T : List UInt8), u < 16 ^ f → f ≠ 0 → fold16 0 (digsN 16 f u T) = fold16 u T
  | 0, _, _, _, h => absurd rfl h
  | f + 1, u, T, hu, _ => by
    by_cases hn : u < 16
    · rw [digsN_last _ _ _ _ hn]
      show fold16 (0 * 16 + dig16 (digC u)) T = _
      rw [dig16_digC u hn, Nat.zero_mul, Nat.zero_add]
    · rw [digsN_more _ _ _ _ hn]
      have h1 : u / 16 < 16 ^ f := by rw [Nat.div_lt_iff_lt_mul (by omega)]; rw [Nat.pow_succ] at hu; exact hu
      have hf : f ≠ 0 := by rintro rfl; simp at h1; omega
      rw [fold_digs f (u / 16) _ h1 hf]
      show fold16 (u / 16 * 16 + dig16 (digC (u % 16))) T = _
      rw [dig16_digC _ (Nat.mod_lt _ (by omega)), show u / 16 * 16 + u % 16 = u by omega]

theorem digsN_len (base : Nat) : ∀ (f n : Nat) (T : List UInt8), (digsN base f n T).length ≤ f + T.length
  | 0, _, T => by simp [digsN]
  | f + 1, n, T => by
    by_cases h : n < base
    · rw [digsN_last _ _ _ _ h]; simp; omega
    · rw [digsN_more _ _ _ _ h]
      have := digsN_len base f (n / base) (digC (n % base) :: T)
      simp at this
      omega

def hexC (c : UInt8) : Bool := decide (dig16 c < 16) && c != 46

theorem scan_hex (whole : Option Nat) (last : Bool) : ∀ (l : List UInt8) (i n : Nat), l.all hexC = true → i + l.length ≤ 4 → (i ≠ 0 ∨ l ≠ []) → scanP whole last i n l = some [fold16 n l]
  | [], i, n, _, _, h => by
    have h0 : i ≠ 0 := h.resolve_right (by simp)
    rw [scanP, if_neg h0]; rfl
  | c :: l, i, n, hall, hl, _ => by
    simp only [List.all_cons, Bool.and_eq_true, hexC, decide_eq_true_eq, bne_iff_ne, ne_eq] at hall
    simp only [List.length_cons] at hl
    rw [scanP, if_neg (fun h => hall.1.2 h.1), if_pos ⟨hall.1.1, by omega⟩]
    rw [scan_hex whole last l (i + 1) _ (by simpa [hexC] using hall.2) (by omega) (.inl (by omega))]
    rfl

theorem hex16_all (n : Nat) : (hex16 n).all hexC = true := digsN_all hexC 16 (by omega) (by decide) 4 n [] rfl

theorem piece_hex (last : Bool) (n : Nat) (h : n < 65536) : pieceV last (hex16 n) = some [n] := by
  have hlen : (hex16 n).length ≤ 4 := digsN_len 16 4 n []
  unfold pieceV
  rw [scan_hex _ last _ 0 0 (hex16_all n) (by omega) (.inr (hex16_ne n))]
  have : fold16 0 (hex16 n) = n := by
    have := fold_digs 4 n [] (by omega) (by omega)
    simpa [hex16, fold16] using this
  rw [this]

theorem pieces_joined (atEnd : Bool) : ∀ (y : List Nat) (f : Nat) (out : List Nat), y ≠ [] → y.length ≤ f → (∀ n ∈ y, n < 65536) → piecesN atEnd f out (joined y) true = some (out ++ y)
  | [], _, _, h, _, _ => absurd rfl h
  | [n], f + 1, out, _, _, h16 => by
    have hc : Lib.cut (joined [n]) [58] = (hex16 n, [], false) := by rw [joined_one]; exact cut_none _ _ (hex16_no58 n)
    rw [piecesN, hc]
    simp only [piece_hex _ n (h16 n (by simp))]
    rw [piecesN]
  | n :: m :: y, f + 1, out, _, hl, h16 => by
    have hc : Lib.cut (joined (n :: m :: y)) [58] = (hex16 n, joined (m :: y), true) := by rw [joined_cons]; exact cut_some _ _ _ (hex16_no58 n)
    rw [piecesN, hc]
    simp only [piece_hex _ n (h16 n (by simp))]
    rw [pieces_joined atEnd (m :: y) f (out ++ [n]) (by simp) (by simpa using hl) (fun k hk => h16 k (by simp [hk]))]
    simp
  | _ :: _, 0, _, _, hl, _ => by simp at hl

theorem joined_empty (y : List Nat) : joined y = [] ↔ y = [] := by
  constructor
  · intro h
    cases y with
    | nil => rfl
    | cons n y =>
      obtain ⟨_, c, r, e, _⟩ := joined_np (n :: y) (by simp)
      rw [e] at h; simp at h
  · rintro rfl; exact joined_nil

theorem pieces_of (atEnd : Bool) (y : List Nat) (hl : y.length ≤ 8) (h16 : ∀ n ∈ y, n < 65536) : piecesV (joined y) atEnd = some y := by
  unfold piecesV
  by_cases h : y = []
  · subst h
    rw [joined_nil]; rfl
  · have hj : joined y ≠ [] := fun e => h ((joined_empty y).1 e)
    rw [decide_eq_true hj, pieces_joined atEnd y 8 [] h hl h16]; rfl

/-! The run is noughts. -/

theorem zeros_get : ∀ (l : List Nat) (j : Nat), j < zeros l → l[j]? = some 0
  | [], j, h => by simp [zeros] at h
  | a :: l, j, h => by
    rw [zeros] at h
    split at h
    · rename_i ha
      cases j with
      | zero => simp [ha]
      | succ j => simpa using zeros_get l j (by omega)
    · omega

theorem lrunN_zero (x : List Nat) : ∀ (l : List Nat) (i fr tu : Nat), l = x.drop i → (∀ j, fr ≤ j → j < tu → x[j]? = some 0) → ∀ j, (lrunN 0 i fr tu l).1 ≤ j → j < (lrunN 0 i fr tu l).2 → x[j]? = some 0
  | [], i, fr, tu, _, h => h
  | n :: l, i, fr, tu, hd, h => by
    have hd' : l = x.drop (i + 1) := by
      rw [← List.drop_drop, ← hd]; rfl
    rw [lrunN]
    split
    · refine lrunN_zero x l (i + 1) i (i + zeros (n :: l)) hd' (fun j h1 h2 => ?_)
      have := zeros_get (n :: l) (j - i) (by omega)
      rw [hd, List.getElem?_drop, show i + (j - i) = j by omega] at this
      exact this
    · exact lrunN_zero x l (i + 1) fr tu hd' h

theorem run_fill (x : List Nat) (h8 : x.length = 8) (hft : (lrun x).1 < (lrun x).2) (ht : (lrun x).2 ≤ 8) : x.take (lrun x).1 ++ List.replicate (8 - (lrun x).1 - (8 - (lrun x).2)) 0 ++ x.drop (lrun x).2 = x := by
  have hz := lrunN_zero x x 0 0 0 rfl (fun j _ h => absurd h (by omega))
  have hz' : ∀ j, (lrun x).1 ≤ j → j < (lrun x).2 → x[j]? = some 0 := hz
  generalize (lrun x).1 = fr at *
  generalize (lrun x).2 = tu at *
  refine List.ext_getElem? fun j => ?_
  by_cases h1 : j < fr
  · rw [List.append_assoc, List.getElem?_append_left (by simp; omega), List.getElem?_take_of_lt h1]
  · by_cases h2 : j < tu
    · rw [List.getElem?_append_left (by simp; omega), List.getElem?_append_right (by simp; omega), List.getElem?_replicate, if_pos (by simp; omega), hz' j (by omega) h2]
    · rw [List.getElem?_append_right (by simp; omega), List.getElem?_drop]
      congr 1
      simp
      omega

theorem six_text6 (x : List Nat) (h8 : x.length = 8) (h16 : ∀ n ∈ x, n < 65536) : sixV (text6 x) = some x := by
  obtain ⟨hl1, hl2⟩ := lrun_le x
  rw [h8] at hl2
  by_cases h : (lrun x).1 = (lrun x).2
  · rw [text6_same h]
    have hnp : noPair (joined x) = true := np_left _ _ (joined_np x (by rintro rfl; simp at h8)).1
    unfold sixV
    rw [cut2_none _ hnp]
    have hp := pieces_of true x (by omega) h16
    have hn : piecesV [] true = some [] := rfl
    simp only [Bool.not_false, hp, hn]
    simp [h8]
  · rw [text6_run h]
    have hnp : noPair (joined (x.take (lrun x).1) ++ [58]) = true := by
      by_cases h0 : x.take (lrun x).1 = []
      · rw [h0, joined_nil]; rfl
      · exact (joined_np _ h0).1
    unfold sixV
    rw [cut2_some _ _ hnp]
    have hp1 := pieces_of false (x.take (lrun x).1) (by simp; omega) (fun n hn => h16 n (List.mem_of_mem_take hn))
    have hp2 := pieces_of true (x.drop (lrun x).2) (by simp; omega) (fun n hn => h16 n (List.mem_of_mem_drop hn))
    have e1 : (x.take (lrun x).1).length = (lrun x).1 := by simp; omega
    have e2 : (x.drop (lrun x).2).length = 8 - (lrun x).2 := by simp; omega
    simp only [Bool.not_true, hp1, hp2, e1, e2]
    rw [if_pos ⟨by omega, by simp; omega⟩, run_fill x h8 (by omega) hl2]

end Go.Proofs.YtdnginibhpnefaaGreatDoor

namespace Go.Proofs.YtdnginibhpnefaaGreatDoor
theorem inSet_out (c set : Int) (h : ¬ inSetP c set) : inSetI c set = false := by
  rw [← Bool.not_eq_true, inSetI_iff]; exact h

theorem hexD_range (n : Nat) (h : n < 16) : (48 ≤ (hexD n).toNat ∧ (hexD n).toNat ≤ 57) ∨ (65 ≤ (hexD n).toNat ∧ (hexD n).toNat ≤ 70) := by
  unfold hexD
  split
  · left
    have : (UInt8.ofNat (48 + n)).toNat = (48 + n) % 256 := by simp
    rw [this]; omega
  · right
    have : (UInt8.ofNat (55 + n)).toNat = (55 + n) % 256 := by simp
    rw [this]; omega

theorem pct1_mem (set : Int) (c d : UInt8) (h : d ∈ pct1 set c) : inSetI d.toNat set = false := by
  unfold pct1 at h
  split at h
  · unfold esc at h
    have hc := c.toNat_lt
    have h1 := hexD_range (c.toNat / 16) (by omega)
    have h2 := hexD_range (c.toNat % 16) (by omega)
    simp only [List.mem_cons, List.not_mem_nil, or_false] at h
    apply inSet_out
    rcases h with rfl | rfl | rfl
    · have : ((37 : UInt8).toNat : Int) = 37 := rfl
      rw [this]; unfold inSetP; omega
    · unfold inSetP; omega
    · unfold inSetP; omega
  · simp only [List.mem_cons, List.not_mem_nil, or_false] at h
    subst h
    rename_i h'
    exact Bool.eq_false_iff.2 h'

theorem pct_mem (set : Int) (l : List UInt8) (d : UInt8) (h : d ∈ pct set l) : inSetI d.toNat set = false := by
  unfold pct at h
  rw [List.mem_flatMap] at h
  obtain ⟨c, _, hd⟩ := h
  exact pct1_mem set c d hd

theorem pct_none (set : Int) (l : List UInt8) (h : ∀ d ∈ l, inSetI d.toNat set = false) : pct set l = l := by
  induction l with
  | nil => rfl
  | cons c l ih =>
    have h1 := h c (by simp)
    have h2 := ih fun d hd => h d (by simp [hd])
    have e : pct set (c :: l) = pct1 set c ++ pct set l := by simp [pct]
    rw [e, h2]
    simp [pct1, h1]

theorem pct_idem (set : Int) (l : List UInt8) : pct set (pct set l) = pct set l := pct_none _ _ fun d hd => pct_mem set l d hd

end Go.Proofs.YtdnginibhpnefaaGreatDoor

namespace Go.Proofs.YtdnginibhpnefaaGreatDoor
theorem trim_one (l : List UInt8) (c : UInt8) : Lib.hasSuffix (l ++ [c]) [c] = true ∧ Lib.trimSuffix (l ++ [c]) [c] = l := by
  have h : Lib.hasSuffix (l ++ [c]) [c] = true := by
    unfold Lib.hasSuffix
    rw [List.isSuffixOf_iff_suffix]
    exact ⟨l, rfl⟩
  refine ⟨h, ?_⟩
  unfold Lib.trimSuffix
  rw [if_pos h]
  simp

theorem bracket_back (x : List Nat) (h8 : x.length = 8) (h16 : ∀ n ∈ x, n < 65536) (b : Bool) : parseV (91 :: (text6 x ++ [93])) b = some (91 :: (text6 x ++ [93])) := by
  have hp : Lib.hasPrefix (91 :: (text6 x ++ [93])) [91] = true := by simp [Lib.hasPrefix, List.isPrefixOf]
  rw [parseV_six hp]
  obtain ⟨h1, h2⟩ := trim_one (text6 x) 93
  exact bracketV_some (l := text6 x ++ [93]) h1 (by rw [h2]; exact six_text6 x h8 h16)

theorem low_low (l : List UInt8) : low (low l) = low l := by
  have key : ∀ n < 256, lowC (lowC (UInt8.ofNat n)) = lowC (UInt8.ofNat n) := by decide +kernel
  have hc : ∀ c : UInt8, lowC (lowC c) = lowC c := by
    intro c
    have := key c.toNat c.toNat_lt
    simpa using this
  simp [low, List.map_map, Function.comp_def, hc]

theorem nameB_facts (c : UInt8) (h : nameB c = true) : c ≠ 37 ∧ c ≠ 91 := by
  constructor
  · rintro rfl; revert h; decide
  · rintro rfl; revert h; decide

theorem no_prefix (l : List UInt8) (h : ∀ c ∈ l, c ≠ 91) : Lib.hasPrefix l [91] = false := by
  cases l with
  | nil => rfl
  | cons c l =>
    have := h c (by simp)
    rw [Lib.hasPrefix]
    simp [List.isPrefixOf]
    exact fun e => this e.symm

theorem name_back (m a : List UInt8) (hl : low m = m) (h : nameV m = some a) : parseV a true = some a := by
  by_cases hb : m = [] ∨ allN m = false ∨ coded m = true
  · rw [nameV_bad hb] at h; simp at h
  · have h0 : m ≠ [] := fun e => hb (.inl e)
    have h1 : allN m = true := by cases e : allN m with | true => rfl | false => exact absurd (.inr (.inl e)) hb
    have h2 : coded m = false := by cases e : coded m with | false => rfl | true => exact absurd (.inr (.inr e)) hb
    cases h3 : numberedV m with
    | true =>
      rw [nameV_num h0 h1 h2 h3] at h
      cases hf : fourV m with
      | none => rw [hf] at h; simp at h
      | some n =>
        rw [hf] at h
        simp only [Option.map_some, Option.some.injEq] at h
        subst h
        exact text4_parse n (fourV_lt hf)
    | false =>
      rw [nameV_name h0 h1 h2 h3] at h
      simp only [Option.some.injEq] at h
      subst h
      have hall := List.all_eq_true.1 (show m.all nameB = true from h1)
      rw [parseV_name (no_prefix m fun c hc => (nameB_facts c (hall c hc)).2), unpct_plain m (fun e => (nameB_facts _ (hall _ e)).1 rfl), hl]
      exact nameV_name h0 h1 h2 h3

theorem other_back (l a : List UInt8) (h : otherV l = some a) : parseV a false = some a := by
  unfold otherV at h
  split at h
  · simp at h
  · rename_i hn
    simp only [Option.some.injEq] at h
    subst h
    have hn' : (pct 1 l).any forb = false := pct_forb l (by simpa using hn)
    have h91 : ∀ c ∈ pct 1 l, c ≠ 91 := by
      rintro c hc rfl
      rw [List.any_eq_false] at hn'
      exact hn' _ hc (by decide)
    rw [parseV_other (no_prefix _ h91), otherV, if_neg (by rw [hn']; decide), pct_idem]

/-- What is answered is parsed to itself. -/
theorem parse_back (l a : List UInt8) (b : Bool) (h : parseV l b = some a) : parseV a b = some a := by
  cases hp : Lib.hasPrefix l [91] with
  | true =>
    rw [parseV_six hp] at h
    unfold bracketV at h
    split at h
    · cases hs : sixV (Lib.trimSuffix (l.drop 1) [93]) with
      | none => rw [hs] at h; simp at h
      | some x =>
        rw [hs] at h
        simp only [Option.map_some, Option.some.injEq] at h
        subst h
        exact bracket_back x (sixV_ok hs).1 (sixV_ok hs).2 b
    · simp at h
  | false =>
    cases b with
    | true => rw [parseV_name hp] at h; exact name_back _ a (low_low _) h
    | false => rw [parseV_other hp] at h; exact other_back l a h

end Go.Proofs.YtdnginibhpnefaaGreatDoor

namespace Go.Proofs.YtdnginibhpnefaaGreatDoor
/-- The port that a number is read as, of https. -/
def prt (n : Nat) : Int := if (n : Int) = 443 then -1 else n

end Go.Proofs.YtdnginibhpnefaaGreatDoor

namespace Go.Proofs.YtdnginibhpnefaaGreatDoor
theorem hexD_facts : ∀ k, k < 16 → is16I (hexD k).toNat = true ∧ val16I (hexD k).toNat = k := by decide +kernel

theorem unpct_esc (c : UInt8) (r : List UInt8) : unpct (esc c ++ r) = c :: unpct r := by
  have hc := c.toNat_lt
  have h1 := hexD_facts (c.toNat / 16) (by omega)
  have h2 := hexD_facts (c.toNat % 16) (by omega)
  have e : pcd (37 :: hexD (c.toNat / 16) :: hexD (c.toNat % 16) :: r) = (c, true) := by
    rw [pcd_three, h1.1, h2.1, h1.2, h2.2]
    simp only [Bool.and_self, if_true]
    congr 1
    apply UInt8.toNat_inj.1
    simp
    omega
  show unpct (37 :: (hexD (c.toNat / 16) :: hexD (c.toNat % 16) :: r)) = _
  rw [unpct_cons, e]
  rfl

end Go.Proofs.YtdnginibhpnefaaGreatDoor

namespace Go.Proofs.YtdnginibhpnefaaGreatDoor
theorem is16_5 (c : UInt8) (h : is16I c.toNat = true) : inSetI c.toNat 5 = false := by
  have := u8_all (P := fun c => !is16I c.toNat || !inSetI c.toNat 5) (by decide +kernel) c
  simp only [Bool.or_eq_true, Bool.not_eq_true'] at this
  rcases this with h' | h'
  · rw [h] at h'; cases h'
  · exact h'

theorem is16_37 : is16I (37 : UInt8).toNat = false := by decide

theorem pct_cons (k : Int) (c : UInt8) (l : List UInt8) : pct k (c :: l) = pct1 k c ++ pct k l := rfl

theorem pct1_in {k : Int} {c : UInt8} (h : inSetI c.toNat k = true) : pct1 k c = [37, hexD (c.toNat / 16), hexD (c.toNat % 16)] := by unfold pct1; rw [if_pos h]; rfl

theorem pct1_out {k : Int} {c : UInt8} (h : inSetI c.toNat k = false) : pct1 k c = [c] := by unfold pct1; rw [h]; rfl

theorem unpct_ne {c : UInt8} {l : List UInt8} (h : c ≠ 37) : unpct (c :: l) = c :: unpct l := by rw [unpct_cons, pcd_other l c h]; rfl

theorem unpct_37_no {l : List UInt8} (h : pcd (37 :: l) = (37, false)) : unpct (37 :: l) = 37 :: unpct l := by
  rw [unpct_cons, h]; rfl

theorem unpct_pct5 : ∀ (n : Nat) (p : List UInt8), p.length ≤ n → unpct (pct 5 p) = unpct p := by
  intro n
  induction n with
  | zero =>
    intro p h
    have : p = [] := List.eq_nil_of_length_eq_zero (by omega)
    subst this; rfl
  | succ n ih =>
    intro p h
    match p, h with
    | [], _ => rfl
    | c :: l, h =>
      have hl : l.length ≤ n := by simp at h; omega
      by_cases hc : inSetI c.toNat 5 = true
      · have hne : c ≠ 37 := fun e => by subst e; exact absurd hc (by decide)
        rw [pct_cons]
        unfold pct1
        rw [if_pos hc, unpct_esc, ih l hl, unpct_ne hne]
      · have hc' : inSetI c.toNat 5 = false := by simpa using hc
        rw [pct_cons, pct1_out hc', List.singleton_append]
        by_cases h37 : c = 37
        · subst h37
          by_cases hb : ∃ a b r, l = a :: b :: r ∧ (is16I a.toNat && is16I b.toNat) = true
          · obtain ⟨a, b, r, rfl, hab⟩ := hb
            have hab' := hab
            rw [Bool.and_eq_true] at hab'
            rw [pct_cons, pct1_out (is16_5 a hab'.1), pct_cons, pct1_out (is16_5 b hab'.2), List.singleton_append, List.singleton_append]
            rw [unpct_cons, unpct_cons, pcd_three, pcd_three, hab]
            simp only [if_true]
            rw [List.drop_succ_cons, List.drop_succ_cons, List.drop_zero, List.drop_succ_cons, List.drop_succ_cons, List.drop_zero, ih r (by simp at hl; omega)]
          · have h1 : pcd (37 :: l) = (37, false) := by
              match l, hb with
              | [], _ => exact pcd_short [] 37 (by simp)
              | [a], _ => exact pcd_short [a] 37 (by simp)
              | a :: b :: r, hb =>
                rw [pcd_three, if_neg (fun e => hb ⟨a, b, r, rfl, e⟩)]
            have h2 : pcd (37 :: pct 5 l) = (37, false) := by
              match l, hb with
              | [], _ => exact pcd_short [] 37 (by simp)
              | a :: l', hb =>
                by_cases ha : inSetI a.toNat 5 = true
                · rw [pct_cons, pct1_in ha]
                  show pcd (37 :: 37 :: hexD (a.toNat / 16) :: (hexD (a.toNat % 16) :: pct 5 l')) = _
                  rw [pcd_three, is16_37, Bool.false_and]; rfl
                · have ha' : inSetI a.toNat 5 = false := by simpa using ha
                  rw [pct_cons, pct1_out ha', List.singleton_append]
                  match l', hb with
                  | [], _ => exact pcd_short [a] 37 (by simp)
                  | b :: r, hb =>
                    by_cases hbs : inSetI b.toNat 5 = true
                    · rw [pct_cons, pct1_in hbs]
                      show pcd (37 :: a :: 37 :: (hexD (b.toNat / 16) :: hexD (b.toNat % 16) :: pct 5 r)) = _
                      rw [pcd_three, is16_37, Bool.and_false]; rfl
                    · have hb' : inSetI b.toNat 5 = false := by simpa using hbs
                      rw [pct_cons, pct1_out hb', List.singleton_append, pcd_three, if_neg (fun e => hb ⟨a, b, r, rfl, e⟩)]
            rw [unpct_37_no h1, unpct_37_no h2, ih l hl]
        · rw [unpct_ne h37, unpct_ne h37, ih l hl]

theorem dots_pct5 (p : List UInt8) : dotsV (pct 5 p) = dotsV p := by
  unfold dotsV
  rw [unpct_pct5 p.length p (Nat.le_refl _)]

/-- A part of a path that is read as itself. -/
def Part2 (p : List UInt8) : Prop := dotsV p = 0 ∧ pct 5 p = p ∧ 47 ∉ p

theorem pathL_back : ∀ (L out : List (List UInt8)), (∀ p ∈ L, Part2 p) → pathL out L = out ++ L
  | [], out, _ => by rw [pathL, List.append_nil]
  | [p], out, h => by
    have hp := h p (by simp)
    rw [pathL_last, stepP0 hp.1, hp.2.1]
  | p :: q :: r, out, h => by
    have hp := h p (by simp)
    rw [pathL_more out p (q :: r) (by simp), stepP0 hp.1, hp.2.1, pathL_back (q :: r) _ fun x hx => h x (by simp [hx])]
    simp

theorem cut_back : ∀ (p : List UInt8) (L : List (List UInt8)), 47 ∉ p → (∀ q ∈ L, Part2 q) → cutL 47 (p ++ L.flatMap (fun q => 47 :: q)) = p :: L
  | p, [], hp, _ => by rw [List.flatMap_nil, List.append_nil, cutL_none 47 p hp]
  | p, q :: L, hp, h => by
    rw [List.flatMap_cons, List.cons_append, cutL_some 47 p _ hp, cut_back q L (h q (by simp)).2.2 fun x hx => h x (by simp [hx])]

/-- A path that is written is read. -/
theorem path_back (sp : Bool) (L : List (List UInt8)) (h : ∀ p ∈ L, Part2 p) (hsp : sp = true → L ≠ []) : pathV sp [] (L.flatMap (fun q => 47 :: q)) = L := by
  cases L with
  | nil =>
    cases sp with
    | true => exact absurd rfl (hsp rfl)
    | false => rfl
  | cons p L =>
    unfold pathV
    rw [if_neg (by simp), List.flatMap_cons]
    have : over1 (47 :: p ++ L.flatMap (fun q => 47 :: q)) = p ++ L.flatMap (fun q => 47 :: q) := by simp [over1]
    rw [this, cut_back p L (h p (by simp)).2.2 (fun x hx => h x (by simp [hx])), pathL_back _ _ h, List.nil_append]

/-! ### Hosts and ports -/

theorem text6_gen (P : UInt8 → Bool) (h58 : P 58 = true) (hd : ∀ n < 16, P (digC n) = true) : ∀ (x : List Nat), ∀ c ∈ text6 x, P c = true := by
  have hN : ∀ (f n : Nat) (acc : List UInt8), (∀ c ∈ acc, P c = true) → ∀ c ∈ digsN 16 f n acc, P c = true := by
    intro f
    induction f with
    | zero => intro n acc h; exact h
    | succ f ih =>
      intro n acc h
      rw [digsN]
      split
      · intro c hc
        rcases List.mem_cons.1 hc with rfl | hc
        · exact hd n (by omega)
        · exact h c hc
      · refine ih _ _ fun c hc => ?_
        rcases List.mem_cons.1 hc with rfl | hc
        · exact hd _ (Nat.mod_lt _ (by omega))
        · exact h c hc
  have hj : ∀ (x : List Nat), ∀ c ∈ joined x, P c = true := by
    intro x
    induction x with
    | nil => rw [joined_nil]; simp
    | cons a l ih =>
      cases l with
      | nil => rw [joined_one]; exact hN 4 a [] (by simp)
      | cons b l =>
        rw [joined_cons]
        intro c hc
        rcases List.mem_append.1 hc with hc | hc
        · exact hN 4 a [] (by simp) c hc
        · rcases List.mem_append.1 hc with hc | hc
          · obtain rfl := List.mem_singleton.1 hc; exact h58
          · exact ih c hc
  intro x
  unfold text6
  split
  · exact hj x
  · intro c hc
    rcases List.mem_append.1 hc with hc | hc
    · exact hj _ c hc
    · rcases List.mem_append.1 hc with hc | hc
      · rcases List.mem_cons.1 hc with rfl | hc
        · exact h58
        · obtain rfl := List.mem_singleton.1 hc; exact h58
      · exact hj _ c hc

/-- A host whose colons stand between brackets alone. -/
def HostCol (h : List UInt8) : Prop := (∀ c ∈ h, c ≠ 58 ∧ c ≠ 91) ∨ ∃ t, h = 91 :: (t ++ [93]) ∧ 93 ∉ t

theorem dec8_gen (n : Nat) (h : n < 256) : ∀ c ∈ dec8 n, c ≠ 58 ∧ c ≠ 91 := by
  have : ∀ n < 256, ∀ c ∈ dec8 n, c ≠ 58 ∧ c ≠ 91 := by decide +kernel
  exact this n h

theorem host_col {l a : List UInt8} {b : Bool} (h : parseV l b = some a) : HostCol a := by
  unfold parseV at h
  split at h
  · unfold bracketV at h
    split at h
    · cases hs : sixV (Lib.trimSuffix (l.drop 1) [93]) with
      | none => rw [hs] at h; cases h
      | some x =>
        rw [hs] at h
        simp only [Option.map_some, Option.some.injEq] at h
        refine .inr ⟨text6 x, h.symm, fun e => ?_⟩
        have := text6_gen (fun c => c != 93) (by decide) (by decide +kernel) x 93 e
        exact absurd this (by decide)
    · cases h
  · split at h
    · unfold nameV at h
      split at h
      · cases h
      · rename_i hn
        split at h
        · cases hf : fourV (low (unpct l)) with
          | none => rw [hf] at h; cases h
          | some n =>
            rw [hf] at h
            simp only [Option.map_some, Option.some.injEq] at h
            rw [← h]
            refine .inl fun c hc => ?_
            have hm : ∀ k : Nat, k % 256 < 256 := fun k => Nat.mod_lt _ (by decide)
            unfold text4 at hc
            rcases List.mem_append.1 hc with hc | hc
            · exact dec8_gen _ (hm _) c hc
            · rcases List.mem_cons.1 hc with rfl | hc
              · decide
              · rcases List.mem_append.1 hc with hc | hc
                · exact dec8_gen _ (hm _) c hc
                · rcases List.mem_cons.1 hc with rfl | hc
                  · decide
                  · rcases List.mem_append.1 hc with hc | hc
                    · exact dec8_gen _ (hm _) c hc
                    · rcases List.mem_cons.1 hc with rfl | hc
                      · decide
                      · exact dec8_gen _ (hm _) c hc
        · simp only [Option.some.injEq] at h
          rw [← h]
          refine .inl fun c hc => ?_
          have hall : allN (low (unpct l)) = true := by
            cases he : allN (low (unpct l)) with
            | true => rfl
            | false => exact absurd (.inr (.inl he)) hn
          have h1 := List.all_eq_true.1 hall c hc
          constructor
          · rintro rfl; exact absurd h1 (by decide)
          · rintro rfl; exact absurd h1 (by decide)
    · unfold otherV at h
      split at h
      · cases h
      · rename_i hn
        simp only [Option.some.injEq] at h
        have hf := pct_forb l (by simpa using hn)
        rw [h] at hf
        refine .inl fun c hc => ?_
        have h1 : forb c = false := by
          cases he : forb c with
          | false => rfl
          | true => rw [List.any_eq_true.2 ⟨c, hc, he⟩] at hf; cases hf
        constructor
        · rintro rfl; exact absurd h1 (by decide)
        · rintro rfl; exact absurd h1 (by decide)

theorem colN_true : ∀ (t r : List UInt8) (i k : Nat), 93 ∉ t → colN true i k (t ++ 93 :: r) = colN false (i + t.length + 1) k r
  | [], r, i, k, _ => by rw [List.nil_append, colN, if_pos rfl]; rfl
  | c :: t, r, i, k, h => by
    rw [List.cons_append, colN, if_neg (fun e => h (by rw [e]; simp)), colN_true t r (i + 1) k fun e => h (by simp [e])]
    congr 1
    simp; omega

theorem col_host (h pt : List UInt8) (hc : HostCol h) (hp : pt = [] ∨ ∃ t, pt = 58 :: t ∧ ∀ c ∈ t, c ≠ 58 ∧ c ≠ 91) : colV (h ++ pt) = h.length := by
  have key : ∀ (i k : Nat), (pt = [] → colN false i k pt = k) ∧ (pt ≠ [] → colN false i k pt = i) := by
    intro i k
    rcases hp with rfl | ⟨t, rfl, ht⟩
    · exact ⟨fun _ => rfl, fun e => absurd rfl e⟩
    · refine ⟨fun e => (by cases e), fun _ => ?_⟩
      rw [colN, if_pos rfl, colN_plain t _ _ ht]
  rcases hc with hc | ⟨t, rfl, ht⟩
  · rcases hp with rfl | ⟨t, rfl, ht⟩
    · rw [List.append_nil, colV, colN_plain h _ _ hc]
    · rw [colV, colN_at11 h t 0 _ hc ht, Nat.zero_add]
  · unfold colV
    rw [List.cons_append, colN, if_neg (by decide), if_pos rfl, List.append_assoc, List.singleton_append, colN_true t pt _ _ ht]
    by_cases he : pt = []
    · (rw [(key _ _).1 he, he]) <;> (try simp)
    · (rw [(key _ _).2 he]) <;> (try simp) <;> (try omega)

end Go.Proofs.YtdnginibhpnefaaGreatDoor
