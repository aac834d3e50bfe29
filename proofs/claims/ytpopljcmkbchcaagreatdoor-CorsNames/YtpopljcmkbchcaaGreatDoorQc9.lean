/-
  Walks and plain facts that this claim leans on, put together out of 8 texts: Vn, Hd, He, Hf, Vr, Rm, Hh, Hi.
-/
import Derived.Test.YtpopljcmkbchcaaGreatDoorProg
import Derived.Test.YtpopljcmkbchcaaGreatDoorQc1
import Derived.Test.YtpopljcmkbchcaaGreatDoorQc8
import Derived.Lib.IndexMore
import Derived.Lib.Join
import Derived.Lib.LastIndexByte
import Derived.WalkKit
import Derived.Lib.Strings
import Derived.Lib.UnsafeStr
import Derived.Laws.IdiomStrings
import Derived.Laws.AppendOwn
import Derived.Laws.BitsAllLaws
import Derived.Lib.Bytealg
import Derived.Lib.BufferMore
import Derived.Shelf.Strings.Builder1
import Derived.Shelf.Strings.Builder2
import Derived.Shelf.Strings.OnBuilder
import Derived.Shelf.Strings.Trim
import Derived.Shelf.Small.Utf8
import Derived.Shelf.Small.Bits
import Derived.Shelf.Small.Strs
import Derived.Shelf.Small.Wraps
import Derived.Shelf.Strings.BuilderF
import Derived.Shelf.Strings.BuilderK
import Derived.Shelf.Strings.BuilderRune
import Derived.Shelf.Utf8.AppendRune
import Derived.Shelf.Utf8.AppendRunePlain
import Derived.Shelf.Strings.Builder2Cap
import Derived.Shelf.Strconv.Itoa0
import Derived.Shelf.Strconv.Itoa1
import Derived.Shelf.LaysM
import Derived.Shelf.Strconv.Itoa2
import Derived.Shelf.Strconv.Itoa3
import Derived.Shelf.Strings.Search1
import Derived.Shelf.Strings.Search2
import Derived.Shelf.Strings.Cut
import Derived.Shelf.Strings.Shaped
import Derived.Shelf.Sort.Plain
import Derived.Shelf.Strings.Prefix
import Derived.Shelf.Unicode.Latin
import Derived.Shelf.Strings.Runes
import Derived.Shelf.Strings.IndexAny
import Derived.Shelf.Strings.AsciiSet
import Derived.Shelf.Strings.IndexAnyAll
import Derived.Shelf.Unicode.DecodeSlow
import Derived.Shelf.Unicode.DecodeAny
import Derived.Shelf.Unicode.DecodeLast
import Derived.Shelf.Unicode.CaseLookup
import Derived.Shelf.Unicode.CaseConvert
import Derived.Shelf.Unicode.CaseTo
import Derived.Shelf.Unicode.CaseLaid
import Derived.Shelf.Slices.CompactS
import Derived.Shelf.Slices.In.SortNone
import Derived.WalkSpells
import Derived.WalkLawsBesides
import Derived.Lib.AppendIntMem
import Derived.Lib.SmallJoins
import Derived.WalkSmall
import Derived.WalkMore
import Derived.Deep.LoopGhost
import Derived.OwnWalk
import Derived.Laws.CopyOwn
import Derived.Laws.ResultCell
import Derived.Deep.MidRow
import Derived.Deep.RegionWith
import Derived.Lib.FrozenHead2
import Derived.Lib.OthersKept
import Derived.Lib.Builder
set_option linter.unusedSimpArgs false
set_option linter.unusedVariables false

namespace Go.Proofs.YtpopljcmkbchcaaGreatDoor
open Go.RowKit

theorem dotN_lt : ∀ (r h : Nat) (l : List UInt8) (n : Nat), r ≤ 4 → h < 2 ^ (8 * (4 - r)) → dotN r h l = some n → n < 4294967296
 | 0, h, _, n, _, hh, e => by
  rw [dotN] at e
  cases e
  exact hh
 | r + 1, h, l, n, hr, hh, e => by
  rw [dotN] at e
  split at e
  ·cases e
  ·rename_i b hb
   split at e
   ·refine dotN_lt r _ _ n (by omega) ?_ e
    have e2 : 8 * (4 - r) = 8 * (4 - (r + 1)) + 8 := by omega
    have := plainB_le hb
    rw [e2, Nat.pow_add]
    omega
   ·cases e

theorem scanP_lt (whole : Option Nat) (last : Bool) (hw : ∀ m, whole = some m → m < 4294967296) : ∀ (l : List UInt8) (i n : Nat) (ns : List Nat), i ≤ 4 → n < 16 ^ i → scanP whole last i n l = some ns → ns.length ≤ 2 ∧ ∀ m ∈ ns, m < 65536
 | [], i, n, ns, hi, hn, e => by
  rw [scanP] at e
  split at e
  ·cases e
  ·cases e
   have h4 : 16 ^ i ≤ 16 ^ 4 := Nat.pow_le_pow_right (by omega) hi
   rw [show 16 ^ 4 = 65536 from rfl] at h4
   refine ⟨by simp, fun m hm => ?_⟩
   rw [List.mem_singleton] at hm
   omega
 | c :: l, i, n, ns, hi, hn, e => by
  rw [scanP] at e
  split at e
  ·cases hwh : whole with
   | none => rw [hwh] at e; cases e
   | some m =>
    rw [hwh] at e
    cases e
    have := hw m hwh
    refine ⟨by simp, fun k hk => ?_⟩
    simp at hk
    omega
  ·split at e
   ·rename_i h
    refine scanP_lt whole last hw l (i + 1) _ ns (by omega) ?_ e
    rw [Nat.pow_succ]
    omega
   ·cases e

theorem piecesN_lt (atEnd : Bool) : ∀ (f : Nat) (out : List Nat) (l : List UInt8) (m : Bool) (r : List Nat), (∀ n ∈ out, n < 65536) → piecesN atEnd f out l m = some r → ∀ n ∈ r, n < 65536
 | f, out, l, false, r, ho, e => by
  rw [piecesN_done] at e
  cases e; exact ho
 | 0, out, l, true, r, ho, e => by cases e
 | f + 1, out, l, true, r, ho, e => by
  rw [piecesN] at e
  split at e
  ·cases e
  ·rename_i ns hns
   refine piecesN_lt atEnd f _ _ _ r ?_ e
   intro n hn
   rcases List.mem_append.1 hn with h | h
   ·exact ho n h
   ·exact (scanP_lt _ _ (fun m hm => dotN_lt 4 0 _ m (by omega) (by decide) hm) _ 0 0 ns (by omega) (by decide) hns).2 n h

theorem sixV_ok {l : List UInt8} {x : List Nat} (h : sixV l = some x) : x.length = 8 ∧ ∀ n ∈ x, n < 65536 := by
 unfold sixV at h
 split at h
 ·rename_i a b ha hb
  split at h
  ·rename_i hc
   cases h
   refine ⟨by simp; omega, fun n hn => ?_⟩
   rcases List.mem_append.1 hn with hn | hn
   ·rcases List.mem_append.1 hn with hn | hn
    ·exact piecesN_lt _ _ _ _ _ a (by simp) ha n hn
    ·have := List.eq_of_mem_replicate hn; omega
   ·exact piecesN_lt _ _ _ _ _ b (by simp) hb n hn
  ·cases h
 ·cases h

theorem bracketV_open {l : List UInt8} (h : Lib.hasSuffix l [93] = false) : bracketV l = none := by rw [bracketV, h]; rfl

theorem bracketV_none {l : List UInt8} (h : Lib.hasSuffix l [93] = true) (h2 : sixV (Lib.trimSuffix l [93]) = none) : bracketV l = none := by rw [bracketV, if_pos h, h2]; rfl

theorem bracketV_some {l : List UInt8} {x : List Nat} (h : Lib.hasSuffix l [93] = true) (h2 : sixV (Lib.trimSuffix l [93]) = some x) : bracketV l = some (91 :: (text6 x ++ [93])) := by rw [bracketV, if_pos h, h2]; rfl

theorem text6_le (x : List Nat) (h8 : x.length = 8) : (text6 x).length ≤ 100 := by
 unfold text6
 have h1 := joined_le x
 have h2 := joined_le (x.take (lrun x).1)
 have h3 := joined_le (x.drop (lrun x).2)
 have e1 : (x.take (lrun x).1).length ≤ 8 := by simp; omega
 have e2 : (x.drop (lrun x).2).length ≤ 8 := by simp; omega
 split
 ·omega
 ·simp; omega

theorem parseV_six {l : List UInt8} {b : Bool} (h : Lib.hasPrefix l [91] = true) : parseV l b = bracketV (l.drop 1) := by rw [parseV, if_pos h]

theorem parseV_name {l : List UInt8} (h : Lib.hasPrefix l [91] = false) : parseV l true = nameV (low (unpct l)) := by rw [parseV, h]; rfl

theorem parseV_other {l : List UInt8} (h : Lib.hasPrefix l [91] = false) : parseV l false = otherV l := by rw [parseV, h]; rfl

theorem unpct_le (l : List UInt8) : (unpct l).length ≤ l.length := by
 have key : ∀ (f : Nat) (l : List UInt8), (unpctN f l).length ≤ l.length := by
  intro f
  induction f with
  | zero => intro l; simp [unpctN]
  | succ f ih =>
   intro l
   cases l with
   | nil => simp [unpctN]
   | cons c l =>
    rw [unpctN, List.length_cons, List.length_cons]
    have := ih (if (pcd (c :: l)).2 then l.drop 2 else l)
    split at this
    ·rename_i h; rw [if_pos h]; simp at this; omega
    ·rename_i h; rw [if_neg h]; omega
 exact key _ _

theorem low_length (l : List UInt8) : (low l).length = l.length := by simp [low]

end Go.Proofs.YtpopljcmkbchcaaGreatDoor

namespace Go.Proofs.YtpopljcmkbchcaaGreatDoor
def digs (base n : Nat) : List UInt8 := digsN base 40 n []

theorem dig16_digC : ∀ n < 16, dig16 (digC n) = n := by decide

theorem valN_digs (base : Nat) (h2 : 2 ≤ base) (h16 : base ≤ 16) : ∀ (f u : Nat) (T : List UInt8), u < base ^ f → u ≤ 4294967296 → f ≠ 0 → valN base 0 (digsN base f u T) = valN base u T
 | 0, _, _, _, _, h => absurd rfl h
 | f + 1, u, T, hu, hc, _ => by
  by_cases h : u < base
  ·rw [digsN_last _ _ _ _ h, valN, dig16_digC u (by omega), if_pos h]
   congr 1; omega
  ·have hf : f ≠ 0 := by
    rintro rfl
    simp at hu
    omega
   have hd : u / base < base ^ f := by
    rw [Nat.div_lt_iff_lt_mul (by omega)]
    rw [Nat.pow_succ] at hu
    exact hu
   have hle : u / base ≤ u := Nat.div_le_self _ _
   have hm : u % base < base := Nat.mod_lt _ (by omega)
   rw [digsN_more _ _ _ _ h, valN_digs base h2 h16 f _ _ hd (by omega) hf, valN, dig16_digC _ (by omega), if_pos hm]
   have e : u / base * base + u % base = u := by rw [Nat.mul_comm]; exact Nat.div_add_mod u base
   rw [e]
   congr 1; omega

theorem valV_digs (base n : Nat) (h2 : 2 ≤ base) (h16 : base ≤ 16) (hn : n ≤ 4294967296) : valV base (digs base n) = some n := by
 have hp : n < base ^ 40 := by
  have h1 : 2 ^ 40 ≤ base ^ 40 := Nat.pow_le_pow_left h2 40
  have h3 : (4294967296 : Nat) < 2 ^ 40 := by decide
  omega
 have := valN_digs base h2 h16 40 n [] hp hn (by decide)
 rw [valN] at this
 exact this

def numC (c : UInt8) : Bool := decide (dig16 c < 16) && !(decide (65 ≤ c.toNat) && decide (c.toNat ≤ 70))

theorem numC_digC : ∀ n < 16, numC (digC n) = true := by decide

theorem digsN_all (p : UInt8 → Bool) (base : Nat) (hb : 1 ≤ base) (hp : ∀ n < base, p (digC n) = true) : ∀ (f u : Nat) (T : List UInt8), T.all p = true → (digsN base f u T).all p = true
 | 0, _, T, h => by rw [digsN]; exact h
 | f + 1, u, T, h => by
  rw [digsN]
  split
  ·rename_i hu
   rw [List.all_cons, hp u hu, h]; rfl
  ·refine digsN_all p base hb hp f _ _ ?_
   rw [List.all_cons, hp _ (Nat.mod_lt _ (by omega)), h]; rfl

theorem digsN_ne (base : Nat) : ∀ (f u : Nat) (T : List UInt8), T ≠ [] ∨ f ≠ 0 → digsN base f u T ≠ []
 | 0, _, T, h => by rw [digsN]; exact h.resolve_right (by simp)
 | f + 1, u, T, _ => by
  rw [digsN]
  split
  ·simp
  ·exact digsN_ne base f _ _ (.inl (by simp))

theorem digs_ne (base n : Nat) : digs base n ≠ [] := digsN_ne _ _ _ _ (.inr (by decide))

theorem digsN_head (base : Nat) (h2 : 2 ≤ base) (h16 : base ≤ 16) : ∀ (f u : Nat) (T : List UInt8), 0 < u → u < base ^ f → ∃ c r, digsN base f u T = c :: r ∧ c ≠ 48
 | 0, u, _, h0, hu => by simp at hu; omega
 | f + 1, u, T, h0, hu => by
  rw [digsN]
  split
  ·rename_i h
   refine ⟨_, _, rfl, ?_⟩
   have key : ∀ n < 16, 0 < n → digC n ≠ 48 := by decide
   exact key u (by omega) h0
  ·rename_i h
   refine digsN_head base h2 h16 f _ _ (Nat.div_pos (by omega) (by omega)) ?_
   rw [Nat.div_lt_iff_lt_mul (by omega)]
   rw [Nat.pow_succ] at hu
   exact hu

theorem digs_zero (base : Nat) (h : 1 ≤ base) : digs base 0 = [48] := by
 unfold digs
 rw [digsN, if_pos (by omega)]; rfl

theorem digs_head (base n : Nat) (h2 : 2 ≤ base) (h16 : base ≤ 16) (h0 : 0 < n) (hn : n ≤ 4294967296) : ∃ c r, digs base n = c :: r ∧ c ≠ 48 := by
 have hp : n < base ^ 40 := by
  have h1 : 2 ^ 40 ≤ base ^ 40 := Nat.pow_le_pow_left h2 40
  have h3 : (4294967296 : Nat) < 2 ^ 40 := by decide
  omega
 exact digsN_head base h2 h16 40 n [] h0 hp

theorem not_marked_head (c : UInt8) (r : List UInt8) (h : c ≠ 48) : marked (c :: r) = false := by
 simp [marked, Lib.hasPrefix, List.isPrefixOf]
 exact ⟨fun e => absurd e.symm h, fun e => absurd e.symm h⟩

theorem num_dec (n : Nat) (hn : n ≤ 4294967296) : numV (digs 10 n) = some n := by
 rcases Nat.eq_zero_or_pos n with rfl | h0
 ·rw [digs_zero 10 (by omega)]; decide
 ·obtain ⟨c, r, e, hc⟩ := digs_head 10 n (by omega) (by omega) h0 hn
  have hv := valV_digs 10 n (by omega) (by omega) hn
  rw [e] at hv ⊢
  rw [numV_ten (not_marked_head c r hc) hc]
  exact hv

theorem index_one_none (l : List UInt8) (c : UInt8) (h : c ∉ l) : Lib.index l [c] = -1 := by
 induction l with
 | nil => rfl
 | cons a l ih =>
  have ha : a ≠ c := fun e => h (by simp [e])
  have hl : c ∉ l := fun e => h (by simp [e])
  unfold Lib.index
  rw [ih hl]
  have : [c].isPrefixOf (a :: l) = false := by simp [List.isPrefixOf]; exact fun e => ha e.symm
  rw [this]; rfl

theorem index_one_some (a r : List UInt8) (c : UInt8) (h : c ∉ a) : Lib.index (a ++ c :: r) [c] = a.length := by
 induction a with
 | nil => unfold Lib.index; simp [List.isPrefixOf]
 | cons x a ih =>
  have hx : x ≠ c := fun e => h (by simp [e])
  have ha : c ∉ a := fun e => h (by simp [e])
  rw [List.cons_append]
  unfold Lib.index
  rw [ih ha]
  have : [c].isPrefixOf (x :: (a ++ c :: r)) = false := by simp [List.isPrefixOf]; exact fun e => hx e.symm
  rw [this]
  have h1 : ((a.length : Int) == -1) = false := by rw [beq_eq_false_iff_ne]; omega
  simp [h1]

theorem cut_none (l : List UInt8) (c : UInt8) (h : c ∉ l) : Lib.cut l [c] = (l, [], false) := by
 unfold Lib.cut
 rw [index_one_none l c h]; rfl

theorem cut_some (a r : List UInt8) (c : UInt8) (h : c ∉ a) : Lib.cut (a ++ c :: r) [c] = (a, r, true) := by
 unfold Lib.cut
 rw [index_one_some a r c h]
 simp

theorem noDot_none (l : List UInt8) (c : UInt8) (h : c ≠ 46) : noDot (l ++ [c]) = l ++ [c] := by
 unfold noDot Lib.trimSuffix
 rw [if_neg]
 unfold Lib.hasSuffix
 rw [List.isSuffixOf_iff_suffix]
 rintro ⟨t, ht⟩
 have := List.append_inj_right' ht rfl
 simp at this
 exact h this.symm

theorem noDot_dot (l : List UInt8) : noDot (l ++ [46]) = l := by
 unfold noDot Lib.trimSuffix
 rw [if_pos]
 ·simp
 ·unfold Lib.hasSuffix
  rw [List.isSuffixOf_iff_suffix]
  exact ⟨l, rfl⟩

theorem noDot_of (l : List UInt8) (h : ∀ t, l ≠ t ++ [46]) : noDot l = l := by
 unfold noDot Lib.trimSuffix
 rw [if_neg]
 unfold Lib.hasSuffix
 rw [List.isSuffixOf_iff_suffix]
 rintro ⟨t, ht⟩
 exact h t ht.symm

end Go.Proofs.YtpopljcmkbchcaaGreatDoor

namespace Go.Proofs.YtpopljcmkbchcaaGreatDoor
def hostC (c : UInt8) : Bool := numC c || (c == 46 || c == 120)

theorem hostC_facts (c : UInt8) (h : hostC c = true) : nameB c = true ∧ lowC c = c ∧ c ≠ 37 ∧ c ≠ 45 ∧ c ≠ 91 := by
 have key : ∀ n < 256, hostC (UInt8.ofNat n) = true → nameB (UInt8.ofNat n) = true ∧ lowC (UInt8.ofNat n) = UInt8.ofNat n ∧ UInt8.ofNat n ≠ 37 ∧ UInt8.ofNat n ≠ 45 ∧ UInt8.ofNat n ≠ 91 := by decide +kernel
 have e : UInt8.ofNat c.toNat = c := by simp
 have := key c.toNat c.toNat_lt
 rw [e] at this
 exact this h

theorem unpct_plain : ∀ (l : List UInt8), 37 ∉ l → unpct l = l
 | [], _ => rfl
 | c :: l, h => by
  have hc : c ≠ 37 := fun e => h (by simp [e])
  rw [unpct_cons, pcd_other l c hc]
  simp only [Bool.false_eq_true, if_false]
  rw [unpct_plain l (fun e => h (by simp [e]))]

theorem low_plain (l : List UInt8) (h : ∀ c ∈ l, lowC c = c) : low l = l := by
 unfold low
 rw [List.map_congr_left h]; simp

theorem index_infix : ∀ (l sub : List UInt8), Lib.index l sub ≠ -1 → ∃ a b, l = a ++ (sub ++ b)
 | [], sub, h => by
  unfold Lib.index at h
  split at h
  ·rename_i hs
   have : sub = [] := by simpa using hs
   exact ⟨[], [], by rw [this]; rfl⟩
  ·exact absurd rfl h
 | c :: l, sub, h => by
  unfold Lib.index at h
  split at h
  ·rename_i hp
   rw [List.isPrefixOf_iff_prefix] at hp
   obtain ⟨b, hb⟩ := hp
   exact ⟨[], b, by rw [← hb]; rfl⟩
  ·split at h
   ·exact absurd rfl h
   ·rename_i hn
    obtain ⟨a, b, e⟩ := index_infix l sub (by simpa using hn)
    exact ⟨c :: a, b, by rw [e]; rfl⟩

theorem coded_minus (l : List UInt8) (h : 45 ∉ l) : coded l = false := by
 unfold coded
 rw [Bool.or_eq_false_iff]
 constructor
 ·rw [← Bool.not_eq_true]
  intro hp
  rw [Lib.hasPrefix, List.isPrefixOf_iff_prefix] at hp
  obtain ⟨b, hb⟩ := hp
  exact h (by rw [← hb]; simp)
 ·rw [Lib.contains, decide_eq_false_iff_not]
  intro hi
  obtain ⟨a, b, e⟩ := index_infix l [46, 120, 110, 45, 45] (by omega)
  exact h (by rw [e]; simp)

theorem hostC_all {l : List UInt8} (h : l.all hostC = true) : ∀ c ∈ l, hostC c = true := List.all_eq_true.1 h

theorem host_num (l : List UInt8) (n : Nat) (h0 : l ≠ []) (hall : l.all hostC = true) (hn : numberedV l = true) (hf : fourV l = some n) : parseV l true = some (text4 n) := by
 have ha := hostC_all hall
 have h37 : 37 ∉ l := fun e => (hostC_facts _ (ha _ e)).2.2.1 rfl
 have h45 : 45 ∉ l := fun e => (hostC_facts _ (ha _ e)).2.2.2.1 rfl
 have hp : Lib.hasPrefix l [91] = false := by
  rw [← Bool.not_eq_true]
  intro hp
  rw [Lib.hasPrefix, List.isPrefixOf_iff_prefix] at hp
  obtain ⟨b, hb⟩ := hp
  exact (hostC_facts 91 (ha 91 (by rw [← hb]; simp))).2.2.2.2 rfl
 rw [parseV_name hp, unpct_plain l h37, low_plain l (fun c hc => (hostC_facts c (ha c hc)).2.1)]
 rw [nameV_num h0 (List.all_eq_true.2 fun c hc => (hostC_facts c (ha c hc)).1) (coded_minus l h45) hn, hf]
 rfl

theorem noDot_tail (pre t : List UInt8) (ht : t ≠ []) (h46 : 46 ∉ t) : noDot (pre ++ t) = pre ++ t := by
 have e := List.dropLast_concat_getLast ht
 have hl : t.getLast ht ≠ 46 := fun h => h46 (by rw [← h]; exact List.getLast_mem ht)
 rw [← e, ← List.append_assoc]
 exact noDot_none _ _ hl

theorem numbered_lab (l t : List UInt8) (hl : lastLab (noDot l) = t) (h : (marked t = true ∧ (valV 16 (t.drop 2)).isSome = true) ∨ (marked t = false ∧ t ≠ [] ∧ (valV 10 t).isSome = true)) : numberedV l = true := by
 unfold numberedV
 rw [hl]
 rcases h with ⟨h1, h2⟩ | ⟨h1, h2, h3⟩
 ·rw [if_pos h1]; exact h2
 ·rw [if_neg (by rw [h1]; decide)]; simp [h2, h3]

theorem four_one (r h n : Nat) (t : List UInt8) (hn : numV t = some n) (h46 : 46 ∉ t) (hlt : n < 2 ^ (8 * (r + 1))) : fourN (r + 1) h t = some (h * 2 ^ (8 * (r + 1)) + n) :=
 fourN_last (by rw [cut_none t 46 h46]; exact hn) (by rw [cut_none t 46 h46]) hlt

theorem four_cons (r h n : Nat) (a t : List UInt8) (hn : numV a = some n) (h46 : 46 ∉ a) (hlt : n ≤ 255) : fourN (r + 1) h (a ++ 46 :: t) = fourN r (h * 256 + n) t := by
 rw [fourN_more (n := n) (by rw [cut_some a t 46 h46]; exact hn) (by rw [cut_some a t 46 h46]) (by omega), cut_some a t 46 h46]

theorem digs_no (base n : Nat) (c : UInt8) (hb : 1 ≤ base) (hc : ∀ k < base, digC k ≠ c) : c ∉ digs base n := by
 intro hm
 have := digsN_all (fun x => x != c) base hb (fun k hk => by simpa using hc k hk) 40 n [] rfl
 have h2 := List.all_eq_true.1 this c hm
 simp at h2

theorem digs_hostC (base n : Nat) (hb : 1 ≤ base) (h16 : base ≤ 16) : (digs base n).all hostC = true := by
 refine digsN_all hostC base hb (fun k hk => ?_) 40 n [] rfl
 rw [hostC, numC_digC k (by omega)]; rfl

theorem dec8_digs : ∀ n < 256, dec8 n = digs 10 n := by decide +kernel

theorem no46 (base n : Nat) (hb : 1 ≤ base) (h16 : base ≤ 16) : 46 ∉ digs base n := by
 refine digs_no base n 46 hb (fun k hk => ?_)
 have key : ∀ k < 16, digC k ≠ 46 := by decide
 exact key k (by omega)

theorem lab_dec (n : Nat) (hn : n ≤ 4294967296) : marked (digs 10 n) = false ∧ digs 10 n ≠ [] ∧ (valV 10 (digs 10 n)).isSome = true := by
 refine ⟨?_, digs_ne _ _, by rw [valV_digs 10 n (by omega) (by omega) hn]; rfl⟩
 rcases Nat.eq_zero_or_pos n with rfl | h0
 ·rw [digs_zero 10 (by omega)]; decide
 ·obtain ⟨c, r, e, hc⟩ := digs_head 10 n (by omega) (by omega) h0 hn
  rw [e]; exact not_marked_head c r hc

end Go.Proofs.YtpopljcmkbchcaaGreatDoor

namespace Go.Proofs.YtpopljcmkbchcaaGreatDoor
theorem num_dec8 (n : Nat) (h : n < 256) : numV (dec8 n) = some n := by rw [dec8_digs n h]; exact num_dec n (by omega)

theorem dec8_no46 (n : Nat) (h : n < 256) : 46 ∉ dec8 n := by rw [dec8_digs n h]; exact no46 10 n (by omega) (by omega)

theorem dec8_ne (n : Nat) (h : n < 256) : dec8 n ≠ [] := by rw [dec8_digs n h]; exact digs_ne 10 n

theorem dec8_hostC (n : Nat) (h : n < 256) : (dec8 n).all hostC = true := by rw [dec8_digs n h]; exact digs_hostC 10 n (by omega) (by omega)

theorem text4_eq (n : Nat) : text4 n = dec8 (n / 16777216 % 256) ++ 46 :: (dec8 (n / 65536 % 256) ++ 46 :: (dec8 (n / 256 % 256) ++ 46 :: dec8 (n % 256))) := rfl

theorem text4_tail (n : Nat) : text4 n = (dec8 (n / 16777216 % 256) ++ 46 :: (dec8 (n / 65536 % 256) ++ 46 :: dec8 (n / 256 % 256))) ++ 46 :: dec8 (n % 256) := by
 rw [text4_eq]; simp

theorem text4_hostC (n : Nat) : (text4 n).all hostC = true := by
 rw [text4_eq]
 simp only [List.all_append, List.all_cons, dec8_hostC _ (Nat.mod_lt _ (by decide : 0 < 256))]
 decide

theorem text4_ne (n : Nat) : text4 n ≠ [] := by rw [text4_eq]; simp

theorem text4_noDot (n : Nat) : noDot (text4 n) = text4 n := by
 have e : text4 n = (dec8 (n / 16777216 % 256) ++ 46 :: (dec8 (n / 65536 % 256) ++ 46 :: (dec8 (n / 256 % 256) ++ [46]))) ++ dec8 (n % 256) := by rw [text4_eq]; simp
 rw [e]
 exact noDot_tail _ _ (dec8_ne _ (Nat.mod_lt _ (by decide))) (dec8_no46 _ (Nat.mod_lt _ (by decide)))

theorem text4_four (n : Nat) (hn : n < 4294967296) : fourN 4 0 (text4 n) = some n := by
 have m : ∀ k, k % 256 < 256 := fun k => Nat.mod_lt _ (by decide)
 rw [text4_eq, four_cons 3 0 _ _ _ (num_dec8 _ (m _)) (dec8_no46 _ (m _)) (by have := m (n / 16777216); omega), four_cons 2 _ _ _ _ (num_dec8 _ (m _)) (dec8_no46 _ (m _)) (by have := m (n / 65536); omega), four_cons 1 _ _ _ _ (num_dec8 _ (m _)) (dec8_no46 _ (m _)) (by have := m (n / 256); omega),
  four_one 0 _ _ _ (num_dec8 _ (m _)) (dec8_no46 _ (m _)) (by simpa using m n)]
 congr 1
 simp only [Nat.zero_add, Nat.mul_one, Nat.reduceMul, Nat.reducePow, Nat.zero_mul]
 omega

theorem text4_lab (n : Nat) : lastLab (text4 n) = dec8 (n % 256) := by
 rw [text4_tail]
 exact lastLab_some _ _ (fun c hc e => dec8_no46 _ (Nat.mod_lt _ (by decide)) (e ▸ hc))

theorem text4_labs (n : Nat) : marked (dec8 (n % 256)) = false ∧ dec8 (n % 256) ≠ [] ∧ (valV 10 (dec8 (n % 256))).isSome = true := by
 rw [dec8_digs _ (Nat.mod_lt _ (by decide))]
 exact lab_dec _ (by have := Nat.mod_lt n (by decide : 0 < 256); omega)

theorem text4_fourV (n : Nat) (hn : n < 4294967296) : fourV (text4 n) = some n := by unfold fourV; rw [text4_noDot]; exact text4_four n hn

theorem text4_parse (n : Nat) (hn : n < 4294967296) : parseV (text4 n) true = some (text4 n) := by
 refine host_num _ n (text4_ne n) (text4_hostC n) ?_ (text4_fourV n hn)
 refine numbered_lab _ _ ?_ (.inr (text4_labs n))
 rw [text4_noDot]; exact text4_lab n

end Go.Proofs.YtpopljcmkbchcaaGreatDoor

namespace Go.Proofs.YtpopljcmkbchcaaGreatDoor
open Go.RowKit

theorem hexs_at (d : Nat) (h : d < 16) : ((⟨#[48, 49, 50, 51, 52, 53, 54, 55, 56, 57, 97, 98, 99, 100, 101, 102]⟩ : ByteArray).extract d (d + 1)).data.toList = [digC d] := by
 rcases (show d = 0 ∨ d = 1 ∨ d = 2 ∨ d = 3 ∨ d = 4 ∨ d = 5 ∨ d = 6 ∨ d = 7 ∨ d = 8 ∨ d = 9 ∨ d = 10 ∨ d = 11 ∨ d = 12 ∨ d = 13 ∨ d = 14 ∨ d = 15 from by omega) with
  rfl | rfl | rfl | rfl | rfl | rfl | rfl | rfl | rfl | rfl | rfl | rfl | rfl | rfl | rfl | rfl <;> (rw [Lib.extract_data]; rfl)

theorem hexs_app (d : Nat) (h : d < 16) (T : List UInt8) : (⟨#[48, 49, 50, 51, 52, 53, 54, 55, 56, 57, 97, 98, 99, 100, 101, 102]⟩ : ByteArray).extract d (d + 1) ++ ⟨T.toArray⟩ = ⟨(digC d :: T).toArray⟩ := by
 refine ba_ext ?_
 rw [ByteArray.data_append, Array.toList_append, hexs_at d h]; simp

def DigInv (base n f u : Nat) (T : List UInt8) : Prop :=
 u < base ^ f ∧ f ≤ 40 ∧ T.length + f = 40 ∧ ((digsN base f u T = digs base n ∧ (0 < u ∨ T = [])) ∨ (u = 0 ∧ T = digs base n ∧ T ≠ []))

theorem DigInv.step {base n f u : Nat} {T : List UInt8} (h2 : 2 ≤ base) (h : DigInv base n f u T) (hp : 0 < u ∨ T = []) : ∃ g, f = g + 1 ∧ DigInv base n g (u / base) (digC (u % base) :: T) := by
 obtain ⟨h1, hf, hT, hc⟩ := h
 have hd : digsN base f u T = digs base n := by
  rcases hc with ⟨h, _⟩ | ⟨h0, _, hne⟩
  ·exact h
  ·rcases hp with hp | hp
   ·omega
   ·exact absurd hp hne
 cases f with
 | zero =>
  simp at h1
  rcases hp with hp | hp
  ·omega
  ·subst hp; simp at hT
 | succ g =>
  refine ⟨g, rfl, ?_, by omega, by simp; omega, ?_⟩
  ·rw [Nat.div_lt_iff_lt_mul (by omega)]; rw [Nat.pow_succ] at h1; exact h1
  ·by_cases hu : u < base
   ·right
    rw [digsN_last _ _ _ _ hu] at hd
    refine ⟨Nat.div_eq_of_lt hu, by rw [Nat.mod_eq_of_lt hu]; exact hd, by simp⟩
   ·left
    rw [digsN_more _ _ _ _ hu] at hd
    exact ⟨hd, .inl (Nat.div_pos (by omega) (by omega))⟩

theorem DigInv.done {base n f u : Nat} {T : List UInt8} (h : DigInv base n f u T) (h0 : u = 0) (hT : T ≠ []) : T = digs base n := by
 obtain ⟨_, _, _, hc⟩ := h
 rcases hc with ⟨_, hp | hp⟩ | ⟨_, h, _⟩
 ·omega
 ·exact absurd hp hT
 ·exact h

end Go.Proofs.YtpopljcmkbchcaaGreatDoor

namespace Go.Proofs.YtpopljcmkbchcaaGreatDoor
open Go.RowKit

theorem tens_at (d : Nat) (h : d < 10) : ((⟨#[48, 49, 50, 51, 52, 53, 54, 55, 56, 57]⟩ : ByteArray).extract d (d + 1)).data.toList = [digC d] := by
 rcases (show d = 0 ∨ d = 1 ∨ d = 2 ∨ d = 3 ∨ d = 4 ∨ d = 5 ∨ d = 6 ∨ d = 7 ∨ d = 8 ∨ d = 9 from by omega) with
  rfl | rfl | rfl | rfl | rfl | rfl | rfl | rfl | rfl | rfl <;> (rw [Lib.extract_data]; rfl)

theorem tens_app (d : Nat) (h : d < 10) (T : List UInt8) : (⟨#[48, 49, 50, 51, 52, 53, 54, 55, 56, 57]⟩ : ByteArray).extract d (d + 1) ++ ⟨T.toArray⟩ = ⟨(digC d :: T).toArray⟩ := by
 refine ba_ext ?_
 rw [ByteArray.data_append, Array.toList_append, tens_at d h]; simp

theorem digsN_fuel (base : Nat) (h2 : 2 ≤ base) : ∀ (f g n : Nat) (T : List UInt8), f ≠ 0 → g ≠ 0 → n < base ^ f → n < base ^ g → digsN base f n T = digsN base g n T
 | 0, _, _, _, h, _, _, _ => absurd rfl h
 | _, 0, _, _, _, h, _, _ => absurd rfl h
 | f + 1, g + 1, n, T, _, _, hf, hg => by
  by_cases hn : n < base
  ·rw [digsN_last _ _ _ _ hn, digsN_last _ _ _ _ hn]
  ·rw [digsN_more _ _ _ _ hn, digsN_more _ _ _ _ hn]
   have hd : 0 < base := by omega
   have h1 : n / base < base ^ f := by rw [Nat.div_lt_iff_lt_mul hd]; rw [Nat.pow_succ] at hf; exact hf
   have h3 : n / base < base ^ g := by rw [Nat.div_lt_iff_lt_mul hd]; rw [Nat.pow_succ] at hg; exact hg
   have h0 : n / base ≠ 0 := Nat.pos_iff_ne_zero.1 (Nat.div_pos (by omega) hd)
   refine digsN_fuel base h2 f g _ _ ?_ ?_ h1 h3
   ·rintro rfl; simp at h1; omega
   ·rintro rfl; simp at h3; omega

theorem hex16_digs (n : Nat) (h : n < 65536) : hex16 n = digs 16 n := by
 unfold hex16 digs
 refine digsN_fuel 16 (by omega) 4 40 n [] (by omega) (by omega) (by omega) ?_
 have h1 : 16 ^ 4 ≤ 16 ^ 40 := Nat.pow_le_pow_right (by omega) (by omega)
 omega

set_option maxHeartbeats 2000000 in
theorem rdigits_any (n : Nat) (w : World) (hn : n < 65536) :
  Calls Tryz.prog 282 #[.int .u16 n] w fun e w' => e = .returned (.string ⟨(hex16 n).toArray⟩) ∧ w = w' := by
 rw [hex16_digs n hn]
 have h40 : n < 16 ^ 40 := by
  have h1 : 16 ^ 4 ≤ 16 ^ 40 := Nat.pow_le_pow_right (by omega) (by omega)
  omega
 have H0 := hid (show DigInv 16 n 40 n [] from ⟨h40, by omega, rfl, .inl ⟨rfl, .inr rfl⟩⟩)
 clear h40
 go_enter Tryz.func282, Tryz.ntmps282
 go_wp2
 go_loopg [0, 3] 40 (fun f nv sv wr => ∃ (u : Nat) (T : List UInt8), nv = .int .u16 u ∧ sv = .string ⟨T.toArray⟩ ∧ u < 65536 ∧ DigInv 16 n f u T ∧ wr = w)
 case atStart => exact ⟨n, [], rfl, rfl, hn, H0.out, rfl⟩
 case round =>
  obtain ⟨u, T, rfl, rfl, hu, hinv, rfl⟩ := hrel
  have hTl : T.length ≤ 40 := by have := hinv.2.2.1; omega
  have HI := hid hinv
  clear hinv
  have hm : u % 16 < 16 := by omega
  by_cases hp : 0 < u ∨ T = []
  ·obtain ⟨g, rfl, hnext⟩ := HI.out.step (by omega) hp
   have HN := hid hnext
   have HX := hid (hexs_app (u % 16) hm T)
   have hul : u / 16 < 65536 := by omega
   clear hnext
   by_cases h0 : 0 < u
   ·have h0' : (0 : Int) < (u : Int) := by omega
    clear hp
    go_wp2
    go_roundg g
    case measure => omega
    case rel => exact ⟨_, _, by go_num, by rw [HX.out], hul, HN.out, rfl⟩
   ·have hT0 : T = [] := hp.resolve_left h0
    have hu0 : u = 0 := by omega
    subst hT0
    subst hu0
    clear hp h0
    go_wp2
    go_roundg g
    case measure => omega
    case rel => exact ⟨_, _, by go_num, by rw [HX.out], hul, HN.out, rfl⟩
  ·have hu0 : u = 0 := by omega
   have hT : T ≠ [] := fun h => hp (.inr h)
   have HD := hid (HI.out.done hu0 hT)
   have he : T.isEmpty = false := by simpa using hT
   subst hu0
   clear hp hT
   go_wp2
   go_ret
   rw [HD.out]
   exact ⟨rfl, rfl⟩

set_option maxHeartbeats 2000000 in
theorem numeral_nat (n : Nat) (w : World) (hn : n ≤ 9223372036854775807) :
  Calls Tryz.prog 72 #[.int .i64 n] w fun e w' => e = .returned (.string ⟨(digs 10 n).toArray⟩) ∧ w = w' := by
 have h40 : n < 10 ^ 40 := by
  have h3 : (9223372036854775807 : Nat) < 10 ^ 40 := by decide
  omega
 have H0 := hid (show DigInv 10 n 40 n [] from ⟨h40, by omega, rfl, .inl ⟨rfl, .inr rfl⟩⟩)
 clear h40
 have hq1 : ((n : Int) == -9223372036854775808) = false := by rw [beq_eq_false_iff_ne]; omega
 have hq2 : decide ((n : Int) < 0) = false := decide_eq_false (by omega)
 go_enter Tryz.func72, Tryz.ntmps72
 go_wp2
 go_loopg [0, 3] 40 (fun f nv sv wr => ∃ (u : Nat) (T : List UInt8), nv = .int .i64 u ∧ sv = .string ⟨T.toArray⟩ ∧ u ≤ 9223372036854775807 ∧ DigInv 10 n f u T ∧ wr = w)
 case atStart => exact ⟨n, [], rfl, rfl, hn, H0.out, rfl⟩
 case round =>
  obtain ⟨u, T, rfl, rfl, hu, hinv, rfl⟩ := hrel
  have hTl : T.length ≤ 40 := by have := hinv.2.2.1; omega
  have HI := hid hinv
  clear hinv
  have hm : u % 10 < 10 := by omega
  have ht1 : (u : Int).tmod 10 = ((u % 10 : Nat) : Int) := by rw [Int.tmod_eq_emod_of_nonneg (by omega)]; omega
  have ht2 : (u : Int).tdiv 10 = ((u / 10 : Nat) : Int) := by rw [Int.tdiv_eq_ediv_of_nonneg (by omega)]; omega
  by_cases hp : 0 < u ∨ T = []
  ·obtain ⟨g, rfl, hnext⟩ := HI.out.step (by omega) hp
   have HN := hid hnext
   have HX := hid (tens_app (u % 10) hm T)
   have hul : u / 10 ≤ 9223372036854775807 := by omega
   clear hnext
   by_cases h0 : 0 < u
   ·have h0' : (0 : Int) < (u : Int) := by omega
    clear hp
    go_wp2
    go_roundg g
    case measure => omega
    case rel => exact ⟨_, _, by go_num, by rw [HX.out], hul, HN.out, rfl⟩
   ·have hT0 : T = [] := hp.resolve_left h0
    have hu0 : u = 0 := by omega
    subst hT0
    subst hu0
    clear hp h0
    go_wp2
    go_roundg g
    case measure => omega
    case rel => exact ⟨_, _, by go_num, by rw [HX.out], hul, HN.out, rfl⟩
  ·have hu0 : u = 0 := by omega
   have hT : T ≠ [] := fun h => hp (.inr h)
   have HD := hid (HI.out.done hu0 hT)
   have he : T.isEmpty = false := by simpa using hT
   subst hu0
   clear hp hT
   go_wp2
   go_ret
   rw [HD.out]
   exact ⟨rfl, rfl⟩

end Go.Proofs.YtpopljcmkbchcaaGreatDoor

namespace Go.Proofs.YtpopljcmkbchcaaGreatDoor
theorem joined_nil : joined [] = [] := by simp [joined, Lib.join, List.intercalate]

theorem joined_one (n : Nat) : joined [n] = hex16 n := by simp [joined, Lib.join, List.intercalate]

theorem joined_cons (a b : Nat) (l : List Nat) : joined (a :: b :: l) = hex16 a ++ ([58] ++ joined (b :: l)) := by simp [joined, Lib.join, List.intercalate]

theorem joined_snoc : ∀ (l : List Nat) (n : Nat), l ≠ [] → joined (l ++ [n]) = joined l ++ ([58] ++ hex16 n)
 | [], _, h => absurd rfl h
 | [a], n, _ => by
  show joined (a :: n :: []) = _
  rw [joined_cons, joined_one, joined_one]
 | a :: b :: l, n, _ => by
  show joined (a :: b :: (l ++ [n])) = _
  have := joined_snoc (b :: l) n (by simp)
  rw [joined_cons, joined_cons]
  rw [show b :: (l ++ [n]) = (b :: l) ++ [n] from rfl, this]
  simp

theorem hex16_no58 (n : Nat) : 58 ∉ hex16 n := by
 intro h
 have hall := digsN_all (fun c => c != 58) 16 (by omega) (by decide) 4 n [] rfl
 have := List.all_eq_true.1 hall 58 h
 simp at this

theorem hex16_ne (n : Nat) : hex16 n ≠ [] := digsN_ne 16 4 n [] (.inr (by decide))

theorem last_of (l : List UInt8) (h : l ≠ []) : ∃ A c, l = A ++ [c] := ⟨l.dropLast, l.getLast h, (List.dropLast_concat_getLast h).symm⟩

def EndsWell (T : List UInt8) : Prop := ∃ A c, T = A ++ [c] ∧ c ≠ 58

theorem EndsWell.app (P : List UInt8) {T : List UInt8} (h : EndsWell T) : EndsWell (P ++ T) := by
 obtain ⟨A, c, e, hc⟩ := h
 exact ⟨P ++ A, c, by rw [e, List.append_assoc], hc⟩

theorem hex16_ends (n : Nat) : EndsWell (hex16 n) := by
 obtain ⟨A, c, e⟩ := last_of _ (hex16_ne n)
 refine ⟨A, c, e, fun hc => hex16_no58 n ?_⟩
 rw [e, hc]; simp

theorem joined_ends (l : List Nat) (h : l ≠ []) : EndsWell (joined l) := by
 have e : l = l.dropLast ++ [l.getLast h] := (List.dropLast_concat_getLast h).symm
 rw [e]
 by_cases h0 : l.dropLast = []
 ·rw [h0, List.nil_append, joined_one]; exact hex16_ends _
 ·rw [joined_snoc _ _ h0]
  exact ((hex16_ends _).app [58]).app _

def t6 (x : List Nat) (fr tu i : Nat) : List UInt8 :=
 if fr = tu ∨ i ≤ fr then joined (x.take i) else joined (x.take fr) ++ ([58, 58] ++ joined ((x.take i).drop tu))

theorem t6_step (x : List Nat) (fr tu i : Nat) (hi : i < x.length) (hft : fr ≤ tu) (hc : fr = tu ∨ i < fr ∨ tu ≤ i) :
  (t6 x fr tu i = [] ∧ t6 x fr tu (i + 1) = hex16 x[i]) ∨ ((∃ A, t6 x fr tu i = A ++ [58]) ∧ t6 x fr tu (i + 1) = t6 x fr tu i ++ hex16 x[i]) ∨ (EndsWell (t6 x fr tu i) ∧ t6 x fr tu (i + 1) = t6 x fr tu i ++ ([58] ++ hex16 x[i])) := by
 have htk : x.take (i + 1) = x.take i ++ [x[i]] := (List.take_append_getElem hi).symm
 by_cases hA : fr = tu ∨ i < fr
 ·have h1 : t6 x fr tu i = joined (x.take i) := by rw [t6, if_pos (by omega)]
  have h2 : t6 x fr tu (i + 1) = joined (x.take i ++ [x[i]]) := by rw [t6, if_pos (by omega), htk]
  rw [h1, h2]
  by_cases h0 : i = 0
  ·left
   subst h0
   rw [List.take_zero]
   exact ⟨joined_nil, by rw [List.nil_append, joined_one]⟩
  ·right; right
   have hne : x.take i ≠ [] := by
    intro h
    have := congrArg List.length h
    rw [List.length_take, List.length_nil] at this; omega
   exact ⟨joined_ends _ hne, joined_snoc _ _ hne⟩
 ·have hti : tu ≤ i := by omega
  have h1 : t6 x fr tu i = joined (x.take fr) ++ ([58, 58] ++ joined ((x.take i).drop tu)) := by rw [t6, if_neg (by omega)]
  have h2 : t6 x fr tu (i + 1) = joined (x.take fr) ++ ([58, 58] ++ joined ((x.take i).drop tu ++ [x[i]])) := by
   rw [t6, if_neg (by omega), htk, List.drop_append_of_le_length (by simp; omega)]
  rw [h1, h2]
  by_cases h0 : i = tu
  ·right; left
   have hd : (x.take i).drop tu = [] := List.drop_eq_nil_of_le (by simp; omega)
   rw [hd, joined_nil, List.nil_append, joined_one]
   exact ⟨⟨joined (x.take fr) ++ [58], by simp⟩, by simp⟩
  ·right; right
   have hne : (x.take i).drop tu ≠ [] := by
    intro h
    have := congrArg List.length h
    simp at this; omega
   refine ⟨((joined_ends _ hne).app _).app _, ?_⟩
   rw [joined_snoc _ _ hne]; simp

theorem t6_mark (x : List Nat) (fr tu : Nat) (h : fr < tu) (hx : tu ≤ x.length) : t6 x fr tu tu = t6 x fr tu fr ++ [58, 58] := by
 have hd : (x.take tu).drop tu = [] := List.drop_eq_nil_of_le (by simp; omega)
 rw [t6, if_neg (by omega), t6, if_pos (by omega), hd, joined_nil]; simp

theorem t6_end (x : List Nat) (hx : x.length = 8) (hl : (lrun x).1 = (lrun x).2 ∨ (lrun x).1 < (lrun x).2) (h2 : (lrun x).2 ≤ 8) : t6 x (lrun x).1 (lrun x).2 8 = text6 x := by
 have h8 : x.take 8 = x := List.take_of_length_le (by omega)
 unfold text6
 by_cases h : (lrun x).1 = (lrun x).2
 ·rw [if_pos h, t6, if_pos (.inl h), h8]
 ·rw [if_neg h, t6, if_neg (by omega), h8]

theorem t6_le (x : List Nat) (fr tu i : Nat) (hx : x.length = 8) : (t6 x fr tu i).length ≤ 200 := by
 unfold t6
 split
 ·have := joined_le (x.take i)
  have h2 : (x.take i).length ≤ 8 := by simp; omega
  omega
 ·have h1 := joined_le (x.take fr)
  have h3 := joined_le ((x.take i).drop tu)
  have h2 : (x.take fr).length ≤ 8 := by simp; omega
  have h4 : ((x.take i).drop tu).length ≤ 8 := by simp; omega
  simp only [List.length_append, List.length_cons, List.length_nil]
  omega

end Go.Proofs.YtpopljcmkbchcaaGreatDoor

namespace Go.Proofs.YtpopljcmkbchcaaGreatDoor
def noPair : List UInt8 → Bool
 | a :: b :: l => !(a == 58 && b == 58) && noPair (b :: l)
 | _ => true

theorem np_cons (x : UInt8) (l : List UInt8) (h : x ≠ 58) (hl : noPair l = true) : noPair (x :: l) = true := by
 cases l with
 | nil => rfl
 | cons b l => simp [noPair, h, hl]

theorem np_pre : ∀ (h t : List UInt8), 58 ∉ h → noPair t = true → noPair (h ++ t) = true
 | [], _, _, ht => ht
 | x :: h, t, hx, ht => np_cons x (h ++ t) (fun e => hx (by simp [e])) (np_pre h t (fun e => hx (by simp [e])) ht)

theorem np_colon (c : UInt8) (t : List UInt8) (hc : c ≠ 58) (h : noPair (c :: t) = true) : noPair (58 :: c :: t) = true := by
 simp [noPair, hc, h]

theorem np_left : ∀ (a b : List UInt8), noPair (a ++ b) = true → noPair a = true
 | [], _, _ => rfl
 | [_], _, _ => rfl
 | x :: y :: a, b, h => by
  have h' : noPair (x :: y :: (a ++ b)) = true := h
  simp only [noPair, Bool.and_eq_true] at h' ⊢
  exact ⟨h'.1, np_left (y :: a) b h'.2⟩

theorem joined_np : ∀ (x : List Nat), x ≠ [] → noPair (joined x ++ [58]) = true ∧ ∃ c r, joined x = c :: r ∧ c ≠ 58
 | [], h => absurd rfl h
 | [n], _ => by
  rw [joined_one]
  refine ⟨np_pre _ _ (hex16_no58 n) rfl, ?_⟩
  cases he : hex16 n with
  | nil => exact absurd he (hex16_ne n)
  | cons c r => exact ⟨c, r, rfl, fun e => hex16_no58 n (by rw [he, e]; simp)⟩
 | n :: m :: l, _ => by
  obtain ⟨h1, c, r, e, hc⟩ := joined_np (m :: l) (by simp)
  rw [joined_cons]
  constructor
  ·rw [List.append_assoc]
   refine np_pre _ _ (hex16_no58 n) ?_
   rw [List.append_assoc, e]
   rw [e] at h1
   exact np_colon c _ hc h1
  ·cases he : hex16 n with
   | nil => exact absurd he (hex16_ne n)
   | cons c r => exact ⟨c, _, rfl, fun e => hex16_no58 n (by rw [he, e]; simp)⟩

theorem index2_none : ∀ (l : List UInt8), noPair l = true → Lib.index l [58, 58] = -1
 | [], _ => rfl
 | [a], _ => by
  unfold Lib.index
  rw [index2_none [] rfl]
  simp [List.isPrefixOf]
 | a :: b :: l, h => by
  simp only [noPair, Bool.and_eq_true] at h
  unfold Lib.index
  rw [index2_none (b :: l) h.2]
  have : [58, 58].isPrefixOf (a :: b :: l) = false := by
   simp [List.isPrefixOf]
   have := h.1
   simp at this
   intro e e2; rcases this with h | h
   ·exact h e.symm
   ·exact h e2.symm
  rw [this]; rfl

theorem index2_some : ∀ (a r : List UInt8), noPair (a ++ [58]) = true → Lib.index (a ++ 58 :: 58 :: r) [58, 58] = a.length
 | [], r, _ => by unfold Lib.index; simp [List.isPrefixOf]
 | x :: a, r, h => by
  have hx : [58, 58].isPrefixOf (x :: (a ++ 58 :: 58 :: r)) = false := by
   cases a with
   | nil =>
    simp [noPair] at h
    simp [List.isPrefixOf]
    exact fun e => h e.symm
   | cons y a =>
    have h' : noPair (x :: y :: (a ++ [58])) = true := h
    simp only [noPair, Bool.and_eq_true] at h'
    have := h'.1
    simp at this
    simp [List.isPrefixOf]
    intro e e2; rcases this with h | h
    ·exact h e.symm
    ·exact h e2.symm
  have h2 : noPair (a ++ [58]) = true := by
   cases a with
   | nil => rfl
   | cons y a =>
    have h' : noPair (x :: y :: (a ++ [58])) = true := h
    simp only [noPair, Bool.and_eq_true] at h'
    exact h'.2
  rw [List.cons_append]
  unfold Lib.index
  rw [index2_some a r h2, hx]
  have h1 : ((a.length : Int) == -1) = false := by rw [beq_eq_false_iff_ne]; omega
  simp [h1]

theorem cut2_none (l : List UInt8) (h : noPair l = true) : Lib.cut l [58, 58] = (l, [], false) := by
 unfold Lib.cut
 rw [index2_none l h]; rfl

theorem cut2_some (a r : List UInt8) (h : noPair (a ++ [58]) = true) : Lib.cut (a ++ ([58, 58] ++ r)) [58, 58] = (a, r, true) := by
 unfold Lib.cut
 rw [show a ++ ([58, 58] ++ r) = a ++ 58 :: 58 :: r from rfl, index2_some a r h]
 simp



def fold16 (n : Nat) (l : List UInt8) : Nat := l.foldl (fun a c => a * 16 + dig16 c) n

theorem fold_digs : ∀ (f u : Nat) (T : List UInt8), u < 16 ^ f → f ≠ 0 → fold16 0 (digsN 16 f u T) = fold16 u T
 | 0, _, _, _, h => absurd rfl h
 | f + 1, u, T, hu, _ => by
  by_cases hn : u < 16
  ·rw [digsN_last _ _ _ _ hn]
   show fold16 (0 * 16 + dig16 (digC u)) T = _
   rw [dig16_digC u hn, Nat.zero_mul, Nat.zero_add]
  ·rw [digsN_more _ _ _ _ hn]
   have h1 : u / 16 < 16 ^ f := by rw [Nat.div_lt_iff_lt_mul (by omega)]; rw [Nat.pow_succ] at hu; exact hu
   have hf : f ≠ 0 := by rintro rfl; simp at h1; omega
   rw [fold_digs f (u / 16) _ h1 hf]
   show fold16 (u / 16 * 16 + dig16 (digC (u % 16))) T = _
   rw [dig16_digC _ (Nat.mod_lt _ (by omega)), show u / 16 * 16 + u % 16 = u by omega]

theorem digsN_len (base : Nat) : ∀ (f n : Nat) (T : List UInt8), (digsN base f n T).length ≤ f + T.length
 | 0, _, T => by simp [digsN]
 | f + 1, n, T => by
  by_cases h : n < base
  ·rw [digsN_last _ _ _ _ h]; simp; omega
  ·rw [digsN_more _ _ _ _ h]
   have := digsN_len base f (n / base) (digC (n % base) :: T)
   simp at this
   omega

def hexC (c : UInt8) : Bool := decide (dig16 c < 16) && c != 46

theorem scan_hex (whole : Option Nat) (last : Bool) : ∀ (l : List UInt8) (i n : Nat), l.all hexC = true → i + l.length ≤ 4 → (i ≠ 0 ∨ l ≠ []) → scanP whole last i n l = some [fold16 n l]
 | [], i, n, _, _, h => by
  have h0 : i ≠ 0 := h.resolve_right (by simp)
  rw [scanP, if_neg h0]; rfl
 | c :: l, i, n, hall, hl, _ => by
  simp only [List.all_cons, Bool.and_eq_true, hexC, decide_eq_true_eq, bne_iff_ne, ne_eq] at hall
  simp only [List.length_cons] at hl
  rw [scanP, if_neg (fun h => hall.1.2 h.1), if_pos ⟨hall.1.1, by omega⟩]
  rw [scan_hex whole last l (i + 1) _ (by simpa [hexC] using hall.2) (by omega) (.inl (by omega))]
  rfl

theorem hex16_all (n : Nat) : (hex16 n).all hexC = true := digsN_all hexC 16 (by omega) (by decide) 4 n [] rfl

theorem piece_hex (last : Bool) (n : Nat) (h : n < 65536) : pieceV last (hex16 n) = some [n] := by
 have hlen : (hex16 n).length ≤ 4 := digsN_len 16 4 n []
 unfold pieceV
 rw [scan_hex _ last _ 0 0 (hex16_all n) (by omega) (.inr (hex16_ne n))]
 have : fold16 0 (hex16 n) = n := by
  have := fold_digs 4 n [] (by omega) (by omega)
  simpa [hex16, fold16] using this
 rw [this]

theorem pieces_joined (atEnd : Bool) : ∀ (y : List Nat) (f : Nat) (out : List Nat), y ≠ [] → y.length ≤ f → (∀ n ∈ y, n < 65536) → piecesN atEnd f out (joined y) true = some (out ++ y)
 | [], _, _, h, _, _ => absurd rfl h
 | [n], f + 1, out, _, _, h16 => by
  have hc : Lib.cut (joined [n]) [58] = (hex16 n, [], false) := by rw [joined_one]; exact cut_none _ _ (hex16_no58 n)
  rw [piecesN, hc]
  simp only [piece_hex _ n (h16 n (by simp))]
  rw [piecesN]
 | n :: m :: y, f + 1, out, _, hl, h16 => by
  have hc : Lib.cut (joined (n :: m :: y)) [58] = (hex16 n, joined (m :: y), true) := by rw [joined_cons]; exact cut_some _ _ _ (hex16_no58 n)
  rw [piecesN, hc]
  simp only [piece_hex _ n (h16 n (by simp))]
  rw [pieces_joined atEnd (m :: y) f (out ++ [n]) (by simp) (by simpa using hl) (fun k hk => h16 k (by simp [hk]))]
  simp
 | _ :: _, 0, _, _, hl, _ => by simp at hl

theorem joined_empty (y : List Nat) : joined y = [] ↔ y = [] := by
 constructor
 ·intro h
  cases y with
  | nil => rfl
  | cons n y =>
   obtain ⟨_, c, r, e, _⟩ := joined_np (n :: y) (by simp)
   rw [e] at h; simp at h
 ·rintro rfl; exact joined_nil

theorem pieces_of (atEnd : Bool) (y : List Nat) (hl : y.length ≤ 8) (h16 : ∀ n ∈ y, n < 65536) : piecesV (joined y) atEnd = some y := by
 unfold piecesV
 by_cases h : y = []
 ·subst h
  rw [joined_nil]; rfl
 ·have hj : joined y ≠ [] := fun e => h ((joined_empty y).1 e)
  rw [decide_eq_true hj, pieces_joined atEnd y 8 [] h hl h16]; rfl



theorem zeros_get : ∀ (l : List Nat) (j : Nat), j < zeros l → l[j]? = some 0
 | [], j, h => by simp [zeros] at h
 | a :: l, j, h => by
  rw [zeros] at h
  split at h
  ·rename_i ha
   cases j with
   | zero => simp [ha]
   | succ j => simpa using zeros_get l j (by omega)
  ·omega

theorem lrunN_zero (x : List Nat) : ∀ (l : List Nat) (i fr tu : Nat), l = x.drop i → (∀ j, fr ≤ j → j < tu → x[j]? = some 0) → ∀ j, (lrunN 0 i fr tu l).1 ≤ j → j < (lrunN 0 i fr tu l).2 → x[j]? = some 0
 | [], i, fr, tu, _, h => h
 | n :: l, i, fr, tu, hd, h => by
  have hd' : l = x.drop (i + 1) := by
   rw [← List.drop_drop, ← hd]; rfl
  rw [lrunN]
  split
  ·refine lrunN_zero x l (i + 1) i (i + zeros (n :: l)) hd' (fun j h1 h2 => ?_)
   have := zeros_get (n :: l) (j - i) (by omega)
   rw [hd, List.getElem?_drop, show i + (j - i) = j by omega] at this
   exact this
  ·exact lrunN_zero x l (i + 1) fr tu hd' h

theorem run_fill (x : List Nat) (h8 : x.length = 8) (hft : (lrun x).1 < (lrun x).2) (ht : (lrun x).2 ≤ 8) : x.take (lrun x).1 ++ List.replicate (8 - (lrun x).1 - (8 - (lrun x).2)) 0 ++ x.drop (lrun x).2 = x := by
 have hz := lrunN_zero x x 0 0 0 rfl (fun j _ h => absurd h (by omega))
 have hz' : ∀ j, (lrun x).1 ≤ j → j < (lrun x).2 → x[j]? = some 0 := hz
 generalize (lrun x).1 = fr at *
 generalize (lrun x).2 = tu at *
 refine List.ext_getElem? fun j => ?_
 by_cases h1 : j < fr
 ·rw [List.append_assoc, List.getElem?_append_left (by simp; omega), List.getElem?_take_of_lt h1]
 ·by_cases h2 : j < tu
  ·rw [List.getElem?_append_left (by simp; omega), List.getElem?_append_right (by simp; omega), List.getElem?_replicate, if_pos (by simp; omega), hz' j (by omega) h2]
  ·rw [List.getElem?_append_right (by simp; omega), List.getElem?_drop]
   congr 1
   simp
   omega

theorem six_text6 (x : List Nat) (h8 : x.length = 8) (h16 : ∀ n ∈ x, n < 65536) : sixV (text6 x) = some x := by
 obtain ⟨hl1, hl2⟩ := lrun_le x
 rw [h8] at hl2
 by_cases h : (lrun x).1 = (lrun x).2
 ·rw [text6_same h]
  have hnp : noPair (joined x) = true := np_left _ _ (joined_np x (by rintro rfl; simp at h8)).1
  unfold sixV
  rw [cut2_none _ hnp]
  have hp := pieces_of true x (by omega) h16
  have hn : piecesV [] true = some [] := rfl
  simp only [Bool.not_false, hp, hn]
  simp [h8]
 ·rw [text6_run h]
  have hnp : noPair (joined (x.take (lrun x).1) ++ [58]) = true := by
   by_cases h0 : x.take (lrun x).1 = []
   ·rw [h0, joined_nil]; rfl
   ·exact (joined_np _ h0).1
  unfold sixV
  rw [cut2_some _ _ hnp]
  have hp1 := pieces_of false (x.take (lrun x).1) (by simp; omega) (fun n hn => h16 n (List.mem_of_mem_take hn))
  have hp2 := pieces_of true (x.drop (lrun x).2) (by simp; omega) (fun n hn => h16 n (List.mem_of_mem_drop hn))
  have e1 : (x.take (lrun x).1).length = (lrun x).1 := by simp; omega
  have e2 : (x.drop (lrun x).2).length = 8 - (lrun x).2 := by simp; omega
  simp only [Bool.not_true, hp1, hp2, e1, e2]
  rw [if_pos ⟨by omega, by simp; omega⟩, run_fill x h8 (by omega) hl2]

end Go.Proofs.YtpopljcmkbchcaaGreatDoor
