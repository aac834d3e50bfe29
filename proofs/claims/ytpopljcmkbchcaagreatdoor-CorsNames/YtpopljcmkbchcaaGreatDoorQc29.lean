/-
  Walks and plain facts that this claim leans on, put together out of 4 texts: Ewt, Eiv, Ein, Eip.
-/
import Derived.Test.YtpopljcmkbchcaaGreatDoorProg
import Derived.Test.YtpopljcmkbchcaaGreatDoorQc1
import Derived.Test.YtpopljcmkbchcaaGreatDoorQc3
import Derived.Test.YtpopljcmkbchcaaGreatDoorQc4
import Derived.Test.YtpopljcmkbchcaaGreatDoorQc5
import Derived.Test.YtpopljcmkbchcaaGreatDoorQc6
import Derived.Test.YtpopljcmkbchcaaGreatDoorQc8
import Derived.Test.YtpopljcmkbchcaaGreatDoorQc9
import Derived.Test.YtpopljcmkbchcaaGreatDoorQc10
import Derived.Test.YtpopljcmkbchcaaGreatDoorQc11
import Derived.Test.YtpopljcmkbchcaaGreatDoorQc12
import Derived.Test.YtpopljcmkbchcaaGreatDoorQc13
import Derived.Test.YtpopljcmkbchcaaGreatDoorQc16
import Derived.Test.YtpopljcmkbchcaaGreatDoorQc20
import Derived.Test.YtpopljcmkbchcaaGreatDoorQc22
import Derived.Test.YtpopljcmkbchcaaGreatDoorQc23
import Derived.Test.YtpopljcmkbchcaaGreatDoorQc24
import Derived.Test.YtpopljcmkbchcaaGreatDoorQc25
import Derived.Test.YtpopljcmkbchcaaGreatDoorQc27
import Derived.Test.YtpopljcmkbchcaaGreatDoorQc28
import Derived.Deep.Cut
import Derived.Deep.QuietTactic
import Derived.BigQuiet
import Derived.BigRegion
import Derived.Deep.RegionHeld
import Derived.Deep.CutRange
import Derived.Lib.IndexMore
import Derived.Lib.Join
import Derived.Lib.LastIndexByte
import Derived.WalkKit
import Derived.Lib.Strings
import Derived.Lib.UnsafeStr
import Derived.Laws.IdiomStrings
import Derived.Laws.AppendOwn
import Derived.Laws.BitsAllLaws
import Derived.Lib.Bytealg
import Derived.Lib.BufferMore
import Derived.Lib.BufferRead
import Derived.Lib.RuneBytes
import Derived.Laws.RangeAny
import Derived.LoopN
import Derived.RegionTactic
import Derived.Deep.RegionWith
import Derived.OwnWalk
import Derived.Deep.RegionLaw
import Derived.Laws.OwnMore
import Derived.Deep.LoopGhost
import Derived.Shelf.Strings.Builder1
import Derived.Shelf.Strings.Builder2
import Derived.Shelf.Strings.OnBuilder
import Derived.Shelf.Strings.Trim
import Derived.Shelf.Small.Utf8
import Derived.Shelf.Small.Bits
import Derived.Shelf.Small.Strs
import Derived.Shelf.Small.Wraps
import Derived.Shelf.Strings.BuilderF
import Derived.Shelf.Strings.BuilderK
import Derived.Shelf.Strings.BuilderRune
import Derived.Shelf.Utf8.AppendRune
import Derived.Shelf.Utf8.AppendRunePlain
import Derived.Shelf.Strings.Builder2Cap
import Derived.Shelf.Strconv.Itoa0
import Derived.Shelf.Strconv.Itoa1
import Derived.Shelf.LaysM
import Derived.Shelf.Strconv.Itoa2
import Derived.Shelf.Strconv.Itoa3
import Derived.Shelf.Strings.Search1
import Derived.Shelf.Strings.Search2
import Derived.Shelf.Strings.Cut
import Derived.Shelf.Strings.Shaped
import Derived.Shelf.Sort.Plain
import Derived.Shelf.Strings.Prefix
import Derived.Shelf.Unicode.Latin
import Derived.Shelf.Strings.Runes
import Derived.Shelf.Strings.IndexAny
import Derived.Shelf.Strings.AsciiSet
import Derived.Shelf.Strings.IndexAnyAll
import Derived.Shelf.Unicode.DecodeSlow
import Derived.Shelf.Unicode.DecodeAny
import Derived.Shelf.Unicode.DecodeLast
import Derived.Shelf.Unicode.CaseLookup
import Derived.Shelf.Unicode.CaseConvert
import Derived.Shelf.Unicode.CaseTo
import Derived.Shelf.Unicode.CaseLaid
import Derived.Shelf.Slices.CompactS
import Derived.Shelf.Slices.In.SortNone
import Derived.Laws.AppendOwnNone
import Derived.Scope
import Derived.ScopeJumps
import Derived.WalkMore
import Derived.Lib.IndexAny
import Derived.Lib.Replace
import Derived.Lib.TrimByte
import Derived.Lib.ItoaNum
import Derived.Lib.DecodeN
import Derived.Lib.OthersKept
import Derived.Laws.BytesString
import Derived.Deep.WholeRow
import Derived.Lib.AppendStr
import Derived.WalkSpells
import Derived.WalkLawsBesides
import Derived.Lib.AppendIntMem
import Derived.Lib.SmallJoins
import Derived.WalkSmall
import Derived.Laws.CopyOwn
import Derived.Laws.ResultCell
import Derived.Deep.MidRow
import Derived.Lib.FrozenHead2
import Derived.Lib.Builder
import Derived.Lib.SlTrimSet
import Derived.Below
import Derived.Shelf.Strings.SlTrimAscii
import Derived.Laws.Runes
import Derived.Deep.RegionHeldLaw
import Derived.Maps.OwnSet
import Derived.Maps.OwnOps
import Derived.Maps.AppendAt
import Derived.StringKeys
import Derived.Lib.FieldsP
import Derived.Lib.LaidTab
import Derived.Shelf.GgClosure.GivesRunes
import Derived.Laws.BitsAll
import Derived.Laws.Shifts
import Derived.Deep.DeepAppendRoom
import Derived.Laws.CopyRow
import Derived.Sort.OwnSorted
import Derived.Lib.SlicesCompact
import Derived.Sort.KeysCollected
import Derived.Lib.Case
import Derived.Laws.Rows
import Derived.Laws.MakeOwn
set_option linter.unusedSimpArgs false
set_option linter.unusedVariables false

namespace Go.Proofs.YtpopljcmkbchcaaGreatDoor
def badHd (l : List UInt8) : Bool := (pcd l).2 && inSetI (pcd l).1.toNat 1

def cE : List UInt8 → Nat
 | [] => 0
 | c :: l => (if badHd (c :: l) then 1 else 0) + cE l

theorem pcd_yes {c : UInt8} {l : List UInt8} (h : (pcd (c :: l)).2 = true) : c = 37 ∧ ∃ p q r, l = p :: q :: r ∧ p ≠ 37 ∧ q ≠ 37 ∧ p ≠ 92 ∧ q ≠ 92 := by
 by_cases hc : c = 37
 ·subst hc
  match l, h with
  | [], h => cases h
  | [a], h => cases h
  | a :: b :: r, h =>
   refine ⟨rfl, a, b, r, rfl, ?_⟩
   have h2 : (is16I a.toNat && is16I b.toNat) = true := by
    cases e : (is16I a.toNat && is16I b.toNat) with
    | true => rfl
    | false =>
     have : pcd (37 :: a :: b :: r) = (37, false) := by unfold pcd; simp only; rw [e]; rfl
     rw [this] at h; cases h
   rw [Bool.and_eq_true] at h2
   have key : ∀ c : UInt8, is16I c.toNat = true → c ≠ 37 ∧ c ≠ 92 := fun c hc => by
    have := u8_all (P := fun c => !is16I c.toNat || (c != 37 && c != 92)) (by decide +kernel) c
    rw [hc] at this
    simpa using this
   exact ⟨(key a h2.1).1, (key b h2.2).1, (key a h2.1).2, (key b h2.2).2⟩
 ·rw [pcd_other l c hc] at h; cases h

theorem bad_yes {c : UInt8} {l : List UInt8} (h : badHd (c :: l) = true) : c = 37 ∧ ∃ p q r, l = p :: q :: r ∧ p ≠ 37 ∧ q ≠ 37 ∧ p ≠ 92 ∧ q ≠ 92 := by
 unfold badHd at h
 rw [Bool.and_eq_true] at h
 exact pcd_yes h.1

theorem cE_ne {c : UInt8} {l : List UInt8} (h : c ≠ 37) : cE (c :: l) = cE l := by
 have : badHd (c :: l) = false := by
  cases e : badHd (c :: l) with
  | false => rfl
  | true => exact absurd (bad_yes e).1 h
 rw [cE, this]; simp

theorem cE_two {p q : UInt8} {r : List UInt8} (hp : p ≠ 37) (hq : q ≠ 37) : cE (p :: q :: r) = cE r := by rw [cE_ne hp, cE_ne hq]

theorem cE_le1 (c : UInt8) (l : List UInt8) : cE (c :: l) ≤ 1 + cE l := by rw [cE]; split <;> omega

theorem cE_ge (c : UInt8) (l : List UInt8) : cE l ≤ cE (c :: l) := by rw [cE]; omega

theorem cE_pct (x : List UInt8) : (pct 1 x).length ≤ x.length + 2 * cE (pct 1 x) := by
 induction x with
 | nil => exact Nat.le_refl _
 | cons c x ih =>
  have e : pct 1 (c :: x) = pct1 1 c ++ pct 1 x := rfl
  rw [e]
  unfold pct1
  cases hc : inSetI c.toNat 1 with
  | false =>
   rw [if_neg (by decide)]
   have := cE_ge c (pct 1 x)
   simp only [List.cons_append, List.nil_append, List.length_cons]
   omega
  | true =>
   rw [if_pos rfl]
   have hd := u8_all (P := fun c => pcd (esc c) == (c, true)) (by decide +kernel) c
   have hp : pcd (esc c ++ pct 1 x) = (c, true) := (beq_iff_eq.1 hd)
   have h1 : badHd (esc c ++ pct 1 x) = true := by unfold badHd; rw [hp, hc]; rfl
   have h2 : esc c ++ pct 1 x = 37 :: hexD (c.toNat / 16) :: hexD (c.toNat % 16) :: pct 1 x := rfl
   have h3 : cE (pct 1 x) + 1 ≤ cE (esc c ++ pct 1 x) := by
    rw [h2] at h1 ⊢
    rw [cE, h1, if_pos rfl]
    have a := cE_ge (hexD (c.toNat / 16)) (hexD (c.toNat % 16) :: pct 1 x)
    have b := cE_ge (hexD (c.toNat % 16)) (pct 1 x)
    omega
   have h4 : (esc c ++ pct 1 x).length = (pct 1 x).length + 3 := by rw [h2]; simp
   rw [List.length_cons]
   omega

theorem cE_un : ∀ (n : Nat) (t : List UInt8), t.length ≤ n → 0 < cE t → ∃ d ∈ unpct t, inSetI d.toNat 1 = true := by
 intro n
 induction n with
 | zero =>
  intro t ht h
  have : t = [] := List.eq_nil_of_length_eq_zero (by omega)
  subst this
  exact absurd h (by decide)
 | succ n ih =>
  intro t ht h
  match t, ht, h with
  | [], _, h => exact absurd h (by decide)
  | c :: l, ht, h =>
   rw [unpct_cons]
   cases hb : badHd (c :: l) with
   | true =>
    unfold badHd at hb
    rw [Bool.and_eq_true] at hb
    exact ⟨_, List.mem_cons_self, hb.2⟩
   | false =>
    rw [cE, hb] at h
    have h : 0 < cE l := by simpa using h
    cases hp : (pcd (c :: l)).2 with
    | true =>
     obtain ⟨-, p, q, r, rfl, hp1, hq1, -⟩ := pcd_yes hp
     rw [cE_two hp1 hq1] at h
     obtain ⟨d, hd, hs⟩ := ih r (by simp at ht; omega) h
     exact ⟨d, List.mem_cons_of_mem _ (by simpa using hd), hs⟩
    | false =>
     obtain ⟨d, hd, hs⟩ := ih l (by simp at ht; omega) h
     exact ⟨d, List.mem_cons_of_mem _ (by simpa using hd), hs⟩

theorem cE_app : ∀ (u v : List UInt8), cE (u ++ v) ≤ cE u + cE v + 1
 | [], v => by show cE v ≤ cE [] + cE v + 1; omega
 | [c], v => by
  have := cE_le1 c v
  show cE (c :: v) ≤ cE [c] + cE v + 1
  omega
 | [c, d], v => by
  show cE (c :: d :: v) ≤ cE [c, d] + cE v + 1
  cases hb : badHd (c :: d :: v) with
  | true =>
   obtain ⟨-, p, q, r, e, hp, -⟩ := bad_yes hb
   injection e with e1 e2
   rw [cE, hb, if_pos rfl, cE_ne (by rw [e1]; exact hp)]
   omega
  | false =>
   rw [cE, hb]
   have := cE_le1 d v
   simp only [Bool.false_eq_true, if_false]
   omega
 | c :: d :: e :: u, v => by
  have ih := cE_app (d :: e :: u) v
  have hb : badHd (c :: d :: e :: (u ++ v)) = badHd (c :: d :: e :: u) := by
   unfold badHd
   have : pcd (c :: d :: e :: (u ++ v)) = pcd (c :: d :: e :: u) := by
    by_cases hc : c = 37
    ·subst hc; rfl
    ·rw [pcd_other _ c hc, pcd_other _ c hc]
   rw [this]
  show cE (c :: (d :: e :: (u ++ v))) ≤ cE (c :: (d :: e :: u)) + cE v + 1
  have e1 : cE (c :: (d :: e :: (u ++ v))) = (if badHd (c :: d :: e :: (u ++ v)) then 1 else 0) + cE (d :: e :: (u ++ v)) := rfl
  have e2 : cE (c :: (d :: e :: u)) = (if badHd (c :: d :: e :: u) then 1 else 0) + cE (d :: e :: u) := rfl
  rw [e1, e2, hb]
  have : cE (d :: e :: (u ++ v)) ≤ cE (d :: e :: u) + cE v + 1 := ih
  omega

theorem cE_half : ∀ (n : Nat) (u : List UInt8), u.length ≤ n → 2 * cE u ≤ u.length := by
 intro n
 induction n with
 | zero =>
  intro u hu
  have : u = [] := List.eq_nil_of_length_eq_zero (by omega)
  subst this
  exact Nat.le_refl _
 | succ n ih =>
  intro u hu
  match u, hu with
  | [], _ => exact Nat.le_refl _
  | c :: l, hu =>
   cases hb : badHd (c :: l) with
   | true =>
    obtain ⟨-, p, q, r, rfl, hp, hq, -⟩ := bad_yes hb
    rw [cE, hb, if_pos rfl, cE_two hp hq]
    have := ih r (by simp at hu; omega)
    simp only [List.length_cons]
    omega
   | false =>
    rw [cE, hb]
    have := ih l (by simp at hu; omega)
    simp only [Bool.false_eq_true, if_false, List.length_cons]
    omega

theorem cE_infix {t P : List UInt8} (h : t <:+: P) : t.length + 2 * cE P ≤ P.length + 2 * cE t + 4 := by
 obtain ⟨a, b, rfl⟩ := h
 have h1 := cE_app (a ++ t) b
 have h2 := cE_app a t
 have h3 := cE_half _ a (Nat.le_refl _)
 have h4 := cE_half _ b (Nat.le_refl _)
 simp only [List.length_append]
 omega

theorem cE_slash (a b : List UInt8) : cE (a ++ b) ≤ cE (a.map slC ++ b) := by
 induction a with
 | nil => exact Nat.le_refl _
 | cons c a ih =>
  show cE (c :: (a ++ b)) ≤ cE (slC c :: (a.map slC ++ b))
  cases hb : badHd (c :: (a ++ b)) with
  | false =>
   rw [cE, hb]
   have := cE_ge (slC c) (a.map slC ++ b)
   simp only [Bool.false_eq_true, if_false]
   omega
  | true =>
   obtain ⟨rfl, p, q, r, e, hp, hq, hp2, hq2⟩ := bad_yes hb
   have hs : ∃ r', a.map slC ++ b = p :: q :: r' := by
    match a, e with
    | [], e => exact ⟨r, e⟩
    | [x], e =>
     injection e with e1 e2
     subst e1
     refine ⟨r, ?_⟩
     show slC x :: b = _
     rw [show b = q :: r from e2, show slC x = x by unfold slC; rw [if_neg hp2]]
    | x :: y :: a', e =>
     injection e with e1 e2
     injection e2 with e2 e3
     subst e1 e2
     refine ⟨a'.map slC ++ b, ?_⟩
     show slC x :: slC y :: (a'.map slC ++ b) = _
     rw [show slC x = x by unfold slC; rw [if_neg hp2], show slC y = y by unfold slC; rw [if_neg hq2]]
   obtain ⟨r', hr'⟩ := hs
   have hb2 : badHd (slC 37 :: (a.map slC ++ b)) = true := by
    rw [hr', show slC 37 = 37 by decide]
    rw [e] at hb
    exact hb
   rw [cE, hb, if_pos rfl]
   rw [show cE (slC 37 :: (a.map slC ++ b)) = 1 + cE (a.map slC ++ b) by rw [cE, hb2, if_pos rfl]]
   omega

theorem host_in {t h : List UInt8} (hp : parseV t true = some h) : h.length ≤ 102 ∨ (cE t = 0 ∧ h.length ≤ t.length) := by
 unfold parseV at hp
 split at hp
 ·left
  unfold bracketV at hp
  split at hp
  ·cases hs : sixV (Lib.trimSuffix (t.drop 1) [93]) with
   | none => rw [hs] at hp; cases hp
   | some x =>
    rw [hs] at hp
    simp only [Option.map_some, Option.some.injEq] at hp
    have := text6_le x (sixV_ok hs).1
    rw [← hp]; simp; omega
  ·cases hp
 ·rw [if_pos rfl] at hp
  unfold nameV at hp
  split at hp
  ·cases hp
  ·rename_i hno
   split at hp
   ·left
    cases hf : fourV (low (unpct t)) with
    | none => rw [hf] at hp; cases hp
    | some n =>
     rw [hf] at hp
     simp only [Option.map_some, Option.some.injEq] at hp
     rw [← hp]
     have := text4_le n
     omega
   ·right
    simp only [Option.some.injEq] at hp
    have h1 := unpct_le t
    refine ⟨?_, by rw [← hp, show low (unpct t) = (unpct t).map lowC from rfl, List.length_map]; omega⟩
    by_cases h0 : 0 < cE t
    ·obtain ⟨d, hd, hs⟩ := cE_un _ t (Nat.le_refl _) h0
     have hall : allN (low (unpct t)) = true := by
      cases e : allN (low (unpct t)) with
      | true => rfl
      | false => exact absurd (.inr (.inl e)) hno
     unfold allN at hall
     have := List.all_eq_true.1 hall (lowC d) (List.mem_map.2 ⟨d, hd, rfl⟩)
     have hk := u8_all (P := fun c => !inSetI c.toNat 1 || !nameB (lowC c)) (by decide +kernel) d
     rw [hs, this] at hk
     cases hk
    ·omega

theorem trim_infix (l : List UInt8) : trimV l <:+: l := by
 unfold trimV
 have h1 : (l.dropWhile wsC) <:+ l := List.dropWhile_suffix _
 have h2 : ((l.dropWhile wsC).reverse.dropWhile wsC).reverse <+: (l.dropWhile wsC) := by
  have := (List.dropWhile_suffix (l := (l.dropWhile wsC).reverse) wsC)
  have := List.reverse_prefix.2 this
  rw [List.reverse_reverse] at this
  exact this
 exact h2.isInfix.trans h1.isInfix

theorem part_infix (c : UInt8) (l : List UInt8) : (part c l).1 <:+: l ∧ (part c l).2.1 <:+: l := by
 rcases first_split c l with h | ⟨a, r, h, rfl⟩
 ·rw [part_none c l h]; exact ⟨List.infix_refl _, List.nil_infix⟩
 ·rw [part_some c a r h]
  exact ⟨(List.prefix_append _ _).isInfix, ⟨a ++ [c], [], by simp⟩⟩

theorem clean_infix {l : List UInt8} (h : ∀ c ∈ l, 32 ≤ c.toNat) : cleanV l <:+: l := by
 have h1 := trim_infix l
 have : cleanV l = trimV l := by
  unfold cleanV
  rw [List.filter_eq_self]
  intro c hc
  have h2 := h c (h1.subset hc)
  have := u8_all (P := fun c => decide (c.toNat < 32) || !eyeC c) (by decide +kernel) c
  rw [Bool.or_eq_true, decide_eq_true_eq] at this
  rcases this with h3 | h3
  ·omega
  ·exact h3
 rw [this]; exact h1

theorem at_infix (l : List UInt8) : (atV l).2 <:+: l := by
 unfold atV
 split
 ·have := (List.takeWhile_prefix (l := l.reverse) (fun x => x != 64))
  have := List.reverse_suffix.2 this
  rw [List.reverse_reverse] at this
  exact this.isInfix
 ·exact List.infix_refl _

theorem read_inn {P : List UInt8} {B : Adr} (e : readV P none = .ok B) (hs : specV B.scheme = true) (h32 : ∀ c ∈ P, 32 ≤ c.toNat) : ∃ t rest, parseV t true = some B.host ∧ rest <:+: P ∧ t <:+: slashV rest := by
 have wa : ∀ {u v : Adr} {r : List UInt8}, withAuth u r = .ok v → v.scheme = u.scheme ∧ (specV u.scheme = true → ∃ t, parseV t true = some v.host ∧ t <:+: r) := by
  intro u v r e
  unfold withAuth at e
  split at e
  ·cases e
  ·rename_i a b h p hh
   injection e with e
   subst e
   refine ⟨(withPath_hosts _ _ _).1, fun hs => ?_⟩
   rw [(withPath_hosts _ _ _).2]
   unfold authV at hh
   split at hh
   ·cases hh
   ·split at hh
    ·cases hh
    ·rename_i h' hh'
     split at hh
     ·cases hh
     ·injection hh with hh
      simp only [Prod.mk.injEq] at hh
      rw [hs] at hh'
      refine ⟨_, by show parseV _ true = some h; rw [← hh.2.2.1]; exact hh', ?_⟩
      exact (List.take_prefix _ _).isInfix.trans ((at_infix _).trans (List.takeWhile_prefix _).isInfix)
 have hb : (beginU P).2 <:+: P := by
  have c0 := clean_infix h32
  have c1 := (part_infix 35 (cleanV P)).1
  have c2 := (part_infix 58 (part 35 (cleanV P)).1).2
  unfold beginU
  simp only
  unfold schemeV
  split
  ·simp only [Option.getD_some]; exact c2.trans (c1.trans c0)
  ·simp only [Option.getD_none]; exact c1.trans c0
 unfold readV at e
 split at e
 ·cases e
 ·simp only at e
  split at e
  ·cases e
  ·unfold startV at e
   split at e
   ·rename_i hsp
    obtain ⟨t, ht, hi⟩ := (wa e).2 hsp
    exact ⟨t, _, ht, hb, hi.trans (List.dropWhile_suffix _).isInfix⟩
   ·rename_i hsp
    split at e
    ·rw [(wa e).1] at hs
     exact absurd hs hsp
    ·split at e
     ·injection e with e
      subst e
      rw [(withPath_hosts _ _ _).1] at hs
      exact absurd hs hsp
     ·injection e with e
      subst e
      have : (withQuery { (beginU P).1 with opq := true, path := [pct 1 (aheadV [63] (beginU P).2).1] } (aheadV [63] (beginU P).2).2).scheme = (beginU P).1.scheme := by
       unfold withQuery; split <;> rfl
      rw [this] at hs
      exact absurd hs hsp

theorem inn_hlen {x : List UInt8} {B : Adr} (e : readV (pct 1 x) none = .ok B) (hs : specV B.scheme = true) : B.host.length ≤ max (x.length + 8) 102 := by
 obtain ⟨t, rest, ht, h1, h2⟩ := read_inn e hs (fun c hc => (pct_range 1 x c (by decide) hc).1)
 rcases host_in ht with h | ⟨h0, hl⟩
 ·omega
 ·have a := cE_infix h1
  have b := cE_infix h2
  have c := cE_pct x
  have d : cE rest ≤ cE (slashV rest) := by
   have := cE_slash (aheadV [63] rest).1 (aheadV [63] rest).2
   have e : (aheadV [63] rest).1 ++ (aheadV [63] rest).2 = rest := by unfold aheadV; exact List.takeWhile_append_dropWhile
   rw [e] at this
   exact this
  have f : (slashV rest).length = rest.length := by
   unfold slashV aheadV
   simp only [List.length_append, List.length_map]
   rw [← List.length_append, List.takeWhile_append_dropWhile]
  omega

theorem org_own {s : List UInt8} {A : Adr} (e : readV s none = .ok A) (ho : (orgV A).opq = false) : ∃ B, SpU B ∧ orgV A = ⟨B.scheme, B.host, hasP B, false⟩ ∧ B.host.length ≤ max (s.length + 8) 102 := by
 have hsp : specV (orgA A).scheme = true := by
  cases h : specV (orgA A).scheme with
  | true => rfl
  | false => unfold orgV at ho; rw [h] at ho; cases ho
 have hv : orgV A = ⟨(orgA A).scheme, (orgA A).host, hasP (orgA A), false⟩ := by unfold orgV; rw [if_pos hsp]
 by_cases hw : webV (innV A).scheme = true
 ·have hA : orgA A = innV A := by unfold orgA; rw [if_pos hw]
  rw [hA] at hsp hv
  have hc : A.scheme = sBlob ∧ A.opq = true := by
   by_cases hc : A.scheme = sBlob ∧ A.opq = true
   ·exact hc
   ·have : innV A = Adr.zero := by unfold innV; rw [if_neg hc]
    rw [this] at hw
    exact absurd hw (by decide)
  have hi : innV A = adrOf (readV A.path.flatten none) := by unfold innV; rw [if_pos hc]
  obtain ⟨x, hx, hxl⟩ : ∃ x, A.path.flatten = pct 1 x ∧ x.length ≤ s.length := by
   unfold readV at e
   split at e
   ·cases e
   ·simp only at e
    split at e
    ·cases e
    ·rw [start_opq4 rfl e hc.2]
     refine ⟨_, by simp; rfl, ?_⟩
     have h1 : (aheadV [63] (beginU s).2).1.length ≤ (beginU s).2.length := (List.takeWhile_prefix _).length_le
     have c0 : (cleanV s).length ≤ s.length := by
      unfold cleanV
      exact Nat.le_trans (List.length_filter_le _ _) (trim_infix s).length_le
     have c1 := part_le 35 (cleanV s)
     have c2 := part_le 58 (part 35 (cleanV s)).1
     have h2 : (beginU s).2.length ≤ s.length := by
      unfold beginU
      simp only
      unfold schemeV
      split
      ·simp only [Option.getD_some]; omega
      ·simp only [Option.getD_none]; omega
     omega
  cases hr : readV A.path.flatten none with
  | error z =>
   rw [hi, hr] at hw
   exact absurd (show webV Adr.zero.scheme = true from hw) (by decide)
  | ok B =>
   have hB : innV A = B := by rw [hi, hr]; rfl
   rw [hB] at hsp hv
   refine ⟨B, read_sp hr hsp, hv, ?_⟩
   rw [hx] at hr
   have := inn_hlen hr hsp
   omega
 ·have hA : orgA A = A := by unfold orgA; rw [if_neg hw]
  rw [hA] at hsp hv
  refine ⟨A, read_sp e hsp, hv, ?_⟩
  have := read_hlen e hsp
  omega

end Go.Proofs.YtpopljcmkbchcaaGreatDoor

namespace Go.Proofs.YtpopljcmkbchcaaGreatDoor
open Go.RowKit

theorem orgOk_any (s : List UInt8) : OrgOk (ofT s) := by
 unfold ofT urlV
 cases hr : readV (s.take 300) none with
 | error e =>
  show OrgOk (orgV Adr.zero)
  exact ⟨by decide, by decide, fun h => by cases h⟩
 | ok A =>
  show OrgOk (orgV A)
  cases ho : (orgV A).opq with
  | true =>
   have e : (orgV A) = ⟨[], [], 0, true⟩ := by
    unfold orgV at ho ⊢
    split at ho
    ·cases ho
    ·rename_i h; rw [if_neg h]; rfl
   rw [e]
   exact ⟨by decide, by decide, fun h => by cases h⟩
  | false =>
   obtain ⟨B, hB, hO, hh⟩ := org_own hr ho
   have hl : (s.take 300).length ≤ 300 := by rw [List.length_take]; omega
   obtain ⟨p0, p1⟩ := hasP_port hB.str hB.spec
   rw [hO]
   exact ⟨by have := (spec_len hB.spec).1; show B.scheme.length ≤ _; omega, by show B.host.length ≤ _; omega, fun _ => ⟨p0, p1⟩⟩

end Go.Proofs.YtpopljcmkbchcaaGreatDoor

namespace Go.Proofs.YtpopljcmkbchcaaGreatDoor
open Go.RowKit

set_option maxHeartbeats 8000000 in
set_option maxRecDepth 100000 in
theorem rtextO_any (o : Org) (w : World) (hg : Gd w) (hs : o.scheme.length ≤ 1000000) (hh : o.host.length ≤ 1000000) (hp : o.opq = false → 0 ≤ o.port ∧ o.port ≤ 65535) :
  Calls Tryz.prog 99 #[orgVal o] w fun e w' => e = .returned (.string ⟨(textO o).toArray⟩) ∧ Below w.heap.size w w' := by
 obtain ⟨sa, ah, ap, ao⟩ := o
 obtain ⟨AS, rfl⟩ : ∃ X : ByteArray, sa = X.data.toList := ⟨⟨sa.toArray⟩, rfl⟩
 obtain ⟨AH, rfl⟩ : ∃ X : ByteArray, ah = X.data.toList := ⟨⟨ah.toArray⟩, rfl⟩
 rw [show orgVal ⟨AS.data.toList, AH.data.toList, ap, ao⟩ = .agg #[.string AS, .string AH, .int .i64 ap, .bool ao] from rfl]
 have hss : AS.size ≤ 1000000 := by rw [Lib.size_eq]; exact hs
 have hhs : AH.size ≤ 1000000 := by rw [Lib.size_eq]; exact hh
 obtain ⟨T1, hT1⟩ : ∃ Z : ByteArray, AS ++ (⟨#[58, 47, 47]⟩ : ByteArray) = Z := ⟨_, rfl⟩
 have hT1l : T1.data.toList = AS.data.toList ++ [58, 47, 47] := by rw [← hT1, ByteArray.data_append, Array.toList_append]
 have hT1s : T1.size ≤ 1000003 := by rw [Lib.size_eq, hT1l, List.length_append, ← Lib.size_eq]; simp; omega
 obtain ⟨T2, hT2⟩ : ∃ Z : ByteArray, T1 ++ AH = Z := ⟨_, rfl⟩
 have hT2l : T2.data.toList = AS.data.toList ++ [58, 47, 47] ++ AH.data.toList := by rw [← hT2, ByteArray.data_append, Array.toList_append, hT1l]
 have hT2s : T2.size ≤ 2000003 := by rw [Lib.size_eq, ← hT2, ByteArray.data_append, Array.toList_append, List.length_append, ← Lib.size_eq, ← Lib.size_eq]; omega
 obtain ⟨PT, hPT⟩ : ∃ X : ByteArray, X = ⟨(portT ap).toArray⟩ := ⟨_, rfl⟩
 have hPl : PT.data.toList = portT ap := by rw [hPT]
 have hPs : PT.size ≤ 100 := by rw [hPT]; exact portT_le ap
 obtain ⟨T3, hT3⟩ : ∃ Z : ByteArray, T2 ++ (⟨#[58]⟩ : ByteArray) = Z := ⟨_, rfl⟩
 have hT3l : T3.data.toList = AS.data.toList ++ [58, 47, 47] ++ AH.data.toList ++ [58] := by rw [← hT3, ByteArray.data_append, Array.toList_append, hT2l]
 have hT3s : T3.size ≤ 2000004 := by rw [Lib.size_eq, hT3l, ← hT2l, List.length_append, ← Lib.size_eq]; simp; omega
 obtain ⟨T4, hT4⟩ : ∃ Z : ByteArray, T3 ++ PT = Z := ⟨_, rfl⟩
 have HT4 := hid (show T4.data.toList = AS.data.toList ++ [58, 47, 47] ++ AH.data.toList ++ ([58] ++ portT ap) by rw [← hT4, ByteArray.data_append, Array.toList_append, hT3l, hPl]; simp only [List.append_assoc])
 have HT2 := hid hT2l
 obtain ⟨W, hW⟩ : ∃ W, (w.alloc (.cells #[.string AS, .string AH, .int .i64 ap, .bool ao] 71)) = W := ⟨_, rfl⟩
 have hbW : Below w.heap.size w W := by rw [← hW]; exact (Below.refl _ w).alloc (Nat.le_refl _) _
 have hrow : W.heap[w.heap.size]? = some (.cells #[.string AS, .string AH, .int .i64 ap, .bool ao] 71 (0, 0)) := by rw [← hW]; exact heap_alloc_new w _
 have h0 : W.cell? ⟨w.heap.size, 0, none⟩ = some (.string AS) := by rw [Lib.cell_of_heap hrow]; rfl
 have h1 : W.cell? ⟨w.heap.size, 1, none⟩ = some (.string AH) := by rw [Lib.cell_of_heap hrow]; rfl
 have h2 : W.cell? ⟨w.heap.size, 2, none⟩ = some (.int .i64 ap) := by rw [Lib.cell_of_heap hrow]; rfl
 have h3 : W.cell? ⟨w.heap.size, 3, none⟩ = some (.bool ao) := by rw [Lib.cell_of_heap hrow]; rfl
 have HKF := hid (show ∀ Z, Below W.heap.size W Z → Z.cell? ⟨w.heap.size, 0, none⟩ = some (.string AS) ∧ Z.cell? ⟨w.heap.size, 1, none⟩ = some (.string AH) ∧ Z.cell? ⟨w.heap.size, 2, none⟩ = some (.int .i64 ap) ∧ Z.cell? ⟨w.heap.size, 3, none⟩ = some (.bool ao) from fun Z hZ => ⟨keptC h0 hZ, keptC h1 hZ, keptC h2 hZ, keptC h3 hZ⟩)
 have HGW := hid (fun (X : World) (hX : Below W.heap.size W X) => (hg.kept hbW).kept hX)
 have HBW := hid hbW
 have HOw := hid (fun w => rown_any AS w)
 obtain ⟨ow, how⟩ : ∃ z, ownV AS.data.toList = z := ⟨_, rfl⟩
 rw [how] at HOw
 have HOwE := hid how
 have HPT := hid hPT
 clear hg hs hh hT1l hT2l hPT hPl hT3l hbW hrow how
 cases ao with
 | true =>
  clear hp
  go_enter Tryz.func99, Tryz.ntmps99
  go_wp2
  go_ret
  exact ⟨rfl, HBW.out⟩
 | false =>
  have HP := hid (hp rfl)
  have HIt : Hid (∀ (X : World), Calls Tryz.prog 72 #[.int .i64 ap] X fun e w' => e = .returned (.string PT) ∧ X = w') := fun X => by
   have hp1 : (0 : Int) ≤ ap := HP.out.1
   have hp2 : ap ≤ (65535 : Int) := HP.out.2
   rw [HPT.out]
   have := numeral3_any ap.toNat X (by omega)
   rwa [show ((ap.toNat : Nat) : Int) = ap by omega] at this
  clear hp
  go_enter Tryz.func99, Tryz.ntmps99
  go_wp2_with fail
  have HQ0 := hid ((Below.refl W.heap.size W).drew)
  refine wp_region_held_drew (S := (fun wx => Below W.heap.size W wx)) (by kernel_rfl) HQ0.out (fun hHeld => ?_)
  refine' wpAnyH_take (i := 0) (oi := ⟨some 12, _, _, _, _, _⟩) (v := _) rfl (by kernel_rfl) (by kernel_rfl) (by kernel_rfl) (fun _ _ _ h => h) (Or.inl ⟨by kernel_rfl, ?hy1⟩) (by assumption) ?rest1
  case hy1 => (intro wx hSw; (try dsimp only at hSw); obtain ⟨k0, k1, k2, k3⟩ := HKF.out _ hSw; go_simp; first | done | with_reducible rfl | (rw [if_neg (by omega)]; with_reducible rfl))
  (try simp only [Act.put, List.setIfInBounds_toArray, List.set_cons_zero, List.set_cons_succ])
  refine' wpAnyH_take (i := 1) (oi := ⟨some 13, _, _, _, _, _⟩) (v := _) rfl (by kernel_rfl) (by kernel_rfl) (by kernel_rfl) (fun _ _ _ h => h) (Or.inl ⟨by kernel_rfl, ?hy2⟩) (by assumption) ?rest2
  case hy2 => (intro wx hSw; (try dsimp only at hSw); obtain ⟨k0, k1, k2, k3⟩ := HKF.out _ hSw; go_simp; first | done | with_reducible rfl | (rw [if_neg (by omega)]; with_reducible rfl))
  (try simp only [Act.put, List.setIfInBounds_toArray, List.set_cons_zero, List.set_cons_succ])
  refine' wpAnyH_take (i := 2) (oi := ⟨some 14, _, _, _, _, _⟩) (v := _) rfl (by kernel_rfl) (by kernel_rfl) (by kernel_rfl) (fun _ _ _ h => h) (Or.inl ⟨by kernel_rfl, ?hy3⟩) (by assumption) ?rest3
  case hy3 => (intro wx hSw; (try dsimp only at hSw); obtain ⟨k0, k1, k2, k3⟩ := HKF.out _ hSw; go_simp; first | done | with_reducible rfl | (rw [if_neg (by omega)]; with_reducible rfl))
  (try simp only [Act.put, List.setIfInBounds_toArray, List.set_cons_zero, List.set_cons_succ])
  refine' wpAnyH_take (i := 3) (oi := ⟨some 15, _, _, _, _, _⟩) (v := _) rfl (by kernel_rfl) (by kernel_rfl) (by kernel_rfl) (fun _ _ _ h => h) (Or.inl ⟨by kernel_rfl, ?hy4⟩) (by assumption) ?rest4
  case hy4 => (intro wx hSw; (try dsimp only at hSw); obtain ⟨k0, k1, k2, k3⟩ := HKF.out _ hSw; go_simp; first | done | with_reducible rfl | (rw [if_neg (by omega)]; with_reducible rfl))
  (try simp only [Act.put, List.setIfInBounds_toArray, List.set_cons_zero, List.set_cons_succ])
  refine wpAnyH_ready (rs := [4]) (by kernel_rfl) (by simp) ?_
  refine AllReadyH.cons rfl (fun K hK => ?_) AllReadyH.nil
  rw [if_pos (by kernel_rfl)]
  go_simp
  go_wp2_with (go_at_call 153; refine (HOw.out _).mono ?_; rintro e wz ⟨rfl, hwz⟩; rw [← hwz]; clear hwz)
  refine hK.out _ _ HQ0.out (fun hHeld2 => ?_)
  clear hK K hHeld
  rename _ => hHeld
  by_cases hpo : ap = ow
  ·have hpo' : (ap != ow) = false := by rw [hpo]; exact bne_self_eq_false ow
   have HZ := hid (show textO ⟨AS.data.toList, AH.data.toList, ap, false⟩ = AS.data.toList ++ [58, 47, 47] ++ AH.data.toList by unfold textO; simp [hpo, HOwE.out])
   clear hpo
   refine' wpAnyH_take (i := 5) (oi := ⟨some 17, _, _, _, _, _⟩) (v := _) rfl (by kernel_rfl) (by kernel_rfl) (by kernel_rfl) (fun _ _ _ h => h) (Or.inl ⟨by kernel_rfl, ?hy5⟩) (by assumption) ?rest5
   case hy5 => (intro wx hSw; (try dsimp only at hSw); obtain ⟨k0, k1, k2, k3⟩ := HKF.out _ hSw; go_simp; first | done | with_reducible rfl | (rw [if_neg (by omega)]; with_reducible rfl))
   (try simp only [Act.put, List.setIfInBounds_toArray, List.set_cons_zero, List.set_cons_succ])
   refine wpAnyH_done (by kernel_rfl) ?_ _
   go_wp2
   go_ret
   exact ⟨ret_str' (by refine ba_ext ?_; rw [HT2.out, HZ.out]), below2 HBW.out HQ0.out⟩
  ·have hpo' : (ap != ow) = true := bne_iff_ne.2 hpo
   have HZ := hid (show textO ⟨AS.data.toList, AH.data.toList, ap, false⟩ = AS.data.toList ++ [58, 47, 47] ++ AH.data.toList ++ ([58] ++ portT ap) by unfold textO; simp [hpo, HOwE.out])
   clear hpo
   refine' wpAnyH_take (i := 5) (oi := ⟨some 17, _, _, _, _, _⟩) (v := _) rfl (by kernel_rfl) (by kernel_rfl) (by kernel_rfl) (fun _ _ _ h => h) (Or.inl ⟨by kernel_rfl, ?hy6⟩) (by assumption) ?rest6
   case hy6 => (intro wx hSw; (try dsimp only at hSw); obtain ⟨k0, k1, k2, k3⟩ := HKF.out _ hSw; go_simp; first | done | with_reducible rfl | (rw [if_neg (by omega)]; with_reducible rfl))
   (try simp only [Act.put, List.setIfInBounds_toArray, List.set_cons_zero, List.set_cons_succ])
   refine wpAnyH_done (by kernel_rfl) ?_ _
   obtain ⟨k0, k1, k2, k3⟩ := HKF.out _ HQ0.out
   go_wp2_with fail
   refine (HIt.out _).mono ?_
   rintro e w5 ⟨rfl, rfl⟩
   go_wp2
   go_ret
   exact ⟨ret_str' (by refine ba_ext ?_; rw [HT4.out, HZ.out]), below2 HBW.out HQ0.out⟩

end Go.Proofs.YtpopljcmkbchcaaGreatDoor

namespace Go.Proofs.YtpopljcmkbchcaaGreatDoor
open Go.RowKit

set_option maxHeartbeats 8000000 in
set_option maxRecDepth 100000 in
theorem rcheck18_any (o : Org) (c : Bool) (v : Value) (L : List Hd) (w : World) (hg : Gd w) (ho : OrgOk o) (h : HdAt w v L) (hz : Szd 140737488351232 L) (hl : L.length ≤ 1000000) (hb : bulkV L ≤ 140737488355328) :
  Calls Tryz.prog 48 #[orgVal o, .bool c, v] w fun e w' => e = .returned (.bool (chkC (textO o) c L)) ∧ Below w.heap.size w w' := by
 have HT := hid (fun (Y : World) (hY : Below w.heap.size w Y) => rtextO_any o Y (hg.kept hY) ho.1 ho.2.1 ho.2.2)
 have HG1 := hid (fun (Y : World) (hY : Below w.heap.size w Y) => rget_any v L ⟨nAO.toArray⟩ Y (h.kept hY) (by decide) hz hl hb)
 have HG2 := hid (fun (Y : World) (hY : Below w.heap.size w Y) => rget_any v L ⟨nAC.toArray⟩ Y (h.kept hY) (by decide) hz hl hb)
 simp only [show (⟨nAO.toArray⟩ : ByteArray).data.toList = nAO from rfl] at HG1
 simp only [show (⟨nAC.toArray⟩ : ByteArray).data.toList = nAC from rfl] at HG2
 obtain ⟨a1, c1, rfl, hc1, hm1, hv1⟩ := h.view
 obtain ⟨nl, hnl⟩ : ∃ n, n = L.length := ⟨_, rfl⟩
 rw [← hnl] at HG1 HG2 ⊢
 have EA := hid (fun h => @chkC_a (textO o) c L h)
 have EB := hid (fun h h1 h2 => @chkC_b (textO o) c L h h1 h2)
 have EC := hid (fun h h1 h2 => @chkC_c (textO o) c L h h1 h2)
 have ED := hid (fun h h1 h2 => @chkC_d (textO o) c L h h1 h2)
 generalize chkC (textO o) c L = R at EA EB EC ED ⊢
 generalize getT L nAC = K at HG2 ED
 generalize getB L nAC = kb at HG2
 generalize getT L nAO = G at HG1 EB EC ED
 generalize getB L nAO = gb at HG1 EA EB EC ED
 obtain ⟨X, rfl⟩ : ∃ X : ByteArray, G = X.data.toList := ⟨⟨G.toArray⟩, rfl⟩
 obtain ⟨Y, rfl⟩ : ∃ X : ByteArray, K = X.data.toList := ⟨⟨K.toArray⟩, rfl⟩
 generalize textO o = U at HT EC ED
 obtain ⟨P, rfl⟩ : ∃ X : ByteArray, U = X.data.toList := ⟨⟨U.toArray⟩, rfl⟩
 simp only [Lib.mk_data] at HG1 HG2 HT
 obtain ⟨sa, ah, ap, ao⟩ := o
 obtain ⟨AS, rfl⟩ : ∃ X : ByteArray, sa = X.data.toList := ⟨⟨sa.toArray⟩, rfl⟩
 obtain ⟨AH, rfl⟩ : ∃ X : ByteArray, ah = X.data.toList := ⟨⟨ah.toArray⟩, rfl⟩
 have hval : orgVal ⟨AS.data.toList, AH.data.toList, ap, ao⟩ = .agg #[.string AS, .string AH, .int .i64 ap, .bool ao] := rfl
 rw [hval] at HT ⊢
 obtain ⟨W1, hW1⟩ : ∃ X, w.alloc (.cells #[.string AS, .string AH, .int .i64 ap, .bool ao] 71) = X := ⟨_, rfl⟩
 have hb1 : Below w.heap.size w W1 := by rw [← hW1]; exact (Below.refl _ w).alloc (Nat.le_refl _) _
 have h1 : OrgIn W1 w.heap.size ⟨AS.data.toList, AH.data.toList, ap, ao⟩ := by rw [← hW1]; exact heap_alloc_new w _
 have HB1 := hid hb1
 have HO1 := hid h1
 clear hg ho h hz hl hb hc1 hm1 hv1 hnl hval hb1 h1
 cases gb with
 | false =>
  obtain rfl : R = false := EA.out rfl
  clear EA EB EC ED
  go_enter Tryz.func48, Tryz.ntmps48
  go_wp2_with fail
  refine (HG1.out _ HB1.out).mono ?_
  rintro e w2 ⟨rfl, hb2⟩
  have HB2 := hid (below2 HB1.out hb2)
  have HO2 := hid (HO1.out.kept hb2)
  clear hb2
  go_wp2_with fail
  go_ret
  exact ⟨rfl, HB2.out⟩
 | true =>
  by_cases hs : X.data.toList = [42]
  ·cases c with
   | false =>
    obtain rfl : R = true := EB.out rfl hs rfl
    have e1 := lst_yes hs
    clear EA EB EC ED hs
    subst e1
    go_enter Tryz.func48, Tryz.ntmps48
    go_wp2_with fail
    refine (HG1.out _ HB1.out).mono ?_
    rintro e w2 ⟨rfl, hb2⟩
    have HB2 := hid (below2 HB1.out hb2)
    have HO2 := hid (HO1.out.kept hb2)
    clear hb2
    go_wp2_with fail
    go_ret
    exact ⟨rfl, HB2.out⟩
   | true =>
    have hn : ¬ (X.data.toList = [42] ∧ true = false) := fun e => by cases e.2
    have e1 := lst_yes hs
    by_cases hp : X = P
    ·have hR : R = (!true || Y.data.toList == tTru) := ED.out rfl hn (by rw [hp])
     subst hp
     clear EA EB EC ED hs hn
     subst e1
     by_cases hy : Y.data.toList = tTru
     ·obtain rfl : R = true := by rw [hR, hy]; rfl
      have e2 := lst_yes hy
      unfold tTru at e2
      clear hy hR
      subst e2
      go_enter Tryz.func48, Tryz.ntmps48
      go_wp2_with fail
      refine (HG1.out _ HB1.out).mono ?_
      rintro e w2 ⟨rfl, hb2⟩
      have HB2 := hid (below2 HB1.out hb2)
      have HO2 := hid (HO1.out.kept hb2)
      clear hb2
      go_wp2_with fail
      refine (HG2.out _ HB2.out).mono ?_
      rintro e w3 ⟨rfl, hb3⟩
      have HB3 := hid (below2 HB2.out hb3)
      have HO3 := hid (HO2.out.kept hb3)
      clear hb3
      have ry0 := HO3.out.cell 0 _ rfl
      have rz0 := HO3.out.frozen 0
      have ry1 := HO3.out.cell 1 _ rfl
      have rz1 := HO3.out.frozen 1
      have ry2 := HO3.out.cell 2 _ rfl
      have rz2 := HO3.out.frozen 2
      have ry3 := HO3.out.cell 3 _ rfl
      have rz3 := HO3.out.frozen 3
      go_wp2_with fail
      refine (HT.out _ HB3.out).mono ?_
      rintro e w4 ⟨rfl, hb4⟩
      have HB4 := hid (below2 HB3.out hb4)
      clear hb4 ry0 ry1 ry2 ry3 rz0 rz1 rz2 rz3
      go_wp2_with fail
      go_ret
      exact ⟨rfl, HB4.out⟩
     ·obtain rfl : R = false := by rw [hR, beq_eq_false_iff_ne.2 hy]; rfl
      have e2 := lst_ne hy
      unfold tTru at e2
      clear hy hR
      go_enter Tryz.func48, Tryz.ntmps48
      go_wp2_with fail
      refine (HG1.out _ HB1.out).mono ?_
      rintro e w2 ⟨rfl, hb2⟩
      have HB2 := hid (below2 HB1.out hb2)
      have HO2 := hid (HO1.out.kept hb2)
      clear hb2
      go_wp2_with fail
      refine (HG2.out _ HB2.out).mono ?_
      rintro e w3 ⟨rfl, hb3⟩
      have HB3 := hid (below2 HB2.out hb3)
      have HO3 := hid (HO2.out.kept hb3)
      clear hb3
      have ry0 := HO3.out.cell 0 _ rfl
      have rz0 := HO3.out.frozen 0
      have ry1 := HO3.out.cell 1 _ rfl
      have rz1 := HO3.out.frozen 1
      have ry2 := HO3.out.cell 2 _ rfl
      have rz2 := HO3.out.frozen 2
      have ry3 := HO3.out.cell 3 _ rfl
      have rz3 := HO3.out.frozen 3
      go_wp2_with fail
      refine (HT.out _ HB3.out).mono ?_
      rintro e w4 ⟨rfl, hb4⟩
      have HB4 := hid (below2 HB3.out hb4)
      clear hb4 ry0 ry1 ry2 ry3 rz0 rz1 rz2 rz3
      go_wp2_with fail
      go_ret
      exact ⟨rfl, HB4.out⟩
    ·obtain rfl : R = false := EC.out rfl hn (fun e => hp (xba e))
     have n1 := (tx_ne (S := X) (T := P) (fun e => hp (xba e))).1
     have n2 := (tx_ne (S := X) (T := P) (fun e => hp (xba e))).2.1
     have n3 := (tx_ne (S := X) (T := P) (fun e => hp (xba e))).2.2
     clear EA EB EC ED hs hn hp
     subst e1
     have n4 : (([42] : List UInt8) == P.toList) = false := by rw [Lib.toList_data]; exact n3
     go_enter Tryz.func48, Tryz.ntmps48
     go_wp2_with fail
     refine (HG1.out _ HB1.out).mono ?_
     rintro e w2 ⟨rfl, hb2⟩
     have HB2 := hid (below2 HB1.out hb2)
     have HO2 := hid (HO1.out.kept hb2)
     clear hb2
     go_wp2_with fail
     refine (HG2.out _ HB2.out).mono ?_
     rintro e w3 ⟨rfl, hb3⟩
     have HB3 := hid (below2 HB2.out hb3)
     have HO3 := hid (HO2.out.kept hb3)
     clear hb3
     have ry0 := HO3.out.cell 0 _ rfl
     have rz0 := HO3.out.frozen 0
     have ry1 := HO3.out.cell 1 _ rfl
     have rz1 := HO3.out.frozen 1
     have ry2 := HO3.out.cell 2 _ rfl
     have rz2 := HO3.out.frozen 2
     have ry3 := HO3.out.cell 3 _ rfl
     have rz3 := HO3.out.frozen 3
     go_wp2_with fail
     refine (HT.out _ HB3.out).mono ?_
     rintro e w4 ⟨rfl, hb4⟩
     have HB4 := hid (below2 HB3.out hb4)
     clear hb4 ry0 ry1 ry2 ry3 rz0 rz1 rz2 rz3
     go_wp2_with fail
     go_ret
     exact ⟨rfl, HB4.out⟩
  ·have hn : ¬ (X.data.toList = [42] ∧ c = false) := fun e => hs e.1
   have n0 := lst_ne hs
   by_cases hp : X = P
   ·have hR : R = (!c || Y.data.toList == tTru) := ED.out rfl hn (by rw [hp])
    subst hp
    clear EA EB EC ED hs hn
    cases c with
    | false =>
     obtain rfl : R = true := by rw [hR]; rfl
     clear hR
     go_enter Tryz.func48, Tryz.ntmps48
     go_wp2_with fail
     refine (HG1.out _ HB1.out).mono ?_
     rintro e w2 ⟨rfl, hb2⟩
     have HB2 := hid (below2 HB1.out hb2)
     have HO2 := hid (HO1.out.kept hb2)
     clear hb2
     go_wp2_with fail
     refine (HG2.out _ HB2.out).mono ?_
     rintro e w3 ⟨rfl, hb3⟩
     have HB3 := hid (below2 HB2.out hb3)
     have HO3 := hid (HO2.out.kept hb3)
     clear hb3
     have ry0 := HO3.out.cell 0 _ rfl
     have rz0 := HO3.out.frozen 0
     have ry1 := HO3.out.cell 1 _ rfl
     have rz1 := HO3.out.frozen 1
     have ry2 := HO3.out.cell 2 _ rfl
     have rz2 := HO3.out.frozen 2
     have ry3 := HO3.out.cell 3 _ rfl
     have rz3 := HO3.out.frozen 3
     go_wp2_with fail
     refine (HT.out _ HB3.out).mono ?_
     rintro e w4 ⟨rfl, hb4⟩
     have HB4 := hid (below2 HB3.out hb4)
     clear hb4 ry0 ry1 ry2 ry3 rz0 rz1 rz2 rz3
     go_wp2_with fail
     go_ret
     exact ⟨rfl, HB4.out⟩
    | true =>
     by_cases hy : Y.data.toList = tTru
     ·obtain rfl : R = true := by rw [hR, hy]; rfl
      have e2 := lst_yes hy
      unfold tTru at e2
      clear hy hR
      subst e2
      go_enter Tryz.func48, Tryz.ntmps48
      go_wp2_with fail
      refine (HG1.out _ HB1.out).mono ?_
      rintro e w2 ⟨rfl, hb2⟩
      have HB2 := hid (below2 HB1.out hb2)
      have HO2 := hid (HO1.out.kept hb2)
      clear hb2
      go_wp2_with fail
      refine (HG2.out _ HB2.out).mono ?_
      rintro e w3 ⟨rfl, hb3⟩
      have HB3 := hid (below2 HB2.out hb3)
      have HO3 := hid (HO2.out.kept hb3)
      clear hb3
      have ry0 := HO3.out.cell 0 _ rfl
      have rz0 := HO3.out.frozen 0
      have ry1 := HO3.out.cell 1 _ rfl
      have rz1 := HO3.out.frozen 1
      have ry2 := HO3.out.cell 2 _ rfl
      have rz2 := HO3.out.frozen 2
      have ry3 := HO3.out.cell 3 _ rfl
      have rz3 := HO3.out.frozen 3
      go_wp2_with fail
      refine (HT.out _ HB3.out).mono ?_
      rintro e w4 ⟨rfl, hb4⟩
      have HB4 := hid (below2 HB3.out hb4)
      clear hb4 ry0 ry1 ry2 ry3 rz0 rz1 rz2 rz3
      go_wp2_with fail
      go_ret
      exact ⟨rfl, HB4.out⟩
     ·obtain rfl : R = false := by rw [hR, beq_eq_false_iff_ne.2 hy]; rfl
      have e2 := lst_ne hy
      unfold tTru at e2
      clear hy hR
      go_enter Tryz.func48, Tryz.ntmps48
      go_wp2_with fail
      refine (HG1.out _ HB1.out).mono ?_
      rintro e w2 ⟨rfl, hb2⟩
      have HB2 := hid (below2 HB1.out hb2)
      have HO2 := hid (HO1.out.kept hb2)
      clear hb2
      go_wp2_with fail
      refine (HG2.out _ HB2.out).mono ?_
      rintro e w3 ⟨rfl, hb3⟩
      have HB3 := hid (below2 HB2.out hb3)
      have HO3 := hid (HO2.out.kept hb3)
      clear hb3
      have ry0 := HO3.out.cell 0 _ rfl
      have rz0 := HO3.out.frozen 0
      have ry1 := HO3.out.cell 1 _ rfl
      have rz1 := HO3.out.frozen 1
      have ry2 := HO3.out.cell 2 _ rfl
      have rz2 := HO3.out.frozen 2
      have ry3 := HO3.out.cell 3 _ rfl
      have rz3 := HO3.out.frozen 3
      go_wp2_with fail
      refine (HT.out _ HB3.out).mono ?_
      rintro e w4 ⟨rfl, hb4⟩
      have HB4 := hid (below2 HB3.out hb4)
      clear hb4 ry0 ry1 ry2 ry3 rz0 rz1 rz2 rz3
      go_wp2_with fail
      go_ret
      exact ⟨rfl, HB4.out⟩
   ·obtain rfl : R = false := EC.out rfl hn (fun e => hp (xba e))
    have n1 := (tx_ne (S := X) (T := P) (fun e => hp (xba e))).1
    have n2 := (tx_ne (S := X) (T := P) (fun e => hp (xba e))).2.1
    have n3 := (tx_ne (S := X) (T := P) (fun e => hp (xba e))).2.2
    clear EA EB EC ED hs hn hp
    cases c with
    | false =>
     go_enter Tryz.func48, Tryz.ntmps48
     go_wp2_with fail
     refine (HG1.out _ HB1.out).mono ?_
     rintro e w2 ⟨rfl, hb2⟩
     have HB2 := hid (below2 HB1.out hb2)
     have HO2 := hid (HO1.out.kept hb2)
     clear hb2
     go_wp2_with fail
     refine (HG2.out _ HB2.out).mono ?_
     rintro e w3 ⟨rfl, hb3⟩
     have HB3 := hid (below2 HB2.out hb3)
     have HO3 := hid (HO2.out.kept hb3)
     clear hb3
     have ry0 := HO3.out.cell 0 _ rfl
     have rz0 := HO3.out.frozen 0
     have ry1 := HO3.out.cell 1 _ rfl
     have rz1 := HO3.out.frozen 1
     have ry2 := HO3.out.cell 2 _ rfl
     have rz2 := HO3.out.frozen 2
     have ry3 := HO3.out.cell 3 _ rfl
     have rz3 := HO3.out.frozen 3
     go_wp2_with fail
     refine (HT.out _ HB3.out).mono ?_
     rintro e w4 ⟨rfl, hb4⟩
     have HB4 := hid (below2 HB3.out hb4)
     clear hb4 ry0 ry1 ry2 ry3 rz0 rz1 rz2 rz3
     go_wp2_with fail
     go_ret
     exact ⟨rfl, HB4.out⟩
    | true =>
     go_enter Tryz.func48, Tryz.ntmps48
     go_wp2_with fail
     refine (HG1.out _ HB1.out).mono ?_
     rintro e w2 ⟨rfl, hb2⟩
     have HB2 := hid (below2 HB1.out hb2)
     have HO2 := hid (HO1.out.kept hb2)
     clear hb2
     go_wp2_with fail
     refine (HG2.out _ HB2.out).mono ?_
     rintro e w3 ⟨rfl, hb3⟩
     have HB3 := hid (below2 HB2.out hb3)
     have HO3 := hid (HO2.out.kept hb3)
     clear hb3
     have ry0 := HO3.out.cell 0 _ rfl
     have rz0 := HO3.out.frozen 0
     have ry1 := HO3.out.cell 1 _ rfl
     have rz1 := HO3.out.frozen 1
     have ry2 := HO3.out.cell 2 _ rfl
     have rz2 := HO3.out.frozen 2
     have ry3 := HO3.out.cell 3 _ rfl
     have rz3 := HO3.out.frozen 3
     go_wp2_with fail
     refine (HT.out _ HB3.out).mono ?_
     rintro e w4 ⟨rfl, hb4⟩
     have HB4 := hid (below2 HB3.out hb4)
     clear hb4 ry0 ry1 ry2 ry3 rz0 rz1 rz2 rz3
     go_wp2_with fail
     go_ret
     exact ⟨rfl, HB4.out⟩

end Go.Proofs.YtpopljcmkbchcaaGreatDoor
