/-
  Walks and plain facts that this claim leans on, put together out of 4 texts: Pi, Yp, Ewt, Ewv.
-/
import Derived.Test.YtamockkjbkibdaaGreatDoorProg
import Derived.Test.YtamockkjbkibdaaGreatDoorQa1
import Derived.Test.YtamockkjbkibdaaGreatDoorQa2
import Derived.Test.YtamockkjbkibdaaGreatDoorQa3
import Derived.Test.YtamockkjbkibdaaGreatDoorQa4
import Derived.Test.YtamockkjbkibdaaGreatDoorQa5
import Derived.Test.YtamockkjbkibdaaGreatDoorQa6
import Derived.Test.YtamockkjbkibdaaGreatDoorQa7
import Derived.Test.YtamockkjbkibdaaGreatDoorQa8
import Derived.Test.YtamockkjbkibdaaGreatDoorQa9
import Derived.Test.YtamockkjbkibdaaGreatDoorQa10
import Derived.Test.YtamockkjbkibdaaGreatDoorQa11
import Derived.Test.YtamockkjbkibdaaGreatDoorQa12
import Derived.Test.YtamockkjbkibdaaGreatDoorQa13
import Derived.Test.YtamockkjbkibdaaGreatDoorQa14
import Derived.Test.YtamockkjbkibdaaGreatDoorQa15
import Derived.Test.YtamockkjbkibdaaGreatDoorQa16
import Derived.Test.YtamockkjbkibdaaGreatDoorQa17
import Derived.Test.YtamockkjbkibdaaGreatDoorQa18
import Derived.Test.YtamockkjbkibdaaGreatDoorQa19
import Derived.Test.YtamockkjbkibdaaGreatDoorQa20
import Derived.Test.YtamockkjbkibdaaGreatDoorQa21
import Derived.Test.YtamockkjbkibdaaGreatDoorQa22
import Derived.Test.YtamockkjbkibdaaGreatDoorQa23
import Derived.Test.YtamockkjbkibdaaGreatDoorQa24
import Derived.Test.YtamockkjbkibdaaGreatDoorQa25
import Derived.Test.YtamockkjbkibdaaGreatDoorQa26
import Derived.Test.YtamockkjbkibdaaGreatDoorQa27
import Derived.Test.YtamockkjbkibdaaGreatDoorQa28
import Derived.Test.YtamockkjbkibdaaGreatDoorQa29
import Derived.Test.YtamockkjbkibdaaGreatDoorQa30
import Derived.Test.YtamockkjbkibdaaGreatDoorQa31
import Derived.Test.YtamockkjbkibdaaGreatDoorQa32
import Derived.Test.YtamockkjbkibdaaGreatDoorQo1
import Derived.Test.YtamockkjbkibdaaGreatDoorQo2
import Derived.Test.YtamockkjbkibdaaGreatDoorQo3
import Derived.WalkKit
import Derived.Lib.Strings
import Derived.Lib.UnsafeStr
import Derived.Laws.IdiomStrings
import Derived.Laws.AppendOwn
import Derived.Laws.BitsAllLaws
import Derived.Lib.Bytealg
import Derived.Lib.IndexMore
import Derived.Lib.Join
import Derived.Lib.LastIndexByte
import Derived.Lib.BufferMore
import Derived.LoopN
import Derived.RegionTactic
import Derived.Deep.RegionWith
import Derived.Deep.QuietTactic
import Derived.BigQuiet
import Derived.Laws.OwnMore
import Derived.Shelf.Strings.Builder1
import Derived.Shelf.Strings.Builder2
import Derived.Shelf.Strings.OnBuilder
import Derived.Shelf.Strings.Trim
import Derived.Shelf.Small.Utf8
import Derived.Shelf.Small.Strs
import Derived.Shelf.Small.Wraps
import Derived.Shelf.Strings.BuilderF
import Derived.Shelf.Strings.BuilderK
import Derived.Shelf.Strings.BuilderRune
import Derived.Shelf.Utf8.AppendRune
import Derived.Shelf.Utf8.AppendRunePlain
import Derived.Shelf.Strings.Builder2Cap
import Derived.Shelf.Strconv.Itoa0
import Derived.Shelf.Strconv.Itoa1
import Derived.Shelf.LaysM
import Derived.Shelf.Strconv.Itoa2
import Derived.Shelf.Strconv.Itoa3
import Derived.Shelf.Strings.Search1
import Derived.Shelf.Strings.Search2
import Derived.Shelf.Strings.Search3
import Derived.Shelf.Strings.Cut
import Derived.Shelf.Strings.Count
import Derived.Shelf.Strings.Shaped
import Derived.Shelf.Strings.LastIndex
import Derived.Shelf.Strings.Prefix
import Derived.Shelf.Strings.Split
import Derived.Shelf.Strings.Replace
import Derived.Shelf.Strings.Runes
import Derived.Shelf.Strings.IndexAny
import Derived.Shelf.Strings.AsciiSet
import Derived.Shelf.Strings.IndexAnyAll
import Derived.Shelf.Unicode.DecodeSlow
import Derived.Ground.Names2Prog
import Derived.Shelf.Slices.Clone
import Derived.Ground.SlgnProg
import Derived.Shelf.SlicesE.Clone
import Derived.Scope
import Derived.ScopeJumps
import Derived.WalkMore
import Derived.Lib.IndexAny
import Derived.Lib.Replace
import Derived.Lib.TrimByte
import Derived.Lib.ItoaNum
import Derived.Laws.RangeAny
import Derived.Lib.DecodeN
import Derived.Lib.OthersKept
import Derived.Deep.LoopGhost
import Derived.Laws.BytesString
import Derived.Deep.WholeRow
import Derived.BigRegion
import Derived.WalkSpells
import Derived.WalkLawsBesides
import Derived.Lib.AppendIntMem
import Derived.Lib.SmallJoins
import Derived.WalkSmall
import Derived.OwnWalk
import Derived.Laws.CopyOwn
import Derived.Laws.ResultCell
import Derived.Deep.MidRow
import Derived.Lib.FrozenHead2
import Derived.Lib.Builder
import Derived.Deep.RegionLaw
import Derived.Laws.Runes
import Derived.Deep.Cut
import Derived.Deep.RegionHeld
import Derived.Deep.CutRange
import Derived.Lib.BufferRead
import Derived.Lib.RuneBytes
import Derived.Laws.AppendOwnNone
import Derived.Lib.AppendStr
import Derived.Lib.SlTrimSet
import Derived.Below
import Derived.Shelf.Strings.SlTrimAscii
set_option linter.unusedSimpArgs false
set_option linter.unusedVariables false

namespace Go.Proofs.YtamockkjbkibdaaGreatDoor
theorem pct_range (set : Int) (l : List UInt8) (d : UInt8) (hs : 1 ≤ set ∧ set ≤ 6) (h : d ∈ pct set l) : 32 ≤ d.toNat ∧ d.toNat ≤ 126 := by
 have h1 := pct_mem set l d h
 have h2 : ¬ inSetP d.toNat set := by rw [← inSetI_iff, h1]; simp
 unfold inSetP at h2
 omega

end Go.Proofs.YtamockkjbkibdaaGreatDoor

namespace Go.Proofs.YtamockkjbkibdaaGreatDoor
open Go.RowKit

theorem StrT.set {w : World} {g : Nat} {L : List (List UInt8)} {k : Nat} (h : StrT w g L k) (hk : k < L.length) : StrT (w.setCell ⟨g, k, none⟩ (.string ⟨L[k].toArray⟩)) g L (k + 1) := by
 obtain ⟨cur, hg, hs, hc⟩ := h
 refine ⟨_, Lib.heap_setCell_same hg _, by simpa using hs, ?_⟩
 intro j hj hj2
 by_cases e : k = j
 ·subst e
  have : k < cur.size := by omega
  simp [this]
 ·simp [Array.getElem?_setIfInBounds, e]
  exact hc j hj (by omega)

theorem StrT.own {w : World} {B g : Nat} {L : List (List UInt8)} (h : StrT w g L L.length) (hB : B ≤ g) (hl : L.length ≤ maxLen) : w.ownsRow B 9 1 (.slice (some ⟨g, 0, none⟩) L.length L.length) L.length (cellsS L) := by
 obtain ⟨cur, hg, hs, hc⟩ := h
 refine ⟨by simp [cellsS_len], .inr ⟨g, L.length, cur, rfl, hB, hg, Nat.le_refl _, hl, by simpa using hs, ?_⟩⟩
 apply List.ext_getElem?
 intro j
 by_cases hj : j < L.length
 ·have := hc j hj hj
  rw [Nat.mul_one, List.getElem?_take, if_pos hj]
  simp only [cellsS, List.getElem?_map, List.getElem?_eq_getElem hj, Option.map_some]
  simpa using this
 ·rw [List.getElem?_eq_none (by simp; omega), List.getElem?_eq_none (by simp [cellsS]; omega)]

end Go.Proofs.YtamockkjbkibdaaGreatDoor

namespace Go.Proofs.YtamockkjbkibdaaGreatDoor
def badHd (l : List UInt8) : Bool := (pcd l).2 && inSetI (pcd l).1.toNat 1

def cE : List UInt8 → Nat
 | [] => 0
 | c :: l => (if badHd (c :: l) then 1 else 0) + cE l

theorem pcd_yes {c : UInt8} {l : List UInt8} (h : (pcd (c :: l)).2 = true) : c = 37 ∧ ∃ p q r, l = p :: q :: r ∧ p ≠ 37 ∧ q ≠ 37 ∧ p ≠ 92 ∧ q ≠ 92 := by
 by_cases hc : c = 37
 ·subst hc
  match l, h with
  | [], h => cases h
  | [a], h => cases h
  | a :: b :: r, h =>
   refine ⟨rfl, a, b, r, rfl, ?_⟩
   have h2 : (is16I a.toNat && is16I b.toNat) = true := by
    cases e : (is16I a.toNat && is16I b.toNat) with
    | true => rfl
    | false =>
     have : pcd (37 :: a :: b :: r) = (37, false) := by unfold pcd; simp only; rw [e]; rfl
     rw [this] at h; cases h
   rw [Bool.and_eq_true] at h2
   have key : ∀ c : UInt8, is16I c.toNat = true → c ≠ 37 ∧ c ≠ 92 := fun c hc => by
    have := u8_all (P := fun c => !is16I c.toNat || (c != 37 && c != 92)) (by decide +kernel) c
    rw [hc] at this
    simpa using this
   exact ⟨(key a h2.1).1, (key b h2.2).1, (key a h2.1).2, (key b h2.2).2⟩
 ·rw [pcd_other l c hc] at h; cases h

theorem bad_yes {c : UInt8} {l : List UInt8} (h : badHd (c :: l) = true) : c = 37 ∧ ∃ p q r, l = p :: q :: r ∧ p ≠ 37 ∧ q ≠ 37 ∧ p ≠ 92 ∧ q ≠ 92 := by
 unfold badHd at h
 rw [Bool.and_eq_true] at h
 exact pcd_yes h.1

theorem cE_ne {c : UInt8} {l : List UInt8} (h : c ≠ 37) : cE (c :: l) = cE l := by
 have : badHd (c :: l) = false := by
  cases e : badHd (c :: l) with
  | false => rfl
  | true => exact absurd (bad_yes e).1 h
 rw [cE, this]; simp

theorem cE_two {p q : UInt8} {r : List UInt8} (hp : p ≠ 37) (hq : q ≠ 37) : cE (p :: q :: r) = cE r := by rw [cE_ne hp, cE_ne hq]

theorem cE_le1 (c : UInt8) (l : List UInt8) : cE (c :: l) ≤ 1 + cE l := by rw [cE]; split <;> omega

theorem cE_ge (c : UInt8) (l : List UInt8) : cE l ≤ cE (c :: l) := by rw [cE]; omega

theorem cE_pct (x : List UInt8) : (pct 1 x).length ≤ x.length + 2 * cE (pct 1 x) := by
 induction x with
 | nil => exact Nat.le_refl _
 | cons c x ih =>
  have e : pct 1 (c :: x) = pct1 1 c ++ pct 1 x := rfl
  rw [e]
  unfold pct1
  cases hc : inSetI c.toNat 1 with
  | false =>
   rw [if_neg (by decide)]
   have := cE_ge c (pct 1 x)
   simp only [List.cons_append, List.nil_append, List.length_cons]
   omega
  | true =>
   rw [if_pos rfl]
   have hd := u8_all (P := fun c => pcd (esc c) == (c, true)) (by decide +kernel) c
   have hp : pcd (esc c ++ pct 1 x) = (c, true) := (beq_iff_eq.1 hd)
   have h1 : badHd (esc c ++ pct 1 x) = true := by unfold badHd; rw [hp, hc]; rfl
   have h2 : esc c ++ pct 1 x = 37 :: hexD (c.toNat / 16) :: hexD (c.toNat % 16) :: pct 1 x := rfl
   have h3 : cE (pct 1 x) + 1 ≤ cE (esc c ++ pct 1 x) := by
    rw [h2] at h1 ⊢
    rw [cE, h1, if_pos rfl]
    have a := cE_ge (hexD (c.toNat / 16)) (hexD (c.toNat % 16) :: pct 1 x)
    have b := cE_ge (hexD (c.toNat % 16)) (pct 1 x)
    omega
   have h4 : (esc c ++ pct 1 x).length = (pct 1 x).length + 3 := by rw [h2]; simp
   rw [List.length_cons]
   omega

theorem cE_un : ∀ (n : Nat) (t : List UInt8), t.length ≤ n → 0 < cE t → ∃ d ∈ unpct t, inSetI d.toNat 1 = true := by
 intro n
 induction n with
 | zero =>
  intro t ht h
  have : t = [] := List.eq_nil_of_length_eq_zero (by omega)
  subst this
  exact absurd h (by decide)
 | succ n ih =>
  intro t ht h
  match t, ht, h with
  | [], _, h => exact absurd h (by decide)
  | c :: l, ht, h =>
   rw [unpct_cons]
   cases hb : badHd (c :: l) with
   | true =>
    unfold badHd at hb
    rw [Bool.and_eq_true] at hb
    exact ⟨_, List.mem_cons_self, hb.2⟩
   | false =>
    rw [cE, hb] at h
    have h : 0 < cE l := by simpa using h
    cases hp : (pcd (c :: l)).2 with
    | true =>
     obtain ⟨-, p, q, r, rfl, hp1, hq1, -⟩ := pcd_yes hp
     rw [cE_two hp1 hq1] at h
     obtain ⟨d, hd, hs⟩ := ih r (by simp at ht; omega) h
     exact ⟨d, List.mem_cons_of_mem _ (by simpa using hd), hs⟩
    | false =>
     obtain ⟨d, hd, hs⟩ := ih l (by simp at ht; omega) h
     exact ⟨d, List.mem_cons_of_mem _ (by simpa using hd), hs⟩

theorem cE_app : ∀ (u v : List UInt8), cE (u ++ v) ≤ cE u + cE v + 1
 | [], v => by show cE v ≤ cE [] + cE v + 1; omega
 | [c], v => by
  have := cE_le1 c v
  show cE (c :: v) ≤ cE [c] + cE v + 1
  omega
 | [c, d], v => by
  show cE (c :: d :: v) ≤ cE [c, d] + cE v + 1
  cases hb : badHd (c :: d :: v) with
  | true =>
   obtain ⟨-, p, q, r, e, hp, -⟩ := bad_yes hb
   injection e with e1 e2
   rw [cE, hb, if_pos rfl, cE_ne (by rw [e1]; exact hp)]
   omega
  | false =>
   rw [cE, hb]
   have := cE_le1 d v
   simp only [Bool.false_eq_true, if_false]
   omega
 | c :: d :: e :: u, v => by
  have ih := cE_app (d :: e :: u) v
  have hb : badHd (c :: d :: e :: (u ++ v)) = badHd (c :: d :: e :: u) := by
   unfold badHd
   have : pcd (c :: d :: e :: (u ++ v)) = pcd (c :: d :: e :: u) := by
    by_cases hc : c = 37
    ·subst hc; rfl
    ·rw [pcd_other _ c hc, pcd_other _ c hc]
   rw [this]
  show cE (c :: (d :: e :: (u ++ v))) ≤ cE (c :: (d :: e :: u)) + cE v + 1
  have e1 : cE (c :: (d :: e :: (u ++ v))) = (if badHd (c :: d :: e :: (u ++ v)) then 1 else 0) + cE (d :: e :: (u ++ v)) := rfl
  have e2 : cE (c :: (d :: e :: u)) = (if badHd (c :: d :: e :: u) then 1 else 0) + cE (d :: e :: u) := rfl
  rw [e1, e2, hb]
  have : cE (d :: e :: (u ++ v)) ≤ cE (d :: e :: u) + cE v + 1 := ih
  omega

theorem cE_half : ∀ (n : Nat) (u : List UInt8), u.length ≤ n → 2 * cE u ≤ u.length := by
 intro n
 induction n with
 | zero =>
  intro u hu
  have : u = [] := List.eq_nil_of_length_eq_zero (by omega)
  subst this
  exact Nat.le_refl _
 | succ n ih =>
  intro u hu
  match u, hu with
  | [], _ => exact Nat.le_refl _
  | c :: l, hu =>
   cases hb : badHd (c :: l) with
   | true =>
    obtain ⟨-, p, q, r, rfl, hp, hq, -⟩ := bad_yes hb
    rw [cE, hb, if_pos rfl, cE_two hp hq]
    have := ih r (by simp at hu; omega)
    simp only [List.length_cons]
    omega
   | false =>
    rw [cE, hb]
    have := ih l (by simp at hu; omega)
    simp only [Bool.false_eq_true, if_false, List.length_cons]
    omega

theorem cE_infix {t P : List UInt8} (h : t <:+: P) : t.length + 2 * cE P ≤ P.length + 2 * cE t + 4 := by
 obtain ⟨a, b, rfl⟩ := h
 have h1 := cE_app (a ++ t) b
 have h2 := cE_app a t
 have h3 := cE_half _ a (Nat.le_refl _)
 have h4 := cE_half _ b (Nat.le_refl _)
 simp only [List.length_append]
 omega

theorem cE_slash (a b : List UInt8) : cE (a ++ b) ≤ cE (a.map slC ++ b) := by
 induction a with
 | nil => exact Nat.le_refl _
 | cons c a ih =>
  show cE (c :: (a ++ b)) ≤ cE (slC c :: (a.map slC ++ b))
  cases hb : badHd (c :: (a ++ b)) with
  | false =>
   rw [cE, hb]
   have := cE_ge (slC c) (a.map slC ++ b)
   simp only [Bool.false_eq_true, if_false]
   omega
  | true =>
   obtain ⟨rfl, p, q, r, e, hp, hq, hp2, hq2⟩ := bad_yes hb
   have hs : ∃ r', a.map slC ++ b = p :: q :: r' := by
    match a, e with
    | [], e => exact ⟨r, e⟩
    | [x], e =>
     injection e with e1 e2
     subst e1
     refine ⟨r, ?_⟩
     show slC x :: b = _
     rw [show b = q :: r from e2, show slC x = x by unfold slC; rw [if_neg hp2]]
    | x :: y :: a', e =>
     injection e with e1 e2
     injection e2 with e2 e3
     subst e1 e2
     refine ⟨a'.map slC ++ b, ?_⟩
     show slC x :: slC y :: (a'.map slC ++ b) = _
     rw [show slC x = x by unfold slC; rw [if_neg hp2], show slC y = y by unfold slC; rw [if_neg hq2]]
   obtain ⟨r', hr'⟩ := hs
   have hb2 : badHd (slC 37 :: (a.map slC ++ b)) = true := by
    rw [hr', show slC 37 = 37 by decide]
    rw [e] at hb
    exact hb
   rw [cE, hb, if_pos rfl]
   rw [show cE (slC 37 :: (a.map slC ++ b)) = 1 + cE (a.map slC ++ b) by rw [cE, hb2, if_pos rfl]]
   omega

theorem host_in {t h : List UInt8} (hp : parseV t true = some h) : h.length ≤ 102 ∨ (cE t = 0 ∧ h.length ≤ t.length) := by
 unfold parseV at hp
 split at hp
 ·left
  unfold bracketV at hp
  split at hp
  ·cases hs : sixV (Lib.trimSuffix (t.drop 1) [93]) with
   | none => rw [hs] at hp; cases hp
   | some x =>
    rw [hs] at hp
    simp only [Option.map_some, Option.some.injEq] at hp
    have := text6_le x (sixV_ok hs).1
    rw [← hp]; simp; omega
  ·cases hp
 ·rw [if_pos rfl] at hp
  unfold nameV at hp
  split at hp
  ·cases hp
  ·rename_i hno
   split at hp
   ·left
    cases hf : fourV (low (unpct t)) with
    | none => rw [hf] at hp; cases hp
    | some n =>
     rw [hf] at hp
     simp only [Option.map_some, Option.some.injEq] at hp
     rw [← hp]
     have := text4_le n
     omega
   ·right
    simp only [Option.some.injEq] at hp
    have h1 := unpct_le t
    refine ⟨?_, by rw [← hp, show low (unpct t) = (unpct t).map lowC from rfl, List.length_map]; omega⟩
    by_cases h0 : 0 < cE t
    ·obtain ⟨d, hd, hs⟩ := cE_un _ t (Nat.le_refl _) h0
     have hall : allN (low (unpct t)) = true := by
      cases e : allN (low (unpct t)) with
      | true => rfl
      | false => exact absurd (.inr (.inl e)) hno
     unfold allN at hall
     have := List.all_eq_true.1 hall (lowC d) (List.mem_map.2 ⟨d, hd, rfl⟩)
     have hk := u8_all (P := fun c => !inSetI c.toNat 1 || !nameB (lowC c)) (by decide +kernel) d
     rw [hs, this] at hk
     cases hk
    ·omega

theorem trim_infix (l : List UInt8) : trimV l <:+: l := by
 unfold trimV
 have h1 : (l.dropWhile wsC) <:+ l := List.dropWhile_suffix _
 have h2 : ((l.dropWhile wsC).reverse.dropWhile wsC).reverse <+: (l.dropWhile wsC) := by
  have := (List.dropWhile_suffix (l := (l.dropWhile wsC).reverse) wsC)
  have := List.reverse_prefix.2 this
  rw [List.reverse_reverse] at this
  exact this
 exact h2.isInfix.trans h1.isInfix

theorem part_infix (c : UInt8) (l : List UInt8) : (part c l).1 <:+: l ∧ (part c l).2.1 <:+: l := by
 rcases first_split c l with h | ⟨a, r, h, rfl⟩
 ·rw [part_none c l h]; exact ⟨List.infix_refl _, List.nil_infix⟩
 ·rw [part_some c a r h]
  exact ⟨(List.prefix_append _ _).isInfix, ⟨a ++ [c], [], by simp⟩⟩

theorem clean_infix {l : List UInt8} (h : ∀ c ∈ l, 32 ≤ c.toNat) : cleanV l <:+: l := by
 have h1 := trim_infix l
 have : cleanV l = trimV l := by
  unfold cleanV
  rw [List.filter_eq_self]
  intro c hc
  have h2 := h c (h1.subset hc)
  have := u8_all (P := fun c => decide (c.toNat < 32) || !eyeC c) (by decide +kernel) c
  rw [Bool.or_eq_true, decide_eq_true_eq] at this
  rcases this with h3 | h3
  ·omega
  ·exact h3
 rw [this]; exact h1

theorem at_infix (l : List UInt8) : (atV l).2 <:+: l := by
 unfold atV
 split
 ·have := (List.takeWhile_prefix (l := l.reverse) (fun x => x != 64))
  have := List.reverse_suffix.2 this
  rw [List.reverse_reverse] at this
  exact this.isInfix
 ·exact List.infix_refl _

theorem read_inn {P : List UInt8} {B : Adr} (e : readV P none = .ok B) (hs : specV B.scheme = true) (h32 : ∀ c ∈ P, 32 ≤ c.toNat) : ∃ t rest, parseV t true = some B.host ∧ rest <:+: P ∧ t <:+: slashV rest := by
 have wa : ∀ {u v : Adr} {r : List UInt8}, withAuth u r = .ok v → v.scheme = u.scheme ∧ (specV u.scheme = true → ∃ t, parseV t true = some v.host ∧ t <:+: r) := by
  intro u v r e
  unfold withAuth at e
  split at e
  ·cases e
  ·rename_i a b h p hh
   injection e with e
   subst e
   refine ⟨(withPath_hosts _ _ _).1, fun hs => ?_⟩
   rw [(withPath_hosts _ _ _).2]
   unfold authV at hh
   split at hh
   ·cases hh
   ·split at hh
    ·cases hh
    ·rename_i h' hh'
     split at hh
     ·cases hh
     ·injection hh with hh
      simp only [Prod.mk.injEq] at hh
      rw [hs] at hh'
      refine ⟨_, by show parseV _ true = some h; rw [← hh.2.2.1]; exact hh', ?_⟩
      exact (List.take_prefix _ _).isInfix.trans ((at_infix _).trans (List.takeWhile_prefix _).isInfix)
 have hb : (beginU P).2 <:+: P := by
  have c0 := clean_infix h32
  have c1 := (part_infix 35 (cleanV P)).1
  have c2 := (part_infix 58 (part 35 (cleanV P)).1).2
  unfold beginU
  simp only
  unfold schemeV
  split
  ·simp only [Option.getD_some]; exact c2.trans (c1.trans c0)
  ·simp only [Option.getD_none]; exact c1.trans c0
 unfold readV at e
 split at e
 ·cases e
 ·simp only at e
  split at e
  ·cases e
  ·unfold startV at e
   split at e
   ·rename_i hsp
    obtain ⟨t, ht, hi⟩ := (wa e).2 hsp
    exact ⟨t, _, ht, hb, hi.trans (List.dropWhile_suffix _).isInfix⟩
   ·rename_i hsp
    split at e
    ·rw [(wa e).1] at hs
     exact absurd hs hsp
    ·split at e
     ·injection e with e
      subst e
      rw [(withPath_hosts _ _ _).1] at hs
      exact absurd hs hsp
     ·injection e with e
      subst e
      have : (withQuery { (beginU P).1 with opq := true, path := [pct 1 (aheadV [63] (beginU P).2).1] } (aheadV [63] (beginU P).2).2).scheme = (beginU P).1.scheme := by
       unfold withQuery; split <;> rfl
      rw [this] at hs
      exact absurd hs hsp

theorem inn_hlen {x : List UInt8} {B : Adr} (e : readV (pct 1 x) none = .ok B) (hs : specV B.scheme = true) : B.host.length ≤ max (x.length + 8) 102 := by
 obtain ⟨t, rest, ht, h1, h2⟩ := read_inn e hs (fun c hc => (pct_range 1 x c (by decide) hc).1)
 rcases host_in ht with h | ⟨h0, hl⟩
 ·omega
 ·have a := cE_infix h1
  have b := cE_infix h2
  have c := cE_pct x
  have d : cE rest ≤ cE (slashV rest) := by
   have := cE_slash (aheadV [63] rest).1 (aheadV [63] rest).2
   have e : (aheadV [63] rest).1 ++ (aheadV [63] rest).2 = rest := by unfold aheadV; exact List.takeWhile_append_dropWhile
   rw [e] at this
   exact this
  have f : (slashV rest).length = rest.length := by
   unfold slashV aheadV
   simp only [List.length_append, List.length_map]
   rw [← List.length_append, List.takeWhile_append_dropWhile]
  omega

theorem org_own {s : List UInt8} {A : Adr} (e : readV s none = .ok A) (ho : (orgV A).opq = false) : ∃ B, SpU B ∧ orgV A = ⟨B.scheme, B.host, hasP B, false⟩ ∧ B.host.length ≤ max (s.length + 8) 102 := by
 have hsp : specV (orgA A).scheme = true := by
  cases h : specV (orgA A).scheme with
  | true => rfl
  | false => unfold orgV at ho; rw [h] at ho; cases ho
 have hv : orgV A = ⟨(orgA A).scheme, (orgA A).host, hasP (orgA A), false⟩ := by unfold orgV; rw [if_pos hsp]
 by_cases hw : webV (innV A).scheme = true
 ·have hA : orgA A = innV A := by unfold orgA; rw [if_pos hw]
  rw [hA] at hsp hv
  have hc : A.scheme = sBlob ∧ A.opq = true := by
   by_cases hc : A.scheme = sBlob ∧ A.opq = true
   ·exact hc
   ·have : innV A = Adr.zero := by unfold innV; rw [if_neg hc]
    rw [this] at hw
    exact absurd hw (by decide)
  have hi : innV A = adrOf (readV A.path.flatten none) := by unfold innV; rw [if_pos hc]
  obtain ⟨x, hx, hxl⟩ : ∃ x, A.path.flatten = pct 1 x ∧ x.length ≤ s.length := by
   unfold readV at e
   split at e
   ·cases e
   ·simp only at e
    split at e
    ·cases e
    ·rw [start_opq4 rfl e hc.2]
     refine ⟨_, by simp; rfl, ?_⟩
     have h1 : (aheadV [63] (beginU s).2).1.length ≤ (beginU s).2.length := (List.takeWhile_prefix _).length_le
     have c0 : (cleanV s).length ≤ s.length := by
      unfold cleanV
      exact Nat.le_trans (List.length_filter_le _ _) (trim_infix s).length_le
     have c1 := part_le 35 (cleanV s)
     have c2 := part_le 58 (part 35 (cleanV s)).1
     have h2 : (beginU s).2.length ≤ s.length := by
      unfold beginU
      simp only
      unfold schemeV
      split
      ·simp only [Option.getD_some]; omega
      ·simp only [Option.getD_none]; omega
     omega
  cases hr : readV A.path.flatten none with
  | error z =>
   rw [hi, hr] at hw
   exact absurd (show webV Adr.zero.scheme = true from hw) (by decide)
  | ok B =>
   have hB : innV A = B := by rw [hi, hr]; rfl
   rw [hB] at hsp hv
   refine ⟨B, read_sp hr hsp, hv, ?_⟩
   rw [hx] at hr
   have := inn_hlen hr hsp
   omega
 ·have hA : orgA A = A := by unfold orgA; rw [if_neg hw]
  rw [hA] at hsp hv
  refine ⟨A, read_sp e hsp, hv, ?_⟩
  have := read_hlen e hsp
  omega

theorem parsed_facts {s : List UInt8} {A : Adr} (e : urlV s = .ok A) (hl : s.length ≤ 250) (ho : (orgV A).opq = false) (T : ByteArray) (hT : T.data.toList = textO (orgV A) ++ [47]) :
  ∃ V, urlV T.data.toList = .ok V ∧ orgV V = orgV A ∧ (textO (orgV A)).length ≤ 280 ∧ 0 ≤ (orgV A).port ∧ (orgV A).port ≤ 65535 ∧ (orgV A).scheme.length ≤ 5 ∧ (orgV A).host.length ≤ 265 ∧ TrOk V := by
 have e' : readV (s.take 300) none = .ok A := e
 have hl' : (s.take 300).length ≤ 250 := by rw [List.length_take]; omega
 obtain ⟨B, hB, hO, hh⟩ := org_own e' ho
 have h1 := textO_len hB
 have h2 := text_root hB []
 have hr := (hB.root partP_nil).read (by rw [← h2]; simp; omega)
 obtain ⟨p0, p1⟩ := hasP_port hB.str hB.spec
 refine ⟨rootU B [], ?_, ?_, by rw [hO]; omega, by rw [hO]; exact p0, by rw [hO]; exact p1, by rw [hO]; exact (spec_len hB.spec).1, by rw [hO]; show B.host.length ≤ _; omega, slim_tr (parse_slim hr)⟩
 ·unfold urlV
  rw [hT, hO, h2, List.take_of_length_le (by rw [← h2]; simp; omega)]
  exact hr
 ·rw [hO, org_spec (u := rootU B []) hB.spec]
  rfl

end Go.Proofs.YtamockkjbkibdaaGreatDoor

namespace Go.Proofs.YtamockkjbkibdaaGreatDoor
open Go.RowKit

theorem sizeO4 : (Tryz.prog.info? 39).map (·.size) = some 4 := by kernel_rfl

theorem org_opq (u : Adr) (h : (orgV u).opq = true) : orgV u = Org.none := by
 unfold orgV at h ⊢
 split
 ·rename_i hs; rw [if_pos hs] at h; cases h
 ·rfl

theorem ofT_cases (s : List UInt8) : ofT s = Org.none ∨ ((ofT s).opq = false ∧ ∃ A, urlV s = .ok A ∧ ofT s = orgV A) := by
 unfold ofT
 cases hu : urlV s with
 | error e => left; show orgV Adr.zero = _; decide
 | ok A =>
  cases ho : (orgV A).opq with
  | true => left; exact org_opq A ho
  | false => right; exact ⟨ho, A, rfl, rfl⟩

set_option maxHeartbeats 16000000 in
set_option maxRecDepth 100000 in
theorem originParsed_walk (S : ByteArray) (w : World) (hs : S.size ≤ 140737488351232) (hg : Gd w) :
  Calls Tryz.prog 7 #[.string S] w fun e w' => e = .returned (.bool true) ∧ Below w.heap.size w w' := by
 have HOf := hid (of4_any S w hg (by omega))
 have HG0 := hid hg
 rcases ofT_cases S.data.toList with hn | ⟨ho, A, hA, hOA⟩
 ·rw [hn] at HOf
  obtain ⟨X2, hX2⟩ : ∃ X : ByteArray, X = ⟨#[110, 117, 108, 108]⟩ := ⟨_, rfl⟩
  have T2 := hid (text4_at Org.none X2 _ kn4_t2 hX2 (by decide))
  have b2 := lit_beq X2 _ hX2
  rw [show orgVal Org.none = .agg #[.string ⟨#[]⟩, .string ⟨#[]⟩, .int .i64 0, .bool true] from rfl] at HOf T2
  clear hX2 hg hn
  go_enter Tryz.func7, Tryz.ntmps7
  go_wp2_with fail
  refine HOf.out.mono ?_
  rintro e w1 ⟨rfl, hb1⟩
  have hbW : Below w1.heap.size w1 (w1.alloc (.cells #[.string ⟨#[]⟩, .string ⟨#[]⟩, .int .i64 0, .bool true] 39)) := (Below.refl _ w1).alloc (Nat.le_refl _) _
  have HB2 := hid (below2 hb1 hbW)
  have HG2 := hid (HG0.out.kept HB2.out)
  clear hb1 hbW
  go_wp2_with fail
  refine (T2.out _ HG2.out).mono ?_
  rintro e w3 ⟨rfl, hb3⟩
  have HB3 := hid (below2 HB2.out hb3)
  have HK3 := hid (known4_any w3 (HG2.out.kept hb3))
  clear hb3
  go_wp2_with fail
  refine HK3.out.mono ?_
  rintro e w4 ⟨rfl, hb4⟩
  go_wp2
  go_ret
  exact ⟨rfl, below2 HB3.out hb4⟩
 ·obtain ⟨O, hO⟩ : ∃ O, ofT S.data.toList = O := ⟨_, rfl⟩
  have hOrg : orgV A = O := by rw [← hOA, hO]
  rw [hO] at HOf ho
  have HPf := hid (show S.size ≤ 250 → ∀ T : ByteArray, T.data.toList = textO O ++ [47] → ∃ V, urlV T.data.toList = .ok V ∧ orgV V = O ∧ (textO O).length ≤ 280 ∧ 0 ≤ O.port ∧ O.port ≤ 65535 ∧ O.scheme.length ≤ 5 ∧ O.host.length ≤ 265 ∧ TrOk V from fun hl T hT => by
   rw [← hOrg] at hT ⊢
   exact parsed_facts hA (by rw [← Lib.size_eq]; exact hl) (by rw [hOrg]; exact ho) T hT)
  obtain ⟨sa, ah, ap, ao⟩ := O
  obtain rfl : ao = false := ho
  obtain ⟨AS, rfl⟩ : ∃ X : ByteArray, sa = X.data.toList := ⟨⟨sa.toArray⟩, rfl⟩
  obtain ⟨AH, rfl⟩ : ∃ X : ByteArray, ah = X.data.toList := ⟨⟨ah.toArray⟩, rfl⟩
  have hval : orgVal ⟨AS.data.toList, AH.data.toList, ap, false⟩ = .agg #[.string AS, .string AH, .int .i64 ap, .bool false] := rfl
  have HVal := hid hval
  rw [hval] at HOf
  clear hval hA hOA hO hOrg hg
  go_enter Tryz.func7, Tryz.ntmps7
  go_wp2_with fail
  refine HOf.out.mono ?_
  rintro e w1 ⟨rfl, hb1⟩
  go_upto_region 2 with fail
  obtain ⟨W2, hW2⟩ : ∃ Z, (w1.alloc (.cells #[.string AS, .string AH, .int .i64 ap, .bool false] 39)) = Z := ⟨_, rfl⟩
  rw [hW2]
  have hbW2 : Below w1.heap.size w1 W2 := by rw [← hW2]; exact (Below.refl _ w1).alloc (Nat.le_refl _) _
  have r2 : W2.heap[w1.heap.size]? = some (.cells #[.string AS, .string AH, .int .i64 ap, .bool false] 39 (0, 0)) := by rw [← hW2]; exact heap_alloc_new w1 _
  have HB2 := hid (below2 hb1 hbW2)
  have HG2 := hid (HG0.out.kept HB2.out)
  have HR2 := hid r2
  have c0 : W2.cell? ⟨w1.heap.size, 0, none⟩ = some (.string AS) := by rw [Lib.cell_of_heap r2]; rfl
  have c1 : W2.cell? ⟨w1.heap.size, 1, none⟩ = some (.string AH) := by rw [Lib.cell_of_heap r2]; rfl
  have c2 : W2.cell? ⟨w1.heap.size, 2, none⟩ = some (.int .i64 ap) := by rw [Lib.cell_of_heap r2]; rfl
  have c3 : W2.cell? ⟨w1.heap.size, 3, none⟩ = some (.bool false) := by rw [Lib.cell_of_heap r2]; rfl
  have HQ2 := hid (Below.refl W2.heap.size W2)
  have HKn := hid (fun (X : World) (hX : Below W2.heap.size W2 X) => known4_any X (HG2.out.kept hX))
  clear hb1 hbW2 r2 hW2 HOf
  by_cases hl : 250 < S.size
  ·have hl' : (250 : Int) < (S.size : Int) := by omega
   clear HPf
   go_wp2_with fail
   refine (HKn.out _ HQ2.out).mono ?_
   rintro e w12 ⟨rfl, hb12⟩
   go_wp2
   go_ret
   exact ⟨rfl, below2 HB2.out hb12⟩
  ·have hl' : ¬ (250 : Int) < (S.size : Int) := by omega
   obtain ⟨TT, hTT⟩ : ∃ X : ByteArray, X = ⟨(textO ⟨AS.data.toList, AH.data.toList, ap, false⟩).toArray⟩ := ⟨_, rfl⟩
   have hTl : TT.data.toList = textO ⟨AS.data.toList, AH.data.toList, ap, false⟩ := by rw [hTT]
   obtain ⟨B2, hB2⟩ : ∃ X : ByteArray, TT ++ (⟨#[47]⟩ : ByteArray) = X := ⟨_, rfl⟩
   have hB2l : B2.data.toList = textO ⟨AS.data.toList, AH.data.toList, ap, false⟩ ++ [47] := by rw [← hB2, ByteArray.data_append, Array.toList_append, hTl]
   obtain ⟨V, g1, g2, g3, g4, g5, g6, g7, g8⟩ := HPf.out (by omega) B2 hB2l
   have HTx := hid (fun (X : World) (hX : Gd X) => textO_any ⟨AS.data.toList, AH.data.toList, ap, false⟩ X hX (Nat.le_trans g6 (by decide)) (Nat.le_trans g7 (by decide)) (fun _ => ⟨g4, g5⟩))
   rw [← hTT, HVal.out] at HTx
   have hTs : TT.size ≤ 280 := by rw [Lib.size_eq, hTl]; exact g3
   have hB2s : B2.size ≤ 281 := by rw [Lib.size_eq, ← hB2, ByteArray.data_append, Array.toList_append, List.length_append, ← Lib.size_eq TT]; simp; omega
   have HUv := hid (fun w => url_k B2 w (by omega))
   rw [g1] at HUv
   unfold UPost at HUv
   simp only [isOk, adrOf] at HUv
   have HOv := hid (fun (pv : Value) (X : World) (hX : Gd X) (hp : PathAt X pv V.path) => of_any V pv X hX hp g8.1 g8.2.1)
   rw [g2] at HOv
   unfold OfPost at HOv
   rw [HVal.out] at HOv
   clear g1 g2 g3 g4 g5 g6 g7 g8 hTT hTl hB2l HPf
   go_wp2_with fail
   refine (HTx.out _ HG2.out).mono ?_
   rintro e w4 ⟨rfl, hb4⟩
   have HQ4 := hid hb4
   clear hb4 c0 c1 c2 c3
   go_wp2_with fail
   refine (HUv.out _).mono ?_
   rintro e w5 ⟨qv, rfl, hown, hb5⟩
   obtain ⟨va, vn, vc, rfl⟩ := own_sl hown
   obtain ⟨v0, v1, v2, v3, v4, v5, v6, v8, v9, v10, v11, hxv⟩ := adr_cells V va vn vc
   have hvv : adrVal V (.slice va vn vc) = .agg #[.string v0, .string v1, .string v2, .string v3, .bool v4, .int .i64 v5, .bool v6, .slice va vn vc, .string v8, .string v9, .bool v10, .bool v11] := by unfold adrVal; rw [hxv]
   rw [hvv]
   obtain ⟨W6, hW6⟩ : ∃ X, (w5.alloc (.cells #[.string v0, .string v1, .string v2, .string v3, .bool v4, .int .i64 v5, .bool v6, .slice va vn vc, .string v8, .string v9, .bool v10, .bool v11] 24)) = X := ⟨_, rfl⟩
   have hbW6 : Below w5.heap.size w5 W6 := by rw [← hW6]; exact (Below.refl _ w5).alloc (Nat.le_refl _) _
   have hsW6 : W6.heap.size = w5.heap.size + 1 := by rw [← hW6]; simp
   have hAW6 : AdrIn W6 w5.heap.size V (.slice va vn vc) := by
    unfold AdrIn
    rw [hxv, ← hW6]
    exact heap_alloc_new w5 _
   have hb56 := below2 hb5 hbW6
   have HQ6 := hid (below2 HQ4.out hb56)
   have HPv6 := hid ((own_path hown).kept hbW6)
   have HB6 := hid (below2 HB2.out HQ6.out)
   have HG6 := hid (HG2.out.kept HQ6.out)
   have HRo := hid (show ∀ Z, Below W6.heap.size W6 Z → Z.rangeAt w1.heap.size 0 [.string AS, .string AH, .int .i64 ap, .bool false] from fun Z hZ => by
    have h := below2 HQ6.out hZ
    have hlt : w1.heap.size < W2.heap.size := (Array.getElem?_eq_some_iff.1 HR2.out).1
    exact range_row (show Z.heap[w1.heap.size]? = some (.cells [.string AS, .string AH, .int .i64 ap, .bool false].toArray 39 (0, 0)) by rw [h.block _ hlt]; exact HR2.out))
   have HRv := hid (show ∀ Z, Below W6.heap.size W6 Z → Z.rangeAt w5.heap.size 0 [.string v0, .string v1, .string v2, .string v3, .bool v4, .int .i64 v5, .bool v6, .slice va vn vc, .string v8, .string v9, .bool v10, .bool v11] from fun Z hZ => by
    have := range_row (show Z.heap[w5.heap.size]? = some (.cells (adrCells V (.slice va vn vc)).toArray 24 (0, 0)) from hAW6.kept hZ)
    rw [hxv] at this
    exact this)
   have HOv6 := hid (fun (Z : World) (hZ : Below W6.heap.size W6 Z) => HOv.out _ Z (HG6.out.kept hZ) (HPv6.out.kept hZ))
   rw [hvv] at HOv6
   have HKn6 := hid (fun (Z : World) (hZ : Below W6.heap.size W6 Z) => HKn.out Z (below2 HQ6.out hZ))
   have HZ0 := hid ((Below.refl W6.heap.size W6).drew)
   clear hown hb5 hbW6 hAW6 hxv hvv hsW6 hb56 HOv HKn HUv HTx
   go_upto_region 7 with fail
   refine wp_region_held_drew (S := (fun wx => Below W6.heap.size W6 wx)) (by kernel_rfl) HZ0.out (fun hHeld => ?_)
   refine wpAnyH_to (fuel' := 11) (listed' := #[false, false, false, false, false, false, false, false, false, false, false]) rfl rfl ?_
   refine' wpAnyH_take (i := 0) (oi := ⟨some 27, _, _, _, _, _⟩) (v := _) rfl (by kernel_rfl) (by kernel_rfl) (by kernel_rfl) (fun _ _ _ h => h) (Or.inl ⟨by kernel_rfl, ?hy1⟩) (by assumption) ?rest1
   case hy1 => (intro wx hSw; (try dsimp only at hSw); go_simp; first | done | with_reducible rfl)
   (try simp only [Act.put, List.setIfInBounds_toArray, List.set_cons_zero, List.set_cons_succ])
   refine' wpAnyH_take (i := 1) (oi := ⟨some 28, _, _, _, _, _⟩) (v := _) rfl (by kernel_rfl) (by kernel_rfl) (by kernel_rfl) (fun _ _ _ h => h) (Or.inl ⟨by kernel_rfl, ?hy2⟩) (by assumption) ?rest2
   case hy2 => (intro wx hSw; (try dsimp only at hSw); go_simp; first | done | with_reducible rfl)
   (try simp only [Act.put, List.setIfInBounds_toArray, List.set_cons_zero, List.set_cons_succ])
   refine wpAnyH_take (i := 2) (oi := ⟨some 29, _, _, _, _, _⟩) rfl (by kernel_rfl) (by kernel_rfl) (by kernel_rfl) (fun _ _ _ h => h) (yieldsIf_load_mid (by kernel_rfl) 24 (.tmp 4) rfl (w5.heap.size) 0 rfl [.string v0, .string v1, .string v2, .string v3, .bool v4, .int .i64 v5, .bool v6, .slice va vn vc, .string v8, .string v9, .bool v10, .bool v11] _ HRv.out Tryz.underlying24 rfl sizeU) (by assumption) ?_
   (try simp only [Act.put, List.setIfInBounds_toArray, List.set_cons_zero, List.set_cons_succ])
   refine wpAnyH_take (i := 4) (oi := ⟨some 31, _, _, _, _, _⟩) rfl (by kernel_rfl) (by kernel_rfl) (by kernel_rfl) (fun _ _ _ h => h) (yieldsIf_load_mid (by kernel_rfl) 39 (.tmp 3) rfl (w1.heap.size) 0 rfl [.string AS, .string AH, .int .i64 ap, .bool false] _ HRo.out Tryz.underlying39 rfl sizeO4) (by assumption) ?_
   (try simp only [Act.put, List.setIfInBounds_toArray, List.set_cons_zero, List.set_cons_succ])
   refine wpAnyH_ready (rs := [3]) (by kernel_rfl) (by simp) ?_
   refine AllReadyH.cons rfl (fun K9 hK => ?_) AllReadyH.nil
   rw [if_pos (by kernel_rfl)]
   go_simp
   go_wp2_with (go_at_call 33; refine (HOv6.out _ HZ0.out).mono ?_; rintro e w21 ⟨rfl, hba⟩)
   have HQ21 := hid (below2 HZ0.out hba)
   clear hba
   refine hK.out _ _ HQ21.out (fun hHeld2 => ?_)
   clear hK K9 hHeld
   rename _ => hHeld
   refine' wpAnyH_take (i := 5) (oi := ⟨some 32, _, _, _, _, _⟩) (v := _) rfl (by kernel_rfl) (by kernel_rfl) (by kernel_rfl) (fun _ _ _ h => h) (Or.inl ⟨by kernel_rfl, ?hy3⟩) (by assumption) ?rest3
   case hy3 => (intro wx hSw; (try dsimp only at hSw); go_simp; first | done | with_reducible rfl)
   (try simp only [Act.put, List.setIfInBounds_toArray, List.set_cons_zero, List.set_cons_succ])
   refine' wpAnyH_take (i := 6) (oi := ⟨some 33, _, _, _, _, _⟩) (v := _) rfl (by kernel_rfl) (by kernel_rfl) (by kernel_rfl) (fun _ _ _ h => h) (Or.inl ⟨by kernel_rfl, ?hy4⟩) (by assumption) ?rest4
   case hy4 => (intro wx hSw; (try dsimp only at hSw); go_simp; first | done | with_reducible rfl)
   (try simp only [Act.put, List.setIfInBounds_toArray, List.set_cons_zero, List.set_cons_succ])
   refine' wpAnyH_take (i := 7) (oi := ⟨some 34, _, _, _, _, _⟩) (v := _) rfl (by kernel_rfl) (by kernel_rfl) (by kernel_rfl) (fun _ _ _ h => h) (Or.inl ⟨by kernel_rfl, ?hy5⟩) (by assumption) ?rest5
   case hy5 => (intro wx hSw; (try dsimp only at hSw); go_simp; first | done | with_reducible rfl)
   (try simp only [Act.put, List.setIfInBounds_toArray, List.set_cons_zero, List.set_cons_succ])
   refine wpAnyH_ready (rs := [8]) (by kernel_rfl) (by simp) ?_
   refine AllReadyH.cons rfl (fun K9 hK => ?_) AllReadyH.nil
   rw [if_pos (by kernel_rfl)]
   go_simp
   go_wp2_with (go_at_call 28; refine (HKn6.out _ HQ21.out).mono ?_; rintro e w26 ⟨rfl, hba⟩)
   have HQ26 := hid (below2 HQ21.out hba)
   clear hba
   refine hK.out _ _ HQ26.out (fun hHeld2 => ?_)
   clear hK K9 hHeld
   rename _ => hHeld
   refine' wpAnyH_take (i := 9) (oi := ⟨some 36, _, _, _, _, _⟩) (v := _) rfl (by kernel_rfl) (by kernel_rfl) (by kernel_rfl) (fun _ _ _ h => h) (Or.inl ⟨by kernel_rfl, ?hy6⟩) (by assumption) ?rest6
   case hy6 => (intro wx hSw; (try dsimp only at hSw); go_simp; first | done | with_reducible rfl)
   (try simp only [Act.put, List.setIfInBounds_toArray, List.set_cons_zero, List.set_cons_succ])
   refine' wpAnyH_take (i := 10) (oi := ⟨some 2, _, _, _, _, _⟩) (v := _) rfl (by kernel_rfl) (by kernel_rfl) (by kernel_rfl) (fun _ _ _ h => h) (Or.inl ⟨by kernel_rfl, ?hy7⟩) (by assumption) ?rest7
   case hy7 => (intro wx hSw; (try dsimp only at hSw); go_simp; first | done | with_reducible rfl)
   (try simp only [Act.put, List.setIfInBounds_toArray, List.set_cons_zero, List.set_cons_succ])
   refine wpAnyH_done (by kernel_rfl) ?_ _
   go_wp2
   go_ret
   exact ⟨rfl, below2 HB6.out HQ26.out⟩

end Go.Proofs.YtamockkjbkibdaaGreatDoor
