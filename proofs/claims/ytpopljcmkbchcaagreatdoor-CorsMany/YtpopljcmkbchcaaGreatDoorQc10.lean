/-
  Walks and plain facts that this claim leans on, put together out of 11 texts: Hk, Ua, Uc, Ud, Ue, Ezc, Eia, Eic, Yc, Uf, Ug.
-/
import Derived.Test.YtpopljcmkbchcaaGreatDoorProg
import Derived.Test.YtpopljcmkbchcaaGreatDoorQc1
import Derived.Test.YtpopljcmkbchcaaGreatDoorQc2
import Derived.Test.YtpopljcmkbchcaaGreatDoorQc3
import Derived.Test.YtpopljcmkbchcaaGreatDoorQc4
import Derived.Test.YtpopljcmkbchcaaGreatDoorQc5
import Derived.Test.YtpopljcmkbchcaaGreatDoorQc6
import Derived.Test.YtpopljcmkbchcaaGreatDoorQc7
import Derived.Test.YtpopljcmkbchcaaGreatDoorQc8
import Derived.Test.YtpopljcmkbchcaaGreatDoorQc9
import Derived.Lib.IndexMore
import Derived.Lib.Join
import Derived.Lib.LastIndexByte
import Derived.WalkKit
import Derived.Lib.Strings
import Derived.Lib.UnsafeStr
import Derived.Laws.IdiomStrings
import Derived.Laws.AppendOwn
import Derived.Laws.BitsAllLaws
import Derived.Lib.Bytealg
import Derived.Lib.BufferMore
import Derived.Shelf.Strings.Builder1
import Derived.Shelf.Strings.Builder2
import Derived.Shelf.Strings.OnBuilder
import Derived.Shelf.Strings.Trim
import Derived.Shelf.Small.Utf8
import Derived.Shelf.Small.Bits
import Derived.Shelf.Small.Strs
import Derived.Shelf.Small.Wraps
import Derived.Shelf.Strings.BuilderF
import Derived.Shelf.Strings.BuilderK
import Derived.Shelf.Strings.BuilderRune
import Derived.Shelf.Utf8.AppendRune
import Derived.Shelf.Utf8.AppendRunePlain
import Derived.Shelf.Strings.Builder2Cap
import Derived.Shelf.Strconv.Itoa0
import Derived.Shelf.Strconv.Itoa1
import Derived.Shelf.LaysM
import Derived.Shelf.Strconv.Itoa2
import Derived.Shelf.Strconv.Itoa3
import Derived.Shelf.Strings.Search1
import Derived.Shelf.Strings.Search2
import Derived.Shelf.Strings.Cut
import Derived.Shelf.Strings.Shaped
import Derived.Shelf.Sort.Plain
import Derived.Shelf.Strings.Prefix
import Derived.Shelf.Unicode.Latin
import Derived.Shelf.Strings.Runes
import Derived.Shelf.Strings.IndexAny
import Derived.Shelf.Strings.AsciiSet
import Derived.Shelf.Strings.IndexAnyAll
import Derived.Shelf.Unicode.DecodeSlow
import Derived.Shelf.Unicode.DecodeAny
import Derived.Shelf.Unicode.DecodeLast
import Derived.Shelf.Unicode.CaseLookup
import Derived.Shelf.Unicode.CaseConvert
import Derived.Shelf.Unicode.CaseTo
import Derived.Shelf.Unicode.CaseLaid
import Derived.Shelf.Slices.CompactS
import Derived.Shelf.Slices.In.SortNone
import Derived.WalkSpells
import Derived.WalkLawsBesides
import Derived.Lib.AppendIntMem
import Derived.Lib.SmallJoins
import Derived.WalkSmall
import Derived.WalkMore
import Derived.Deep.LoopGhost
import Derived.OwnWalk
import Derived.Laws.CopyOwn
import Derived.Laws.ResultCell
import Derived.Deep.MidRow
import Derived.Deep.RegionWith
import Derived.Lib.FrozenHead2
import Derived.Lib.OthersKept
import Derived.Lib.Builder
import Derived.Scope
import Derived.ScopeJumps
import Derived.Lib.IndexAny
import Derived.Lib.Replace
import Derived.Lib.TrimByte
import Derived.Lib.ItoaNum
import Derived.Laws.RangeAny
import Derived.Lib.DecodeN
import Derived.RegionTactic
import Derived.Deep.QuietTactic
import Derived.BigQuiet
import Derived.Lib.SlTrimSet
import Derived.Laws.OwnMore
import Derived.Below
import Derived.Shelf.Strings.SlTrimAscii
import Derived.BigRegion
import Derived.Deep.RegionHeld
import Derived.Deep.RegionHeldLaw
import Derived.Lib.BufferRead
import Derived.Lib.RuneBytes
import Derived.Maps.OwnSet
import Derived.Maps.OwnOps
import Derived.Maps.AppendAt
import Derived.StringKeys
import Derived.LoopN
import Derived.Deep.RegionLaw
import Derived.Lib.FieldsP
import Derived.Lib.LaidTab
import Derived.Laws.Runes
import Derived.Lib.AppendStr
import Derived.Shelf.GgClosure.GivesRunes
import Derived.Laws.BitsAll
import Derived.Laws.Shifts
import Derived.Deep.DeepAppendRoom
import Derived.Laws.BytesString
import Derived.Laws.CopyRow
import Derived.Sort.OwnSorted
import Derived.Lib.SlicesCompact
import Derived.Sort.KeysCollected
import Derived.Lib.Case
import Derived.Deep.CutRange
import Derived.Laws.Rows
import Derived.Laws.MakeOwn
import Derived.Deep.WholeRow
import Derived.Laws.AppendOwnNone
set_option linter.unusedSimpArgs false
set_option linter.unusedVariables false

namespace Go.Proofs.YtpopljcmkbchcaaGreatDoor
def cutL (c : UInt8) : List UInt8 → List (List UInt8)
 | [] => [[]]
 | x :: l => if x = c then [] :: cutL c l else match cutL c l with
  | [] => [[x]]
  | h :: t => (x :: h) :: t

theorem cutL_ne (c : UInt8) (l : List UInt8) : cutL c l ≠ [] := by
 cases l with
 | nil => simp [cutL]
 | cons x l =>
  rw [cutL]
  split
  ·simp
  ·split <;> simp

theorem cutL_none (c : UInt8) : ∀ l : List UInt8, c ∉ l → cutL c l = [l]
 | [], _ => rfl
 | x :: l, h => by
  rw [cutL, if_neg (fun e => h (by simp [e])), cutL_none c l (fun e => h (by simp [e]))]

theorem cutL_some (c : UInt8) : ∀ (a r : List UInt8), c ∉ a → cutL c (a ++ c :: r) = a :: cutL c r
 | [], r, _ => by rw [List.nil_append, cutL, if_pos rfl]
 | x :: a, r, h => by
  rw [List.cons_append, cutL, if_neg (fun e => h (by simp [e])), cutL_some c a r (fun e => h (by simp [e]))]

theorem first_split (c : UInt8) : ∀ l : List UInt8, c ∉ l ∨ ∃ a r, c ∉ a ∧ l = a ++ c :: r
 | [] => .inl (by simp)
 | x :: l => by
  by_cases hx : x = c
  ·exact .inr ⟨[], l, by simp, by simp [hx]⟩
  ·rcases first_split c l with h | ⟨a, r, ha, rfl⟩
   ·exact .inl (by simp [h]; exact fun e => hx e.symm)
   ·exact .inr ⟨x :: a, r, by simp [ha]; exact fun e => hx e.symm, rfl⟩

theorem cutL_ind (c : UInt8) {P : List UInt8 → Prop} (h1 : ∀ l, c ∉ l → P l) (h2 : ∀ a r, c ∉ a → P r → P (a ++ c :: r)) : ∀ l, P l := by
 intro l
 generalize hn : l.length = n
 induction n using Nat.strongRecOn generalizing l with
 | _ n ih =>
  rcases first_split c l with h | ⟨a, r, ha, rfl⟩
  ·exact h1 l h
  ·exact h2 a r ha (ih r.length (by rw [← hn]; simp; omega) r rfl)

theorem cutL_snoc (c : UInt8) : ∀ l : List UInt8, cutL c (l ++ [c]) = cutL c l ++ [[]] :=
 cutL_ind c (fun l h => by rw [cutL_some c l [] h, cutL_none c l h]; rfl)
  (fun a r h ih => by rw [List.append_assoc, List.cons_append, cutL_some c a _ h, ih, cutL_some c a r h]; rfl)

theorem takeWhile_stop {α : Type} (p : α → Bool) (y : α) (hy : p y = false) : ∀ (xs ys : List α), (xs ++ y :: ys).takeWhile p = xs.takeWhile p
 | [], ys => by simp [List.takeWhile, hy]
 | x :: xs, ys => by
  simp only [List.cons_append, List.takeWhile]
  split
  ·rw [takeWhile_stop p y hy xs ys]
  ·rfl

theorem lastLab_app (a r : List UInt8) : lastLab (a ++ 46 :: r) = lastLab r := by
 unfold lastLab
 rw [List.reverse_append, List.reverse_cons, List.append_assoc, List.singleton_append, takeWhile_stop _ 46 (by decide)]

theorem cutL_last : ∀ l : List UInt8, (cutL 46 l).getLast? = some (lastLab l) :=
 cutL_ind 46 (fun l h => by rw [cutL_none 46 l h, lastLab_none l (fun c hc e => h (e ▸ hc))]; rfl)
  (fun a r h ih => by
   rw [cutL_some 46 a r h, lastLab_app, List.getLast?_cons, ih]; rfl)

theorem lastLab_nil : ∀ l : List UInt8, lastLab l = [] → l = [] ∨ ∃ t, l = t ++ [46] := by
 intro l h
 rcases List.eq_nil_or_concat l with rfl | ⟨t, c, rfl⟩
 ·exact .inl rfl
 ·right
  refine ⟨t, ?_⟩
  by_cases hc : c = 46
  ·rw [hc]; simp
  ·exfalso
   unfold lastLab at h
   simp [hc] at h

def labL (l : List UInt8) : List (List UInt8) := if 1 < (cutL 46 l).length ∧ (cutL 46 l).getLast? = some [] then (cutL 46 l).dropLast else cutL 46 l

theorem labL_eq (l : List UInt8) : labL l = cutL 46 (noDot l) := by
 unfold labL
 by_cases h : ∃ t, l = t ++ [46]
 ·obtain ⟨t, rfl⟩ := h
  rw [noDot_dot, cutL_snoc]
  rw [if_pos]
  ·simp
  ·refine ⟨?_, by simp⟩
   have := cutL_ne 46 t
   have : 0 < (cutL 46 t).length := List.length_pos_iff.2 this
   simp; omega
 ·rw [noDot_of l (fun t e => h ⟨t, e⟩), if_neg]
  rintro ⟨h1, h2⟩
  rw [cutL_last] at h2
  rcases lastLab_nil l (Option.some.inj h2) with rfl | h3
  ·simp [cutL] at h1
  ·exact h h3



def valC (cap base : Nat) : Nat → List UInt8 → Option Nat
 | n, [] => some n
 | n, c :: l => if dig16 c < base then valC cap base (min (n * base + dig16 c) cap) l else none

theorem valN_isSome (base : Nat) : ∀ (l : List UInt8) (n : Nat), (valN base n l).isSome = l.all fun c => decide (dig16 c < base)
 | [], n => rfl
 | c :: l, n => by
  rw [valN]
  by_cases h : dig16 c < base
  ·rw [if_pos h, valN_isSome base l]; simp [h]
  ·rw [if_neg h]; simp [h]

theorem valC_le (cap base : Nat) : ∀ (l : List UInt8) (n m : Nat), n ≤ cap → valC cap base n l = some m → m ≤ cap
 | [], n, m, h, e => by rw [valC] at e; injection e with e; omega
 | c :: l, n, m, h, e => by
  rw [valC] at e
  split at e
  ·exact valC_le cap base l _ m (by omega) e
  ·cases e

theorem valC_N (cap base : Nat) (hb : 1 ≤ base) (hc : 4294967296 ≤ cap) : ∀ (l : List UInt8) (n m : Nat), n = min m 4294967296 → valN base n l = (valC cap base m l).map fun k => min k 4294967296
 | [], n, m, h => by rw [valN, valC, h]; rfl
 | c :: l, n, m, h => by
  rw [valN, valC]
  by_cases hd : dig16 c < base
  ·rw [if_pos hd, if_pos hd]
   refine valC_N cap base hb hc l _ _ ?_
   by_cases hm : m < 4294967296
   ·have : n = m := by omega
    subst this
    omega
   ·have e : n = 4294967296 := by omega
    subst e
    have h1 : 4294967296 * 1 ≤ 4294967296 * base := Nat.mul_le_mul_left _ hb
    have h2 : 4294967296 * base ≤ m * base := Nat.mul_le_mul_right _ (by omega)
    omega
  ·rw [if_neg hd, if_neg hd]; rfl

def lid : Nat := 1099511627776

def rnumV (x : List UInt8) : Option Nat :=
 if marked x then valC lid 16 0 (x.drop 2)
 else if 1 < x.length ∧ x.head? = some 48 then valC lid 8 0 (x.drop 1)
 else if x = [] then none else valC lid 10 0 x

theorem rnumV_eq (x : List UInt8) : numV x = (rnumV x).map fun k => min k 4294967296 := by
 unfold numV rnumV
 by_cases hm : marked x = true
 ·rw [if_pos hm, if_pos hm]
  exact valC_N lid 16 (by omega) (by decide) _ 0 0 rfl
 ·rw [if_neg hm, if_neg hm]
  match x with
  | [] => simp
  | [c] =>
   rw [if_neg (by simp)]
   simp only [List.cons_ne_nil, if_false]
   by_cases hc : c = 48
   ·subst hc
    rw [if_pos rfl]
    rfl
   ·rw [if_neg hc]
    exact valC_N lid 10 (by omega) (by decide) _ 0 0 rfl
  | c :: d :: r =>
   simp only
   by_cases hc : c = 48
   ·subst hc
    rw [if_pos rfl, if_pos ⟨by simp, rfl⟩]
    exact valC_N lid 8 (by omega) (by decide) _ 0 0 rfl
   ·rw [if_neg hc, if_neg (by simp [hc])]
    simp only [reduceCtorEq, if_false]
    exact valC_N lid 10 (by omega) (by decide) _ 0 0 rfl

theorem rnumV_le (x : List UInt8) (n : Nat) (h : rnumV x = some n) : n ≤ lid := by
 unfold rnumV at h
 split at h
 ·exact valC_le _ _ _ _ _ (by decide) h
 ·split at h
  ·exact valC_le _ _ _ _ _ (by decide) h
  ·split at h
   ·cases h
   ·exact valC_le _ _ _ _ _ (by decide) h



def rnumbered (x : List UInt8) : Bool := (decide (x ≠ []) && x.all fun c => decide (dig16 c < 10)) || (marked x && (x.drop 2).all fun c => decide (dig16 c < 16))

theorem marked_form (x : List UInt8) (h : marked x = true) : ∃ c r, x = 48 :: c :: r ∧ dig16 c = 16 := by
 unfold marked Lib.hasPrefix at h
 rw [Bool.or_eq_true, List.isPrefixOf_iff_prefix, List.isPrefixOf_iff_prefix] at h
 rcases h with ⟨t, rfl⟩ | ⟨t, rfl⟩
 ·exact ⟨120, t, rfl, by decide⟩
 ·exact ⟨88, t, rfl, by decide⟩

theorem rnumbered_eq (l : List UInt8) : numberedV l = rnumbered (lastLab (noDot l)) := by
 unfold numberedV rnumbered
 generalize lastLab (noDot l) = x
 unfold valV
 rw [valN_isSome, valN_isSome]
 cases hm : marked x with
 | true =>
  obtain ⟨c, r, rfl, hc⟩ := marked_form x hm
  simp [hc]
 | false => simp



def fourL : Nat → Nat → List (List UInt8) → Option Nat
 | 0, _, _ => none
 | _ + 1, _, [] => none
 | r + 1, h, [x] => match numV x with
  | none => none
  | some n => if n < 2 ^ (8 * (r + 1)) then some (h * 2 ^ (8 * (r + 1)) + n) else none
 | r + 1, h, x :: y :: L => match numV x with
  | none => none
  | some n => if 255 < n then none else fourL r (h * 256 + n) (y :: L)

theorem fourN_L : ∀ (r h : Nat) (l : List UInt8), fourN r h l = fourL r h (cutL 46 l)
 | 0, h, l => by cases cutL 46 l <;> rfl
 | r + 1, h, l => by
  rcases first_split 46 l with h1 | ⟨a, t, ha, rfl⟩
  ·rw [fourN, cut_none l 46 h1, cutL_none 46 l h1, fourL]
   cases numV l <;> rfl
  ·rw [fourN, cut_some a t 46 ha, cutL_some 46 a t ha]
   obtain ⟨y, L, hy⟩ : ∃ y L, cutL 46 t = y :: L := by
    cases e : cutL 46 t with
    | nil => exact absurd e (cutL_ne 46 t)
    | cons y L => exact ⟨y, L, rfl⟩
   rw [hy, fourL]
   cases numV a with
   | none => rfl
   | some n => simp only [if_true]; rw [fourN_L r (h * 256 + n) t, hy]

theorem fourV_L (l : List UInt8) : fourV l = fourL 4 0 (labL l) := by
 rw [labL_eq, ← fourN_L]; rfl

theorem fourL_many : ∀ (r h : Nat) (L : List (List UInt8)), r < L.length → fourL r h L = none
 | 0, h, L, _ => by cases L <;> rfl
 | r + 1, h, [], hl => by simp at hl
 | r + 1, h, [x], hl => by simp at hl
 | r + 1, h, x :: y :: L, hl => by
  rw [fourL]
  cases numV x with
  | none => rfl
  | some n =>
   simp only
   rw [fourL_many r _ (y :: L) (by simpa using hl)]
   simp

theorem fourL_bad : ∀ (r h : Nat) (L : List (List UInt8)) (x : List UInt8), x ∈ L → numV x = none → fourL r h L = none
 | 0, h, L, x, _, _ => by cases L <;> rfl
 | r + 1, h, [], x, hx, _ => by simp at hx
 | r + 1, h, [y], x, hx, hn => by
  simp at hx; subst hx
  rw [fourL, hn]
 | r + 1, h, y :: z :: L, x, hx, hn => by
  rw [fourL]
  cases hy : numV y with
  | none => rfl
  | some n =>
   simp only
   have hx' : x ∈ z :: L := by
    rcases List.mem_cons.1 hx with rfl | h
    ·rw [hn] at hy; cases hy
    ·exact h
   rw [fourL_bad r _ (z :: L) x hx' hn]
   simp

end Go.Proofs.YtpopljcmkbchcaaGreatDoor

namespace Go.Proofs.YtpopljcmkbchcaaGreatDoor
structure Adr where
 scheme : List UInt8
 user : List UInt8
 pass : List UInt8
 host : List UInt8
 hasHost : Bool
 port : Int
 opq : Bool
 path : List (List UInt8)
 query : List UInt8
 fragment : List UInt8
 hasQuery : Bool
 hasFragment : Bool

def Adr.zero : Adr := ⟨[], [], [], [], false, 0, false, [], [], [], false, false⟩

def sHttp : List UInt8 := [104, 116, 116, 112]

def sHttps : List UInt8 := [104, 116, 116, 112, 115]

def sWs : List UInt8 := [119, 115]

def sWss : List UInt8 := [119, 115, 115]

def sFtp : List UInt8 := [102, 116, 112]

def ownV (s : List UInt8) : Int := if s = sHttp ∨ s = sWs then 80 else if s = sHttps ∨ s = sWss then 443 else if s = sFtp then 21 else -1

def specV (s : List UInt8) : Bool := decide (0 ≤ ownV s)

def part (c : UInt8) : List UInt8 → List UInt8 × List UInt8 × Bool
 | [] => ([], [], false)
 | x :: l => if x = c then ([], l, true) else (x :: (part c l).1, (part c l).2.1, (part c l).2.2)

def aheadV (ends : List UInt8) (l : List UInt8) : List UInt8 × List UInt8 := (l.takeWhile (fun c => !ends.contains c), l.dropWhile (fun c => !ends.contains c))

def wsC (c : UInt8) : Bool := decide (c.toNat ≤ 32)

def eyeC (c : UInt8) : Bool := c == 9 || (c == 10 || c == 13)

def trimV (l : List UInt8) : List UInt8 := ((l.dropWhile wsC).reverse.dropWhile wsC).reverse

def cleanV (l : List UInt8) : List UInt8 := (trimV l).filter (fun c => !eyeC c)

def schC (c : UInt8) : Bool := letterI c.toNat || (digitI c.toNat || (c == 43 || (c == 45 || c == 46)))

def schOk (l : List UInt8) : Bool := (match l with | [] => false | c :: _ => letterI c.toNat) && l.all schC

def schemeV (l : List UInt8) : Option (List UInt8 × List UInt8) := if (part 58 l).2.2 && schOk (part 58 l).1 then some (low (part 58 l).1, (part 58 l).2.1) else none

def slC (c : UInt8) : UInt8 := if c = 92 then 47 else c

def slashV (l : List UInt8) : List UInt8 := (aheadV [63] l).1.map slC ++ (aheadV [63] l).2

def slashedV (scheme l : List UInt8) : List UInt8 := if specV scheme then slashV l else l

def atV (l : List UInt8) : List UInt8 × List UInt8 := if l.contains 64 then (((l.reverse.dropWhile (· != 64)).drop 1).reverse, (l.reverse.takeWhile (· != 64)).reverse) else ([], l)

def colN : Bool → Nat → Nat → List UInt8 → Nat
 | _, _, k, [] => k
 | false, i, k, c :: l => if c = 58 then colN false (i + 1) i l else if c = 91 then colN true (i + 1) k l else colN false (i + 1) k l
 | true, i, k, c :: l => if c = 93 then colN false (i + 1) k l else colN true (i + 1) k l

def colV (l : List UInt8) : Nat := colN false 0 l.length l

def portV (own : Int) (t : List UInt8) : Option Int :=
 if t = [] then some (-1) else if intOk t && decide (intV t ≤ 65535) then some (if intV t = own then -1 else intV t) else none

def authV (scheme s : List UInt8) : Except Int (List UInt8 × List UInt8 × List UInt8 × Int) :=
 match portV (ownV scheme) (((atV s).2.drop (colV (atV s).2)).drop 1) with
 | none => .error 11
 | some p =>
  match parseV ((atV s).2.take (colV (atV s).2)) (specV scheme) with
  | none => .error 10
  | some h =>
   if h = [] ∧ (pct 6 (part 58 (atV s).1).1 ≠ [] ∨ pct 6 (part 58 (atV s).1).2.1 ≠ [] ∨ ((atV s).2.drop (colV (atV s).2)).drop 1 ≠ []) then .error 10
   else .ok (pct 6 (part 58 (atV s).1).1, pct 6 (part 58 (atV s).1).2.1, h, p)

def dotsV (p : List UInt8) : Nat := if unpct p = [46] then 1 else if unpct p = [46, 46] then 2 else 0

def pathL : List (List UInt8) → List (List UInt8) → List (List UInt8)
 | out, [] => out
 | out, [p] => if dotsV p = 2 then out.dropLast ++ [[]] else if dotsV p = 1 then out ++ [[]] else out ++ [pct 5 p]
 | out, p :: q :: r => if dotsV p = 2 then pathL out.dropLast (q :: r) else if dotsV p = 1 then pathL out (q :: r) else pathL (out ++ [pct 5 p]) (q :: r)

def over1 (l : List UInt8) : List UInt8 := match l with | [] => [] | c :: r => if c = 47 then r else l

def pathV (special : Bool) (have_ : List (List UInt8)) (s : List UInt8) : List (List UInt8) := if s = [] ∧ special = false then [] else pathL have_ (cutL 47 (over1 s))

def querV (special : Bool) (q : List UInt8) : List UInt8 := pct (if special then 4 else 3) q

def withQuery (u : Adr) (q : List UInt8) : Adr := if q = [] then u else { u with query := querV (specV u.scheme) (q.drop 1), hasQuery := true }

def withPath (u : Adr) (have_ : List (List UInt8)) (r : List UInt8) : Adr := withQuery { u with path := pathV (specV u.scheme) have_ (aheadV [63] r).1 } (aheadV [63] r).2

def withAuth (u : Adr) (r : List UInt8) : Except Int Adr :=
 match authV u.scheme (aheadV [47, 63] r).1 with
 | .error e => .error e
 | .ok (a, b, h, p) => .ok (withPath { u with user := a, pass := b, host := h, hasHost := true, port := p } [] (aheadV [47, 63] r).2)

def skip47 (l : List UInt8) : List UInt8 := l.dropWhile (· == 47)

def startV (u : Adr) (rest : List UInt8) : Except Int Adr :=
 if specV u.scheme then withAuth u (skip47 (slashV rest))
 else if Lib.hasPrefix rest [47, 47] then withAuth u (rest.drop 2)
 else if Lib.hasPrefix rest [47] then .ok (withPath u [] rest)
 else .ok (withQuery { u with opq := true, path := [pct 1 (aheadV [63] rest).1] } (aheadV [63] rest).2)

def beginU (s : List UInt8) : Adr × List UInt8 :=
 let t := part 35 (cleanV s)
 let m := (schemeV t.1).getD ([], t.1)
 (⟨m.1, [], [], [], false, -1, false, [], [], pct 2 t.2.1, false, t.2.2⟩, m.2)

def joinV (u : Adr) (rest : List UInt8) (b : Adr) : Except Int Adr :=
 let v : Adr := { u with scheme := b.scheme }
 let r := slashedV b.scheme rest
 if Lib.hasPrefix r [47, 47] then startV v r
 else
  let x : Adr := { v with user := b.user, pass := b.pass, host := b.host, hasHost := b.hasHost, port := b.port }
  if Lib.hasPrefix r [47] then .ok (withPath x [] r)
  else if r ≠ [] ∧ r.head? ≠ some 63 then .ok (withPath x b.path.dropLast r)
  else .ok (withQuery { x with opq := b.opq, path := b.path, query := b.query, hasQuery := b.hasQuery } r)

def readV (s : List UInt8) (base : Option Adr) : Except Int Adr :=
 if 4096 < s.length then .error 3
 else
  match base with
  | none => if (beginU s).1.scheme = [] then .error 12 else startV (beginU s).1 (beginU s).2
  | some b =>
   if (beginU s).1.scheme ≠ [] ∧ (specV (beginU s).1.scheme = false ∨ (beginU s).1.scheme ≠ b.scheme) then startV (beginU s).1 (beginU s).2
   else if b.opq = true ∧ (beginU s).2 ≠ [] then .error 12
   else joinV (beginU s).1 (beginU s).2 b

def deciN : Nat → Nat → List UInt8 → List UInt8
 | 0, _, acc => acc
 | f + 1, n, acc => if n < 10 then UInt8.ofNat (48 + n) :: acc else deciN f (n / 10) (UInt8.ofNat (48 + n % 10) :: acc)

def portT (p : Int) : List UInt8 := deciN 6 p.toNat []

def authT (u : Adr) : List UInt8 :=
 if u.hasHost then [47, 47] ++ u.user ++ (if u.pass = [] then [] else 58 :: u.pass) ++ (if u.user = [] ∧ u.pass = [] then [] else [64]) ++ u.host ++ (if u.port = -1 then [] else 58 :: portT u.port) else []

def pathT (u : Adr) : List UInt8 :=
 if u.opq then u.path.flatten
 else (if u.hasHost = false ∧ 1 < u.path.length ∧ u.path.head? = some [] then [47, 46] else []) ++ u.path.flatMap (fun p => 47 :: p)

def bareV (u : Adr) : List UInt8 := u.scheme ++ 58 :: (authT u ++ (pathT u ++ (if u.hasQuery then 63 :: u.query else [])))

def textV (u : Adr) : List UInt8 := bareV u ++ (if u.hasFragment then 35 :: u.fragment else [])

def adrOf : Except Int Adr → Adr
 | .ok u => u
 | .error _ => Adr.zero

def numOf : Except Int Adr → Int
 | .ok _ => 0
 | .error e => e

end Go.Proofs.YtpopljcmkbchcaaGreatDoor

namespace Go.Proofs.YtpopljcmkbchcaaGreatDoor
open Go.RowKit

theorem beq_no (a : ByteArray) (l : List UInt8) (h : a.data.toList ≠ l) : (a.toList == l) = false := by
 rw [Lib.toList_data, beq_eq_false_iff_ne]; exact h

theorem beq_yes (a : ByteArray) (l : List UInt8) (h : a.data.toList = l) : (a.toList == l) = true := by
 rw [Lib.toList_data, h]; exact beq_self_eq_true _

set_option maxHeartbeats 400000 in
theorem own_any (s : ByteArray) (w : World) :
  Calls Tryz.prog 142 #[.string s] w fun e w' => e = .returned (.int .i64 (ownV s.data.toList)) ∧ w = w' := by
 by_cases h1 : s.data.toList = sHttp
 ·have HN := hid (show ownV s.data.toList = 80 by rw [h1]; rfl)
  have e1 := beq_yes s [104, 116, 116, 112] h1
  clear h1
  go_enter Tryz.func142, Tryz.ntmps142
  go_wp2
  go_ret
  rw [HN.out]; exact ⟨rfl, rfl⟩
 ·have e1 := beq_no s [104, 116, 116, 112] h1
  by_cases h2 : s.data.toList = sWs
  ·have HN := hid (show ownV s.data.toList = 80 by rw [h2]; rfl)
   have e2 := beq_yes s [119, 115] h2
   clear h1 h2
   go_enter Tryz.func142, Tryz.ntmps142
   go_wp2
   go_ret
   rw [HN.out]; exact ⟨rfl, rfl⟩
  ·have e2 := beq_no s [119, 115] h2
   by_cases h3 : s.data.toList = sHttps
   ·have HN := hid (show ownV s.data.toList = 443 by rw [h3]; rfl)
    have e3 := beq_yes s [104, 116, 116, 112, 115] h3
    clear h1 h2 h3
    go_enter Tryz.func142, Tryz.ntmps142
    go_wp2
    go_ret
    rw [HN.out]; exact ⟨rfl, rfl⟩
   ·have e3 := beq_no s [104, 116, 116, 112, 115] h3
    by_cases h4 : s.data.toList = sWss
    ·have HN := hid (show ownV s.data.toList = 443 by rw [h4]; rfl)
     have e4 := beq_yes s [119, 115, 115] h4
     clear h1 h2 h3 h4
     go_enter Tryz.func142, Tryz.ntmps142
     go_wp2
     go_ret
     rw [HN.out]; exact ⟨rfl, rfl⟩
    ·have e4 := beq_no s [119, 115, 115] h4
     by_cases h5 : s.data.toList = sFtp
     ·have HN := hid (show ownV s.data.toList = 21 by rw [h5]; rfl)
      have e5 := beq_yes s [102, 116, 112] h5
      clear h1 h2 h3 h4 h5
      go_enter Tryz.func142, Tryz.ntmps142
      go_wp2
      go_ret
      rw [HN.out]; exact ⟨rfl, rfl⟩
     ·have e5 := beq_no s [102, 116, 112] h5
      have HN := hid (show ownV s.data.toList = -1 by rw [ownV, if_neg (by rintro (h | h); exact h1 h; exact h2 h), if_neg (by rintro (h | h); exact h3 h; exact h4 h), if_neg h5])
      clear h1 h2 h3 h4 h5
      go_enter Tryz.func142, Tryz.ntmps142
      go_wp2
      go_ret
      rw [HN.out]; exact ⟨rfl, rfl⟩

end Go.Proofs.YtpopljcmkbchcaaGreatDoor

namespace Go.Proofs.YtpopljcmkbchcaaGreatDoor
theorem part_none (c : UInt8) : ∀ l : List UInt8, c ∉ l → part c l = (l, [], false)
 | [], _ => rfl
 | x :: l, h => by
  have hx : x ≠ c := fun e => h (by simp [e])
  have hl : c ∉ l := fun e => h (by simp [e])
  rw [part, if_neg hx, part_none c l hl]

theorem part_some (c : UInt8) : ∀ (a r : List UInt8), c ∉ a → part c (a ++ c :: r) = (a, r, true)
 | [], r, _ => by rw [List.nil_append, part, if_pos rfl]
 | x :: a, r, h => by
  have hx : x ≠ c := fun e => h (by simp [e])
  have hl : c ∉ a := fun e => h (by simp [e])
  rw [List.cons_append, part, if_neg hx, part_some c a r hl]

theorem cut_part (c : UInt8) (l : List UInt8) : Lib.cut l [c] = part c l := by
 rcases first_split c l with h | ⟨a, r, h, rfl⟩
 ·rw [cut_none l c h, part_none c l h]
 ·rw [cut_some a r c h, part_some c a r h]

theorem part_le (c : UInt8) (l : List UInt8) : (part c l).1.length ≤ l.length ∧ (part c l).2.1.length ≤ l.length := by
 rw [← cut_part]; exact cut_le l [c]

theorem ahead_index (ends : List UInt8) : ∀ l : List UInt8, (Lib.indexAny l ends = -1 ∧ aheadV ends l = (l, [])) ∨ (∃ i : Nat, i < l.length ∧ Lib.indexAny l ends = i ∧ aheadV ends l = (l.take i, l.drop i))
 | [] => .inl ⟨rfl, rfl⟩
 | c :: l => by
  by_cases h : ends.contains c = true
  ·refine .inr ⟨0, by simp, by rw [Lib.indexAny, if_pos h]; rfl, ?_⟩
   have h2 : c ∈ ends := by simpa using h
   simp [aheadV, List.takeWhile, List.dropWhile, h2]
  ·have h' : ends.contains c = false := by simpa using h
   have h2 : c ∉ ends := by simpa using h
   have e1 : (aheadV ends (c :: l)) = (c :: (aheadV ends l).1, (aheadV ends l).2) := by
    simp [aheadV, List.takeWhile, List.dropWhile, h2]
   rcases ahead_index ends l with ⟨h1, h2⟩ | ⟨i, hi, h1, h2⟩
   ·exact .inl ⟨by rw [Lib.indexAny, if_neg h, h1]; rfl, by rw [e1, h2]⟩
   ·refine .inr ⟨i + 1, by simp; omega, ?_, by rw [e1, h2]; rfl⟩
    rw [Lib.indexAny, if_neg h, h1]
    have : ((i : Int) == -1) = false := by rw [beq_eq_false_iff_ne]; omega
    rw [this]; simp

theorem ahead_app (ends l : List UInt8) : (aheadV ends l).1 ++ (aheadV ends l).2 = l := List.takeWhile_append_dropWhile

theorem slC_none (l : List UInt8) (h : 92 ∉ l) : l.map slC = l := by
 induction l with
 | nil => rfl
 | cons c l ih =>
  have hc : c ≠ 92 := fun e => h (by simp [e])
  have hl : 92 ∉ l := fun e => h (by simp [e])
  rw [List.map_cons, ih hl, slC, if_neg hc]

theorem take_rev (p : UInt8 → Bool) (a b : List UInt8) (c : UInt8) (hb : ∀ x ∈ b, p x = true) (hc : p c = false) : ((a ++ c :: b).reverse.takeWhile p).reverse = b ∧ (((a ++ c :: b).reverse.dropWhile p).drop 1).reverse = a := by
 have e : (a ++ c :: b).reverse = b.reverse ++ c :: a.reverse := by simp
 have hb' : ∀ x ∈ b.reverse, p x = true := fun x hx => hb x (List.mem_reverse.1 hx)
 constructor
 ·rw [e, List.takeWhile_append_of_pos hb', List.takeWhile_cons, hc]
  simp
 ·rw [e, List.dropWhile_append_of_pos hb', List.dropWhile_cons, hc]
  simp

theorem at_none (l : List UInt8) (h : 64 ∉ l) : atV l = ([], l) := by
 have : l.contains 64 = false := by simpa using h
 rw [atV, this]; rfl

theorem at_some (a b : List UInt8) (h : 64 ∉ b) : atV (a ++ 64 :: b) = (a, b) := by
 have h1 : (a ++ 64 :: b).contains 64 = true := by simp
 have h2 := take_rev (fun x => x != 64) a b 64 (fun x hx => by simp; intro e; exact h (e ▸ hx)) (by decide)
 rw [atV, h1, if_pos rfl, h2.1, h2.2]

theorem deci_gen : ∀ (f n : Nat) (acc : List UInt8), n < 10 ^ f → f ≠ 0 → deciN f n acc = Lib.decDigits n ++ acc
 | 0, n, acc, h, h0 => absurd rfl h0
 | f + 1, n, acc, h, _ => by
  rw [deciN, Lib.decDigits]
  by_cases h1 : n < 10
  ·rw [if_pos h1, dif_pos h1]; rfl
  ·rw [if_neg h1, dif_neg h1]
   have hf : f ≠ 0 := by rintro rfl; simp at h; omega
   rw [deci_gen f (n / 10) _ (by rw [Nat.pow_succ] at h; omega) hf]
   simp

theorem portT_itoa (p : Int) (h0 : 0 ≤ p) (h1 : p ≤ 65535) : Lib.itoa p = portT p := by
 unfold Lib.itoa portT
 rw [if_neg (by omega), deci_gen 6 _ _ (by omega) (by omega), List.append_nil]

end Go.Proofs.YtpopljcmkbchcaaGreatDoor

namespace Go.Proofs.YtpopljcmkbchcaaGreatDoor
open Go.RowKit

theorem ret_ss {a b c d : ByteArray} (h : a = b) (g : c = d) : Ending.returned (.tuple #[.string a, .string c]) = .returned (.tuple #[.string b, .string d]) := by rw [h, g]

theorem ret_str' {a b : ByteArray} (h : a = b) : Ending.returned (.string a) = .returned (.string b) := by rw [h]

theorem slash_len (l : List UInt8) : (slashV l).length = l.length := by
 have := congrArg List.length (ahead_app [63] l)
 rw [List.length_append] at this
 rw [slashV, List.length_append, List.length_map, this]

end Go.Proofs.YtpopljcmkbchcaaGreatDoor

namespace Go.Proofs.YtpopljcmkbchcaaGreatDoor
open Go.RowKit

theorem keptC15 {w w' : World} {a : Addr} {v : Value} (h : w.cell? a = some v) (hb : Below w.heap.size w w') : w'.cell? a = some v := (hb.cell (World.block_lt_of_cell? w _ h)).trans h

def hasT (L : List (List UInt8)) (x : List UInt8) : Bool := L.any (fun y => x == y)

set_option maxHeartbeats 4000000 in
theorem index15_any (v : Value) (L : List (List UInt8)) (x : ByteArray) (w : World) (hv : TxAt w v L) (hl : L.length ≤ 1000000000) :
  Calls Tryz.prog 134 #[v, .string x] w fun e w' => ∃ z : Int, e = .returned (.int .i64 z) ∧ decide (0 ≤ z) = hasT L x.data.toList ∧ Below w.heap.size w w' := by
 obtain ⟨a1, c1, rfl, hc1, hm1, hv1⟩ := hv.view
 have HV := hid hv1
 obtain ⟨n, hn⟩ : ∃ n, n = L.length := ⟨_, rfl⟩
 have HN := hid hn
 rw [← hn] at hc1 hl ⊢
 clear hv hv1 hn
 go_enter Tryz.func134, Tryz.ntmps134
 go_wp2_with fail
 go_loopw [8] (fun v8 wr => ∃ k : Nat, k ≤ n ∧ v8 = .int .i64 k ∧ Hid (hasT (L.take k) x.data.toList = false ∧ Below w.heap.size w wr)) (fun v8 _ => n - (intOf v8).toNat)
 case atStart => exact ⟨0, Nat.zero_le _, rfl, rfl, Below.refl _ w⟩
 case round =>
  obtain ⟨k, hk, rfl, HR⟩ := hrel
  by_cases hlt : k < n
  ·have hkL : k < L.length := by have := HN.out; omega
   obtain ⟨b1, o1, rfl, e1⟩ := HV.out k hkL
   obtain ⟨y, hy⟩ : ∃ y, y = L[k] := ⟨_, rfl⟩
   rw [← hy] at e1
   have HYM := hid (show y ∈ L by rw [hy]; exact List.getElem_mem hkL)
   obtain ⟨V, hV⟩ : ∃ V : ByteArray, V = ⟨y.toArray⟩ := ⟨_, rfl⟩
   rw [← hV] at e1
   have f1 := keptC15 e1 HR.out.2
   obtain ⟨q, hq⟩ : ∃ q, (x.toList == V.toList) = q := ⟨_, rfl⟩
   have HQ := hid (show (x.data.toList == y) = q by rw [← hq, Lib.toList_data, Lib.toList_data, hV])
   have HT := hid (show hasT (L.take (k + 1)) x.data.toList = q by
    unfold hasT at *
    rw [List.take_succ_eq_append_getElem hkL, List.any_append, HR.out.1, ← hy, List.any_cons, HQ.out]; simp)
   have HTA := hid (show q = true → hasT L x.data.toList = true from fun h => List.any_eq_true.2 ⟨y, HYM.out, by rw [HQ.out]; exact h⟩)
   have hin : (k : Int) < (n : Int) := by omega
   clear e1 hy hV hkL HQ
   cases q with
   | false =>
    go_wp2
    go_roundw
    case rel =>
     have e4 : hasT (L.take (k + 1)) x.data.toList = false ∧ Below w.heap.size w wr := ⟨HT.out, HR.out.2⟩
     first
      | exact ⟨k + 1, by omega, by go_num, e4⟩
      | ((repeat apply Exists.intro); refine ⟨?_, rfl⟩; exact ⟨k + 1, by omega, by go_num, e4⟩)
      | ((repeat apply Exists.intro); exact ⟨⟨k + 1, by omega, by go_num, e4⟩, rfl⟩)
    case measure => simp [intOf]; omega
   | true =>
    go_wp2
    go_ret
    exact ⟨(k : Int), rfl, by rw [HTA.out (by trivial)]; simp, HR.out.2⟩
  ·obtain rfl : k = n := by omega
   have HA := hid (show hasT L x.data.toList = false by have h := HR.out.1; rwa [List.take_of_length_le (by have := HN.out; omega)] at h)
   have HB := hid HR.out.2
   clear HR hk hlt
   go_wp2
   go_ret
   exact ⟨-1, rfl, by rw [HA.out]; rfl, HB.out⟩

set_option maxHeartbeats 1000000 in
theorem contains15_any (v : Value) (L : List (List UInt8)) (x : ByteArray) (w : World) (hv : TxAt w v L) (hl : L.length ≤ 1000000000) :
  Calls Tryz.prog 86 #[v, .string x] w fun e w' => e = .returned (.bool (hasT L x.data.toList)) ∧ Below w.heap.size w w' := by
 have HI := hid (index15_any v L x w hv hl)
 obtain ⟨a1, c1, rfl, hc1, hm1, hv1⟩ := hv.view
 clear hv hl hv1 hc1 hm1
 go_enter Tryz.func86, Tryz.ntmps86
 go_wp2_with fail
 refine HI.out.mono ?_
 rintro e w2 ⟨z, rfl, hz, hb⟩
 have HZ := hid hz
 have HB := hid hb
 clear hz hb
 go_wp2_with fail
 go_ret
 exact ⟨ret_bool HZ.out, HB.out⟩

end Go.Proofs.YtpopljcmkbchcaaGreatDoor

namespace Go.Proofs.YtpopljcmkbchcaaGreatDoor
open Go.RowKit Go.Maps Go.WideMaps

def mConnect : List UInt8 := [99, 111, 110, 110, 101, 99, 116]

def mTrace : List UInt8 := [116, 114, 97, 99, 101]

def mTrack : List UInt8 := [116, 114, 97, 99, 107]

def mDelete : List UInt8 := [100, 101, 108, 101, 116, 101]

def mGet : List UInt8 := [103, 101, 116]

def mHead : List UInt8 := [104, 101, 97, 100]

def mOptions : List UInt8 := [111, 112, 116, 105, 111, 110, 115]

def mPost : List UInt8 := [112, 111, 115, 116]

def mPut : List UInt8 := [112, 117, 116]

def bigM (x : List UInt8) : Bool := x == mDelete || (x == mGet || (x == mHead || (x == mOptions || (x == mPost || x == mPut))))

def noM (x : List UInt8) : Bool := x == mConnect || (x == mTrace || x == mTrack)

def methB (s : List UInt8) : Bool := tokL s && !noM (low s)

def methT (s : List UInt8) : List UInt8 := if methB s then (if bigM (low s) then Lib.toUpperA s else s) else []

def simM (s : List UInt8) : Bool := s == [71, 69, 84] || (s == [72, 69, 65, 68] || s == [80, 79, 83, 84])

def nm18 (h : Hd) : List UInt8 := low h.name

theorem low_low18 (l : List UInt8) : low (low l) = low l := by
 unfold low
 rw [List.map_map]
 refine List.map_congr_left fun c _ => ?_
 have h : ∀ n : Fin 256, lowC (lowC (UInt8.ofNat n.val)) = lowC (UInt8.ofNat n.val) := by decide +kernel
 have := h ⟨c.toNat, c.toNat_lt⟩
 simpa using this

theorem up_lowC : ∀ c : UInt8, Lib.upperB (lowC c) = Lib.upperB c := by
 intro c
 have h : ∀ n : Fin 256, Lib.upperB (lowC (UInt8.ofNat n.val)) = Lib.upperB (UInt8.ofNat n.val) := by decide +kernel
 have := h ⟨c.toNat, c.toNat_lt⟩
 simpa using this

theorem asc_lowC : ∀ c : UInt8, (lowC c).toNat < 128 → c.toNat < 128 := by
 intro c
 have h : ∀ n : Fin 256, (lowC (UInt8.ofNat n.val)).toNat < 128 → (UInt8.ofNat n.val).toNat < 128 := by decide +kernel
 have := h ⟨c.toNat, c.toNat_lt⟩
 simpa using this

theorem up_low (s : List UInt8) : Lib.toUpperA (low s) = Lib.toUpperA s := by
 unfold Lib.toUpperA low
 rw [List.map_map]
 exact List.map_congr_left fun c _ => up_lowC c

theorem big_cases {x : List UInt8} (h : bigM x = true) : x = mDelete ∨ x = mGet ∨ x = mHead ∨ x = mOptions ∨ x = mPost ∨ x = mPut := by
 unfold bigM at h
 simpa using h

theorem big_asc {s : List UInt8} (h : bigM (low s) = true) : ∀ c ∈ s, c.toNat < 128 := by
 intro c hc
 refine asc_lowC c ?_
 have hm : lowC c ∈ low s := List.mem_map.2 ⟨c, hc, rfl⟩
 have ha : ∀ x ∈ low s, x.toNat < 128 := by
  rcases big_cases h with e | e | e | e | e | e <;> (rw [e]; decide)
 exact ha _ hm

theorem srtN_nodup (L : List (List UInt8)) : (srtN L).Nodup := by
 refine (srtN_facts L).1.imp ?_
 intro a b h e
 subst e
 rw [ltN_irrefl] at h
 cases h

theorem srtN_le (L : List (List UInt8)) : (srtN L).Pairwise (fun a b => decide (a ≤ b) = true) := by
 refine (srtN_facts L).1.imp ?_
 intro a b h
 rw [decide_eq_true_eq, le_ltN]
 exact ltN_asymm h

theorem srt16_srtN (L : List (List UInt8)) : srt16 (srtN L) = srtN L := by
 unfold srt16
 exact List.mergeSort_of_pairwise (srtN_le L)

theorem keys_srt {P : Program} {k : TypeId} {w : World} {b n : Nat} {D : DataW Unit} (hown : w.ownsMap P k unitElem b n D) (K : Keyed P k) (hk : P.underlying k = some .string) {ss L : List (List UInt8)} (hp : ss.Perm (strKeys D)) (hL : ∀ x, Maps.has D (.string x) = true ↔ x ∈ L) : srt16 ss = srtN L := by
 obtain ⟨es, hD, hpw, _⟩ := hown.entries K
 obtain ⟨es', hD', hko⟩ := hown.keysOf
 obtain rfl : es = es' := by rw [hD] at hD'; simpa using hD'
 subst hD
 have h1 : (srtN L).Perm (strKeys (.map es)) := perm_strKeys hpw (fun p hp => by obtain ⟨v, hv⟩ := hko p hp; obtain ⟨x, _, hx, _⟩ := Maps.keyOf_str hk hv; exact ⟨x, hx⟩) (srtN_nodup L) (fun x => by rw [(srtN_facts L).2.1 x]; exact (hL x).symm)
 have h2 : ss.Perm (srtN L) := hp.trans h1.symm
 have h3 : srt16 ss = srt16 (srtN L) := mergeSort_of_perm h2
 rw [h3, srt16_srtN]

def othN (L : List Hd) : List (List UInt8) := (L.filter fun h => !safeV h.name h.value).map nm18

def safN (L : List Hd) : List (List UInt8) := (L.filter fun h => safeV h.name h.value).map nm18

def safZ (L : List Hd) : Nat := ((L.filter fun h => safeV h.name h.value).map fun h => h.value.length).sum

def unsV (L : List Hd) : List (List UInt8) := srtN (othN L ++ if 1024 < safZ L then safN L else [])

theorem safe_low (n v : List UInt8) : safeV (low n) v = safeV n v := by
 unfold safeV
 rw [low_low18]

theorem oth_snoc (L : List Hd) (h : Hd) : othN (L ++ [h]) = if safeV h.name h.value then othN L else othN L ++ [low h.name] := by
 unfold othN
 rw [List.filter_append, List.map_append]
 cases hs : safeV h.name h.value <;> simp [hs, nm18]

theorem saf_snoc (L : List Hd) (h : Hd) : safN (L ++ [h]) = if safeV h.name h.value then safN L ++ [low h.name] else safN L := by
 unfold safN
 rw [List.filter_append, List.map_append]
 cases hs : safeV h.name h.value <;> simp [hs, nm18]

theorem safz_snoc (L : List Hd) (h : Hd) : safZ (L ++ [h]) = if safeV h.name h.value then safZ L + h.value.length else safZ L := by
 unfold safZ
 rw [List.filter_append, List.map_append, List.sum_append]
 cases hs : safeV h.name h.value <;> simp [hs]

theorem oth_len (L : List Hd) : (othN L).length ≤ L.length := by unfold othN; rw [List.length_map]; exact List.length_filter_le _ _

theorem saf_len (L : List Hd) : (safN L).length ≤ L.length := by unfold safN; rw [List.length_map]; exact List.length_filter_le _ _

theorem unsV_len (L : List Hd) : (unsV L).length ≤ 2 * L.length := by
 have h := (srtN_facts (othN L ++ if 1024 < safZ L then safN L else [])).2.2
 have h1 := oth_len L
 have h2 := saf_len L
 unfold unsV
 split at h <;> simp only [List.length_append, List.length_nil] at h
 ·rename_i hc; rw [if_pos hc]; omega
 ·rename_i hc; rw [if_neg hc]; omega

def nAO : List UInt8 := [97, 99, 99, 101, 115, 115, 45, 99, 111, 110, 116, 114, 111, 108, 45, 97, 108, 108, 111, 119, 45, 111, 114, 105, 103, 105, 110]

def nAC : List UInt8 := [97, 99, 99, 101, 115, 115, 45, 99, 111, 110, 116, 114, 111, 108, 45, 97, 108, 108, 111, 119, 45, 99, 114, 101, 100, 101, 110, 116, 105, 97, 108, 115]

def nEH : List UInt8 := [97, 99, 99, 101, 115, 115, 45, 99, 111, 110, 116, 114, 111, 108, 45, 101, 120, 112, 111, 115, 101, 45, 104, 101, 97, 100, 101, 114, 115]

def tTru : List UInt8 := [116, 114, 117, 101]

def chkC (t : List UInt8) (c : Bool) (L : List Hd) : Bool :=
 if getB L nAO = false then false
 else if getT L nAO = [42] ∧ c = false then true
 else if getT L nAO = t then !c || getT L nAC == tTru
 else false

def exPs (L : List Hd) : List (List UInt8) := pcsV L nEH

def exAll (L : List Hd) (c : Bool) : Bool := !c && hasT (exPs L) [42]

def exN (P : List (List UInt8)) : List (List UInt8) := (P.filter tokL).map low

def exT (L : List Hd) (c : Bool) : List (List UInt8) := if exAll L c then [] else srtN (exN (exPs L))

theorem exN_snoc (P : List (List UInt8)) (x : List UInt8) : exN (P ++ [x]) = if tokL x then exN P ++ [low x] else exN P := by
 unfold exN
 rw [List.filter_append, List.map_append]
 cases hs : tokL x <;> simp [hs]

theorem exN_len (P : List (List UInt8)) : (exN P).length ≤ P.length := by unfold exN; rw [List.length_map]; exact List.length_filter_le _ _

end Go.Proofs.YtpopljcmkbchcaaGreatDoor

namespace Go.Proofs.YtpopljcmkbchcaaGreatDoor
open Go.RowKit

def MePost (s : List UInt8) (w : World) (e : Ending) (w' : World) : Prop := e = .returned (.tuple #[.string ⟨(methT s).toArray⟩, .bool (methB s)]) ∧ Below w.heap.size w w'

theorem me_end {s T : List UInt8} {b : Bool} {w w' : World} (h1 : methT s = T) (h2 : methB s = b) (h3 : Below w.heap.size w w') : MePost s w (.returned (.tuple #[.string ⟨T.toArray⟩, .bool b])) w' := by
 subst h1; subst h2; exact ⟨rfl, h3⟩

theorem me_no {s : List UInt8} (h : methB s = false) : methT s = [] := by unfold methT; rw [h]; rfl

theorem noM_no {x : List UInt8} (h : noM x = false) : ¬ x = mConnect ∧ ¬ x = mTrace ∧ ¬ x = mTrack := by unfold noM at h; simpa using h

theorem bigM_no {x : List UInt8} (h : bigM x = false) : ¬ x = mDelete ∧ ¬ x = mGet ∧ ¬ x = mHead ∧ ¬ x = mOptions ∧ ¬ x = mPost ∧ ¬ x = mPut := by unfold bigM at h; simpa using h

theorem no_cases {x : List UInt8} (h : noM x = true) : x = mConnect ∨ x = mTrace ∨ x = mTrack := by unfold noM at h; simpa using h

theorem asc_at {s : ByteArray} (h : ∀ c ∈ s.data.toList, c.toNat < 128) : ∀ (j : Nat) (b : UInt8), s.data.toList[j]? = some b → b.toNat < 128 := fun j b hj => h b (List.mem_of_getElem? hj)

set_option maxHeartbeats 8000000 in
set_option maxRecDepth 100000 in
theorem method18_any (s : ByteArray) (w : World) (hs : s.size ≤ 1000000) :
  Calls Tryz.prog 35 #[.string s] w (MePost s.data.toList w) := by
 cases ht : tokL s.data.toList with
 | false =>
  have hb : methB s.data.toList = false := by unfold methB; rw [ht]; rfl
  have HN := hid hb
  have HT : Hid (∀ w : World, Calls Tryz.prog 82 #[.string s] w fun e w' => e = .returned (.bool false) ∧ w = w') := fun w => by
   have := token_any s w (by omega)
   rw [ht] at this
   exact this
  clear ht hb
  go_enter Tryz.func35, Tryz.ntmps35
  go_wp2_with fail
  refine (HT.out _).mono ?_
  rintro e w1 ⟨rfl, rfl⟩
  go_wp2_with fail
  go_ret2
  exact me_end (me_no HN.out) HN.out (Below.refl _ _)
 | true =>
 have HT : Hid (∀ w : World, Calls Tryz.prog 82 #[.string s] w fun e w' => e = .returned (.bool true) ∧ w = w') := fun w => by
  have := token_any s w (by omega)
  rw [ht] at this
  exact this
 obtain ⟨X, hX⟩ : ∃ X : ByteArray, X = ⟨(low s.data.toList).toArray⟩ := ⟨_, rfl⟩
 have hXl : low s.data.toList = X.data.toList := by rw [hX]
 have HL : Hid (∀ w : World, Calls Tryz.prog 83 #[.string s] w fun e w' => e = .returned (.string X) ∧ Below w.heap.size w w') := fun w => by
  have := lower_any s w (by omega)
  rw [← hX] at this
  exact this
 clear hX
 cases hn : noM X.data.toList with
 | true =>
  have hb : methB s.data.toList = false := by unfold methB; rw [hXl, hn, ht]; rfl
  have HN := hid hb
  clear ht hb hXl
  rcases no_cases hn with e | e | e
  all_goals
   have e1 := lst_yes e
   first | unfold mConnect at e1 | unfold mTrace at e1 | unfold mTrack at e1
   clear e hn
   subst e1
   go_enter Tryz.func35, Tryz.ntmps35
   go_wp2_with fail
   refine (HT.out _).mono ?_
   rintro e w1 ⟨rfl, rfl⟩
   go_wp2_with fail
   refine (HL.out _).mono ?_
   rintro e w1 ⟨rfl, hb1⟩
   have HB := hid hb1
   clear hb1
   go_wp2_with fail
   go_ret2
   exact me_end (me_no HN.out) HN.out HB.out
 | false =>
 have hb : methB s.data.toList = true := by unfold methB; rw [hXl, hn, ht]; rfl
 cases hg : bigM X.data.toList with
 | true =>
  have hm : methT s.data.toList = Lib.toUpperA s.data.toList := by unfold methT; rw [hb, hXl, hg]; rfl
  have HB0 := hid hb
  have HM := hid hm
  have HU := hid (fun w => Tryz.strings_ToUpper_ascii s w (by omega) (asc_at (big_asc (by rw [hXl]; exact hg))))
  clear ht hb hXl hm hn
  rcases big_cases hg with e | e | e | e | e | e
  all_goals
   have e1 := lst_yes e
   first | unfold mDelete at e1 | unfold mGet at e1 | unfold mHead at e1 | unfold mOptions at e1 | unfold mPost at e1 | unfold mPut at e1
   clear e hg
   subst e1
   go_enter Tryz.func35, Tryz.ntmps35
   go_wp2_with fail
   refine (HT.out _).mono ?_
   rintro e w1 ⟨rfl, rfl⟩
   go_wp2_with fail
   refine (HL.out _).mono ?_
   rintro e w1 ⟨rfl, hb1⟩
   have HB := hid hb1
   clear hb1
   go_wp2_with fail
   refine (HU.out _).mono ?_
   rintro e w2 ⟨rfl, hb2⟩
   have HB2 := hid (belowT HB.out hb2)
   clear hb2
   go_wp2_with fail
   go_ret2
   exact me_end HM.out HB0.out HB2.out
 | false =>
  have hm : methT s.data.toList = s.data.toList := by unfold methT; rw [hb, hXl, hg]; rfl
  have HB0 := hid hb
  have HM := hid hm
  clear ht hb hXl hm
  obtain ⟨n1, n2, n3⟩ := noM_no hn
  obtain ⟨n4, n5, n6, n7, n8, n9⟩ := bigM_no hg
  have m1 := lst_ne n1
  have m2 := lst_ne n2
  have m3 := lst_ne n3
  have m4 := lst_ne n4
  have m5 := lst_ne n5
  have m6 := lst_ne n6
  have m7 := lst_ne n7
  have m8 := lst_ne n8
  have m9 := lst_ne n9
  unfold mConnect at m1
  unfold mTrace at m2
  unfold mTrack at m3
  unfold mDelete at m4
  unfold mGet at m5
  unfold mHead at m6
  unfold mOptions at m7
  unfold mPost at m8
  unfold mPut at m9
  clear hn hg n1 n2 n3 n4 n5 n6 n7 n8 n9
  go_enter Tryz.func35, Tryz.ntmps35
  go_wp2_with fail
  refine (HT.out _).mono ?_
  rintro e w1 ⟨rfl, rfl⟩
  go_wp2_with fail
  refine (HL.out _).mono ?_
  rintro e w1 ⟨rfl, hb1⟩
  have HB := hid hb1
  clear hb1
  go_wp2_with fail
  go_ret2
  have := me_end HM.out HB0.out HB.out
  exact this

theorem simple18_any (s : ByteArray) (w : World) : Calls Tryz.prog 41 #[.string s] w fun e w' => e = .returned (.bool (simM s.data.toList)) ∧ w = w' := by
 obtain ⟨b, hb⟩ : ∃ b, b = simM s.data.toList := ⟨_, rfl⟩
 rw [← hb]
 by_cases h1 : s.data.toList = [71, 69, 84]
 ·have e1 := lst_yes h1
  subst e1
  obtain rfl : b = true := by rw [hb]; rfl
  clear hb h1
  go_enter Tryz.func41, Tryz.ntmps41
  go_wp2_with fail
  go_ret
  exact ⟨rfl, rfl⟩
 by_cases h2 : s.data.toList = [72, 69, 65, 68]
 ·have e1 := lst_yes h2
  subst e1
  obtain rfl : b = true := by rw [hb]; rfl
  clear hb h1 h2
  go_enter Tryz.func41, Tryz.ntmps41
  go_wp2_with fail
  go_ret
  exact ⟨rfl, rfl⟩
 by_cases h3 : s.data.toList = [80, 79, 83, 84]
 ·have e1 := lst_yes h3
  subst e1
  obtain rfl : b = true := by rw [hb]; rfl
  clear hb h1 h2 h3
  go_enter Tryz.func41, Tryz.ntmps41
  go_wp2_with fail
  go_ret
  exact ⟨rfl, rfl⟩
 have m1 := lst_ne h1
 have m2 := lst_ne h2
 have m3 := lst_ne h3
 obtain rfl : b = false := by rw [hb]; unfold simM; simp [h1, h2, h3]
 clear hb h1 h2 h3
 go_enter Tryz.func41, Tryz.ntmps41
 go_wp2_with fail
 go_ret
 exact ⟨rfl, rfl⟩

end Go.Proofs.YtpopljcmkbchcaaGreatDoor

namespace Go.Proofs.YtpopljcmkbchcaaGreatDoor
structure Org where
 scheme : List UInt8
 host : List UInt8
 port : Int
 opq : Bool
deriving DecidableEq

def Org.none : Org := ⟨[], [], 0, true⟩

def sBlob : List UInt8 := [98, 108, 111, 98]

def innV (u : Adr) : Adr := if u.scheme = sBlob ∧ u.opq = true then adrOf (readV u.path.flatten none) else Adr.zero

def webV (s : List UInt8) : Bool := s == sHttp || s == sHttps

def orgA (u : Adr) : Adr := if webV (innV u).scheme then innV u else u

def hasP (u : Adr) : Int := if u.port = -1 then ownV u.scheme else u.port

def orgV (u : Adr) : Org := if specV (orgA u).scheme then ⟨(orgA u).scheme, (orgA u).host, hasP (orgA u), false⟩ else Org.none

end Go.Proofs.YtpopljcmkbchcaaGreatDoor

namespace Go.Proofs.YtpopljcmkbchcaaGreatDoor
open Go.RowKit

theorem intV_range (l : List UInt8) : 0 ≤ intV l ∧ intV l ≤ 9223372036854775807 := by
 unfold intV
 split
 ·rename_i h
  simp only [Bool.and_eq_true] at h
  exact numI_range l h.1
 ·omega

end Go.Proofs.YtpopljcmkbchcaaGreatDoor

namespace Go.Proofs.YtpopljcmkbchcaaGreatDoor
open Go.RowKit

def cutS (l : List UInt8) : List UInt8 × List UInt8 := (schemeV l).getD ([], l)

theorem cutS_none {l : List UInt8} (h : ((part 58 l).2.2 && schOk (part 58 l).1) = false) : cutS l = ([], l) := by rw [cutS, schemeV, h]; rfl

theorem cutS_some {l : List UInt8} (h : ((part 58 l).2.2 && schOk (part 58 l).1) = true) : cutS l = (low (part 58 l).1, (part 58 l).2.1) := by rw [cutS, schemeV, if_pos h]; rfl

end Go.Proofs.YtpopljcmkbchcaaGreatDoor
