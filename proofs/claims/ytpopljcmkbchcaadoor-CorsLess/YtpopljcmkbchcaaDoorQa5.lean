/-
  Walks and plain facts that this claim leans on, put together out of 14 texts: Hk, Ua, Uc, Ud, Ue, Eia, Eic, Yc, Uf, Ug, Wr, Uh, Ui, Uj.
-/
import Derived.Test.YtpopljcmkbchcaaDoorProg
import Derived.Test.YtpopljcmkbchcaaDoorQa1
import Derived.Test.YtpopljcmkbchcaaDoorQa2
import Derived.Test.YtpopljcmkbchcaaDoorQa3
import Derived.Test.YtpopljcmkbchcaaDoorQa4
import Derived.Lib.IndexMore
import Derived.Lib.Join
import Derived.Lib.LastIndexByte
import Derived.WalkKit
import Derived.Lib.Strings
import Derived.Lib.UnsafeStr
import Derived.Laws.IdiomStrings
import Derived.Laws.AppendOwn
import Derived.Laws.BitsAllLaws
import Derived.Lib.Bytealg
import Derived.Lib.BufferMore
import Derived.Shelf.Strings.Builder1
import Derived.Shelf.Strings.Builder2
import Derived.Shelf.Strings.OnBuilder
import Derived.Shelf.Small.Utf8
import Derived.Shelf.Strings.BuilderF
import Derived.Shelf.Strings.BuilderK
import Derived.Shelf.Strings.BuilderRune
import Derived.Shelf.Utf8.AppendRune
import Derived.Shelf.Utf8.AppendRunePlain
import Derived.Shelf.Strings.Builder2Cap
import Derived.Shelf.Strconv.Itoa0
import Derived.Shelf.Strconv.Itoa1
import Derived.Shelf.LaysM
import Derived.Shelf.Strconv.Itoa2
import Derived.Shelf.Strconv.Itoa3
import Derived.Shelf.Unicode.Latin
import Derived.Shelf.Unicode.Decode
import Derived.Shelf.Unicode.DecodeSlow
import Derived.Shelf.Unicode.DecodeAny
import Derived.Shelf.Unicode.CaseLookup
import Derived.Shelf.Unicode.CaseConvert
import Derived.Shelf.Unicode.CaseTo
import Derived.Shelf.Unicode.CaseLaid
import Derived.WalkSpells
import Derived.WalkLawsBesides
import Derived.Lib.AppendIntMem
import Derived.Lib.SmallJoins
import Derived.WalkSmall
import Derived.WalkMore
import Derived.Deep.LoopGhost
import Derived.OwnWalk
import Derived.Laws.CopyOwn
import Derived.Laws.ResultCell
import Derived.Deep.MidRow
import Derived.Deep.RegionWith
import Derived.Lib.FrozenHead2
import Derived.Lib.OthersKept
import Derived.Lib.Builder
import Derived.Scope
import Derived.ScopeJumps
import Derived.Lib.IndexAny
import Derived.Lib.Replace
import Derived.Lib.TrimByte
import Derived.Lib.ItoaNum
import Derived.Laws.RangeAny
import Derived.Lib.DecodeN
import Derived.RegionTactic
import Derived.Deep.QuietTactic
import Derived.BigQuiet
import Derived.BigRegion
import Derived.Deep.RegionHeld
import Derived.Deep.RegionHeldLaw
import Derived.Lib.BufferRead
import Derived.Lib.RuneBytes
import Derived.Maps.OwnSet
import Derived.Maps.OwnOps
import Derived.Maps.AppendAt
import Derived.StringKeys
import Derived.LoopN
import Derived.Deep.RegionLaw
import Derived.Lib.FieldsP
import Derived.Laws.OwnMore
import Derived.Below
import Derived.Lib.LaidTab
import Derived.Laws.Runes
import Derived.Lib.AppendStr
import Derived.Shelf.GgClosure.GivesRunes
import Derived.Laws.BitsAll
import Derived.Laws.Shifts
import Derived.Deep.DeepAppendRoom
import Derived.Laws.BytesString
import Derived.Laws.CopyRow
import Derived.Sort.OwnSorted
import Derived.Lib.SlicesCompact
import Derived.Sort.KeysCollected
import Derived.Lib.Case
import Derived.Lib.SlTrimSet
import Derived.Shelf.Strings.SlTrimAscii
import Derived.Deep.CutRange
import Derived.Laws.Rows
import Derived.Laws.MakeOwn
import Derived.Deep.WholeRow
import Derived.Laws.AppendOwnNone
set_option linter.unusedSimpArgs false
set_option linter.unusedVariables false

namespace Go.Proofs.YtpopljcmkbchcaaDoor
def cutL (c : UInt8) : List UInt8 → List (List UInt8)
 | [] => [[]]
 | x :: l => if x = c then [] :: cutL c l else match cutL c l with
  | [] => [[x]]
  | h :: t => (x :: h) :: t

theorem cutL_ne (c : UInt8) (l : List UInt8) : cutL c l ≠ [] := by
 cases l with
 | nil => simp [cutL]
 | cons x l =>
  rw [cutL]
  split
  ·simp
  ·split <;> simp

theorem cutL_none (c : UInt8) : ∀ l : List UInt8, c ∉ l → cutL c l = [l]
 | [], _ => rfl
 | x :: l, h => by
  rw [cutL, if_neg (fun e => h (by simp [e])), cutL_none c l (fun e => h (by simp [e]))]

theorem cutL_some (c : UInt8) : ∀ (a r : List UInt8), c ∉ a → cutL c (a ++ c :: r) = a :: cutL c r
 | [], r, _ => by rw [List.nil_append, cutL, if_pos rfl]
 | x :: a, r, h => by
  rw [List.cons_append, cutL, if_neg (fun e => h (by simp [e])), cutL_some c a r (fun e => h (by simp [e]))]

theorem first_split (c : UInt8) : ∀ l : List UInt8, c ∉ l ∨ ∃ a r, c ∉ a ∧ l = a ++ c :: r
 | [] => .inl (by simp)
 | x :: l => by
  by_cases hx : x = c
  ·exact .inr ⟨[], l, by simp, by simp [hx]⟩
  ·rcases first_split c l with h | ⟨a, r, ha, rfl⟩
   ·exact .inl (by simp [h]; exact fun e => hx e.symm)
   ·exact .inr ⟨x :: a, r, by simp [ha]; exact fun e => hx e.symm, rfl⟩

theorem cutL_ind (c : UInt8) {P : List UInt8 → Prop} (h1 : ∀ l, c ∉ l → P l) (h2 : ∀ a r, c ∉ a → P r → P (a ++ c :: r)) : ∀ l, P l := by
 intro l
 generalize hn : l.length = n
 induction n using Nat.strongRecOn generalizing l with
 | _ n ih =>
  rcases first_split c l with h | ⟨a, r, ha, rfl⟩
  ·exact h1 l h
  ·exact h2 a r ha (ih r.length (by rw [← hn]; simp; omega) r rfl)

theorem cutL_snoc (c : UInt8) : ∀ l : List UInt8, cutL c (l ++ [c]) = cutL c l ++ [[]] :=
 cutL_ind c (fun l h => by rw [cutL_some c l [] h, cutL_none c l h]; rfl)
  (fun a r h ih => by rw [List.append_assoc, List.cons_append, cutL_some c a _ h, ih, cutL_some c a r h]; rfl)

theorem takeWhile_stop {α : Type} (p : α → Bool) (y : α) (hy : p y = false) : ∀ (xs ys : List α), (xs ++ y :: ys).takeWhile p = xs.takeWhile p
 | [], ys => by simp [List.takeWhile, hy]
 | x :: xs, ys => by
  simp only [List.cons_append, List.takeWhile]
  split
  ·rw [takeWhile_stop p y hy xs ys]
  ·rfl

theorem lastLab_app (a r : List UInt8) : lastLab (a ++ 46 :: r) = lastLab r := by
 unfold lastLab
 rw [List.reverse_append, List.reverse_cons, List.append_assoc, List.singleton_append, takeWhile_stop _ 46 (by decide)]

theorem cutL_last : ∀ l : List UInt8, (cutL 46 l).getLast? = some (lastLab l) :=
 cutL_ind 46 (fun l h => by rw [cutL_none 46 l h, lastLab_none l (fun c hc e => h (e ▸ hc))]; rfl)
  (fun a r h ih => by
   rw [cutL_some 46 a r h, lastLab_app, List.getLast?_cons, ih]; rfl)

theorem lastLab_nil : ∀ l : List UInt8, lastLab l = [] → l = [] ∨ ∃ t, l = t ++ [46] := by
 intro l h
 rcases List.eq_nil_or_concat l with rfl | ⟨t, c, rfl⟩
 ·exact .inl rfl
 ·right
  refine ⟨t, ?_⟩
  by_cases hc : c = 46
  ·rw [hc]; simp
  ·exfalso
   unfold lastLab at h
   simp [hc] at h

def labL (l : List UInt8) : List (List UInt8) := if 1 < (cutL 46 l).length ∧ (cutL 46 l).getLast? = some [] then (cutL 46 l).dropLast else cutL 46 l

theorem labL_eq (l : List UInt8) : labL l = cutL 46 (noDot l) := by
 unfold labL
 by_cases h : ∃ t, l = t ++ [46]
 ·obtain ⟨t, rfl⟩ := h
  rw [noDot_dot, cutL_snoc]
  rw [if_pos]
  ·simp
  ·refine ⟨?_, by simp⟩
   have := cutL_ne 46 t
   have : 0 < (cutL 46 t).length := List.length_pos_iff.2 this
   simp; omega
 ·rw [noDot_of l (fun t e => h ⟨t, e⟩), if_neg]
  rintro ⟨h1, h2⟩
  rw [cutL_last] at h2
  rcases lastLab_nil l (Option.some.inj h2) with rfl | h3
  ·simp [cutL] at h1
  ·exact h h3



def valC (cap base : Nat) : Nat → List UInt8 → Option Nat
 | n, [] => some n
 | n, c :: l => if dig16 c < base then valC cap base (min (n * base + dig16 c) cap) l else none

theorem valN_isSome (base : Nat) : ∀ (l : List UInt8) (n : Nat), (valN base n l).isSome = l.all fun c => decide (dig16 c < base)
 | [], n => rfl
 | c :: l, n => by
  rw [valN]
  by_cases h : dig16 c < base
  ·rw [if_pos h, valN_isSome base l]; simp [h]
  ·rw [if_neg h]; simp [h]

theorem valC_le (cap base : Nat) : ∀ (l : List UInt8) (n m : Nat), n ≤ cap → valC cap base n l = some m → m ≤ cap
 | [], n, m, h, e => by rw [valC] at e; injection e with e; omega
 | c :: l, n, m, h, e => by
  rw [valC] at e
  split at e
  ·exact valC_le cap base l _ m (by omega) e
  ·cases e

theorem valC_N (cap base : Nat) (hb : 1 ≤ base) (hc : 4294967296 ≤ cap) : ∀ (l : List UInt8) (n m : Nat), n = min m 4294967296 → valN base n l = (valC cap base m l).map fun k => min k 4294967296
 | [], n, m, h => by rw [valN, valC, h]; rfl
 | c :: l, n, m, h => by
  rw [valN, valC]
  by_cases hd : dig16 c < base
  ·rw [if_pos hd, if_pos hd]
   refine valC_N cap base hb hc l _ _ ?_
   by_cases hm : m < 4294967296
   ·have : n = m := by omega
    subst this
    omega
   ·have e : n = 4294967296 := by omega
    subst e
    have h1 : 4294967296 * 1 ≤ 4294967296 * base := Nat.mul_le_mul_left _ hb
    have h2 : 4294967296 * base ≤ m * base := Nat.mul_le_mul_right _ (by omega)
    omega
  ·rw [if_neg hd, if_neg hd]; rfl

def lid : Nat := 1099511627776

def rnumV (x : List UInt8) : Option Nat :=
 if marked x then valC lid 16 0 (x.drop 2)
 else if 1 < x.length ∧ x.head? = some 48 then valC lid 8 0 (x.drop 1)
 else if x = [] then none else valC lid 10 0 x

theorem rnumV_eq (x : List UInt8) : numV x = (rnumV x).map fun k => min k 4294967296 := by
 unfold numV rnumV
 by_cases hm : marked x = true
 ·rw [if_pos hm, if_pos hm]
  exact valC_N lid 16 (by omega) (by decide) _ 0 0 rfl
 ·rw [if_neg hm, if_neg hm]
  match x with
  | [] => simp
  | [c] =>
   rw [if_neg (by simp)]
   simp only [List.cons_ne_nil, if_false]
   by_cases hc : c = 48
   ·subst hc
    rw [if_pos rfl]
    rfl
   ·rw [if_neg hc]
    exact valC_N lid 10 (by omega) (by decide) _ 0 0 rfl
  | c :: d :: r =>
   simp only
   by_cases hc : c = 48
   ·subst hc
    rw [if_pos rfl, if_pos ⟨by simp, rfl⟩]
    exact valC_N lid 8 (by omega) (by decide) _ 0 0 rfl
   ·rw [if_neg hc, if_neg (by simp [hc])]
    simp only [reduceCtorEq, if_false]
    exact valC_N lid 10 (by omega) (by decide) _ 0 0 rfl

theorem rnumV_le (x : List UInt8) (n : Nat) (h : rnumV x = some n) : n ≤ lid := by
 unfold rnumV at h
 split at h
 ·exact valC_le _ _ _ _ _ (by decide) h
 ·split at h
  ·exact valC_le _ _ _ _ _ (by decide) h
  ·split at h
   ·cases h
   ·exact valC_le _ _ _ _ _ (by decide) h



def rnumbered (x : List UInt8) : Bool := (decide (x ≠ []) && x.all fun c => decide (dig16 c < 10)) || (marked x && (x.drop 2).all fun c => decide (dig16 c < 16))

theorem marked_form (x : List UInt8) (h : marked x = true) : ∃ c r, x = 48 :: c :: r ∧ dig16 c = 16 := by
 unfold marked Lib.hasPrefix at h
 rw [Bool.or_eq_true, List.isPrefixOf_iff_prefix, List.isPrefixOf_iff_prefix] at h
 rcases h with ⟨t, rfl⟩ | ⟨t, rfl⟩
 ·exact ⟨120, t, rfl, by decide⟩
 ·exact ⟨88, t, rfl, by decide⟩

theorem rnumbered_eq (l : List UInt8) : numberedV l = rnumbered (lastLab (noDot l)) := by
 unfold numberedV rnumbered
 generalize lastLab (noDot l) = x
 unfold valV
 rw [valN_isSome, valN_isSome]
 cases hm : marked x with
 | true =>
  obtain ⟨c, r, rfl, hc⟩ := marked_form x hm
  simp [hc]
 | false => simp



def fourL : Nat → Nat → List (List UInt8) → Option Nat
 | 0, _, _ => none
 | _ + 1, _, [] => none
 | r + 1, h, [x] => match numV x with
  | none => none
  | some n => if n < 2 ^ (8 * (r + 1)) then some (h * 2 ^ (8 * (r + 1)) + n) else none
 | r + 1, h, x :: y :: L => match numV x with
  | none => none
  | some n => if 255 < n then none else fourL r (h * 256 + n) (y :: L)

theorem fourN_L : ∀ (r h : Nat) (l : List UInt8), fourN r h l = fourL r h (cutL 46 l)
 | 0, h, l => by cases cutL 46 l <;> rfl
 | r + 1, h, l => by
  rcases first_split 46 l with h1 | ⟨a, t, ha, rfl⟩
  ·rw [fourN, cut_none l 46 h1, cutL_none 46 l h1, fourL]
   cases numV l <;> rfl
  ·rw [fourN, cut_some a t 46 ha, cutL_some 46 a t ha]
   obtain ⟨y, L, hy⟩ : ∃ y L, cutL 46 t = y :: L := by
    cases e : cutL 46 t with
    | nil => exact absurd e (cutL_ne 46 t)
    | cons y L => exact ⟨y, L, rfl⟩
   rw [hy, fourL]
   cases numV a with
   | none => rfl
   | some n => simp only [if_true]; rw [fourN_L r (h * 256 + n) t, hy]

theorem fourV_L (l : List UInt8) : fourV l = fourL 4 0 (labL l) := by
 rw [labL_eq, ← fourN_L]; rfl

theorem fourL_many : ∀ (r h : Nat) (L : List (List UInt8)), r < L.length → fourL r h L = none
 | 0, h, L, _ => by cases L <;> rfl
 | r + 1, h, [], hl => by simp at hl
 | r + 1, h, [x], hl => by simp at hl
 | r + 1, h, x :: y :: L, hl => by
  rw [fourL]
  cases numV x with
  | none => rfl
  | some n =>
   simp only
   rw [fourL_many r _ (y :: L) (by simpa using hl)]
   simp

theorem fourL_bad : ∀ (r h : Nat) (L : List (List UInt8)) (x : List UInt8), x ∈ L → numV x = none → fourL r h L = none
 | 0, h, L, x, _, _ => by cases L <;> rfl
 | r + 1, h, [], x, hx, _ => by simp at hx
 | r + 1, h, [y], x, hx, hn => by
  simp at hx; subst hx
  rw [fourL, hn]
 | r + 1, h, y :: z :: L, x, hx, hn => by
  rw [fourL]
  cases hy : numV y with
  | none => rfl
  | some n =>
   simp only
   have hx' : x ∈ z :: L := by
    rcases List.mem_cons.1 hx with rfl | h
    ·rw [hn] at hy; cases hy
    ·exact h
   rw [fourL_bad r _ (z :: L) x hx' hn]
   simp

end Go.Proofs.YtpopljcmkbchcaaDoor

namespace Go.Proofs.YtpopljcmkbchcaaDoor
structure Adr where
 scheme : List UInt8
 user : List UInt8
 pass : List UInt8
 host : List UInt8
 hasHost : Bool
 port : Int
 opq : Bool
 path : List (List UInt8)
 query : List UInt8
 fragment : List UInt8
 hasQuery : Bool
 hasFragment : Bool

def Adr.zero : Adr := ⟨[], [], [], [], false, 0, false, [], [], [], false, false⟩

def sHttp : List UInt8 := [104, 116, 116, 112]

def sHttps : List UInt8 := [104, 116, 116, 112, 115]

def sWs : List UInt8 := [119, 115]

def sWss : List UInt8 := [119, 115, 115]

def sFtp : List UInt8 := [102, 116, 112]

def ownV (s : List UInt8) : Int := if s = sHttp ∨ s = sWs then 80 else if s = sHttps ∨ s = sWss then 443 else if s = sFtp then 21 else -1

def specV (s : List UInt8) : Bool := decide (0 ≤ ownV s)

def part (c : UInt8) : List UInt8 → List UInt8 × List UInt8 × Bool
 | [] => ([], [], false)
 | x :: l => if x = c then ([], l, true) else (x :: (part c l).1, (part c l).2.1, (part c l).2.2)

def aheadV (ends : List UInt8) (l : List UInt8) : List UInt8 × List UInt8 := (l.takeWhile (fun c => !ends.contains c), l.dropWhile (fun c => !ends.contains c))

def wsC (c : UInt8) : Bool := decide (c.toNat ≤ 32)

def eyeC (c : UInt8) : Bool := c == 9 || (c == 10 || c == 13)

def trimV (l : List UInt8) : List UInt8 := ((l.dropWhile wsC).reverse.dropWhile wsC).reverse

def cleanV (l : List UInt8) : List UInt8 := (trimV l).filter (fun c => !eyeC c)

def schC (c : UInt8) : Bool := letterI c.toNat || (digitI c.toNat || (c == 43 || (c == 45 || c == 46)))

def schOk (l : List UInt8) : Bool := (match l with | [] => false | c :: _ => letterI c.toNat) && l.all schC

def schemeV (l : List UInt8) : Option (List UInt8 × List UInt8) := if (part 58 l).2.2 && schOk (part 58 l).1 then some (low (part 58 l).1, (part 58 l).2.1) else none

def slC (c : UInt8) : UInt8 := if c = 92 then 47 else c

def slashV (l : List UInt8) : List UInt8 := (aheadV [63] l).1.map slC ++ (aheadV [63] l).2

def slashedV (scheme l : List UInt8) : List UInt8 := if specV scheme then slashV l else l

def atV (l : List UInt8) : List UInt8 × List UInt8 := if l.contains 64 then (((l.reverse.dropWhile (· != 64)).drop 1).reverse, (l.reverse.takeWhile (· != 64)).reverse) else ([], l)

def colN : Bool → Nat → Nat → List UInt8 → Nat
 | _, _, k, [] => k
 | false, i, k, c :: l => if c = 58 then colN false (i + 1) i l else if c = 91 then colN true (i + 1) k l else colN false (i + 1) k l
 | true, i, k, c :: l => if c = 93 then colN false (i + 1) k l else colN true (i + 1) k l

def colV (l : List UInt8) : Nat := colN false 0 l.length l

def portV (own : Int) (t : List UInt8) : Option Int :=
 if t = [] then some (-1) else if intOk t && decide (intV t ≤ 65535) then some (if intV t = own then -1 else intV t) else none

def authV (scheme s : List UInt8) : Except Int (List UInt8 × List UInt8 × List UInt8 × Int) :=
 match portV (ownV scheme) (((atV s).2.drop (colV (atV s).2)).drop 1) with
 | none => .error 11
 | some p =>
  match parseV ((atV s).2.take (colV (atV s).2)) (specV scheme) with
  | none => .error 10
  | some h =>
   if h = [] ∧ (pct 6 (part 58 (atV s).1).1 ≠ [] ∨ pct 6 (part 58 (atV s).1).2.1 ≠ [] ∨ ((atV s).2.drop (colV (atV s).2)).drop 1 ≠ []) then .error 10
   else .ok (pct 6 (part 58 (atV s).1).1, pct 6 (part 58 (atV s).1).2.1, h, p)

def dotsV (p : List UInt8) : Nat := if unpct p = [46] then 1 else if unpct p = [46, 46] then 2 else 0

def pathL : List (List UInt8) → List (List UInt8) → List (List UInt8)
 | out, [] => out
 | out, [p] => if dotsV p = 2 then out.dropLast ++ [[]] else if dotsV p = 1 then out ++ [[]] else out ++ [pct 5 p]
 | out, p :: q :: r => if dotsV p = 2 then pathL out.dropLast (q :: r) else if dotsV p = 1 then pathL out (q :: r) else pathL (out ++ [pct 5 p]) (q :: r)

def over1 (l : List UInt8) : List UInt8 := match l with | [] => [] | c :: r => if c = 47 then r else l

def pathV (special : Bool) (have_ : List (List UInt8)) (s : List UInt8) : List (List UInt8) := if s = [] ∧ special = false then [] else pathL have_ (cutL 47 (over1 s))

def querV (special : Bool) (q : List UInt8) : List UInt8 := pct (if special then 4 else 3) q

def withQuery (u : Adr) (q : List UInt8) : Adr := if q = [] then u else { u with query := querV (specV u.scheme) (q.drop 1), hasQuery := true }

def withPath (u : Adr) (have_ : List (List UInt8)) (r : List UInt8) : Adr := withQuery { u with path := pathV (specV u.scheme) have_ (aheadV [63] r).1 } (aheadV [63] r).2

def withAuth (u : Adr) (r : List UInt8) : Except Int Adr :=
 match authV u.scheme (aheadV [47, 63] r).1 with
 | .error e => .error e
 | .ok (a, b, h, p) => .ok (withPath { u with user := a, pass := b, host := h, hasHost := true, port := p } [] (aheadV [47, 63] r).2)

def skip47 (l : List UInt8) : List UInt8 := l.dropWhile (· == 47)

def startV (u : Adr) (rest : List UInt8) : Except Int Adr :=
 if specV u.scheme then withAuth u (skip47 (slashV rest))
 else if Lib.hasPrefix rest [47, 47] then withAuth u (rest.drop 2)
 else if Lib.hasPrefix rest [47] then .ok (withPath u [] rest)
 else .ok (withQuery { u with opq := true, path := [pct 1 (aheadV [63] rest).1] } (aheadV [63] rest).2)

def beginU (s : List UInt8) : Adr × List UInt8 :=
 let t := part 35 (cleanV s)
 let m := (schemeV t.1).getD ([], t.1)
 (⟨m.1, [], [], [], false, -1, false, [], [], pct 2 t.2.1, false, t.2.2⟩, m.2)

def joinV (u : Adr) (rest : List UInt8) (b : Adr) : Except Int Adr :=
 let v : Adr := { u with scheme := b.scheme }
 let r := slashedV b.scheme rest
 if Lib.hasPrefix r [47, 47] then startV v r
 else
  let x : Adr := { v with user := b.user, pass := b.pass, host := b.host, hasHost := b.hasHost, port := b.port }
  if Lib.hasPrefix r [47] then .ok (withPath x [] r)
  else if r ≠ [] ∧ r.head? ≠ some 63 then .ok (withPath x b.path.dropLast r)
  else .ok (withQuery { x with opq := b.opq, path := b.path, query := b.query, hasQuery := b.hasQuery } r)

def readV (s : List UInt8) (base : Option Adr) : Except Int Adr :=
 if 4096 < s.length then .error 3
 else
  match base with
  | none => if (beginU s).1.scheme = [] then .error 12 else startV (beginU s).1 (beginU s).2
  | some b =>
   if (beginU s).1.scheme ≠ [] ∧ (specV (beginU s).1.scheme = false ∨ (beginU s).1.scheme ≠ b.scheme) then startV (beginU s).1 (beginU s).2
   else if b.opq = true ∧ (beginU s).2 ≠ [] then .error 12
   else joinV (beginU s).1 (beginU s).2 b

def deciN : Nat → Nat → List UInt8 → List UInt8
 | 0, _, acc => acc
 | f + 1, n, acc => if n < 10 then UInt8.ofNat (48 + n) :: acc else deciN f (n / 10) (UInt8.ofNat (48 + n % 10) :: acc)

def portT (p : Int) : List UInt8 := deciN 6 p.toNat []

def authT (u : Adr) : List UInt8 :=
 if u.hasHost then [47, 47] ++ u.user ++ (if u.pass = [] then [] else 58 :: u.pass) ++ (if u.user = [] ∧ u.pass = [] then [] else [64]) ++ u.host ++ (if u.port = -1 then [] else 58 :: portT u.port) else []

def pathT (u : Adr) : List UInt8 :=
 if u.opq then u.path.flatten
 else (if u.hasHost = false ∧ 1 < u.path.length ∧ u.path.head? = some [] then [47, 46] else []) ++ u.path.flatMap (fun p => 47 :: p)

def bareV (u : Adr) : List UInt8 := u.scheme ++ 58 :: (authT u ++ (pathT u ++ (if u.hasQuery then 63 :: u.query else [])))

def textV (u : Adr) : List UInt8 := bareV u ++ (if u.hasFragment then 35 :: u.fragment else [])

def adrOf : Except Int Adr → Adr
 | .ok u => u
 | .error _ => Adr.zero

def numOf : Except Int Adr → Int
 | .ok _ => 0
 | .error e => e

end Go.Proofs.YtpopljcmkbchcaaDoor

namespace Go.Proofs.YtpopljcmkbchcaaDoor
open Go.RowKit

theorem beq_no (a : ByteArray) (l : List UInt8) (h : a.data.toList ≠ l) : (a.toList == l) = false := by
 rw [Lib.toList_data, beq_eq_false_iff_ne]; exact h

theorem beq_yes (a : ByteArray) (l : List UInt8) (h : a.data.toList = l) : (a.toList == l) = true := by
 rw [Lib.toList_data, h]; exact beq_self_eq_true _

set_option maxHeartbeats 400000 in
theorem own_any (s : ByteArray) (w : World) :
  Calls Tryd.prog 25 #[.string s] w fun e w' => e = .returned (.int .i64 (ownV s.data.toList)) ∧ w = w' := by
 by_cases h1 : s.data.toList = sHttp
 ·have HN := hid (show ownV s.data.toList = 80 by rw [h1]; rfl)
  have e1 := beq_yes s [104, 116, 116, 112] h1
  clear h1
  go_enter Tryd.func25, Tryd.ntmps25
  go_wp2
  go_ret
  rw [HN.out]; exact ⟨rfl, rfl⟩
 ·have e1 := beq_no s [104, 116, 116, 112] h1
  by_cases h2 : s.data.toList = sWs
  ·have HN := hid (show ownV s.data.toList = 80 by rw [h2]; rfl)
   have e2 := beq_yes s [119, 115] h2
   clear h1 h2
   go_enter Tryd.func25, Tryd.ntmps25
   go_wp2
   go_ret
   rw [HN.out]; exact ⟨rfl, rfl⟩
  ·have e2 := beq_no s [119, 115] h2
   by_cases h3 : s.data.toList = sHttps
   ·have HN := hid (show ownV s.data.toList = 443 by rw [h3]; rfl)
    have e3 := beq_yes s [104, 116, 116, 112, 115] h3
    clear h1 h2 h3
    go_enter Tryd.func25, Tryd.ntmps25
    go_wp2
    go_ret
    rw [HN.out]; exact ⟨rfl, rfl⟩
   ·have e3 := beq_no s [104, 116, 116, 112, 115] h3
    by_cases h4 : s.data.toList = sWss
    ·have HN := hid (show ownV s.data.toList = 443 by rw [h4]; rfl)
     have e4 := beq_yes s [119, 115, 115] h4
     clear h1 h2 h3 h4
     go_enter Tryd.func25, Tryd.ntmps25
     go_wp2
     go_ret
     rw [HN.out]; exact ⟨rfl, rfl⟩
    ·have e4 := beq_no s [119, 115, 115] h4
     by_cases h5 : s.data.toList = sFtp
     ·have HN := hid (show ownV s.data.toList = 21 by rw [h5]; rfl)
      have e5 := beq_yes s [102, 116, 112] h5
      clear h1 h2 h3 h4 h5
      go_enter Tryd.func25, Tryd.ntmps25
      go_wp2
      go_ret
      rw [HN.out]; exact ⟨rfl, rfl⟩
     ·have e5 := beq_no s [102, 116, 112] h5
      have HN := hid (show ownV s.data.toList = -1 by rw [ownV, if_neg (by rintro (h | h); exact h1 h; exact h2 h), if_neg (by rintro (h | h); exact h3 h; exact h4 h), if_neg h5])
      clear h1 h2 h3 h4 h5
      go_enter Tryd.func25, Tryd.ntmps25
      go_wp2
      go_ret
      rw [HN.out]; exact ⟨rfl, rfl⟩

end Go.Proofs.YtpopljcmkbchcaaDoor

namespace Go.Proofs.YtpopljcmkbchcaaDoor
theorem part_none (c : UInt8) : ∀ l : List UInt8, c ∉ l → part c l = (l, [], false)
 | [], _ => rfl
 | x :: l, h => by
  have hx : x ≠ c := fun e => h (by simp [e])
  have hl : c ∉ l := fun e => h (by simp [e])
  rw [part, if_neg hx, part_none c l hl]

theorem part_some (c : UInt8) : ∀ (a r : List UInt8), c ∉ a → part c (a ++ c :: r) = (a, r, true)
 | [], r, _ => by rw [List.nil_append, part, if_pos rfl]
 | x :: a, r, h => by
  have hx : x ≠ c := fun e => h (by simp [e])
  have hl : c ∉ a := fun e => h (by simp [e])
  rw [List.cons_append, part, if_neg hx, part_some c a r hl]

theorem cut_part (c : UInt8) (l : List UInt8) : Lib.cut l [c] = part c l := by
 rcases first_split c l with h | ⟨a, r, h, rfl⟩
 ·rw [cut_none l c h, part_none c l h]
 ·rw [cut_some a r c h, part_some c a r h]

theorem part_le (c : UInt8) (l : List UInt8) : (part c l).1.length ≤ l.length ∧ (part c l).2.1.length ≤ l.length := by
 rw [← cut_part]; exact cut_le l [c]

theorem ahead_index (ends : List UInt8) : ∀ l : List UInt8, (Lib.indexAny l ends = -1 ∧ aheadV ends l = (l, [])) ∨ (∃ i : Nat, i < l.length ∧ Lib.indexAny l ends = i ∧ aheadV ends l = (l.take i, l.drop i))
 | [] => .inl ⟨rfl, rfl⟩
 | c :: l => by
  by_cases h : ends.contains c = true
  ·refine .inr ⟨0, by simp, by rw [Lib.indexAny, if_pos h]; rfl, ?_⟩
   have h2 : c ∈ ends := by simpa using h
   simp [aheadV, List.takeWhile, List.dropWhile, h2]
  ·have h' : ends.contains c = false := by simpa using h
   have h2 : c ∉ ends := by simpa using h
   have e1 : (aheadV ends (c :: l)) = (c :: (aheadV ends l).1, (aheadV ends l).2) := by
    simp [aheadV, List.takeWhile, List.dropWhile, h2]
   rcases ahead_index ends l with ⟨h1, h2⟩ | ⟨i, hi, h1, h2⟩
   ·exact .inl ⟨by rw [Lib.indexAny, if_neg h, h1]; rfl, by rw [e1, h2]⟩
   ·refine .inr ⟨i + 1, by simp; omega, ?_, by rw [e1, h2]; rfl⟩
    rw [Lib.indexAny, if_neg h, h1]
    have : ((i : Int) == -1) = false := by rw [beq_eq_false_iff_ne]; omega
    rw [this]; simp

theorem ahead_app (ends l : List UInt8) : (aheadV ends l).1 ++ (aheadV ends l).2 = l := List.takeWhile_append_dropWhile

theorem slC_none (l : List UInt8) (h : 92 ∉ l) : l.map slC = l := by
 induction l with
 | nil => rfl
 | cons c l ih =>
  have hc : c ≠ 92 := fun e => h (by simp [e])
  have hl : 92 ∉ l := fun e => h (by simp [e])
  rw [List.map_cons, ih hl, slC, if_neg hc]

theorem take_rev (p : UInt8 → Bool) (a b : List UInt8) (c : UInt8) (hb : ∀ x ∈ b, p x = true) (hc : p c = false) : ((a ++ c :: b).reverse.takeWhile p).reverse = b ∧ (((a ++ c :: b).reverse.dropWhile p).drop 1).reverse = a := by
 have e : (a ++ c :: b).reverse = b.reverse ++ c :: a.reverse := by simp
 have hb' : ∀ x ∈ b.reverse, p x = true := fun x hx => hb x (List.mem_reverse.1 hx)
 constructor
 ·rw [e, List.takeWhile_append_of_pos hb', List.takeWhile_cons, hc]
  simp
 ·rw [e, List.dropWhile_append_of_pos hb', List.dropWhile_cons, hc]
  simp

theorem at_none (l : List UInt8) (h : 64 ∉ l) : atV l = ([], l) := by
 have : l.contains 64 = false := by simpa using h
 rw [atV, this]; rfl

theorem at_some (a b : List UInt8) (h : 64 ∉ b) : atV (a ++ 64 :: b) = (a, b) := by
 have h1 : (a ++ 64 :: b).contains 64 = true := by simp
 have h2 := take_rev (fun x => x != 64) a b 64 (fun x hx => by simp; intro e; exact h (e ▸ hx)) (by decide)
 rw [atV, h1, if_pos rfl, h2.1, h2.2]

theorem deci_gen : ∀ (f n : Nat) (acc : List UInt8), n < 10 ^ f → f ≠ 0 → deciN f n acc = Lib.decDigits n ++ acc
 | 0, n, acc, h, h0 => absurd rfl h0
 | f + 1, n, acc, h, _ => by
  rw [deciN, Lib.decDigits]
  by_cases h1 : n < 10
  ·rw [if_pos h1, dif_pos h1]; rfl
  ·rw [if_neg h1, dif_neg h1]
   have hf : f ≠ 0 := by rintro rfl; simp at h; omega
   rw [deci_gen f (n / 10) _ (by rw [Nat.pow_succ] at h; omega) hf]
   simp

theorem portT_itoa (p : Int) (h0 : 0 ≤ p) (h1 : p ≤ 65535) : Lib.itoa p = portT p := by
 unfold Lib.itoa portT
 rw [if_neg (by omega), deci_gen 6 _ _ (by omega) (by omega), List.append_nil]

end Go.Proofs.YtpopljcmkbchcaaDoor

namespace Go.Proofs.YtpopljcmkbchcaaDoor
open Go.RowKit

theorem ret_ss {a b c d : ByteArray} (h : a = b) (g : c = d) : Ending.returned (.tuple #[.string a, .string c]) = .returned (.tuple #[.string b, .string d]) := by rw [h, g]

theorem ret_str' {a b : ByteArray} (h : a = b) : Ending.returned (.string a) = .returned (.string b) := by rw [h]

theorem slash_len (l : List UInt8) : (slashV l).length = l.length := by
 have := congrArg List.length (ahead_app [63] l)
 rw [List.length_append] at this
 rw [slashV, List.length_append, List.length_map, this]

end Go.Proofs.YtpopljcmkbchcaaDoor

namespace Go.Proofs.YtpopljcmkbchcaaDoor
open Go.RowKit Go.Maps Go.WideMaps

def mConnect : List UInt8 := [99, 111, 110, 110, 101, 99, 116]

def mTrace : List UInt8 := [116, 114, 97, 99, 101]

def mTrack : List UInt8 := [116, 114, 97, 99, 107]

def mDelete : List UInt8 := [100, 101, 108, 101, 116, 101]

def mGet : List UInt8 := [103, 101, 116]

def mHead : List UInt8 := [104, 101, 97, 100]

def mOptions : List UInt8 := [111, 112, 116, 105, 111, 110, 115]

def mPost : List UInt8 := [112, 111, 115, 116]

def mPut : List UInt8 := [112, 117, 116]

def bigM (x : List UInt8) : Bool := x == mDelete || (x == mGet || (x == mHead || (x == mOptions || (x == mPost || x == mPut))))

def noM (x : List UInt8) : Bool := x == mConnect || (x == mTrace || x == mTrack)

def methB (s : List UInt8) : Bool := tokL s && !noM (low s)

def methT (s : List UInt8) : List UInt8 := if methB s then (if bigM (low s) then Lib.toUpperA s else s) else []

theorem up_lowC : ∀ c : UInt8, Lib.upperB (lowC c) = Lib.upperB c := by
 intro c
 have h : ∀ n : Fin 256, Lib.upperB (lowC (UInt8.ofNat n.val)) = Lib.upperB (UInt8.ofNat n.val) := by decide +kernel
 have := h ⟨c.toNat, c.toNat_lt⟩
 simpa using this

theorem asc_lowC : ∀ c : UInt8, (lowC c).toNat < 128 → c.toNat < 128 := by
 intro c
 have h : ∀ n : Fin 256, (lowC (UInt8.ofNat n.val)).toNat < 128 → (UInt8.ofNat n.val).toNat < 128 := by decide +kernel
 have := h ⟨c.toNat, c.toNat_lt⟩
 simpa using this

theorem up_low (s : List UInt8) : Lib.toUpperA (low s) = Lib.toUpperA s := by
 unfold Lib.toUpperA low
 rw [List.map_map]
 exact List.map_congr_left fun c _ => up_lowC c

theorem big_cases {x : List UInt8} (h : bigM x = true) : x = mDelete ∨ x = mGet ∨ x = mHead ∨ x = mOptions ∨ x = mPost ∨ x = mPut := by
 unfold bigM at h
 simpa using h

theorem big_asc {s : List UInt8} (h : bigM (low s) = true) : ∀ c ∈ s, c.toNat < 128 := by
 intro c hc
 refine asc_lowC c ?_
 have hm : lowC c ∈ low s := List.mem_map.2 ⟨c, hc, rfl⟩
 have ha : ∀ x ∈ low s, x.toNat < 128 := by
  rcases big_cases h with e | e | e | e | e | e <;> (rw [e]; decide)
 exact ha _ hm

theorem big_up {s : List UInt8} (h : bigM (low s) = true) : methB (Lib.toUpperA s) = true ∧ methT (Lib.toUpperA s) = Lib.toUpperA s := by
 rw [← up_low s]
 rcases big_cases h with e | e | e | e | e | e <;> (rw [e]; decide +kernel)

theorem meth_again (s : List UInt8) : methB (methT s) = methB s ∧ methT (methT s) = methT s := by
 cases hb : methB s with
 | false =>
  have e : methT s = [] := by unfold methT; rw [hb]; rfl
  rw [e]
  exact ⟨by decide, by decide⟩
 | true =>
  cases hg : bigM (low s) with
  | false =>
   have e : methT s = s := by unfold methT; rw [hb, hg]; rfl
   rw [e, e]
   exact ⟨hb, rfl⟩
  | true =>
   have e : methT s = Lib.toUpperA s := by unfold methT; rw [hb, hg]; rfl
   rw [e]
   exact big_up hg

theorem meth_len (s : List UInt8) : (methT s).length ≤ s.length := by
 unfold methT
 split
 ·split
  ·unfold Lib.toUpperA; simp
  ·exact Nat.le_refl _
 ·simp

def nAO : List UInt8 := [97, 99, 99, 101, 115, 115, 45, 99, 111, 110, 116, 114, 111, 108, 45, 97, 108, 108, 111, 119, 45, 111, 114, 105, 103, 105, 110]

def nAC : List UInt8 := [97, 99, 99, 101, 115, 115, 45, 99, 111, 110, 116, 114, 111, 108, 45, 97, 108, 108, 111, 119, 45, 99, 114, 101, 100, 101, 110, 116, 105, 97, 108, 115]

def tTru : List UInt8 := [116, 114, 117, 101]

def chkC (t : List UInt8) (c : Bool) (L : List Hd) : Bool :=
 if getB L nAO = false then false
 else if getT L nAO = [42] ∧ c = false then true
 else if getT L nAO = t then !c || getT L nAC == tTru
 else false

theorem chk_less (t : List UInt8) (L : List Hd) (h : chkC t true L = true) : chkC t false L = true := by
 unfold chkC at h ⊢
 split at h
 ·cases h
 ·rename_i h1
  rw [if_neg h1]
  by_cases h2 : getT L nAO = [42]
  ·rw [if_pos ⟨h2, rfl⟩]
  ·rw [if_neg (fun e => h2 e.1)]
   rw [if_neg (fun e => h2 e.1)] at h
   split at h
   ·rename_i h3
    rw [if_pos h3]; rfl
   ·cases h

theorem chk_one (t u : List UInt8) (L : List Hd) (h : chkC t true L = true) (h' : chkC u true L = true) : t = u := by
 have key : ∀ t, chkC t true L = true → getT L nAO = t := by
  intro t h
  unfold chkC at h
  split at h
  ·cases h
  ·rw [if_neg (fun e => by cases e.2)] at h
   split at h
   ·assumption
   ·cases h
 rw [← key t h, ← key u h']

end Go.Proofs.YtpopljcmkbchcaaDoor

namespace Go.Proofs.YtpopljcmkbchcaaDoor
open Go.RowKit

def MePost (s : List UInt8) (w : World) (e : Ending) (w' : World) : Prop := e = .returned (.tuple #[.string ⟨(methT s).toArray⟩, .bool (methB s)]) ∧ Below w.heap.size w w'

theorem me_end {s T : List UInt8} {b : Bool} {w w' : World} (h1 : methT s = T) (h2 : methB s = b) (h3 : Below w.heap.size w w') : MePost s w (.returned (.tuple #[.string ⟨T.toArray⟩, .bool b])) w' := by
 subst h1; subst h2; exact ⟨rfl, h3⟩

theorem me_no {s : List UInt8} (h : methB s = false) : methT s = [] := by unfold methT; rw [h]; rfl

theorem noM_no {x : List UInt8} (h : noM x = false) : ¬ x = mConnect ∧ ¬ x = mTrace ∧ ¬ x = mTrack := by unfold noM at h; simpa using h

theorem bigM_no {x : List UInt8} (h : bigM x = false) : ¬ x = mDelete ∧ ¬ x = mGet ∧ ¬ x = mHead ∧ ¬ x = mOptions ∧ ¬ x = mPost ∧ ¬ x = mPut := by unfold bigM at h; simpa using h

theorem no_cases {x : List UInt8} (h : noM x = true) : x = mConnect ∨ x = mTrace ∨ x = mTrack := by unfold noM at h; simpa using h

theorem asc_at {s : ByteArray} (h : ∀ c ∈ s.data.toList, c.toNat < 128) : ∀ (j : Nat) (b : UInt8), s.data.toList[j]? = some b → b.toNat < 128 := fun j b hj => h b (List.mem_of_getElem? hj)

set_option maxHeartbeats 8000000 in
set_option maxRecDepth 100000 in
theorem method18_any (s : ByteArray) (w : World) (hs : s.size ≤ 1000000) :
  Calls Tryd.prog 8 #[.string s] w (MePost s.data.toList w) := by
 cases ht : tokL s.data.toList with
 | false =>
  have hb : methB s.data.toList = false := by unfold methB; rw [ht]; rfl
  have HN := hid hb
  have HT : Hid (∀ w : World, Calls Tryd.prog 17 #[.string s] w fun e w' => e = .returned (.bool false) ∧ w = w') := fun w => by
   have := token_any s w (by omega)
   rw [ht] at this
   exact this
  clear ht hb
  go_enter Tryd.func8, Tryd.ntmps8
  go_wp2_with fail
  refine (HT.out _).mono ?_
  rintro e w1 ⟨rfl, rfl⟩
  go_wp2_with fail
  go_ret2
  exact me_end (me_no HN.out) HN.out (Below.refl _ _)
 | true =>
 have HT : Hid (∀ w : World, Calls Tryd.prog 17 #[.string s] w fun e w' => e = .returned (.bool true) ∧ w = w') := fun w => by
  have := token_any s w (by omega)
  rw [ht] at this
  exact this
 obtain ⟨X, hX⟩ : ∃ X : ByteArray, X = ⟨(low s.data.toList).toArray⟩ := ⟨_, rfl⟩
 have hXl : low s.data.toList = X.data.toList := by rw [hX]
 have HL : Hid (∀ w : World, Calls Tryd.prog 18 #[.string s] w fun e w' => e = .returned (.string X) ∧ Below w.heap.size w w') := fun w => by
  have := lower_any s w (by omega)
  rw [← hX] at this
  exact this
 clear hX
 cases hn : noM X.data.toList with
 | true =>
  have hb : methB s.data.toList = false := by unfold methB; rw [hXl, hn, ht]; rfl
  have HN := hid hb
  clear ht hb hXl
  rcases no_cases hn with e | e | e
  all_goals
   have e1 := lst_yes e
   first | unfold mConnect at e1 | unfold mTrace at e1 | unfold mTrack at e1
   clear e hn
   subst e1
   go_enter Tryd.func8, Tryd.ntmps8
   go_wp2_with fail
   refine (HT.out _).mono ?_
   rintro e w1 ⟨rfl, rfl⟩
   go_wp2_with fail
   refine (HL.out _).mono ?_
   rintro e w1 ⟨rfl, hb1⟩
   have HB := hid hb1
   clear hb1
   go_wp2_with fail
   go_ret2
   exact me_end (me_no HN.out) HN.out HB.out
 | false =>
 have hb : methB s.data.toList = true := by unfold methB; rw [hXl, hn, ht]; rfl
 cases hg : bigM X.data.toList with
 | true =>
  have hm : methT s.data.toList = Lib.toUpperA s.data.toList := by unfold methT; rw [hb, hXl, hg]; rfl
  have HB0 := hid hb
  have HM := hid hm
  have HU := hid (fun w => Tryd.strings_ToUpper_ascii s w (by omega) (asc_at (big_asc (by rw [hXl]; exact hg))))
  clear ht hb hXl hm hn
  rcases big_cases hg with e | e | e | e | e | e
  all_goals
   have e1 := lst_yes e
   first | unfold mDelete at e1 | unfold mGet at e1 | unfold mHead at e1 | unfold mOptions at e1 | unfold mPost at e1 | unfold mPut at e1
   clear e hg
   subst e1
   go_enter Tryd.func8, Tryd.ntmps8
   go_wp2_with fail
   refine (HT.out _).mono ?_
   rintro e w1 ⟨rfl, rfl⟩
   go_wp2_with fail
   refine (HL.out _).mono ?_
   rintro e w1 ⟨rfl, hb1⟩
   have HB := hid hb1
   clear hb1
   go_wp2_with fail
   refine (HU.out _).mono ?_
   rintro e w2 ⟨rfl, hb2⟩
   have HB2 := hid (belowT HB.out hb2)
   clear hb2
   go_wp2_with fail
   go_ret2
   exact me_end HM.out HB0.out HB2.out
 | false =>
  have hm : methT s.data.toList = s.data.toList := by unfold methT; rw [hb, hXl, hg]; rfl
  have HB0 := hid hb
  have HM := hid hm
  clear ht hb hXl hm
  obtain ⟨n1, n2, n3⟩ := noM_no hn
  obtain ⟨n4, n5, n6, n7, n8, n9⟩ := bigM_no hg
  have m1 := lst_ne n1
  have m2 := lst_ne n2
  have m3 := lst_ne n3
  have m4 := lst_ne n4
  have m5 := lst_ne n5
  have m6 := lst_ne n6
  have m7 := lst_ne n7
  have m8 := lst_ne n8
  have m9 := lst_ne n9
  unfold mConnect at m1
  unfold mTrace at m2
  unfold mTrack at m3
  unfold mDelete at m4
  unfold mGet at m5
  unfold mHead at m6
  unfold mOptions at m7
  unfold mPost at m8
  unfold mPut at m9
  clear hn hg n1 n2 n3 n4 n5 n6 n7 n8 n9
  go_enter Tryd.func8, Tryd.ntmps8
  go_wp2_with fail
  refine (HT.out _).mono ?_
  rintro e w1 ⟨rfl, rfl⟩
  go_wp2_with fail
  refine (HL.out _).mono ?_
  rintro e w1 ⟨rfl, hb1⟩
  have HB := hid hb1
  clear hb1
  go_wp2_with fail
  go_ret2
  have := me_end HM.out HB0.out HB.out
  exact this

end Go.Proofs.YtpopljcmkbchcaaDoor

namespace Go.Proofs.YtpopljcmkbchcaaDoor
structure Org where
 scheme : List UInt8
 host : List UInt8
 port : Int
 opq : Bool
deriving DecidableEq

def Org.none : Org := ⟨[], [], 0, true⟩

def sBlob : List UInt8 := [98, 108, 111, 98]

def innV (u : Adr) : Adr := if u.scheme = sBlob ∧ u.opq = true then adrOf (readV u.path.flatten none) else Adr.zero

def webV (s : List UInt8) : Bool := s == sHttp || s == sHttps

def orgA (u : Adr) : Adr := if webV (innV u).scheme then innV u else u

def hasP (u : Adr) : Int := if u.port = -1 then ownV u.scheme else u.port

def orgV (u : Adr) : Org := if specV (orgA u).scheme then ⟨(orgA u).scheme, (orgA u).host, hasP (orgA u), false⟩ else Org.none

end Go.Proofs.YtpopljcmkbchcaaDoor

namespace Go.Proofs.YtpopljcmkbchcaaDoor
open Go.RowKit

theorem intV_range (l : List UInt8) : 0 ≤ intV l ∧ intV l ≤ 9223372036854775807 := by
 unfold intV
 split
 ·rename_i h
  simp only [Bool.and_eq_true] at h
  exact numI_range l h.1
 ·omega

end Go.Proofs.YtpopljcmkbchcaaDoor

namespace Go.Proofs.YtpopljcmkbchcaaDoor
open Go.RowKit

def cutS (l : List UInt8) : List UInt8 × List UInt8 := (schemeV l).getD ([], l)

theorem cutS_none {l : List UInt8} (h : ((part 58 l).2.2 && schOk (part 58 l).1) = false) : cutS l = ([], l) := by rw [cutS, schemeV, h]; rfl

theorem cutS_some {l : List UInt8} (h : ((part 58 l).2.2 && schOk (part 58 l).1) = true) : cutS l = (low (part 58 l).1, (part 58 l).2.1) := by rw [cutS, schemeV, if_pos h]; rfl

end Go.Proofs.YtpopljcmkbchcaaDoor

namespace Go.Proofs.YtpopljcmkbchcaaDoor
open Go.RowKit

theorem ownsRow_same {w w' : World} {B : Nat} {e : TypeId} {size : Nat} {v : Value} {n : Nat} {xs : List Value} (h : w.ownsRow B e size v n xs) (hk : ∀ g, v.ownBlock = some g → w'.heap[g]? = w.heap[g]?) : w'.ownsRow B e size v n xs := by
 refine ⟨h.1, ?_⟩
 rcases h.2 with hn | ⟨g, cap, cur, rfl, hb, hgg, rest⟩
 ·exact .inl hn
 ·exact .inr ⟨g, cap, cur, rfl, hb, (hk g rfl).trans hgg, rest⟩

theorem ownsRow_slice {w : World} {B : Nat} {e : TypeId} {size : Nat} {v : Value} {n : Nat} {xs : List Value} (h : w.ownsRow B e size v n xs) : ∃ a k c, v = .slice a k c := by
 rcases h.2 with ⟨rfl, _⟩ | ⟨g, cap, cur, rfl, _⟩
 ·exact ⟨_, _, _, rfl⟩
 ·exact ⟨_, _, _, rfl⟩

theorem ownsRow_lower {w : World} {B B' : Nat} {e : TypeId} {size : Nat} {v : Value} {n : Nat} {xs : List Value} (h : w.ownsRow B e size v n xs) (hB : B' ≤ B) : w.ownsRow B' e size v n xs := by
 refine ⟨h.1, ?_⟩
 rcases h.2 with hn | ⟨g, cap, cur, rfl, hb, rest⟩
 ·exact .inl hn
 ·exact .inr ⟨g, cap, cur, rfl, Nat.le_trans hB hb, rest⟩

def AppAt (w : World) (v v' : Value) (n : Nat) : Prop := ∃ g cap, v' = .slice (some ⟨g, 0, none⟩) n cap ∧ (v.ownBlock = some g ∨ w.heap.size ≤ g)

theorem run_append_where {P : Program} (w : World) (base : Nat) (t ty e : TypeId) (i : TypeInfo) (z : Value) (size bytes : Nat) (ht : P.underlying t = some (.slice e)) (hi : P.info? e = some i) (hz : i.zero = some z)
  (hsize : i.size = size) (hby : i.bytes = bytes) (hzs : z.cells.size = size) (hsz : 0 < size)
  (v : Value) (n : Nat) (xs : List Value) (hown : w.ownsRow base e size v n xs)
  (a : Addr) (m c : Nat) (news : List Value) (hl : news.length = m * size) (hnews : ∀ j u, news[j]? = some u → w.cell? (a.add j) = some u) (h1 : ∀ u ∈ news, u.oneCell' = true)
  (h63 : n + m ≤ maxLen) (hbytes : (n + m) * bytes ≤ 140737488355328) (hbase : base ≤ w.heap.size) (hm : 0 < m) :
  ∃ v' w', (Builtin.append_ #[t, t] ty #[v, .slice (some a) m c]).run P w = .ok v' w' ∧ w'.ownsRow base e size v' (n + m) (xs ++ news) ∧ w.grownBy w' v.ownBlock ∧
   AppAt w v v' (n + m) := by
 obtain ⟨v', w', hr, ho, hg, _⟩ := run_append_own (P := P) w base t ty e i z size bytes ht hi hz hsize hby hzs hsz v n xs hown a m c news hl hnews h1 h63 hbytes hbase
 refine ⟨v', w', hr, ho, hg, ?_⟩
 subst hsize
 subst hby
 have hML : n + m ≤ 9223372036854775807 := by simp only [maxLen] at h63; omega
 rcases hown.2 with ⟨rfl, rfl⟩ | ⟨g, cap, cur, rfl, hbg, hgg, hnc, hcm, hcs, htake⟩
 ·have hr2 := run_append_nil (P := P) w t ty e i z ht hi hz a m c news hl hnews hm (by omega) (by have hb := hbytes; simp only [Nat.zero_add] at hb; omega)
  rw [hr2] at hr
  injection hr with e1 e2
  exact ⟨w.heap.size, _, by rw [← e1]; simp; rfl, .inr (Nat.le_refl _)⟩
 ·by_cases hroom : n + m ≤ cap
  ·have hfit : n * i.size + news.length ≤ cur.size := by rw [hl, hcs, ← Nat.add_mul]; exact Nat.mul_le_mul_right _ hroom
   have hr2 := run_append_room (P := P) w t ty e i ht hi g n cap cur hgg a m c news hl hnews h1 hroom hfit
   rw [hr2] at hr
   injection hr with e1 e2
   exact ⟨g, cap, e1.symm, .inl rfl⟩
  ·have hr2 := run_append_grow (P := P) w t ty e i z ht hi hz ⟨g, 0, none⟩ n cap xs hown.1 (hown.cells (g := g) rfl) a m c news hl hnews (by omega) (by omega) (growslice_fits (by omega) hbytes)
   rw [hr2] at hr
   injection hr with e1 e2
   exact ⟨w.heap.size, _, e1.symm, .inr (Nat.le_refl _)⟩

theorem wp_append_where {P : Program} (w : World) {o : Oper} {a : Act} {K : Act → World → Prop} {Q : Exit → Act → World → Prop} (s x : Operand) (t : TypeId)
  (ho : o.op = .call { callee := .builtin .append, args := #[s, x], argTypes := #[t, t] })
  (base : Nat) (e : TypeId) (i : TypeInfo) (z : Value) (size bytes : Nat) (ht : P.underlying t = some (.slice e)) (hi : P.info? e = some i) (hz : i.zero = some z)
  (hsize : i.size = size) (hby : i.bytes = bytes) (hzs : z.cells.size = size) (hsz : 0 < size)
  (v : Value) (n : Nat) (xs : List Value) (hs : a.eval s = v) (hown : w.ownsRow base e size v n xs)
  (ad : Addr) (m c : Nat) (news : List Value) (hx : a.eval x = .slice (some ad) m c) (hl : news.length = m * size) (hnews : ∀ j u, news[j]? = some u → w.cell? (ad.add j) = some u) (h1 : ∀ u ∈ news, u.oneCell' = true)
  (h63 : n + m ≤ maxLen) (hbytes : (n + m) * bytes ≤ 140737488355328) (hbase : base ≤ w.heap.size) (hm : 0 < m)
  (h : ∀ v' w', w'.ownsRow base e size v' (n + m) (xs ++ news) → w.grownBy w' v.ownBlock → AppAt w v v' (n + m) → K (a.put o.dst v') w') : o.wp P a w K Q := by
 obtain ⟨v', w', hr, h2, h3, h4⟩ := run_append_where (P := P) w base t o.type e i z size bytes ht hi hz hsize hby hzs hsz v n xs hown ad m c news hl hnews h1 h63 hbytes hbase hm
 unfold Oper.wp
 simp [execOp, ho, resolve, invoke, builtin, hs, hx, hr, Result.andThen]
 exact h v' w' h2 h3 h4

theorem wpList_append_where {P : Program} (w : World) {ops : Array Oper} {rest : List Oper} {o : Oper} {a : Act} {Q : Exit → Act → World → Prop} (hgd : o.guard = none) (s x : Operand) (t : TypeId)
  (ho : o.op = .call { callee := .builtin .append, args := #[s, x], argTypes := #[t, t] })
  (base : Nat) (e : TypeId) (i : TypeInfo) (z : Value) (size bytes : Nat) (ht : P.underlying t = some (.slice e)) (hi : P.info? e = some i) (hz : i.zero = some z)
  (hsize : i.size = size) (hby : i.bytes = bytes) (hzs : z.cells.size = size) (hsz : 0 < size)
  (v : Value) (n : Nat) (xs : List Value) (hs : a.eval s = v) (hown : w.ownsRow base e size v n xs)
  (ad : Addr) (m c : Nat) (news : List Value) (hx : a.eval x = .slice (some ad) m c) (hl : news.length = m * size) (hnews : ∀ j u, news[j]? = some u → w.cell? (ad.add j) = some u) (h1 : ∀ u ∈ news, u.oneCell' = true)
  (h63 : n + m ≤ maxLen) (hbytes : (n + m) * bytes ≤ 140737488355328) (hbase : base ≤ w.heap.size) (hm : 0 < m)
  (h : ∀ v' w', w'.ownsRow base e size v' (n + m) (xs ++ news) → w.grownBy w' v.ownBlock → AppAt w v v' (n + m) → wpList P ops Q rest (a.put o.dst v') w') : wpList P ops Q (o :: rest) a w :=
 wpList_plain hgd fun _ hK => wp_append_where w s x t ho base e i z size bytes ht hi hz hsize hby hzs hsz v n xs hs hown ad m c news hx hl hnews h1 h63 hbytes hbase hm fun v' w' h2 h3 h4 => hK _ _ (h v' w' h2 h3 h4)

end Go.Proofs.YtpopljcmkbchcaaDoor

namespace Go.Proofs.YtpopljcmkbchcaaDoor
open Go.RowKit

theorem dropWhile_all (p : UInt8 → Bool) (A M : List UInt8) (hA : A.all p = true) : (A ++ M).dropWhile p = M.dropWhile p := by
 rw [List.dropWhile_append_of_pos]
 intro x hx
 exact List.all_eq_true.1 hA x hx

theorem trim_parts (A M B : List UInt8) (hA : A.all wsC = true) (hB : B.all wsC = true) (hM : M = [] ∨ ((∃ c r, M = c :: r ∧ wsC c = false) ∧ (∃ c r, M = r ++ [c] ∧ wsC c = false))) : trimV (A ++ M ++ B) = M := by
 unfold trimV
 rcases hM with rfl | ⟨⟨c, r, h1, h2⟩, ⟨d, q, h3, h4⟩⟩
 ·rw [List.append_nil, dropWhile_all wsC A B hA]
  have : B.dropWhile wsC = [] := by
   have := dropWhile_all wsC B [] hB
   rw [List.append_nil] at this
   exact this
  rw [this]; rfl
 ·rw [List.append_assoc, dropWhile_all wsC A _ hA]
  have e1 : (M ++ B).dropWhile wsC = M ++ B := by rw [h1, List.cons_append, List.dropWhile_cons, h2]; rfl
  have hB' : B.reverse.all wsC = true := by rw [List.all_reverse]; exact hB
  have e2 : M.reverse.dropWhile wsC = M.reverse := by rw [h3, List.reverse_append, List.reverse_singleton, List.singleton_append, List.dropWhile_cons, h4]; rfl
  rw [e1, List.reverse_append, dropWhile_all wsC _ _ hB', e2, List.reverse_reverse]

def keepC (l : List UInt8) : List UInt8 := l.filter (fun c => !eyeC c)

theorem keepC_le (l : List UInt8) : (keepC l).length ≤ l.length := List.length_filter_le _ _

theorem keepC_yes (l : List UInt8) (c : UInt8) (h : eyeC c = true) : keepC (l ++ [c]) = keepC l := by simp [keepC, h]

theorem keepC_no (l : List UInt8) (c : UInt8) (h : eyeC c = false) : keepC (l ++ [c]) = keepC l ++ [c] := by simp [keepC, h]

theorem clean_keep (l : List UInt8) : cleanV l = keepC (trimV l) := rfl

theorem clean_le (l : List UInt8) : (cleanV l).length ≤ l.length := by
 rw [clean_keep]
 refine Nat.le_trans (keepC_le _) ?_
 unfold trimV
 rw [List.length_reverse]
 refine Nat.le_trans (List.dropWhile_suffix wsC).length_le ?_
 rw [List.length_reverse]
 exact (List.dropWhile_suffix wsC).length_le

theorem ws_yes {c : UInt8} (h : wsC c = true) : (c.toNat : Int) ≤ 32 := by
 have := of_decide_eq_true h; omega

theorem ws_no {c : UInt8} (h : wsC c = false) : 32 < (c.toNat : Int) := by
 have := of_decide_eq_false h; omega

theorem eye_no {c : UInt8} (h : eyeC c = false) : ((c.toNat : Int) != 9) = true ∧ ((c.toNat : Int) != 10) = true ∧ ((c.toNat : Int) != 13) = true := by
 have key : ∀ n < 256, eyeC (UInt8.ofNat n) = false → (((UInt8.ofNat n).toNat : Int) != 9) = true ∧ (((UInt8.ofNat n).toNat : Int) != 10) = true ∧ (((UInt8.ofNat n).toNat : Int) != 13) = true := by decide +kernel
 have := key c.toNat c.toNat_lt
 have e : UInt8.ofNat c.toNat = c := by simp
 rw [e] at this
 exact this h

theorem eye_yes {c : UInt8} (h : eyeC c = true) : ((c.toNat : Int) != 9) = false ∨ (((c.toNat : Int) != 9) = true ∧ ((c.toNat : Int) != 10) = false) ∨ (((c.toNat : Int) != 9) = true ∧ ((c.toNat : Int) != 10) = true ∧ ((c.toNat : Int) != 13) = false) := by
 have key : ∀ n < 256, eyeC (UInt8.ofNat n) = true → (((UInt8.ofNat n).toNat : Int) != 9) = false ∨ ((((UInt8.ofNat n).toNat : Int) != 9) = true ∧ (((UInt8.ofNat n).toNat : Int) != 10) = false) ∨ ((((UInt8.ofNat n).toNat : Int) != 9) = true ∧ (((UInt8.ofNat n).toNat : Int) != 10) = true ∧ (((UInt8.ofNat n).toNat : Int) != 13) = false) := by decide +kernel
 have := key c.toNat c.toNat_lt
 have e : UInt8.ofNat c.toNat = c := by simp
 rw [e] at this
 exact this h

end Go.Proofs.YtpopljcmkbchcaaDoor

namespace Go.Proofs.YtpopljcmkbchcaaDoor
open Go.RowKit

theorem all_snoc {p : UInt8 → Bool} (s : ByteArray) (k : Nat) (h : k < s.size) (ha : (s.data.toList.take k).all p = true) (hb : p s[k] = true) : (s.data.toList.take (k + 1)).all p = true := by
 rw [take_snoc s k h, List.all_append, ha]; simp [hb]

theorem all_cons {p : UInt8 → Bool} (s : ByteArray) (k : Nat) (h : k < s.size) (ha : (s.data.toList.drop (k + 1)).all p = true) (hb : p s[k] = true) : (s.data.toList.drop k).all p = true := by
 rw [drop_cons s k h, List.all_cons, ha, hb]; rfl

end Go.Proofs.YtpopljcmkbchcaaDoor

namespace Go.Proofs.YtpopljcmkbchcaaDoor
open Go.RowKit

theorem byte_is {s : ByteArray} {n : Nat} {h : n < s.size} {c : UInt8} (e : s[n] = c) : ((s[n].toNat : Int) == (c.toNat : Int)) = true := by rw [e]; exact beq_self_eq_true _

theorem byte_not {s : ByteArray} {n : Nat} {h : n < s.size} {c : UInt8} (e : ¬ s[n] = c) : ((s[n].toNat : Int) == (c.toNat : Int)) = false := by
 rw [beq_eq_false_iff_ne]
 intro h2
 exact e (UInt8.toNat_inj.1 (by omega))

end Go.Proofs.YtpopljcmkbchcaaDoor
