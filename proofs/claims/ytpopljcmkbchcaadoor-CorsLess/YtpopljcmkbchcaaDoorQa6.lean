/-
  Walks and plain facts that this claim leans on, put together out of 5 texts: Hl, Sa, Sd, Uk, Ul.
-/
import Derived.Test.YtpopljcmkbchcaaDoorProg
import Derived.Test.YtpopljcmkbchcaaDoorQa1
import Derived.Test.YtpopljcmkbchcaaDoorQa3
import Derived.Test.YtpopljcmkbchcaaDoorQa4
import Derived.Test.YtpopljcmkbchcaaDoorQa5
import Derived.Lib.IndexMore
import Derived.Lib.Join
import Derived.Lib.LastIndexByte
import Derived.WalkKit
import Derived.Lib.Strings
import Derived.Lib.UnsafeStr
import Derived.Laws.IdiomStrings
import Derived.Laws.AppendOwn
import Derived.Laws.BitsAllLaws
import Derived.Lib.Bytealg
import Derived.Lib.BufferMore
import Derived.Shelf.Strings.Builder1
import Derived.Shelf.Strings.Builder2
import Derived.Shelf.Strings.OnBuilder
import Derived.Shelf.Small.Utf8
import Derived.Shelf.Strings.BuilderF
import Derived.Shelf.Strings.BuilderK
import Derived.Shelf.Strings.BuilderRune
import Derived.Shelf.Utf8.AppendRune
import Derived.Shelf.Utf8.AppendRunePlain
import Derived.Shelf.Strings.Builder2Cap
import Derived.Shelf.Strconv.Itoa0
import Derived.Shelf.Strconv.Itoa1
import Derived.Shelf.LaysM
import Derived.Shelf.Strconv.Itoa2
import Derived.Shelf.Strconv.Itoa3
import Derived.Shelf.Unicode.Latin
import Derived.Shelf.Unicode.Decode
import Derived.Shelf.Unicode.DecodeSlow
import Derived.Shelf.Unicode.DecodeAny
import Derived.Shelf.Unicode.CaseLookup
import Derived.Shelf.Unicode.CaseConvert
import Derived.Shelf.Unicode.CaseTo
import Derived.Shelf.Unicode.CaseLaid
import Derived.WalkSpells
import Derived.WalkLawsBesides
import Derived.Lib.AppendIntMem
import Derived.Lib.SmallJoins
import Derived.WalkSmall
import Derived.WalkMore
import Derived.Deep.LoopGhost
import Derived.OwnWalk
import Derived.Laws.CopyOwn
import Derived.Laws.ResultCell
import Derived.Deep.MidRow
import Derived.Deep.RegionWith
import Derived.Lib.FrozenHead2
import Derived.Lib.OthersKept
import Derived.Lib.Builder
import Derived.LoopN
import Derived.RegionTactic
import Derived.Deep.QuietTactic
import Derived.BigQuiet
import Derived.Laws.OwnMore
import Derived.Scope
import Derived.ScopeJumps
import Derived.Lib.IndexAny
import Derived.Lib.Replace
import Derived.Lib.TrimByte
import Derived.Lib.ItoaNum
import Derived.Laws.RangeAny
import Derived.Lib.DecodeN
import Derived.Laws.BytesString
import Derived.Deep.RegionLaw
import Derived.Deep.WholeRow
set_option linter.unusedSimpArgs false
set_option linter.unusedVariables false

namespace Go.Proofs.YtpopljcmkbchcaaDoor
def hx (c : UInt8) : Bool := decide (dig16 c < 16)

def halves (m : Nat) : List Nat := [m / 65536, m % 65536]

def hexP (p : List UInt8) : Option (List Nat) := if p ≠ [] ∧ p.length ≤ 4 ∧ p.all hx = true then some [fold16 0 p] else none

theorem scan_all (whole : Option Nat) (last : Bool) : ∀ (l : List UInt8) (i n : Nat), i ≤ 4 → (last = true → 46 ∉ l) → scanP whole last i n l = if (i ≠ 0 ∨ l ≠ []) ∧ i + l.length ≤ 4 ∧ l.all hx = true then some [fold16 n l] else none
 | [], i, n, hi, _ => by
  rw [scanP]
  by_cases h : i = 0
  ·rw [if_pos h, if_neg (by simp [h])]
  ·rw [if_neg h, if_pos ⟨.inl h, by simpa using hi, rfl⟩]; rfl
 | c :: l, i, n, hi, hl => by
  rw [scanP, if_neg (by rintro ⟨rfl, h⟩; exact hl h (by simp))]
  by_cases hd : dig16 c < 16 ∧ i ≠ 4
  ·rw [if_pos hd, scan_all whole last l (i + 1) _ (by omega) (fun h e => hl h (by simp [e]))]
   have e : (fold16 (n * 16 + dig16 c) l) = fold16 n (c :: l) := rfl
   rw [e]
   by_cases h : i + (c :: l).length ≤ 4 ∧ (c :: l).all hx = true
   ·have h1 : i + 1 + l.length ≤ 4 := by have := h.1; simp at this; omega
    have h2 : l.all hx = true := by have := h.2; simp only [List.all_cons, Bool.and_eq_true] at this; exact this.2
    rw [if_pos ⟨.inl (by omega), h1, h2⟩, if_pos ⟨.inr (by simp), h⟩]
   ·have h' : ¬ ((i + 1 ≠ 0 ∨ l ≠ []) ∧ i + 1 + l.length ≤ 4 ∧ l.all hx = true) := by
     rintro ⟨_, h1, h2⟩
     exact h ⟨by simp; omega, by simp only [List.all_cons, h2, Bool.and_true, hx, decide_eq_true_eq]; exact hd.1⟩
    rw [if_neg h', if_neg (fun g => h g.2)]
  ·rw [if_neg hd, if_neg]
   rintro ⟨_, h1, h2⟩
   simp only [List.all_cons, Bool.and_eq_true, hx, decide_eq_true_eq] at h2
   simp at h1
   exact hd ⟨h2.1, by omega⟩

theorem pieceV_hex (last : Bool) (p : List UInt8) (h : last = true → 46 ∉ p) : pieceV last p = hexP p := by
 unfold pieceV hexP
 rw [scan_all _ _ _ _ _ (by omega) h]
 congr 1
 simp

theorem scan_dotted (whole : Option Nat) : ∀ (a r : List UInt8) (i n : Nat), i ≤ 4 → 46 ∉ a → scanP whole true i n (a ++ 46 :: r) = if i + a.length ≤ 4 ∧ a.all hx = true then whole.map halves else none
 | [], r, i, n, hi, _ => by
  rw [List.nil_append, scanP, if_pos ⟨rfl, rfl⟩, if_pos ⟨by simpa using hi, rfl⟩]; rfl
 | c :: a, r, i, n, hi, ha => by
  rw [List.cons_append, scanP, if_neg (by rintro ⟨rfl, h⟩; exact ha (by simp))]
  by_cases hd : dig16 c < 16 ∧ i ≠ 4
  ·rw [if_pos hd, scan_dotted whole a r (i + 1) _ (by omega) (fun e => ha (by simp [e]))]
   have hc : hx c = true := by simp [hx, hd.1]
   simp only [List.length_cons, List.all_cons, hc, Bool.true_and]
   rw [show i + 1 + a.length = i + (a.length + 1) by omega]
  ·rw [if_neg hd, if_neg]
   rintro ⟨h1, h2⟩
   simp only [List.all_cons, Bool.and_eq_true, hx, decide_eq_true_eq] at h2
   simp at h1
   exact hd ⟨h2.1, by omega⟩



def dotL : Nat → List (List UInt8) → Option Nat
 | n, [] => some n
 | n, x :: L => match plainB x with
  | none => none
  | some b => dotL (n * 256 + b) L

theorem dotN_L : ∀ (r n : Nat) (l : List UInt8), dotN (r + 1) n l = if (cutL 46 l).length = r + 1 then dotL n (cutL 46 l) else none
 | r, n, l => by
  rcases first_split 46 l with h | ⟨a, t, ha, rfl⟩
  ·rw [dotN, cut_none l 46 h, cutL_none 46 l h]
   simp only [List.length_singleton, dotL]
   cases plainB l with
   | none => simp
   | some b =>
    cases r with
    | zero => rfl
    | succ r => simp
  ·rw [dotN, cut_some a t 46 ha, cutL_some 46 a t ha]
   simp only [List.length_cons, dotL]
   have hne := List.length_pos_iff.2 (cutL_ne 46 t)
   cases plainB a with
   | none => simp
   | some b =>
    cases r with
    | zero =>
     rw [if_neg (by omega)]
     rfl
    | succ r =>
     simp only [ne_eq, Nat.add_one_ne_zero, not_false_eq_true, decide_true, if_true]
     rw [dotN_L r _ t]
     congr 1
     simp

theorem dottedV_L (p : List UInt8) : dottedV p = if (cutL 46 p).length = 4 then dotL 0 (cutL 46 p) else none := dotN_L 3 0 p

theorem valN_up : ∀ (l : List UInt8) (n m : Nat), n ≤ 4294967296 → valN 10 n l = some m → n ≤ m
 | [], n, m, _, h => by rw [valN] at h; injection h with h; omega
 | c :: l, n, m, hn, h => by
  rw [valN] at h
  split at h
  ·have := valN_up l _ m (by omega) h
   omega
  ·cases h

theorem valN_cons {n m : Nat} {c : UInt8} {l : List UInt8} (h : valN 10 n (c :: l) = some m) : dig16 c < 10 ∧ valN 10 (min (n * 10 + dig16 c) 4294967296) l = some m := by
 rw [valN] at h
 split at h
 ·exact ⟨by assumption, h⟩
 ·cases h

theorem valN_hx (base : Nat) (hb : base ≤ 16) (l : List UInt8) (n m : Nat) (h : valN base n l = some m) : l.all hx = true := by
 have := valN_isSome base l n
 rw [h] at this
 have h2 := List.all_eq_true.1 this.symm
 rw [List.all_eq_true]
 intro c hc
 have := h2 c hc
 simp only [decide_eq_true_eq] at this
 simp only [hx, decide_eq_true_eq]
 omega

theorem dig16_zero (c : UInt8) (h : dig16 c = 0) : c = 48 := by
 have key : ∀ n < 256, dig16 (UInt8.ofNat n) = 0 → UInt8.ofNat n = 48 := by decide +kernel
 have := key c.toNat c.toNat_lt
 simp at this
 exact this h

theorem plainB_ok (a : List UInt8) (b : Nat) (h : plainB a = some b) : a.length ≤ 4 ∧ a.all hx = true := by
 unfold plainB at h
 cases hv : valV 10 a with
 | none => rw [hv] at h; cases h
 | some n =>
  rw [hv] at h
  simp only at h
  split at h
  ·cases h
  ·rename_i hn
   refine ⟨?_, valN_hx 10 (by omega) a 0 n hv⟩
   rcases Nat.lt_or_ge 4 a.length with h4 | h4
   ·exfalso
    match a, h4 with
    | c :: d :: e :: f :: r, _ =>
     unfold valV at hv
     obtain ⟨h1, hv⟩ := valN_cons hv
     obtain ⟨h2, hv⟩ := valN_cons hv
     obtain ⟨h3, hv⟩ := valN_cons hv
     obtain ⟨h4, hv⟩ := valN_cons hv
     have := valN_up _ _ _ (by omega) hv
     have hc : dig16 c ≠ 0 := fun e => hn (.inr (.inr ⟨by rw [dig16_zero c e]; rfl, by simp⟩))
     have hn1 : ¬ 255 < n := fun e => hn (.inl e)
     omega
   ·exact h4

theorem pieceV_last (p : List UInt8) : pieceV true p = if (cutL 46 p).length = 4 then (dotL 0 (cutL 46 p)).map halves else hexP p := by
 rcases first_split 46 p with h | ⟨a, r, ha, rfl⟩
 ·rw [pieceV_hex true p (fun _ => h), cutL_none 46 p h, if_neg (by simp)]
 ·have e : pieceV true (a ++ 46 :: r) = if 0 + a.length ≤ 4 ∧ a.all hx = true then (dottedV (a ++ 46 :: r)).map halves else none := scan_dotted _ a r 0 0 (by omega) ha
  rw [e, dottedV_L]
  by_cases h4 : (cutL 46 (a ++ 46 :: r)).length = 4
  ·rw [if_pos h4, if_pos h4]
   rw [cutL_some 46 a r ha, dotL]
   cases hp : plainB a with
   | none => simp
   | some b =>
    have := plainB_ok a b hp
    rw [if_pos ⟨by omega, this.2⟩]
  ·rw [if_neg h4, if_neg h4]
   have : hexP (a ++ 46 :: r) = none := by
    unfold hexP
    rw [if_neg]
    rintro ⟨_, _, h⟩
    have := List.all_eq_true.1 h 46 (by simp)
    revert this; decide
   rw [this]
   simp

def big : Nat := 9223372036854775807

def plainR (l : List UInt8) : Option Nat :=
 match valC big 10 0 l with
 | none => none
 | some m => if l = [] ∨ 255 < m ∨ (1 < l.length ∧ l.head? = some 48) then none else some m

theorem plainR_eq (l : List UInt8) : plainR l = plainB l := by
 unfold plainR plainB valV
 rw [valC_N big 10 (by omega) (by decide) l 0 0 rfl]
 cases valC big 10 0 l with
 | none => rfl
 | some m =>
  simp only [Option.map_some]
  by_cases h : l = [] ∨ 255 < m ∨ (1 < l.length ∧ l.head? = some 48)
  ·rw [if_pos h, if_pos]
   rcases h with h | h | ⟨h1, h2⟩
   ·exact .inr (.inl h)
   ·exact .inl (by omega)
   ·refine .inr (.inr ⟨h2, ?_⟩)
    rintro rfl
    simp at h1
  ·rw [if_neg h, if_neg]
   ·have : ¬ 255 < m := fun e => h (.inr (.inl e))
    rw [Nat.min_eq_left (by omega)]
   ·rintro (g | g | ⟨g1, g2⟩)
    ·exact h (.inr (.inl (by omega)))
    ·exact h (.inl g)
    ·refine h (.inr (.inr ⟨?_, g1⟩))
     match l, g1, g2 with
     | [c], g1, g2 => simp at g1; subst g1; exact absurd rfl g2
     | c :: d :: r, _, _ => simp



def rpL (e : Bool) : List (List UInt8) → Option (List Nat)
 | [] => some []
 | [p] => pieceV e p
 | p :: q :: L => match hexP p with
  | none => none
  | some ns => (rpL e (q :: L)).map fun x => ns ++ x

theorem piecesN_L (e : Bool) : ∀ (f : Nat) (out : List Nat) (l : List UInt8), piecesN e f out l true = if (cutL 58 l).length ≤ f then (rpL e (cutL 58 l)).map fun x => out ++ x else none
 | 0, out, l => by
  have := List.length_pos_iff.2 (cutL_ne 58 l)
  rw [if_neg (by omega)]; rfl
 | f + 1, out, l => by
  rcases first_split 58 l with h | ⟨a, t, ha, rfl⟩
  ·rw [piecesN, cut_none l 58 h, cutL_none 58 l h, if_pos (by simp), rpL]
   simp only [Bool.not_false, Bool.and_true]
   cases pieceV e l with
   | none => rfl
   | some ns => simp only [Option.map_some]; exact piecesN_done
  ·rw [piecesN, cut_some a t 58 ha, cutL_some 58 a t ha]
   simp only [Bool.not_true, Bool.and_false]
   obtain ⟨y, L, hy⟩ : ∃ y L, cutL 58 t = y :: L := by
    cases e : cutL 58 t with
    | nil => exact absurd e (cutL_ne 58 t)
    | cons y L => exact ⟨y, L, rfl⟩
   rw [pieceV_hex false a (by simp), hy, rpL]
   cases hexP a with
   | none => simp
   | some ns =>
    simp only
    rw [piecesN_L e f (out ++ ns) t, hy]
    simp only [List.length_cons, Nat.add_le_add_iff_right]
    congr 1
    cases rpL e (y :: L) <;> simp

def rpV (s : List UInt8) (e : Bool) : Option (List Nat) := if s = [] then some [] else rpL e (cutL 58 s)

theorem piecesV_rp (s : List UInt8) (e : Bool) : piecesV s e = if s = [] ∨ (cutL 58 s).length ≤ 8 then rpV s e else none := by
 unfold piecesV rpV
 by_cases h : s = []
 ·subst h; rfl
 ·rw [decide_eq_true h, piecesN_L]
  simp only [h, false_or, if_false, List.nil_append, Option.map_id']

theorem hexP_len (p : List UInt8) (ns : List Nat) (h : hexP p = some ns) : ns.length = 1 := by
 unfold hexP at h
 split at h
 ·injection h with h; rw [← h]; rfl
 ·cases h

theorem pieceV_len (e : Bool) (p : List UInt8) (ns : List Nat) (h : pieceV e p = some ns) : 1 ≤ ns.length := by
 cases e with
 | false => rw [pieceV_hex false p (by simp)] at h; rw [hexP_len p ns h]; exact Nat.le_refl _
 | true =>
  rw [pieceV_last] at h
  split at h
  ·cases hd : dotL 0 (cutL 46 p) with
   | none => rw [hd] at h; cases h
   | some m => rw [hd] at h; simp at h; rw [← h]; simp [halves]
  ·rw [hexP_len p ns h]; exact Nat.le_refl _

theorem rpL_len (e : Bool) : ∀ (L : List (List UInt8)) (x : List Nat), rpL e L = some x → L.length ≤ x.length
 | [], x, _ => by simp
 | [p], x, h => pieceV_len e p x h
 | p :: q :: L, x, h => by
  rw [rpL] at h
  cases hp : hexP p with
  | none => rw [hp] at h; cases h
  | some ns =>
   rw [hp] at h
   simp only at h
   cases hr : rpL e (q :: L) with
   | none => rw [hr] at h; cases h
   | some y =>
    rw [hr] at h
    simp only [Option.map_some, Option.some.injEq] at h
    have := rpL_len e (q :: L) y hr
    have := hexP_len p ns hp
    rw [← h]
    simp at *
    omega

theorem pieces_some (s : List UInt8) (e : Bool) (x : List Nat) (h : rpV s e = some x) (hx : x.length ≤ 8) : piecesV s e = some x := by
 rw [piecesV_rp, if_pos, h]
 by_cases h0 : s = []
 ·exact .inl h0
 ·right
  unfold rpV at h
  rw [if_neg h0] at h
  have := rpL_len e _ x h
  omega

theorem pieces_back (s : List UInt8) (e : Bool) (x : List Nat) (h : piecesV s e = some x) : rpV s e = some x := by
 rw [piecesV_rp] at h
 split at h
 ·exact h
 ·cases h



def rsixV (l : List UInt8) : Option (List Nat) :=
 if (Lib.cut l [58, 58]).2.2 then
  match rpV (Lib.cut l [58, 58]).1 false, rpV (Lib.cut l [58, 58]).2.1 true with
  | some a, some b => if a.length + b.length ≤ 7 then some (a ++ List.replicate (8 - a.length - b.length) 0 ++ b) else none
  | _, _ => none
 else match rpV l true with
  | some a => if a.length = 8 then some a else none
  | none => none

theorem cut_not (l : List UInt8) (h : (Lib.cut l [58, 58]).2.2 = false) : Lib.cut l [58, 58] = (l, [], false) := by
 unfold Lib.cut at h ⊢
 split
 ·rename_i h1; rw [if_pos h1] at h; cases h
 ·rfl

theorem rsixV_eq (l : List UInt8) : sixV l = rsixV l := by
 unfold rsixV
 cases hg : (Lib.cut l [58, 58]).2.2 with
 | false =>
  have hc := cut_not l hg
  simp only [Bool.false_eq_true, if_false]
  unfold sixV
  rw [hc]
  have hn : piecesV [] true = some [] := rfl
  simp only [Bool.not_false, hn]
  cases hr : rpV l true with
  | none =>
   cases hp : piecesV l true with
   | none => rfl
   | some x => rw [pieces_back l true x hp] at hr; cases hr
  | some a =>
   simp only
   by_cases h8 : a.length = 8
   ·rw [pieces_some l true a hr (by omega), if_pos h8]
    simp [h8]
   ·rw [if_neg h8]
    cases hp : piecesV l true with
    | none => rfl
    | some x =>
     have := pieces_back l true x hp
     rw [hr] at this
     injection this with this
     subst this
     simp only [List.length_nil, Nat.add_zero, Bool.false_eq_true, false_iff]
     rw [if_neg (by omega)]
 | true =>
  simp only [if_true]
  unfold sixV
  rw [hg]
  simp only [Bool.not_true, true_iff]
  cases hr : rpV (Lib.cut l [58, 58]).1 false with
  | none =>
   cases hp : piecesV (Lib.cut l [58, 58]).1 false with
   | none => rfl
   | some x => rw [pieces_back _ _ x hp] at hr; cases hr
  | some a =>
   cases hr2 : rpV (Lib.cut l [58, 58]).2.1 true with
   | none =>
    cases hp : piecesV (Lib.cut l [58, 58]).2.1 true with
    | none => cases piecesV (Lib.cut l [58, 58]).1 false <;> rfl
    | some x => rw [pieces_back _ _ x hp] at hr2; cases hr2
   | some b =>
    simp only
    by_cases h7 : a.length + b.length ≤ 7
    ·rw [pieces_some _ _ a hr (by omega), pieces_some _ _ b hr2 (by omega), if_pos h7]
     simp only
     rw [if_pos ⟨by omega, by omega⟩]
    ·rw [if_neg h7]
     cases hp : piecesV (Lib.cut l [58, 58]).1 false with
     | none => rfl
     | some x =>
      have e1 := pieces_back _ _ x hp
      rw [hr] at e1
      injection e1 with e1
      subst e1
      cases hp2 : piecesV (Lib.cut l [58, 58]).2.1 true with
      | none => rfl
      | some y =>
       have e2 := pieces_back _ _ y hp2
       rw [hr2] at e2
       injection e2 with e2
       subst e2
       simp only
       rw [if_neg (by omega)]



def xn : List UInt8 := [120, 110, 45, 45]

theorem contains_cons (x : UInt8) (l sub : List UInt8) (h : sub ≠ []) : Lib.contains (x :: l) sub = (sub.isPrefixOf (x :: l) || Lib.contains l sub) := by
 unfold Lib.contains
 rw [Lib.index]
 cases sub.isPrefixOf (x :: l) with
 | true => simp
 | false =>
  simp only [Bool.false_eq_true, if_false, Bool.false_or]
  by_cases h1 : Lib.index l sub = -1
  ·simp [h1]
  ·have h2 : (Lib.index l sub == -1) = false := by rw [beq_eq_false_iff_ne]; exact h1
   have h3 : 0 ≤ Lib.index l sub := by
    have := Lib.index_ge l sub
    omega
   simp [h2, h1]
   omega

theorem xn_app : ∀ (a r : List UInt8), 46 ∉ a → Lib.hasPrefix (a ++ 46 :: r) xn = Lib.hasPrefix a xn := by
 intro a r h
 unfold Lib.hasPrefix xn
 match a with
 | [] => rfl
 | [b] => simp [List.isPrefixOf]
 | [b, c] => simp [List.isPrefixOf]
 | [b, c, d] => simp [List.isPrefixOf]
 | b :: c :: d :: e :: t => simp [List.isPrefixOf]

theorem con_skip (r : List UInt8) : ∀ a : List UInt8, 46 ∉ a → Lib.contains (a ++ r) (46 :: xn) = Lib.contains r (46 :: xn)
 | [], _ => rfl
 | x :: a, h => by
  have hx : x ≠ 46 := fun e => h (by simp [e])
  rw [List.cons_append, contains_cons _ _ _ (by simp), con_skip r a (fun e => h (by simp [e]))]
  have : (46 :: xn).isPrefixOf (x :: (a ++ r)) = false := by
   simp [List.isPrefixOf]
   intro e; exact absurd e.symm hx
  rw [this]; rfl

theorem coded_eq : ∀ l : List UInt8, coded l = (cutL 46 l).any fun p => Lib.hasPrefix p xn := by
 refine cutL_ind 46 (fun l h => ?_) (fun a r h ih => ?_)
 ·rw [cutL_none 46 l h]
  have := con_skip [] l h
  rw [List.append_nil] at this
  unfold coded
  rw [show ([46, 120, 110, 45, 45] : List UInt8) = 46 :: xn from rfl, this, show Lib.contains [] (46 :: xn) = false from by decide]
  simp [xn]
 ·rw [cutL_some 46 a r h, List.any_cons, ← ih]
  unfold coded
  rw [show ([46, 120, 110, 45, 45] : List UInt8) = 46 :: xn from rfl, show ([120, 110, 45, 45] : List UInt8) = xn from rfl, xn_app a r h, con_skip _ a h, contains_cons _ _ _ (by simp)]
  congr 2

end Go.Proofs.YtpopljcmkbchcaaDoor

namespace Go.Proofs.YtpopljcmkbchcaaDoor
open Go.RowKit

theorem ret_str {l : List UInt8} {t : ByteArray} (h : t.data.toList = l) : Ending.returned (.string t) = .returned (.string ⟨l.toArray⟩) := by
 rw [← h, Lib.mk_data]

set_option maxHeartbeats 400000 in
theorem rdigit_any (c : Int) (w : World) :
  Calls Tryd.prog 52 #[.int .u8 c] w fun e w' => e = .returned (.bool (digitI c)) ∧ w = w' := by
 go_enter Tryd.func52, Tryd.ntmps52
 go_wp2
 all_goals
  go_ret
  exact ⟨ret_bool (by rw [Bool.eq_iff_iff]; simp [digitI]; omega), rfl⟩

set_option maxHeartbeats 1000000 in
theorem rlower_any (s : ByteArray) (w : World) (hs : s.size ≤ 140737488351232) :
  Calls Tryd.prog 50 #[.string s] w fun e w' => e = .returned (.string ⟨(low s.data.toList).toArray⟩) ∧ Below w.heap.size w w' := by
 have hcv := run_bytes_of_string (P := Tryd.prog) w 9 54 5 s Tryd.underlying9 Tryd.underlying54 Tryd.underlying5
 have hcap := grownCap_ge w s.size 0 5
 have hr0 := rowIs_bytes w 5 s (grownCap w s.size 0 5) hcap
 have hb0 : Below w.heap.size w (w.drew.alloc (.cells (bytesRow s (grownCap w s.size 0 5)) 5 ((bytesRow s (grownCap w s.size 0 5)).size, (bytesRow s (grownCap w s.size 0 5)).size + 1))) := (Below.refl _ w).drew.alloc (Nat.le_refl _) _
 generalize (w.drew.alloc (.cells (bytesRow s (grownCap w s.size 0 5)) 5 ((bytesRow s (grownCap w s.size 0 5)).size, (bytesRow s (grownCap w s.size 0 5)).size + 1))) = w0 at hcv hr0 hb0
 generalize grownCap w s.size 0 5 = cap at hcv hcap
 go_enter Tryd.func50, Tryd.ntmps50
 go_wp2
 clear hcv
 go_loopw [4] (fun i wr => ∃ k : Nat, k ≤ s.size ∧ i = .int .i64 k ∧ rowIs wr w.heap.size 5 (lowTo s.data.toList k) ∧ Below w.heap.size w wr)
  (fun i _ => s.size - (intOf i).toNat)
 case atStart => exact ⟨0, Nat.zero_le _, rfl, by rw [lowTo_zero]; exact hr0, hb0⟩
 case round =>
  obtain ⟨k, hk, rfl, hr, hbw⟩ := hrel
  by_cases hlt : k < s.size
  ·have hl : k < s.data.toList.length := by simpa using hlt
   have hl' : k < (lowTo s.data.toList k).length := by rw [lowTo_length]; exact hl
   have hc := hr.cell k hl'
   rw [lowTo_at _ _ hl] at hc
   have hf := hr.frozen k hl'
   have hsucc := lowTo_succ s.data.toList k hl
   have hat := lowTo_at s.data.toList k hl hl'
   generalize s.data.toList[k] = c at hc hsucc hat
   have HS := hid hsucc
   have HAt := hid hat
   clear hsucc hat
   have hc8 : c.toNat < 256 := c.toNat_lt
   by_cases hu : 65 ≤ c.toNat ∧ c.toNat ≤ 90
   ·have h1 : (65 : Int) ≤ (c.toNat : Int) := by omega
    have h2 : (c.toNat : Int) ≤ 90 := by omega
    have HL := hid (lowC_yes c hu)
    clear hu
    go_wp2
    go_roundw
    case rel =>
     refine ⟨k + 1, by omega, by go_num, ?_, hbw.setCell (p := ⟨w.heap.size, k, none⟩) (Nat.le_refl _) _⟩
     rw [HS.out, ← HL.out]
     exact hr.set k _
    case measure => simp [intOf]; omega
   ·have HL := hid (lowC_no c hu)
    have hu' : (c.toNat : Int) < 65 ∨ 90 < (c.toNat : Int) := by omega
    clear hu
    rcases hu' with h1 | h1
    all_goals
     go_wp2
     go_roundw
     case rel =>
      refine ⟨k + 1, by omega, by go_num, ?_, hbw⟩
      have e : lowC c = (lowTo s.data.toList k)[k] := by rw [HL.out, HAt.out]
      rw [HS.out, e, List.set_getElem_self]
      exact hr
     case measure => simp [intOf]; omega
  ·have hk' : k = s.data.toList.length := by simp; omega
   have hr' : rowIs wr w.heap.size 5 (low s.data.toList) := by rw [← lowTo_all, ← hk']; exact hr
   clear hr hk'
   have hcv := hr'.string (P := Tryd.prog) (src := 54) (dst := 9) (cap := cap) Tryd.underlying54 Tryd.underlying5 Tryd.underlying9
   rw [show (low s.data.toList).length = s.size by simp [low]] at hcv
   go_wp2
   go_ret
   exact ⟨rfl, hbw⟩

def inTo (c : Int) (t : List UInt8) (m : Nat) : Bool := (decide (c < 32) || decide (126 < c)) || (t.take m).any fun x => c == (x.toNat : Int)

theorem inTo_zero (c : Int) (t : List UInt8) : inTo c t 0 = (decide (c < 32) || decide (126 < c)) := by simp [inTo]

theorem inTo_succ (c : Int) (t : ByteArray) (k : Nat) (h : k < t.size) : inTo c t.data.toList (k + 1) = (inTo c t.data.toList k || c == (t[k].toNat : Int)) := by
 unfold inTo
 rw [take_snoc t k h, List.any_append, Bool.or_assoc]
 have e : [t[k]].any (fun x => c == (x.toNat : Int)) = (c == (t[k].toNat : Int)) := by simp
 rw [e]
 simp only [Bool.or_assoc]

theorem inTo_all (c : Int) (t : ByteArray) : inTo c t.data.toList t.size = ((decide (c < 32) || decide (126 < c)) || t.data.toList.any fun x => c == (x.toNat : Int)) := by
 unfold inTo
 rw [take_all t t.size (by omega)]

def setL (set : Int) : List UInt8 :=
 if set = 2 then [32, 34, 60, 62, 96] else if set = 3 then [32, 34, 35, 60, 62] else if set = 4 then [32, 34, 35, 60, 62, 39] else if set = 5 then [32, 34, 35, 60, 62, 63, 94, 96, 123, 125] else if set = 6 then [32, 34, 35, 60, 62, 63, 94, 96, 123, 125, 47, 58, 59, 61, 64, 91, 92, 93, 124] else []

theorem setL_in (c set : Int) (h : 1 ≤ set ∧ set ≤ 6) : ((decide (c < 32) || decide (126 < c)) || (setL set).any fun x => c == (x.toNat : Int)) = inSetI c set := by
 rw [Bool.eq_iff_iff, inSetI_iff]
 have h' : set = 1 ∨ set = 2 ∨ set = 3 ∨ set = 4 ∨ set = 5 ∨ set = 6 := by omega
 rcases h' with rfl | rfl | rfl | rfl | rfl | rfl <;> simp [setL, inSetP] <;> omega

set_option maxHeartbeats 1000000 in
theorem rin_1 (c : Int) (w : World) :
  Calls Tryd.prog 66 #[.int .u8 c, .int .i64 1] w fun e w' => e = .returned (.bool (inSetI c 1)) ∧ w = w' := by
 have HF := hid (setL_in c 1 (by omega))
 have hc : c < 32 ∨ (32 ≤ c ∧ 126 < c) ∨ (32 ≤ c ∧ c ≤ 126) := by omega
 rcases hc with hc | ⟨hc1, hc2⟩ | ⟨hc1, hc2⟩
 all_goals
  go_enter Tryd.func66, Tryd.ntmps66
  go_wp2
  generalize hT : ByteArray.mk #[] = t
  have hts : t.size ≤ 19 := by rw [← hT]; decide
  have HA : Hid (inTo c t.data.toList t.size = inSetI c 1) := hid ((inTo_all c t).trans (by rw [← hT]; exact HF.out))
  clear hT HF
  go_loop [5, 7] (fun o j => ∃ m : Nat, m ≤ t.size ∧ j = .int .i64 m ∧ o = .bool (inTo c t.data.toList m)) (fun _ j => t.size - (intOf j).toNat)
  case atStart => exact ⟨0, by omega, rfl, by rw [inTo_zero] <;> (try congr 1) <;> (try simp) <;> omega⟩
  case round =>
   obtain ⟨m, hm, rfl, rfl⟩ := hrel
   by_cases hlt : m < t.size
   ·have HS := hid (inTo_succ c t m hlt)
    have hot : inTo c t.data.toList m = true ∨ inTo c t.data.toList m = false := by cases inTo c t.data.toList m <;> simp
    rcases hot with hot | hot
    all_goals
     go_wp2
     go_round
     case rel => exact ⟨m + 1, by omega, by go_num, by rw [HS.out, hot]; simp⟩
     case measure => simp [intOf]; omega
   ·obtain rfl : m = t.size := by omega
    go_wp2
    go_ret
    exact ⟨ret_bool HA.out, rfl⟩

theorem extract_hex : ∀ n, n < 16 → ((ByteArray.mk #[48, 49, 50, 51, 52, 53, 54, 55, 56, 57, 65, 66, 67, 68, 69, 70]).extract n (n + 1)).data.toList = [hexD n] := by decide +kernel

set_option maxHeartbeats 1000000 in
theorem rescape_any (c : UInt8) (w : World) :
  Calls Tryd.prog 67 #[.int .u8 c.toNat] w fun e w' => e = .returned (.string ⟨(esc c).toArray⟩) ∧ Below w.heap.size w w' := by
 have hc8 := c.toNat_lt
 have ha := and15 c.toNat hc8
 have hsz : (ByteArray.mk #[48, 49, 50, 51, 52, 53, 54, 55, 56, 57, 65, 66, 67, 68, 69, 70]).size = 16 := rfl
 have h1 : (c.toNat : Int) / 16 ≤ 15 := by omega
 have h2 : (c.toNat : Int) % 16 ≤ 15 := by omega
 have h3 : (0 : Int) ≤ (c.toNat : Int) / 16 := by omega
 have h4 : (0 : Int) ≤ (c.toNat : Int) % 16 := by omega
 go_enter Tryd.func67, Tryd.ntmps67
 go_wp2
 go_quiet (fail)
 go_wp2
 go_ret
 refine ⟨ret_str ?_, Go.below_drewN (Below.refl _ w) _⟩
 rw [ByteArray.data_append, ByteArray.data_append, Array.toList_append, Array.toList_append, extract_hex _ (by omega), extract_hex _ (by omega)]
 rfl

theorem extract_at (s : ByteArray) (k : Nat) (h : k < s.size) : (s.extract k (k + 1)).data.toList = [s[k]] := by
 rw [Lib.extract_data]
 have h' : k < s.data.toList.length := by simpa using h
 have := List.drop_eq_getElem_cons h'
 rw [List.take_drop] at *
 simp [this, List.drop_take]
 rfl

set_option maxHeartbeats 1000000 in
theorem rpercent_any (s : ByteArray) (w : World) (hs : s.size ≤ 1000000) :
  Calls Tryd.prog 49 #[.string s, .int .i64 1] w fun e w' => e = .returned (.string ⟨(pct 1 s.data.toList).toArray⟩) ∧ Below w.heap.size w w' := by
 go_enter Tryd.func49, Tryd.ntmps49
 go_wp2
 go_loopw [5, 6] (fun o i wr => ∃ (k : Nat) (t : ByteArray), k ≤ s.size ∧ i = .int .i64 k ∧ o = .string t ∧ t.data.toList = pct 1 (s.data.toList.take k) ∧ Below w.heap.size w wr) (fun _ i _ => s.size - (intOf i).toNat)
 case atStart => exact ⟨0, _, Nat.zero_le _, rfl, rfl, rfl, Below.refl _ w⟩
 case round =>
  obtain ⟨k, t, hk, rfl, rfl, ht, hbw⟩ := hrel
  have htl : t.size ≤ 3 * k := by
   rw [Lib.size_eq, ht]
   have := pct_le 1 (s.data.toList.take k)
   simp at this
   omega
  have HT := hid ht
  clear ht
  by_cases hlt : k < s.size
  ·have HS := hid (take_snoc s k hlt)
   have HP := hid (pct_snoc 1 (s.data.toList.take k) s[k])
   by_cases hin : inSetI (s[k].toNat : Int) 1 = true
   ·go_wp2_with (first | (go_at_call 66; refine (rin_1 _ _).mono ?_; rintro e w' ⟨rfl, rfl⟩))
    refine (rescape_any s[k] wr).mono ?_
    rintro e w1 ⟨rfl, hb1⟩
    have hes : (ByteArray.mk (esc s[k]).toArray).size = 3 := rfl
    go_wp2
    go_roundw
    case rel =>
     refine ⟨k + 1, _, by omega, by go_num, rfl, ?_, hbw.trans (hb1.mono hbw.size)⟩
     rw [ByteArray.data_append, Array.toList_append, HT.out, HS.out, HP.out, pct1, if_pos hin]
    case measure => simp [intOf]; omega
   ·have hin' : inSetI (s[k].toNat : Int) 1 = false := by simpa using hin
    clear hin
    go_wp2_with (first | (go_at_call 66; refine (rin_1 _ _).mono ?_; rintro e w' ⟨rfl, rfl⟩))
    go_roundw
    case rel =>
     refine ⟨k + 1, _, by omega, by go_num, rfl, ?_, hbw⟩
     rw [ByteArray.data_append, Array.toList_append, HT.out, HS.out, HP.out, pct1, hin', extract_at s k hlt]
     rfl
    case measure => simp [intOf]; omega
  ·have ht := HT.out
   rw [take_all s k hlt] at ht
   have HT2 := hid ht
   clear ht HT
   go_wp2
   go_ret
   exact ⟨ret_str HT2.out, hbw⟩

def hexI (c : Int) : Int := if is16I c then val16I c else -1

set_option maxHeartbeats 400000 in
theorem rhex_any (c : Int) (w : World) (h0 : 0 ≤ c) (h1 : c ≤ 255) :
  Calls Tryd.prog 98 #[.int .u8 c] w fun e w' => e = .returned (.int .i64 (hexI c)) ∧ w = w' := by
 by_cases hd : digitI c = true
 ·have hd2 : 48 ≤ c ∧ c ≤ 57 := by simp [digitI] at hd; omega
  go_enter Tryd.func98, Tryd.ntmps98
  go_wp2_with (go_at_call 52; refine (rdigit_any _ _).mono ?_; rintro e w' ⟨rfl, rfl⟩)
  all_goals
   go_ret
   exact ⟨ret_int (by simp [hexI, is16I, val16I, hd, digitI]; omega), rfl⟩
 ·have hd' : digitI c = false := by simpa using hd
  have hd2 : c < 48 ∨ 57 < c := by simp [digitI] at hd'; omega
  clear hd
  have hc : (97 ≤ c ∧ c ≤ 102) ∨ (65 ≤ c ∧ c ≤ 70) ∨ (c < 65 ∨ (70 < c ∧ c < 97) ∨ 102 < c) := by omega
  rcases hc with ⟨h3, h4⟩ | ⟨h3, h4⟩ | h3 | ⟨h3, h4⟩ | h3
  all_goals
   go_enter Tryd.func98, Tryd.ntmps98
   go_wp2_with (go_at_call 52; refine (rdigit_any _ _).mono ?_; rintro e w' ⟨rfl, rfl⟩)
  all_goals
   go_ret
   refine ⟨ret_int ?_, rfl⟩
   have e1 : is16I c = (decide (65 ≤ c) && decide (c ≤ 70) || decide (97 ≤ c) && decide (c ≤ 102)) := by simp [is16I, hd']
   unfold hexI
   rw [e1]
   simp [val16I, digitI]
   omega

end Go.Proofs.YtpopljcmkbchcaaDoor

namespace Go.Proofs.YtpopljcmkbchcaaDoor
open Go.RowKit

def cellsS (L : List (List UInt8)) : List Value := L.map fun x => Value.string ⟨x.toArray⟩

theorem cellsS_app (a b : List (List UInt8)) : cellsS (a ++ b) = cellsS a ++ cellsS b := by simp [cellsS]

theorem cellsS_len (a : List (List UInt8)) : (cellsS a).length = a.length := by simp [cellsS]

theorem cellsS_one (X : ByteArray) : cellsS [X.data.toList] = [.string X] := by
 show [Value.string ⟨X.data.toList.toArray⟩] = _
 rw [Lib.mk_data]

def TxtS (w : World) (b : Nat) (L : List (List UInt8)) : Prop := ∀ j (h : j < L.length), w.cell? ⟨b, j, none⟩ = some (.string ⟨L[j].toArray⟩)

theorem TxtS.kept {w w' : World} {b : Nat} {L : List (List UInt8)} (h : TxtS w b L) (hb : Below w.heap.size w w') : TxtS w' b L := fun j hj => by
 have h1 := h j hj
 exact (hb.cell (World.block_lt_of_cell? w _ h1)).trans h1

theorem TxtS.take {w : World} {b : Nat} {L : List (List UInt8)} (h : TxtS w b L) (n : Nat) : TxtS w b (L.take n) := fun j hj => by
 have : j < L.length := by simp at hj; omega
 rw [h j this]
 simp

def TxtPost (L : List (List UInt8)) (w : World) (e : Ending) (w' : World) : Prop :=
 ∃ b cap, e = .returned (.slice (some ⟨b, 0, none⟩) L.length cap) ∧ L.length ≤ cap ∧ cap ≤ maxLen ∧ TxtS w' b L ∧ Below w.heap.size w w'

theorem own_txt {w w' : World} {B : Nat} {e : TypeId} {v : Value} {L : List (List UInt8)} (h : w'.ownsRow B e 1 v L.length (cellsS L)) (h0 : L ≠ []) (hb : Below w.heap.size w w') : TxtPost L w (.returned v) w' := by
 have hl := List.length_pos_iff.2 h0
 rcases h.2 with ⟨hv, hn⟩ | ⟨g, cap, cur, rfl, hg, hrow, hnc, hcm, hcs, htake⟩
 ·omega
 ·refine ⟨g, cap, rfl, hnc, hcm, fun j hj => ?_, hb⟩
  rw [h.cellAt j (by omega)]
  simp [cellsS, hj]

theorem drop_split (s : ByteArray) (j k : Nat) (hj : j ≤ k) (hk : k < s.size) : s.data.toList.drop j = (s.extract j k).data.toList ++ s[k] :: s.data.toList.drop (k + 1) := by
 rw [Lib.extract_data]
 have h1 : s.data.toList.drop j = (s.data.toList.drop j).take (k - j) ++ (s.data.toList.drop j).drop (k - j) := (List.take_append_drop _ _).symm
 rw [List.drop_drop, show j + (k - j) = k by omega, drop_cons s k hk] at h1
 exact h1

theorem ext_take (s : ByteArray) (j k : Nat) : (s.extract j k).data.toList = (s.data.toList.drop j).take (k - j) := Lib.extract_data _ _ _

theorem ba_self (b : ByteArray) : b = ⟨b.data.toList.toArray⟩ := ba_ext rfl

set_option maxHeartbeats 2000000 in
set_option maxRecDepth 100000 in
theorem rcut_any (s : ByteArray) (c : UInt8) (w : World) (hs : s.size ≤ 1000000) :
  Calls Tryd.prog 79 #[.string s, .int .u8 (c.toNat : Int)] w (TxtPost (cutL c s.data.toList) w) := by
 obtain ⟨i0, hi, hz0, hz1, hz2⟩ := info_parts infoStr
 have hc8 := c.toNat_lt
 go_enter Tryd.func79, Tryd.ntmps79
 go_wp2
 go_loopw [5, 6, 7] (fun v fr i wr => ∃ (k j : Nat) (out : List (List UInt8)), j ≤ k ∧ k ≤ s.size + 1 ∧ i = .int .i64 k ∧ fr = .int .i64 j ∧ out.length ≤ k ∧ wr.ownsRow w.heap.size 9 1 v out.length (cellsS out) ∧ Below w.heap.size w wr ∧
   ((k ≤ s.size ∧ cutL c s.data.toList = out ++ cutL c (s.data.toList.drop j) ∧ c ∉ (s.extract j k).data.toList) ∨ (k = s.size + 1 ∧ out = cutL c s.data.toList)))
  (fun _ _ i _ => s.size + 1 - (intOf i).toNat)
 case atStart => exact ⟨0, 0, [], Nat.le_refl _, by omega, rfl, rfl, Nat.le_refl _, own_nil _ _ _, Below.refl _ w, .inl ⟨by omega, rfl, by rw [ext_take]; simp⟩⟩
 case round =>
  obtain ⟨k, j, out, hjk, hk, rfl, rfl, hol, hown, hbw, hor⟩ := hrel
  have HO := hid hown
  clear hown
  have hbs := hbw.size
  rcases hor with ⟨hks, hcut, hno⟩ | ⟨hks, hout⟩
  ·have HC := hid hcut
   have HN := hid hno
   clear hcut hno
   have hks' : (k : Int) ≤ (s.size : Int) := by omega
   have hjk' : (j : Int) ≤ (k : Int) := by omega
   obtain ⟨X, hX⟩ : ∃ X : ByteArray, X = s.extract j k := ⟨_, rfl⟩
   by_cases hlt : k < s.size
   ·have hlt' : ((k : Int) == (s.size : Int)) = false := by rw [beq_eq_false_iff_ne]; omega
    have hb8 : s[k].toNat < 256 := s[k].toNat_lt
    have HD := hid (drop_split s j k hjk hlt)
    by_cases he : s[k] = c
    ·have he' : (s[k].toNat : Int) = (c.toNat : Int) := by rw [he]
     have HE := hid he
     have HX := hid hX
     clear hX he
     go_wp2_with (at_builtin; go_must (refine wpList_append_own _ rfl _ _ 36 rfl w.heap.size 9 i0 (.string ⟨#[]⟩) 1 16 Tryd.underlying36 hi hz0 hz1 hz2 rfl (by decide) _ _ _ rfl (HO.out.alloc _) ⟨wr.heap.size, 0, none⟩ 1 1 [.string (s.extract j k)] rfl rfl ?c1 ?c2 ?c3 ?c4 ?c5 ?_))
     case c1 =>
      intro q u hq
      match q, hq with
      | 0, hq => simp at hq; subst hq; simp [Addr.add]
     case c2 => intro u hu; simp at hu; subst hu; rfl
     case c3 => unfold maxLen; omega
     case c4 => omega
     case c5 => simp; omega
     intro v' w2 hown' hgrow hnil
     have HO2 := hid hown'
     have HB2 := hid (show Below w.heap.size w w2 from (hbw.alloc hbw.size _).grown hgrow (by simp; omega) (fun g hg => (HO.out.lt g hg).1))
     clear hown' hgrow hnil
     go_wp2
     go_roundw
     case rel =>
      refine ⟨k + 1, k + 1, out ++ [(s.extract j k).data.toList], by omega, by omega, by go_num, by go_num, by simp; omega, ?_, HB2.out, .inl ⟨by omega, ?_, by rw [ext_take]; simp⟩⟩
      ·rw [cellsS_app, cellsS_one, List.length_append]
       exact HO2.out
      ·have h1 := HC.out
       rw [HD.out, HE.out, cutL_some c _ _ HN.out] at h1
       rw [h1]; simp
     case measure => simp [intOf]; omega
    ·have he' : ((s[k].toNat : Int) == (c.toNat : Int)) = false := by
      rw [beq_eq_false_iff_ne]
      intro e
      exact he (UInt8.toNat_inj.1 (by omega))
     have HE := hid he
     clear he hX
     go_wp2
     go_roundw
     case rel =>
      refine ⟨k + 1, j, out, by omega, by omega, by go_num, rfl, by omega, HO.out, hbw, .inl ⟨by omega, HC.out, ?_⟩⟩
      rw [ext_take, show k + 1 - j = (k - j) + 1 by omega, List.take_add_one]
      have h2 := HN.out
      rw [ext_take] at h2
      rw [List.mem_append]
      rintro (h | h)
      ·exact h2 h
      ·rw [List.getElem?_drop, show j + (k - j) = k by omega] at h
       have h3 : s.data.toList[k]? = some s[k] := by
        rw [List.getElem?_eq_getElem (by simpa using hlt)]; rfl
       rw [h3] at h
       simp at h
       exact HE.out h.symm
     case measure => simp [intOf]; omega
   ·have hke : k = s.size := by omega
    subst hke
    have HX := hid hX
    clear hX
    go_wp2_with (at_builtin; go_must (refine wpList_append_own _ rfl _ _ 36 rfl w.heap.size 9 i0 (.string ⟨#[]⟩) 1 16 Tryd.underlying36 hi hz0 hz1 hz2 rfl (by decide) _ _ _ rfl (HO.out.alloc _) ⟨wr.heap.size, 0, none⟩ 1 1 [.string (s.extract j s.size)] rfl rfl ?c1 ?c2 ?c3 ?c4 ?c5 ?_))
    case c1 =>
     intro q u hq
     match q, hq with
     | 0, hq => simp at hq; subst hq; simp [Addr.add]
    case c2 => intro u hu; simp at hu; subst hu; rfl
    case c3 => unfold maxLen; omega
    case c4 => omega
    case c5 => simp; omega
    intro v' w2 hown' hgrow hnil
    have HO2 := hid hown'
    have HB2 := hid (show Below w.heap.size w w2 from (hbw.alloc hbw.size _).grown hgrow (by simp; omega) (fun g hg => (HO.out.lt g hg).1))
    clear hown' hgrow hnil
    go_wp2
    go_roundw
    case rel =>
     refine ⟨s.size + 1, s.size + 1, out ++ [(s.extract j s.size).data.toList], by omega, by omega, by go_num, by go_num, by simp; omega, ?_, HB2.out, .inr ⟨rfl, ?_⟩⟩
     ·rw [cellsS_app, cellsS_one, List.length_append]
      exact HO2.out
     ·have h1 := HC.out
      have e : (s.extract j s.size).data.toList = s.data.toList.drop j := by rw [ext_take]; exact List.take_of_length_le (by simp)
      rw [e]
      have h2 := HN.out
      rw [e] at h2
      rw [cutL_none c _ h2] at h1
      exact h1.symm
    case measure => simp [intOf]
  ·subst hks
   have hks' : ¬ (((s.size + 1 : Nat) : Int) ≤ (s.size : Int)) := by omega
   have HX := hid hout
   clear hout
   go_wp2
   go_ret
   rw [← HX.out]
   exact own_txt HO.out (by rw [HX.out]; exact cutL_ne _ _) hbw

end Go.Proofs.YtpopljcmkbchcaaDoor

namespace Go.Proofs.YtpopljcmkbchcaaDoor
open Go.RowKit

def PathAt (w : World) (v : Value) (L : List (List UInt8)) : Prop :=
 (v = .slice none 0 0 ∧ L = []) ∨ ∃ b cap, v = .slice (some ⟨b, 0, none⟩) L.length cap ∧ b < w.heap.size ∧ L.length ≤ cap ∧ cap ≤ maxLen ∧ TxtS w b L

theorem PathAt.kept {w w' : World} {v : Value} {L : List (List UInt8)} (h : PathAt w v L) (hb : Below w.heap.size w w') : PathAt w' v L := by
 rcases h with h | ⟨b, cap, h1, h2, h3, h4, h5⟩
 ·exact .inl h
 ·exact .inr ⟨b, cap, h1, by have := hb.size; omega, h3, h4, h5.kept hb⟩

theorem own_path {w : World} {B : Nat} {v : Value} {L : List (List UInt8)} (h : w.ownsRow B 9 1 v L.length (cellsS L)) : PathAt w v L := by
 have h2 := h.2
 rcases h2 with ⟨hv, hn⟩ | ⟨g, cap, cur, rfl, hg, hrow, hnc, hcm, hcs, htake⟩
 ·exact .inl ⟨hv, List.eq_nil_of_length_eq_zero hn⟩
 ·refine .inr ⟨g, cap, rfl, (Array.getElem?_eq_some_iff.1 hrow).1, hnc, hcm, fun j hj => ?_⟩
  rw [h.cellAt j (by omega)]
  simp [cellsS, hj]

theorem own_drop {w : World} {B : Nat} {g cap n : Nat} {L : List (List UInt8)} (h : w.ownsRow B 9 1 (.slice (some ⟨g, 0, none⟩) (n + 1) cap) (n + 1) (cellsS L)) (hl : L.length = n + 1) : w.ownsRow B 9 1 (.slice (some ⟨g, 0, none⟩) n cap) n (cellsS L.dropLast) := by
 rcases h.2 with ⟨hv, hn⟩ | ⟨g', cap', cur, hv, hg, hrow, hnc, hcm, hcs, htake⟩
 ·cases hv
 ·cases hv
  refine ⟨by simp [cellsS_len, hl], .inr ⟨g, cap, cur, rfl, hg, hrow, by omega, hcm, hcs, ?_⟩⟩
  have e : (cellsS L).dropLast = cellsS L.dropLast := by simp [cellsS]
  have hcl : cur.toList.length = cap := by simp [hcs]
  rw [← e, ← htake, List.dropLast_eq_take, List.take_take, List.length_take]
  congr 1
  omega

theorem own_nonnil {w : World} {B n : Nat} {v : Value} {L : List (List UInt8)} (h : w.ownsRow B 9 1 v (n + 1) (cellsS L)) : ∃ g cap, v = .slice (some ⟨g, 0, none⟩) (n + 1) cap ∧ n + 1 ≤ cap ∧ cap ≤ maxLen := by
 rcases h.2 with ⟨hv, hn⟩ | ⟨g', cap', cur, hv, hg, hrow, hnc, hcm, hcs, htake⟩
 ·omega
 ·exact ⟨g', cap', hv, hnc, hcm⟩

theorem own_zero {w : World} {B : Nat} {v : Value} {xs : List Value} (h : w.ownsRow B 9 1 v 0 xs) : ∃ a cap, v = .slice a 0 cap := by
 rcases h.2 with ⟨hv, hn⟩ | ⟨g', cap', cur, hv, hg, hrow, hnc, hcm, hcs, htake⟩
 ·exact ⟨none, 0, hv⟩
 ·exact ⟨_, cap', hv⟩

def stepP (out : List (List UInt8)) (p : List UInt8) (mo : Bool) : List (List UInt8) :=
 if dotsV p = 2 then (if mo then out.dropLast else out.dropLast ++ [[]]) else if dotsV p = 1 then (if mo then out else out ++ [[]]) else out ++ [pct 5 p]

theorem pathL_more (out : List (List UInt8)) (p : List UInt8) (L : List (List UInt8)) (h : L ≠ []) : pathL out (p :: L) = pathL (stepP out p true) L := by
 cases L with
 | nil => exact absurd rfl h
 | cons q r =>
  rw [pathL, stepP]
  split
  ·rfl
  ·split <;> rfl

theorem pathL_last (out : List (List UInt8)) (p : List UInt8) : pathL out [p] = stepP out p false := by
 rw [pathL, stepP]
 split
 ·rfl
 ·split <;> rfl

theorem dotsV_cases (p : List UInt8) : dotsV p = 0 ∨ dotsV p = 1 ∨ dotsV p = 2 := by
 unfold dotsV; split
 ·exact .inr (.inl rfl)
 ·split
  ·exact .inr (.inr rfl)
  ·exact .inl rfl

theorem stepP0 {out : List (List UInt8)} {p : List UInt8} {mo : Bool} (h : dotsV p = 0) : stepP out p mo = out ++ [pct 5 p] := by rw [stepP, h]; rfl

theorem stepP1 {out : List (List UInt8)} {p : List UInt8} (h : dotsV p = 1) : stepP out p true = out := by rw [stepP, h]; rfl

theorem stepP1' {out : List (List UInt8)} {p : List UInt8} (h : dotsV p = 1) : stepP out p false = out ++ [[]] := by rw [stepP, h]; rfl

theorem stepP2 {out : List (List UInt8)} {p : List UInt8} (h : dotsV p = 2) : stepP out p true = out.dropLast := by rw [stepP, h]; rfl

theorem stepP2' {out : List (List UInt8)} {p : List UInt8} (h : dotsV p = 2) : stepP out p false = out.dropLast ++ [[]] := by rw [stepP, h]; rfl

theorem own_below {w w' : World} {B : Nat} {v : Value} {n : Nat} {xs : List Value} (h : w.ownsRow B 9 1 v n xs) (hb : Below w.heap.size w w') : w'.ownsRow B 9 1 v n xs :=
 ownsRow_same h fun g hg => hb.block g (h.lt g hg).2

def OwnPost (L : List (List UInt8)) (w : World) (e : Ending) (w' : World) : Prop := ∃ v, e = .returned v ∧ w'.ownsRow w.heap.size 9 1 v L.length (cellsS L) ∧ Below w.heap.size w w'

theorem pathV_some {special : Bool} {hv : List (List UInt8)} {s : List UInt8} (h : ¬ (s = [] ∧ special = false)) : pathV special hv s = pathL hv (cutL 47 (over1 s)) := by rw [pathV, if_neg h]

theorem over1_le (l : List UInt8) : (over1 l).length ≤ l.length := by
 unfold over1; split
 ·simp
 ·split <;> simp

end Go.Proofs.YtpopljcmkbchcaaDoor

namespace Go.Proofs.YtpopljcmkbchcaaDoor
open Go.RowKit

def adrCells (u : Adr) (pv : Value) : List Value :=
 [.string ⟨u.scheme.toArray⟩, .string ⟨u.user.toArray⟩, .string ⟨u.pass.toArray⟩, .string ⟨u.host.toArray⟩, .bool u.hasHost, .int .i64 u.port, .bool u.opq, pv, .string ⟨u.query.toArray⟩, .string ⟨u.fragment.toArray⟩, .bool u.hasQuery, .bool u.hasFragment]

def adrVal (u : Adr) (pv : Value) : Value := .agg (adrCells u pv).toArray

theorem sizeU : (Tryd.prog.info? 38).map (·.size) = some 12 := by kernel_rfl

theorem sizeUl (u : Adr) (pv : Value) : (Tryd.prog.info? 38).map (·.size) = some (adrCells u pv).length := sizeU

theorem sizeUa (u : Adr) (pv : Value) : (Tryd.prog.info? 38).map (·.size) = some (adrCells u pv).toArray.size := sizeU

def IsSl (v : Value) : Prop := ∃ a n c, v = .slice a n c

theorem adrCells_one (u : Adr) (pv : Value) (hp : IsSl pv) : ∀ v ∈ adrCells u pv, v.oneCell' = true := by
 obtain ⟨a, n, c, rfl⟩ := hp
 intro v hv
 simp only [adrCells, List.mem_cons, List.not_mem_nil, or_false] at hv
 rcases hv with rfl | rfl | rfl | rfl | rfl | rfl | rfl | rfl | rfl | rfl | rfl | rfl <;> rfl

def AdrIn (w : World) (b : Nat) (u : Adr) (pv : Value) : Prop := w.heap[b]? = some (.cells (adrCells u pv).toArray 38 (0, 0))

theorem AdrIn.lt {w : World} {b : Nat} {u : Adr} {pv : Value} (h : AdrIn w b u pv) : b < w.heap.size := (Array.getElem?_eq_some_iff.1 h).1

theorem AdrIn.kept {w w' : World} {b : Nat} {u : Adr} {pv : Value} (h : AdrIn w b u pv) (hb : Below w.heap.size w w') : AdrIn w' b u pv := by
 unfold AdrIn
 rw [hb.block b h.lt]; exact h

theorem AdrIn.there {w : World} {b : Nat} {u : Adr} {pv : Value} (h : AdrIn w b u pv) : w.there b 0 12 := there_row h (Nat.le_refl _)

theorem AdrIn.cell {w : World} {b : Nat} {u : Adr} {pv : Value} (h : AdrIn w b u pv) (j : Nat) (v : Value) (hv : (adrCells u pv)[j]? = some v) : w.cell? ⟨b, j, none⟩ = some v := by
 rw [Lib.cell_of_heap h]
 simpa using hv

theorem AdrIn.frozen {w : World} {b : Nat} {u : Adr} {pv : Value} (h : AdrIn w b u pv) (j : Nat) : w.frozen? ⟨b, j, none⟩ = false := by
 simp [World.frozen?, show w.heap[b]? = _ from h]

theorem results_u2 {fn : Func} {p q : Tmp} (h : fn.results = #[.cell p 38, .tmp q]) (tmps : Array Value) (w : World) (b : Nat) (u : Adr) (pv : Value) (hp : tmps.getD p undef = .pointer (some ⟨b, 0, none⟩)) (hc : w.rangeAt b 0 (adrCells u pv)) : (results fn tmps).run Tryd.prog w = .ok (.tuple #[adrVal u pv, tmps.getD q undef]) w := by
 rw [Array.getD_eq_getD_getElem?] at hp
 simp only [results, h]
 simp [Sem.run_bind, Result.andThen, hp, asAddr, run_loadVar_mid w b 0 38 (adrCells u pv) _ hc Tryd.underlying38 rfl (sizeUl u pv), adrVal]

theorem setCells_heap (b : Nat) (t : TypeId) (f : Nat × Nat) : ∀ (vs : List Value) (o : Nat) (w : World) (C : Array Value), w.heap[b]? = some (.cells C t f) → ∃ C', (w.setCells b o vs).heap[b]? = some (.cells C' t f) ∧ C'.size = C.size ∧ (∀ j, j < o → C'[j]? = C[j]?) ∧ ∀ j, j < vs.length → o + j < C.size → C'[o + j]? = vs[j]?
 | [], o, w, C, h => ⟨C, h, rfl, fun _ _ => rfl, fun j hj => by simp at hj⟩
 | v :: r, o, w, C, h => by
  rw [World.setCells]
  have h1 := Lib.heap_setCell_same h (i := o) v
  obtain ⟨C', e1, e2, e3, e4⟩ := setCells_heap b t f r (o + 1) _ _ h1
  refine ⟨C', e1, by rw [e2]; simp, fun j hj => ?_, fun j hj hjc => ?_⟩
  ·rw [e3 j (by omega), Array.getElem?_setIfInBounds, if_neg (by omega)]
  ·match j with
   | 0 =>
    rw [Nat.add_zero, e3 o (by omega), Array.getElem?_setIfInBounds, if_pos rfl]
    have : o < C.size := by omega
    simp [this]
   | j + 1 =>
    have := e4 j (by simp at hj; omega) (by simp; omega)
    rw [show o + (j + 1) = o + 1 + j by omega, this]; rfl

theorem AdrIn.store {w : World} {b : Nat} {u v : Adr} {pv qv : Value} (h : AdrIn w b u pv) : AdrIn (w.setCells b 0 (adrCells v qv)) b v qv := by
 obtain ⟨C', e1, e2, _, e4⟩ := setCells_heap b 38 (0, 0) (adrCells v qv) 0 w _ h
 unfold AdrIn
 rw [e1]
 have : C' = (adrCells v qv).toArray := by
  apply Array.ext_getElem?
  intro j
  by_cases hj : j < 12
  ·have := e4 j hj (by rw [Nat.zero_add]; exact hj)
   rw [Nat.zero_add] at this
   rw [this]; simp
  ·have h2 : C'.size = 12 := by rw [e2]; rfl
   rw [Array.getElem?_eq_none (by omega), Array.getElem?_eq_none (by simp [adrCells]; omega)]
 rw [this]

end Go.Proofs.YtpopljcmkbchcaaDoor
