/-
  Walks and plain facts that this claim leans on, put together out of 5 texts: Xd, Ym, Xo, Eif, Eiy.
-/
import Derived.Test.YtpopljcmkbchcaaGreatDoorProg
import Derived.Test.YtpopljcmkbchcaaGreatDoorQc1
import Derived.Test.YtpopljcmkbchcaaGreatDoorQc2
import Derived.Test.YtpopljcmkbchcaaGreatDoorQc3
import Derived.Test.YtpopljcmkbchcaaGreatDoorQc4
import Derived.Test.YtpopljcmkbchcaaGreatDoorQc5
import Derived.Test.YtpopljcmkbchcaaGreatDoorQc6
import Derived.Test.YtpopljcmkbchcaaGreatDoorQc7
import Derived.Test.YtpopljcmkbchcaaGreatDoorQc8
import Derived.Test.YtpopljcmkbchcaaGreatDoorQc9
import Derived.Test.YtpopljcmkbchcaaGreatDoorQc10
import Derived.Test.YtpopljcmkbchcaaGreatDoorQc11
import Derived.Test.YtpopljcmkbchcaaGreatDoorQc12
import Derived.Test.YtpopljcmkbchcaaGreatDoorQc13
import Derived.Test.YtpopljcmkbchcaaGreatDoorQc14
import Derived.Test.YtpopljcmkbchcaaGreatDoorQc15
import Derived.Test.YtpopljcmkbchcaaGreatDoorQc16
import Derived.Test.YtpopljcmkbchcaaGreatDoorQc17
import Derived.Test.YtpopljcmkbchcaaGreatDoorQc18
import Derived.Test.YtpopljcmkbchcaaGreatDoorQc19
import Derived.Test.YtpopljcmkbchcaaGreatDoorQc20
import Derived.Test.YtpopljcmkbchcaaGreatDoorQc21
import Derived.Test.YtpopljcmkbchcaaGreatDoorQc22
import Derived.Test.YtpopljcmkbchcaaGreatDoorQc23
import Derived.Test.YtpopljcmkbchcaaGreatDoorQc24
import Derived.Test.YtpopljcmkbchcaaGreatDoorQc25
import Derived.Test.YtpopljcmkbchcaaGreatDoorQc26
import Derived.Test.YtpopljcmkbchcaaGreatDoorQc27
import Derived.Test.YtpopljcmkbchcaaGreatDoorQc28
import Derived.Test.YtpopljcmkbchcaaGreatDoorQc29
import Derived.Test.YtpopljcmkbchcaaGreatDoorQc30
import Derived.Test.YtpopljcmkbchcaaGreatDoorQc31
import Derived.WalkKit
import Derived.Lib.Strings
import Derived.Lib.UnsafeStr
import Derived.Laws.IdiomStrings
import Derived.Laws.AppendOwn
import Derived.Lib.BufferMore
import Derived.Lib.SlTrimSet
import Derived.Lib.Join
import Derived.Lib.IndexMore
import Derived.Lib.LastIndexByte
import Derived.Laws.BitsAllLaws
import Derived.Lib.Bytealg
import Derived.Shelf.Strings.Builder1
import Derived.Shelf.Strings.Builder2
import Derived.Shelf.Strings.OnBuilder
import Derived.Shelf.Strings.Trim
import Derived.Shelf.Small.Utf8
import Derived.Shelf.Small.Bits
import Derived.Shelf.Small.Strs
import Derived.Shelf.Small.Wraps
import Derived.Shelf.Strings.BuilderF
import Derived.Shelf.Strings.BuilderK
import Derived.Shelf.Strings.BuilderRune
import Derived.Shelf.Utf8.AppendRune
import Derived.Shelf.Utf8.AppendRunePlain
import Derived.Shelf.Strings.Builder2Cap
import Derived.Shelf.Strconv.Itoa0
import Derived.Shelf.Strconv.Itoa1
import Derived.Shelf.LaysM
import Derived.Shelf.Strconv.Itoa2
import Derived.Shelf.Strconv.Itoa3
import Derived.Shelf.Strings.Search1
import Derived.Shelf.Strings.Search2
import Derived.Shelf.Strings.Cut
import Derived.Shelf.Strings.Shaped
import Derived.Shelf.Sort.Plain
import Derived.Shelf.Strings.Prefix
import Derived.Shelf.Unicode.Latin
import Derived.Shelf.Strings.Runes
import Derived.Shelf.Strings.IndexAny
import Derived.Shelf.Strings.AsciiSet
import Derived.Shelf.Strings.IndexAnyAll
import Derived.Shelf.Unicode.DecodeSlow
import Derived.Shelf.Unicode.DecodeAny
import Derived.Shelf.Unicode.DecodeLast
import Derived.Shelf.Unicode.CaseLookup
import Derived.Shelf.Unicode.CaseConvert
import Derived.Shelf.Unicode.CaseTo
import Derived.Shelf.Unicode.CaseLaid
import Derived.Shelf.Slices.CompactS
import Derived.Shelf.Slices.In.SortNone
import Derived.Lib.IndexAny
import Derived.Lib.Replace
import Derived.Lib.TrimByte
import Derived.Lib.ItoaNum
import Derived.WalkSpells
import Derived.WalkLawsBesides
import Derived.Lib.AppendIntMem
import Derived.Lib.SmallJoins
import Derived.WalkSmall
import Derived.WalkMore
import Derived.Deep.LoopGhost
import Derived.OwnWalk
import Derived.Laws.CopyOwn
import Derived.Laws.ResultCell
import Derived.Deep.MidRow
import Derived.Deep.RegionWith
import Derived.Lib.FrozenHead2
import Derived.Lib.OthersKept
import Derived.Lib.Builder
import Derived.Laws.OwnMore
import Derived.Below
import Derived.Deep.QuietTactic
import Derived.BigQuiet
import Derived.Shelf.Strings.SlTrimAscii
import Derived.Deep.CutRange
import Derived.Laws.Rows
import Derived.BigRegion
import Derived.Deep.RegionHeld
import Derived.Deep.RegionHeldLaw
import Derived.Lib.BufferRead
import Derived.Lib.RuneBytes
import Derived.Laws.RangeAny
import Derived.Maps.OwnSet
import Derived.Maps.OwnOps
import Derived.Maps.AppendAt
import Derived.StringKeys
import Derived.LoopN
import Derived.RegionTactic
import Derived.Deep.RegionLaw
import Derived.Lib.FieldsP
import Derived.Lib.DecodeN
import Derived.Lib.LaidTab
import Derived.Laws.Runes
import Derived.Lib.AppendStr
import Derived.Shelf.GgClosure.GivesRunes
import Derived.Laws.BitsAll
import Derived.Laws.Shifts
import Derived.Deep.DeepAppendRoom
import Derived.Laws.BytesString
import Derived.Laws.CopyRow
import Derived.Sort.OwnSorted
import Derived.Lib.SlicesCompact
import Derived.Sort.KeysCollected
import Derived.Lib.Case
import Derived.Scope
import Derived.ScopeJumps
import Derived.Laws.MakeOwn
import Derived.Deep.WholeRow
import Derived.Laws.AppendOwnNone
import Derived.Maps.RangeWalk
import Derived.Lib.SlMapMerge
import Derived.Laws.IdiomRangeMap
import Derived.Deep.Cut
import Derived.Shelf.SlIter.Nil
import Derived.Shelf.SortM.Plain
import Derived.Shelf.SortM.SortNone
set_option linter.unusedSimpArgs false
set_option linter.unusedVariables false

namespace Go.Proofs.YtpopljcmkbchcaaGreatDoor
def Closed (X : List UInt8) : Prop := ∀ r, cutQ false (X ++ r) = (cutQ false r).map (· + X.length)

theorem closed_nil : Closed [] := fun r => by cases h : cutQ false r <;> simp [h]

theorem closed_app {X Y : List UInt8} (hx : Closed X) (hy : Closed Y) : Closed (X ++ Y) := fun r => by
 rw [List.append_assoc, hx, hy, map_map_add, List.length_append, Nat.add_comm Y.length]

theorem closed_one (c : UInt8) (h1 : c ≠ 44) (h2 : c ≠ 34) : Closed [c] := fun r => by
 rw [List.singleton_append, cutQ_other c r h1 h2]; rfl

def freeC (c : UInt8) : Bool := c != 44 && c != 34 && c != 92

theorem closed_free (X : List UInt8) (h : X.all freeC = true) : Closed X := by
 induction X with
 | nil => exact closed_nil
 | cons c X ih =>
  simp only [List.all_cons, Bool.and_eq_true] at h
  have hc := h.1
  simp [freeC] at hc
  exact closed_app (closed_one c hc.1.1 hc.1.2) (ih h.2)

theorem pcs_closed {X : List UInt8} (h : Closed X) : pcs X = [X] := by
 refine pcs_none X ?_
 have := h []
 rw [List.append_nil] at this
 rw [this]; rfl

theorem pcs_comma {X : List UInt8} (h : Closed X) (r : List UInt8) : pcs (X ++ 44 :: r) = X :: pcs r := by
 have h1 : cutQ false (X ++ 44 :: r) = some X.length := by rw [h, cutQ_comma]; simp
 rw [pcs_some _ _ h1]
 congr 1
 ·simp
 ·rw [List.drop_append, List.drop_of_length_le (by omega)]; simp

def bl2 (c : UInt8) : Bool := [9, 32].contains c

theorem dropWhile_blanks (v r : List UInt8) (hv : v.all bl2 = true) : (v ++ r).dropWhile bl2 = r.dropWhile bl2 := by
 induction v with
 | nil => rfl
 | cons c v ih =>
  simp only [List.all_cons, Bool.and_eq_true] at hv
  rw [List.cons_append, List.dropWhile_cons_of_pos hv.1, ih hv.2]

def Ends (x : List UInt8) : Prop := x ≠ [] ∧ (∀ c, x.head? = some c → bl2 c = false) ∧ (∀ c, x.getLast? = some c → bl2 c = false)

theorem dropWhile_head (x r : List UInt8) (h0 : x ≠ []) (h : ∀ c, x.head? = some c → bl2 c = false) : (x ++ r).dropWhile bl2 = x ++ r := by
 cases x with
 | nil => exact absurd rfl h0
 | cons c x => rw [List.cons_append, List.dropWhile_cons_of_neg]; rw [h c rfl]; simp

theorem trim_ends (v x u : List UInt8) (hv : v.all bl2 = true) (hu : u.all bl2 = true) (hx : Ends x) : trimB (v ++ x ++ u) = x := by
 unfold trimB Lib.trimS Lib.trimRightS Lib.trimLeftS
 show List.dropWhile bl2 (List.dropWhile bl2 (v ++ x ++ u).reverse).reverse = x
 have h1 : (v ++ x ++ u).reverse = u.reverse ++ (x.reverse ++ v.reverse) := by simp
 rw [h1, dropWhile_blanks u.reverse _ (by simpa using hu), dropWhile_head x.reverse v.reverse (by simpa using hx.1) (by simpa using hx.2.2)]
 have h2 : (x.reverse ++ v.reverse).reverse = v ++ x := by simp
 rw [h2, dropWhile_blanks v _ hv]
 have := dropWhile_head x [] hx.1 hx.2.1
 rw [List.append_nil] at this
 exact this

def Put (s : List UInt8) (W : List (List UInt8)) : Prop :=
 ∃ (A v x : List UInt8) (Q : List (List UInt8)), s = A ++ (v ++ x) ∧ (∀ r, (pcs (A ++ r)).map trimB = Q ++ (pcs r).map trimB) ∧ Closed (v ++ x) ∧ v.all bl2 = true ∧ Ends x ∧ W = Q ++ [x]

theorem put_one (x : List UInt8) (hc : Closed x) (he : Ends x) : Put x [x] :=
 ⟨[], [], x, [], rfl, fun r => rfl, hc, rfl, he, rfl⟩

theorem bl2_free (u : List UInt8) (h : u.all bl2 = true) : u.all freeC = true := by
 rw [List.all_eq_true] at h ⊢
 intro c hc
 have := h c hc
 simp [bl2] at this
 rcases this with rfl | rfl <;> rfl

theorem put_more {s : List UInt8} {W : List (List UInt8)} (h : Put s W) (u v x : List UInt8) (hu : u.all bl2 = true) (hv : v.all bl2 = true) (hc : Closed x) (he : Ends x) : Put (s ++ (u ++ 44 :: v) ++ x) (W ++ [x]) := by
 obtain ⟨A, v0, x0, Q, rfl, hA, hc0, hv0, he0, rfl⟩ := h
 refine ⟨A ++ (v0 ++ x0) ++ (u ++ [44]), v, x, Q ++ [x0], by simp, fun r => ?_, closed_app (closed_free v (bl2_free v hv)) hc, hv, he, by simp⟩
 have e : A ++ (v0 ++ x0) ++ (u ++ [44]) ++ r = A ++ ((v0 ++ x0 ++ u) ++ 44 :: r) := by simp
 rw [e, hA, pcs_comma (closed_app hc0 (closed_free u (bl2_free u hu))), List.map_cons, trim_ends v0 x0 u hv0 hu he0]
 simp

theorem put_split {s : List UInt8} {W : List (List UInt8)} (h : Put s W) : (pcs s).map trimB = W := by
 obtain ⟨A, v0, x0, Q, rfl, hA, hc0, hv0, he0, rfl⟩ := h
 rw [hA, pcs_closed hc0]
 have := trim_ends v0 x0 [] hv0 rfl he0
 rw [List.append_nil] at this
 simp [this]

def Wrd (x : List UInt8) : Prop := x ≠ [] ∧ x.all (fun c => decide (97 ≤ c.toNat) && decide (c.toNat ≤ 122)) = true

theorem wrd_mem {x : List UInt8} (h : Wrd x) {c : UInt8} (hc : c ∈ x) : 97 ≤ c.toNat ∧ c.toNat ≤ 122 := by
 have := List.all_eq_true.1 h.2 c hc
 simpa using this

theorem wrd_free {x : List UInt8} (h : Wrd x) : x.all freeC = true := by
 rw [List.all_eq_true]
 intro c hc
 have := wrd_mem h hc
 simp [freeC]
 refine ⟨⟨?_, ?_⟩, ?_⟩ <;> (intro e; subst e; simp at this)

theorem letter_bl {c : UInt8} (h : 97 ≤ c.toNat ∧ c.toNat ≤ 122) : bl2 c = false := by
 simp [bl2]
 refine ⟨?_, ?_⟩ <;> (intro e; subst e; simp at h)

theorem wrd_ends {x : List UInt8} (h : Wrd x) : Ends x :=
 ⟨h.1, fun c hc => letter_bl (wrd_mem h (List.mem_of_mem_head? (by rw [hc]; rfl))), fun c hc => letter_bl (wrd_mem h (List.mem_of_getLast? hc))⟩

end Go.Proofs.YtpopljcmkbchcaaGreatDoor

namespace Go.Proofs.YtpopljcmkbchcaaGreatDoor
theorem WrQ.snoc {T : List UInt8} {c : UInt8} (h : WrQ T) (h1 : 97 ≤ c.toNat) (h2 : c.toNat ≤ 122) : WrQ (T ++ [c]) := by
 obtain ⟨r, rfl, hr⟩ := h
 refine ⟨r ++ [c], rfl, fun d hd => ?_⟩
 rcases List.mem_append.1 hd with hd | hd
 ·exact hr d hd
 ·obtain rfl := List.mem_singleton.1 hd
  exact ⟨h1, h2⟩

end Go.Proofs.YtpopljcmkbchcaaGreatDoor

namespace Go.Proofs.YtpopljcmkbchcaaGreatDoor
open Go.RowKit

def PcInv (k : Nat) (S : List UInt8) (W : List (List UInt8)) : Prop := W.length = k ∧ S.length ≤ 40 * k ∧ (k = 0 → S = []) ∧ (0 < k → Put S W)

theorem PcInv.first (T : List UInt8) (S : List UInt8) (W : List (List UInt8)) (h : PcInv 0 S W) (hT : Wrd T) (hl : T.length ≤ 12) : PcInv 1 (S ++ T) (W ++ [T]) := by
 obtain ⟨h1, h2, h3, h4⟩ := h
 have e := h3 rfl
 subst e
 have e : W = [] := List.eq_nil_of_length_eq_zero h1
 subst e
 exact ⟨rfl, by simp; omega, by omega, fun _ => put_one T (closed_free T (wrd_free hT)) (wrd_ends hT)⟩

end Go.Proofs.YtpopljcmkbchcaaGreatDoor

namespace Go.Proofs.YtpopljcmkbchcaaGreatDoor
open Go.RowKit

def GoX (n : List UInt8) : Prop := ∃ r, n = 88 :: 45 :: 113 :: r ∧ (∀ c ∈ r, 97 ≤ c.toNat ∧ c.toNat ≤ 122) ∧ r.length ≤ 9

theorem gox_nil : GoX [88, 45, 113] := by
 refine ⟨[], rfl, ?_, by decide⟩
 intro c hc
 simp at hc

theorem GoX.snoc {n : List UInt8} (h : GoX n) (hl : n.length < 12) (c : UInt8) (h1 : 97 ≤ c.toNat) (h2 : c.toNat ≤ 122) : GoX (n ++ [c]) := by
 obtain ⟨r, rfl, hr, hl2⟩ := h
 refine ⟨r ++ [c], by simp, fun d hd => ?_, by simp at hl ⊢; omega⟩
 rcases List.mem_append.1 hd with hd | hd
 ·exact hr d hd
 ·rw [List.mem_singleton.1 hd]; exact ⟨h1, h2⟩

theorem GoX.len {n : List UInt8} (h : GoX n) : 3 ≤ n.length ∧ n.length ≤ 12 := by
 obtain ⟨r, rfl, _, hl⟩ := h
 simp; omega

theorem lett_all {P : UInt8 → Bool} (h : ∀ n : Fin 26, P (UInt8.ofNat (97 + n.val)) = true) {c : UInt8} (h1 : 97 ≤ c.toNat) (h2 : c.toNat ≤ 122) : P c = true := by
 have := h ⟨c.toNat - 97, by omega⟩
 rwa [show 97 + (c.toNat - 97) = c.toNat by omega, show UInt8.ofNat c.toNat = c by simp] at this

theorem GoX.all {n : List UInt8} (h : GoX n) {P : UInt8 → Bool} (h1 : P 88 = true) (h2 : P 45 = true) (h3 : P 113 = true) (hl : ∀ n : Fin 26, P (UInt8.ofNat (97 + n.val)) = true) : n.all P = true := by
 obtain ⟨r, rfl, hr, _⟩ := h
 simp only [List.all_cons, h1, h2, h3, Bool.true_and]
 rw [List.all_eq_true]
 intro c hc
 exact lett_all hl (hr c hc).1 (hr c hc).2

theorem GoX.tok {n : List UInt8} (h : GoX n) : tokL n = true := by
 unfold tokL
 rw [h.all (P := tokC) (by decide) (by decide) (by decide) (by decide)]
 obtain ⟨r, rfl, _⟩ := h
 rfl

theorem GoX.free {n : List UInt8} (h : GoX n) : n.all freeC = true := h.all (by decide) (by decide) (by decide) (by decide)

theorem GoX.ends {n : List UInt8} (h : GoX n) : Ends n := by
 have hb : n.all (fun c => !bl2 c) = true := h.all (by decide) (by decide) (by decide) (by decide)
 rw [List.all_eq_true] at hb
 refine ⟨?_, fun c hc => ?_, fun c hc => ?_⟩
 ·obtain ⟨r, rfl, _⟩ := h; simp
 ·simpa using hb c (List.mem_of_mem_head? (by rw [hc]; rfl))
 ·simpa using hb c (List.mem_of_getLast? hc)

theorem gox_low {n : List UInt8} (h : GoX n) : ∃ r, low n = 120 :: 45 :: 113 :: r := by
 obtain ⟨r, rfl, _⟩ := h
 exact ⟨low r, rfl⟩

theorem GoX.unsafe {n : List UInt8} (h : GoX n) : safeV n [118] = false := by
 obtain ⟨r, hr⟩ := gox_low h
 unfold safeV
 rw [hr]
 unfold sAccept sALang sCLang sCType sRange
 simp

def xqH (n : List UInt8) : List Hd := [⟨n, [118]⟩, ⟨[65, 99, 99, 101, 112, 116], [122]⟩]

def xqL (N : List (List UInt8)) : List Hd := N.flatMap xqH

def xqS (N : List (List UInt8)) : List UInt8 := N.flatMap (fun n => n ++ [44, 32])

def tXq : List UInt8 := [120, 45, 113]

theorem acc_safe : safeV [65, 99, 99, 101, 112, 116] [122] = true := by decide +kernel

theorem xqL_snoc (N : List (List UInt8)) (n : List UInt8) : xqL (N ++ [n]) = xqL N ++ [⟨n, [118]⟩] ++ [⟨[65, 99, 99, 101, 112, 116], [122]⟩] := by
 unfold xqL
 rw [List.flatMap_append, List.flatMap_singleton, List.append_assoc]
 rfl

theorem xqS_snoc (N : List (List UInt8)) (n : List UInt8) : xqS (N ++ [n]) = xqS N ++ n ++ [44, 32] := by
 unfold xqS
 rw [List.flatMap_append, List.flatMap_singleton, List.append_assoc]

theorem xqL_len : ∀ N : List (List UInt8), (xqL N).length = 2 * N.length
 | [] => rfl
 | n :: N => by
  have ih := xqL_len N
  unfold xqL at ih ⊢
  rw [List.flatMap_cons, List.length_append, ih]
  simp [xqH]; omega

theorem xqS_len : ∀ N : List (List UInt8), (∀ n ∈ N, GoX n) → (xqS N).length ≤ 14 * N.length
 | [], _ => Nat.le_refl _
 | n :: N, h => by
  have ih := xqS_len N fun x hx => h x (List.mem_cons_of_mem _ hx)
  have h1 := (h n (List.mem_cons_self ..)).len.2
  have e : xqS (n :: N) = (n ++ [44, 32]) ++ xqS N := rfl
  rw [e, List.length_append, List.length_append, List.length_cons]
  show n.length + 2 + (xqS N).length ≤ 14 * (N.length + 1)
  omega

theorem xqL_szd (N : List (List UInt8)) (h : ∀ n ∈ N, GoX n) : ∀ x ∈ xqL N, x.name.length ≤ 12 ∧ x.value.length ≤ 1 := by
 intro x hx
 obtain ⟨n, hn, hx⟩ := List.mem_flatMap.1 hx
 have := (h n hn).len.2
 simp [xqH] at hx
 rcases hx with rfl | rfl
 ·exact ⟨this, by simp⟩
 ·exact ⟨by simp, by simp⟩

theorem xq_oth : ∀ N : List (List UInt8), (∀ n ∈ N, GoX n) → othN (xqL N) = N.map low ∧ safZ (xqL N) = N.length
 | [], _ => ⟨rfl, rfl⟩
 | n :: N, h => by
  obtain ⟨h1, h2⟩ := xq_oth N fun x hx => h x (List.mem_cons_of_mem _ hx)
  have hu := (h n (List.mem_cons_self ..)).unsafe
  have e : xqL (n :: N) = [⟨n, [118]⟩] ++ [⟨[65, 99, 99, 101, 112, 116], [122]⟩] ++ xqL N := rfl
  have a1 : othN ([⟨n, [118]⟩] ++ [⟨[65, 99, 99, 101, 112, 116], [122]⟩]) = [low n] := by
   rw [oth_snoc, if_pos acc_safe]
   unfold othN nm18
   simp [hu]
  have a2 : safZ ([⟨n, [118]⟩] ++ [⟨[65, 99, 99, 101, 112, 116], [122]⟩]) = 1 := by
   rw [safz_snoc, if_pos acc_safe]
   unfold safZ
   simp [hu]
  have b1 : ∀ A B : List Hd, othN (A ++ B) = othN A ++ othN B := fun A B => by unfold othN; rw [List.filter_append, List.map_append]
  have b2 : ∀ A B : List Hd, safZ (A ++ B) = safZ A + safZ B := fun A B => by unfold safZ; rw [List.filter_append, List.map_append, List.sum_append]
  rw [e, b1, b2, a1, a2, h1, h2]
  exact ⟨rfl, by rw [List.length_cons]; omega⟩

theorem xq_uns (N : List (List UInt8)) (h : ∀ n ∈ N, GoX n) (hl : N.length ≤ 8) : unsV (xqL N) = srtN (N.map low) := by
 obtain ⟨h1, h2⟩ := xq_oth N h
 unfold unsV
 rw [h1, h2, if_neg (by omega), List.append_nil]

theorem low_ends : Ends tXq ∧ Closed tXq ∧ tokL tXq = true ∧ low tXq = tXq := by
 refine ⟨⟨by decide, fun c hc => ?_, fun c hc => ?_⟩, closed_free _ (by decide), by decide, by decide⟩
 ·simp [tXq] at hc; subst hc; decide
 ·simp [tXq] at hc; subst hc; decide

theorem xq_put : ∀ (m : Nat) (N : List (List UInt8)), N.length = m → (∀ n ∈ N, GoX n) → ∀ x, Ends x → Closed x → Put (xqS N ++ x) (N ++ [x])
 | 0, N, hm, h, x, he, hc => by
  obtain rfl := List.eq_nil_of_length_eq_zero hm
  exact put_one x hc he
 | m + 1, N, hm, h, x, he, hc => by
  have hne : N ≠ [] := fun e => by subst e; simp at hm
  obtain ⟨M, n, rfl⟩ : ∃ M n, N = M ++ [n] := ⟨_, _, (List.dropLast_concat_getLast hne).symm⟩
  have hg := h n (by simp)
  have ih := xq_put m M (by simpa using hm) (fun y hy => h y (by simp [hy])) n hg.ends (closed_free n hg.free)
  have := put_more ih [] [32] x rfl rfl hc he
  rw [xqS_snoc]
  simpa using this

theorem xq_ex (N : List (List UInt8)) (h : ∀ n ∈ N, GoX n) : exPs [⟨nEH, xqS N ++ tXq⟩] = N ++ [tXq] := by
 have hp := xq_put _ N rfl h tXq low_ends.1 low_ends.2.1
 have hs : selV [⟨nEH, xqS N ++ tXq⟩] nEH = [xqS N ++ tXq] := rfl
 unfold exPs pcsV
 have hb : getB [⟨nEH, xqS N ++ tXq⟩] nEH = true := by unfold getB; rw [hs]; rfl
 rw [hb, if_pos rfl]
 unfold splitV getT
 rw [hs, show Lib.join [xqS N ++ tXq] [44, 32] = xqS N ++ tXq by simp [Lib.join, List.intercalate]]
 exact put_split hp

theorem xq_all (N : List (List UInt8)) (h : ∀ n ∈ N, GoX n) : exAll [⟨nEH, xqS N ++ tXq⟩] false = false := by
 unfold exAll
 rw [xq_ex N h]
 unfold hasT
 rw [List.any_append, List.any_eq_false.2 ?_]
 ·decide
 ·intro x hx
  obtain ⟨r, rfl, _⟩ := h x hx
  simp

theorem exN_good : ∀ N : List (List UInt8), (∀ n ∈ N, GoX n) → exN (N ++ [tXq]) = N.map low ++ [tXq]
 | [], _ => by decide
 | n :: N, h => by
  have ih := exN_good N fun x hx => h x (List.mem_cons_of_mem _ hx)
  unfold exN at ih ⊢
  rw [List.cons_append, List.filter_cons, if_pos (h n (List.mem_cons_self ..)).tok, List.map_cons, ih]
  rfl

theorem xq_ext (N : List (List UInt8)) (h : ∀ n ∈ N, GoX n) : exT [⟨nEH, xqS N ++ tXq⟩] false = srtN (N.map low ++ [tXq]) := by
 unfold exT
 rw [xq_all N h, xq_ex N h, exN_good N h]
 rfl

theorem insN_len (x : List UInt8) : ∀ O : List (List UInt8), (insN x O).length = O.length ∨ (insN x O).length = O.length + 1
 | [] => .inr rfl
 | y :: t => by
  have ih := insN_len x t
  unfold insN
  split
  ·simp only [List.length_cons]; omega
  ·split
   ·exact .inl rfl
   ·exact .inr rfl

theorem xq_len (N : List (List UInt8)) : (srtN (N.map low ++ [tXq])).length = (srtN (N.map low)).length ∨ (srtN (N.map low ++ [tXq])).length = (srtN (N.map low)).length + 1 := by
 rw [srtN_snoc]
 exact insN_len _ _

theorem xq_low (N : List (List UInt8)) (h : ∀ n ∈ N, GoX n) : ∀ x ∈ N.map low, ∃ r, x = 120 :: 45 :: 113 :: r := by
 intro x hx
 obtain ⟨n, hn, rfl⟩ := List.mem_map.1 hx
 exact gox_low (h n hn)

theorem ltN_pre (r : List UInt8) : ltN (120 :: 45 :: 113 :: r) tXq = false := by
 unfold ltN tXq
 rw [cmp_cons, cmp_cons, cmp_cons]
 cases r <;> simp [Lib.compareBytes]

theorem xq_head (N : List (List UInt8)) (h : ∀ n ∈ N, GoX n) : ∃ t, srtN (N.map low ++ [tXq]) = tXq :: t := by
 have hf := srtN_facts (N.map low ++ [tXq])
 cases hs : srtN (N.map low ++ [tXq]) with
 | nil =>
  have := (hf.2.1 tXq).2 (by simp)
  rw [hs] at this
  cases this
 | cons a t =>
  have ha := (hf.2.1 a).1 (by rw [hs]; simp)
  have ht := (hf.2.1 tXq).2 (by simp)
  rw [hs] at ht
  rcases List.mem_cons.1 ht with e | e
  ·exact ⟨t, by rw [e]⟩
  ·have hp := hf.1
   rw [hs] at hp
   have hlt := (List.pairwise_cons.1 hp).1 tXq e
   obtain ⟨r, hr⟩ : ∃ r, a = 120 :: 45 :: 113 :: r := by
    rcases List.mem_append.1 ha with h1 | h1
    ·exact xq_low N h a h1
    ·exact ⟨[], List.mem_singleton.1 h1⟩
   rw [hr, ltN_pre] at hlt
   cases hlt

theorem xq_at (N : List (List UInt8)) (h : ∀ n ∈ N, GoX n) (i : Nat) (hi : i < (srtN (N.map low)).length) : ∃ r, (srtN (N.map low))[i] = 120 :: 45 :: 113 :: r :=
 xq_low N h _ (((srtN_facts (N.map low)).2.1 _).1 (List.getElem_mem hi))

theorem xq_lt (X : List (List UInt8)) (i : Nat) (hi : i + 1 < (srtN X).length) : ltN (srtN X)[i] (srtN X)[i + 1] = true :=
 List.pairwise_iff_getElem.1 (srtN_facts X).1 i (i + 1) (by omega) hi (Nat.lt_succ_self i)

end Go.Proofs.YtpopljcmkbchcaaGreatDoor

namespace Go.Proofs.YtpopljcmkbchcaaGreatDoor
open Go.RowKit

theorem drop_cons18 (s : ByteArray) (k : Nat) (h : k < s.size) : (s.data.toList.drop k).take 1 = [s[k]] := by
 have hl : k < s.data.toList.length := by simpa using h
 rw [List.drop_eq_getElem_cons hl]
 rfl

theorem word_app18 (s : ByteArray) (k : Nat) (h : k < s.size) (T : ByteArray) : (T ++ s.extract k (k + 1)).data.toList = T.data.toList ++ [s[k]] := by
 rw [ByteArray.data_append, Array.toList_append, Lib.extract_data, show k + 1 - k = 1 by omega, drop_cons18 s k h]

theorem less18 : ∀ a b : List UInt8, Op.bytesLess a b = ltN a b := less_ltN6

def XqI (N : List (List UInt8)) (w : World) (hv : Value) (SB : ByteArray) (wr : World) : Prop :=
 (∀ n ∈ N, GoX n) ∧ SB.data.toList = xqS N ∧ wr.ownsRow w.heap.size 45 2 hv (xqL N).length (cellsH (xqL N)) ∧ Below w.heap.size w wr

set_option maxHeartbeats 16000000 in
set_option maxRecDepth 100000 in
theorem corsNames_walk (v : Value) (L : List (List UInt8)) (w : World) (hv : TxAt w v L) (hz : ∀ x ∈ L, x.length ≤ maxLen) (hg : Gd w) (hg5 : G5 w) :
  Calls Tryz.prog 8 #[v] w fun e w' => e = .returned (.bool true) ∧ Below w.heap.size w w' := by
 obtain ⟨i0, hi, hz0, hz1, hzz2⟩ := info3 infoHd
 obtain ⟨a1, c1, rfl, hc1, hm1, hv1⟩ := hv.view
 have V1 := hid hv1
 have HZ := hid hz
 have HG := hid hg
 have HG5 := hid hg5
 have HK := hid (fun w hg => known18_any w hg)
 have hLm : L.length ≤ 9223372036854775807 := by unfold maxLen at hm1; omega
 obtain ⟨n, hn⟩ : ∃ n, n = L.length := ⟨_, rfl⟩
 have HN := hid hn
 rw [← hn] at hLm ⊢
 clear hv hv1 hz hg hg5 hn hc1 hm1
 go_enter Tryz.func8, Tryz.ntmps8
 go_wp2
 go_loopw [3, 4, 5, 6, 7] (fun hv sv iv x6 x7 wr => ∃ (i : Nat) (N : List (List UInt8)) (SB : ByteArray), N.length = i ∧ i ≤ 8 ∧ i ≤ n ∧ iv = .int .i64 i ∧ sv = .string SB ∧ SB.size ≤ 14 * i ∧ Hid (XqI N w hv SB wr)) (fun _ _ iv _ _ _ => n - (intOf iv).toNat)
 case atStart => exact ⟨0, [], ⟨#[]⟩, rfl, by decide, Nat.zero_le _, rfl, rfl, by decide, ⟨fun x hx => by simp at hx, rfl, World.ownsRow_nil _ _ _ _, Below.refl _ _⟩⟩
 case round =>
  obtain ⟨i, N, SB, hNl, hi8, hin, rfl, rfl, hSs, HI⟩ := hrel
  have HNl := hid hNl
  clear hNl
  by_cases hlt : i < n ∧ i < 8
  ·have hlt1 : (i : Int) < (n : Int) := by omega
   have hlt2 : (i : Int) < 8 := by omega
   have hiL : i < L.length := by have := HN.out; omega
   obtain ⟨b1, o1, rfl, e1⟩ := V1.out i hiL
   obtain ⟨X, hX⟩ : ∃ x : ByteArray, x = ⟨L[i].toArray⟩ := ⟨_, rfl⟩
   have hXz := HZ.out _ (List.getElem_mem hiL)
   have hXs : X.size ≤ 9223372036854775807 := by rw [hX, xsize]; exact hXz
   rw [← hX] at e1
   have f1 : wr.cell? ⟨b1, o1 + i, none⟩ = some (.string X) := (HI.out.2.2.2.cell (World.block_lt_of_cell? w _ e1)).trans e1
   have HO := hid HI.out.2.2.1
   obtain ⟨ha, hn', hc, rfl⟩ := ownsRow_slice HI.out.2.2.1
   have hww := HI.out.2.2.2.size
   have hxl := xqL_len N
   have HXl := hid hxl
   have hNl2 := HNl.out
   clear hX hXz e1
   go_wp2_with fail
   go_loop [6, 7] (fun nv kv => ∃ (k : Nat) (nB : ByteArray), k ≤ X.size ∧ kv = .int .i64 k ∧ nv = .string nB ∧ nB.size ≤ 12 ∧ Hid (GoX nB.data.toList)) (fun _ kv => X.size - (intOf kv).toNat)
   case atStart => exact ⟨0, _, Nat.zero_le _, rfl, rfl, by decide, gox_nil⟩
   case round =>
    obtain ⟨k, nB, hk, rfl, rfl, hns, HX⟩ := hrel
    by_cases hkl : k < X.size
    ·have hkl' : (k : Int) < (X.size : Int) := by omega
     by_cases h12 : nB.size < 12
     ·have h12' : (nB.size : Int) < 12 := by omega
      have hb := X[k].toNat_lt
      have HW := hid (word_app18 X k hkl nB)
      have hks : k + 1 ≤ X.size := by omega
      by_cases ha : 97 ≤ X[k].toNat
      ·by_cases hz : X[k].toNat ≤ 122
       ·have HNx := hid (show GoX (nB ++ X.extract k (k + 1)).data.toList by
         rw [HW.out]
         exact HX.out.snoc (by rw [← Lib.size_eq]; exact h12) _ ha hz)
        have hsz : (nB ++ X.extract k (k + 1)).size ≤ 12 := by rw [Lib.size_eq]; exact HNx.out.len.2
        have HSz := hid hsz
        clear hsz
        go_wp2
        go_round
        case rel => exact ⟨k + 1, _, by omega, by go_num, rfl, HSz.out, HNx⟩
        case measure => simp [intOf]; omega
       ·go_wp2
        go_round
        case rel => exact ⟨k + 1, nB, by omega, by go_num, rfl, hns, HX⟩
        case measure => simp [intOf]; omega
      ·have ha' : decide ((97 : Int) ≤ (X[k].toNat : Int)) = false := by rw [decide_eq_false_iff_not]; omega
       go_wp2
       go_round
       case rel => exact ⟨k + 1, nB, by omega, by go_num, rfl, hns, HX⟩
       case measure => simp [intOf]; omega
     ·have h12' : ¬ (nB.size : Int) < 12 := by omega
      have hxL := xqL_snoc N nB.data.toList
      have hxS := xqS_snoc N nB.data.toList
      have HW := hid (show (SB ++ nB ++ (⟨#[44, 32]⟩ : ByteArray)).data.toList = xqS (N ++ [nB.data.toList]) by
       rw [ByteArray.data_append, Array.toList_append, ByteArray.data_append, Array.toList_append, HI.out.2.1, hxS])
      have HL := hid (show cellsH (xqL (N ++ [nB.data.toList])) = cellsH (xqL N) ++ [.string nB, .string ⟨#[118]⟩, .string ⟨#[65, 99, 99, 101, 112, 116]⟩, .string ⟨#[122]⟩] by
       rw [hxL, cellsH_app, cellsH_app, cellsH_one, cellsH_one, List.append_assoc, Lib.mk_data]
       rfl)
      have HLn := hid (show (xqL (N ++ [nB.data.toList])).length = 2 * i + 2 by rw [xqL_len, List.length_append, HNl.out]; simp; omega)
      have hSB : SB.size + nB.size ≤ 9223372036854775807 := by omega
      have hSB2 : (SB ++ nB).size + 2 ≤ 9223372036854775807 := by rw [ByteArray.size_append]; omega
      clear hxL hxS
      go_wp2_with (at_builtin; go_must (refine wpList_append_own _ rfl _ _ 27 rfl w.heap.size 45 i0 (.agg #[.string ByteArray.empty, .string ByteArray.empty]) 2 32 Tryz.underlying27 hi hz0 hz1 hzz2 rfl (by decide) _ _ _ rfl (HO.out.alloc _) ⟨wr.heap.size, 0, none⟩ 2 2 [.string nB, .string ⟨#[118]⟩, .string ⟨#[65, 99, 99, 101, 112, 116]⟩, .string ⟨#[122]⟩] rfl rfl ?ca1 ?ca2 ?ca3 ?ca4 ?ca5 ?_))
      next => exact ⟨rfl, rfl, rfl, rfl⟩
      case ca3 => have := HXl.out; unfold maxLen; omega
      case ca4 => have := HXl.out; omega
      case ca5 => first | omega | (simp; omega)
      intro v5 w5 hown5 hgrow5 hnil5
      have HI5 := hid (show XqI (N ++ [nB.data.toList]) w v5 (SB ++ nB ++ (⟨#[44, 32]⟩ : ByteArray)) w5 from by
       refine ⟨fun x hx => ?_, HW.out, ?_, ?_⟩
       ·rcases List.mem_append.1 hx with hx | hx
        ·exact HI.out.1 x hx
        ·rw [List.mem_singleton.1 hx]; exact HX.out
       ·rw [HL.out, HLn.out]
        exact hown5
       ·exact (HI.out.2.2.2.alloc hww _).grown hgrow5 (by simp; omega) (fun g hg => (HO.out.lt g hg).1))
      have hs5 : (SB ++ nB ++ (⟨#[44, 32]⟩ : ByteArray)).size ≤ 14 * (i + 1) := by rw [ByteArray.size_append, ByteArray.size_append]; show SB.size + nB.size + 2 ≤ _; omega
      have HS5 := hid hs5
      clear hown5 hgrow5 hnil5 hs5
      go_wp2_with fail
      go_roundw
      case rel => exact ⟨i + 1, N ++ [nB.data.toList], _, by rw [List.length_append]; simpa using HNl.out, by omega, by omega, by go_num, rfl, HS5.out, HI5⟩
      case measure => simp [intOf]; omega
    ·have hkl' : ¬ (k : Int) < (X.size : Int) := by omega
     have hxL := xqL_snoc N nB.data.toList
     have hxS := xqS_snoc N nB.data.toList
     have HW := hid (show (SB ++ nB ++ (⟨#[44, 32]⟩ : ByteArray)).data.toList = xqS (N ++ [nB.data.toList]) by
      rw [ByteArray.data_append, Array.toList_append, ByteArray.data_append, Array.toList_append, HI.out.2.1, hxS])
     have HL := hid (show cellsH (xqL (N ++ [nB.data.toList])) = cellsH (xqL N) ++ [.string nB, .string ⟨#[118]⟩, .string ⟨#[65, 99, 99, 101, 112, 116]⟩, .string ⟨#[122]⟩] by
      rw [hxL, cellsH_app, cellsH_app, cellsH_one, cellsH_one, List.append_assoc, Lib.mk_data]
      rfl)
     have HLn := hid (show (xqL (N ++ [nB.data.toList])).length = 2 * i + 2 by rw [xqL_len, List.length_append, HNl.out]; simp; omega)
     have hSB : SB.size + nB.size ≤ 9223372036854775807 := by omega
     have hSB2 : (SB ++ nB).size + 2 ≤ 9223372036854775807 := by rw [ByteArray.size_append]; omega
     clear hxL hxS
     go_wp2_with (at_builtin; go_must (refine wpList_append_own _ rfl _ _ 27 rfl w.heap.size 45 i0 (.agg #[.string ByteArray.empty, .string ByteArray.empty]) 2 32 Tryz.underlying27 hi hz0 hz1 hzz2 rfl (by decide) _ _ _ rfl (HO.out.alloc _) ⟨wr.heap.size, 0, none⟩ 2 2 [.string nB, .string ⟨#[118]⟩, .string ⟨#[65, 99, 99, 101, 112, 116]⟩, .string ⟨#[122]⟩] rfl rfl ?cb1 ?cb2 ?cb3 ?cb4 ?cb5 ?_))
     next => exact ⟨rfl, rfl, rfl, rfl⟩
     case cb3 => have := HXl.out; unfold maxLen; omega
     case cb4 => have := HXl.out; omega
     case cb5 => first | omega | (simp; omega)
     intro v5 w5 hown5 hgrow5 hnil5
     have HI5 := hid (show XqI (N ++ [nB.data.toList]) w v5 (SB ++ nB ++ (⟨#[44, 32]⟩ : ByteArray)) w5 from by
      refine ⟨fun x hx => ?_, HW.out, ?_, ?_⟩
      ·rcases List.mem_append.1 hx with hx | hx
       ·exact HI.out.1 x hx
       ·rw [List.mem_singleton.1 hx]; exact HX.out
      ·rw [HL.out, HLn.out]
       exact hown5
      ·exact (HI.out.2.2.2.alloc hww _).grown hgrow5 (by simp; omega) (fun g hg => (HO.out.lt g hg).1))
     have hs5 : (SB ++ nB ++ (⟨#[44, 32]⟩ : ByteArray)).size ≤ 14 * (i + 1) := by rw [ByteArray.size_append, ByteArray.size_append]; show SB.size + nB.size + 2 ≤ _; omega
     have HS5 := hid hs5
     clear hown5 hgrow5 hnil5 hs5
     go_wp2_with fail
     go_roundw
     case rel => exact ⟨i + 1, N ++ [nB.data.toList], _, by rw [List.length_append]; simpa using HNl.out, by omega, by omega, by go_num, rfl, HS5.out, HI5⟩
     case measure => simp [intOf]; omega
  ·have hgx := HI.out.1
   have hUV := xq_uns N hgx (by have := HNl.out; omega)
   have hU0 := xq_lt (N.map low)
   have hU1 := xq_at N hgx
   obtain ⟨E, hE⟩ := xq_head N hgx
   have hEl := xq_len N
   have hA := xq_all N hgx
   have hT := xq_ext N hgx
   have hP := xq_ex N hgx
   have hSl := xqS_len N hgx
   have hLz := xqL_szd N hgx
   have hLl := xqL_len N
   rw [hE] at hT hEl
   have HUn := hid (fun (u : Value) (Y : World) (hY : Below w.heap.size w Y) (hu : HdAt Y u (xqL N)) => (unsafe18_any u (xqL N) Y (HG5.out.kept hY) hu (by have := HNl.out; omega) (fun x hx => by have := hLz x hx; omega)).mono fun e w' h => unR_of h)
   rw [hUV] at HUn
   obtain ⟨SX, hSX⟩ : ∃ X : ByteArray, X = SB ++ (⟨#[120, 45, 113]⟩ : ByteArray) := ⟨_, rfl⟩
   have hSXl : SX.data.toList = xqS N ++ tXq := by rw [hSX, ByteArray.data_append, Array.toList_append, HI.out.2.1]; rfl
   have hSXs : SX.size ≤ 115 := by rw [hSX, ByteArray.size_append]; show SB.size + 3 ≤ _; omega
   have HEx := hid (fun (u : Value) (Y : World) (hu : HdAt Y u [⟨nEH, xqS N ++ tXq⟩]) => (exposed18_any u [⟨nEH, xqS N ++ tXq⟩] false Y hu (fun x hx => by
    rw [List.mem_singleton.1 hx]
    refine ⟨by show nEH.length ≤ _; decide, ?_⟩
    show (xqS N ++ tXq).length ≤ _
    rw [← hSXl, ← Lib.size_eq]; omega) (by simp) (by
    unfold bulkV
    rw [← hSXl]
    simp only [List.map_cons, List.map_nil, List.sum_cons, List.sum_nil]
    rw [← Lib.size_eq]
    omega) (fun x hx => by
    rw [hP] at hx
    rcases List.mem_append.1 hx with hx | hx
    ·have := (hgx x hx).len.2; omega
    ·rw [List.mem_singleton.1 hx]; decide) (by rw [hP, List.length_append]; have := HNl.out; simp; omega)).mono fun e w' h => h.tx)
   rw [hA, hT, ← hSXl] at HEx
   unfold UnR at HUn
   unfold ExR at HEx
   have HHd := hid (own_hd HI.out.2.2.1)
   have HB := hid HI.out.2.2.2
   obtain ⟨ha, hn', hc, rfl⟩ := ownsRow_slice HI.out.2.2.1
   obtain ⟨U, hU⟩ : ∃ U, srtN (N.map low) = U := ⟨_, rfl⟩
   rw [hU] at HUn hEl
   have HUlt := hid (show ∀ (i : Nat) (hi : i + 1 < U.length), ltN U[i] U[i + 1] = true from fun i hi => by subst hU; exact hU0 i hi)
   have HUat := hid (show ∀ (i : Nat) (hi : i < U.length), ∃ r, U[i] = 120 :: 45 :: 113 :: r from fun i hi => by subst hU; exact hU1 i hi)
   have hUl : U.length ≤ 8 := by
    have := (srtN_facts (N.map low)).2.2
    rw [hU, List.length_map] at this
    have := HNl.out
    omega
   have HEl := hid hEl
   have HSX := hid hSX
   clear hgx hUV hU0 hU1 hE hEl hA hT hP hSl hLz hLl hSXl hSX hU
   have hstop : (¬ (i : Int) < (n : Int)) ∨ ((i : Int) < (n : Int) ∧ ¬ (i : Int) < 8) := by omega
   rcases hstop with hst | ⟨hst, hst8⟩
   all_goals
    go_wp2_with fail
    refine (HUn.out _ _ HB.out HHd.out).mono ?_
    rintro e w7 ⟨a7, n7, c7, rfl, htx, hb⟩
    have HB7 := hid (below2 HB.out hb)
    have HTu := hid htx
    clear htx
    clear hb
    have HLit := hid (hd_lit18 w7 [⟨nEH, SX.data.toList⟩] 1 rfl (by decide))
    have hce : (cellsH [⟨nEH, SX.data.toList⟩]).toArray = #[.string ⟨nEH.toArray⟩, .string SX] := by
     rw [cellsH_one]
    rw [hce] at HLit
    clear hce
    have hcat : SB ++ (⟨#[120, 45, 113]⟩ : ByteArray) = SX := HSX.out.symm
    go_wp2_with fail
    refine (HEx.out _ _ HLit.out).mono ?_
    rintro e w8 ⟨a8, n8, c8, rfl, htx, hb⟩
    have hb78 := below2 ((Below.refl _ w7).alloc (Nat.le_refl _) _) hb
    have HB8 := hid (below2 HB7.out hb78)
    have HTe := hid htx
    have HTu8 := hid (HTu.out.kept hb78)
    clear htx hb hb78 hcat HLit
    obtain ⟨a7', c7', hu', _, _, hvu⟩ := HTu8.out.view
    simp only [Value.slice.injEq] at hu'
    obtain ⟨rfl, rfl, rfl⟩ := hu'
    have HVu := hid hvu
    clear hvu
    go_wp2_with fail
    go_loopw [11] (fun kv wr => ∃ (k : Nat), k ≤ U.length ∧ kv = .int .i64 k ∧ Hid (Below w8.heap.size w8 wr)) (fun kv _ => U.length - (intOf kv).toNat)
    case atStart => exact ⟨0, Nat.zero_le _, rfl, Below.refl _ _⟩
    case round =>
     obtain ⟨k, hkl, rfl, HBw⟩ := hrel
     by_cases hk : k < U.length
     ·have hk' : (k : Int) < (U.length : Int) := by omega
      obtain ⟨b2, o2, rfl, g1⟩ := HVu.out k hk
      obtain ⟨r, hr⟩ := HUat.out k hk
      have hlt2 := HUlt.out
      have HVp := hid HVu.out
      obtain ⟨Y, hY⟩ : ∃ x : ByteArray, x = ⟨U[k].toArray⟩ := ⟨_, rfl⟩
      have hYl : U[k] = Y.data.toList := by rw [hY]
      rw [← hY] at g1
      have g2 : wr.cell? ⟨b2, o2 + k, none⟩ = some (.string Y) := (HBw.out.cell (World.block_lt_of_cell? w8 _ g1)).trans g1
      have hYr : Y.data.toList = 120 :: 45 :: 113 :: r := by rw [← hYl]; exact hr
      have hYs : 0 < Y.size := by rw [Lib.size_eq, hYr]; simp
      have hy0 : (Y[0].toNat : Int) = 120 := by
       have e : Y[0] = Y.data.toList[0]'(by rw [hYr]; simp) := rfl
       rw [e]
       simp only [hYr]
       rfl
      have hyn : ((Y[0].toNat : Int) != 120) = false := by rw [hy0]; rfl
      have HHr := hid hYl
      clear hY hr hYr g1
      by_cases hk0 : k = 0
      ·have hg0 : decide ((0 : Int) < (k : Int)) = false := by rw [decide_eq_false_iff_not]; omega
       have hg1 : decide (0 < k) = false := by rw [decide_eq_false_iff_not]; omega
       clear hk0 hlt2 HVp hYl
       go_wp2
       go_quiet (fail)
       go_wp2
       go_roundw
       case rel => exact ⟨k + 1, by omega, by go_num, Go.below_drewN HBw.out _⟩
       case measure => simp [intOf]; omega
      ·obtain ⟨j, hj⟩ : ∃ j, k = j + 1 := ⟨k - 1, by omega⟩
       obtain ⟨b3, o3, e3, g3⟩ := HVp.out j (by omega)
       injection e3 with e3
       injection e3 with e3a e3b
       subst e3a
       subst e3b
       obtain ⟨P, hP⟩ : ∃ x : ByteArray, x = ⟨(U[j]'(by omega)).toArray⟩ := ⟨_, rfl⟩
       have hPl : U[j]'(by omega) = P.data.toList := by rw [hP]
       rw [← hP] at g3
       have g4 : wr.cell? ⟨b2, o2 + j, none⟩ = some (.string P) := (HBw.out.cell (World.block_lt_of_cell? w8 _ g3)).trans g3
       have hlt3 : ltN P.data.toList Y.data.toList = true := by
        have h := hlt2 j (by omega)
        rw [← hPl, ← hYl]
        subst hj
        exact h
       have hless : Op.bytesLess Y.toList P.toList = false := by
        rw [less18, Lib.toList_data, Lib.toList_data]
        exact ltN_asymm hlt3
       have hneq : (Y.toList == P.toList) = false := by
        rw [Lib.toList_data, Lib.toList_data, beq_eq_false_iff_ne]
        intro e
        rw [e, ltN_irrefl] at hlt3
        cases hlt3
       have hw1 : IntKind.i64.wrap ((k : Int) - 1) = (j : Int) := by rw [IntKind.wrap_i64]; omega
       have hsub : (k : Int) - 1 = (j : Int) := by omega
       have hpos : (0 : Int) < (k : Int) := by omega
       have hjl : (j : Int) < (U.length : Int) := by omega
       have hpos2 : decide (0 < k) = true := by rw [decide_eq_true_eq]; omega
       have HJ := hid hj
       clear hk0 hlt2 hlt3 HVp hYl hP hPl g3 hj
       go_wp2
       go_quiet (fail)
       go_wp2
       go_roundw
       case rel => exact ⟨k + 1, by omega, by go_num, Go.below_drewN HBw.out _⟩
       case measure => simp [intOf]; omega
     ·have hk' : ¬ (k : Int) < (U.length : Int) := by omega
      obtain ⟨a8', c8', he', _, _, hve⟩ := HTe.out.view
      simp only [Value.slice.injEq] at he'
      obtain ⟨rfl, rfl, rfl⟩ := he'
      obtain ⟨b8, o8, rfl, g8⟩ := hve 0 (by simp)
      have g9 : wr.cell? ⟨b8, o8 + 0, none⟩ = some (.string ⟨#[120, 45, 113]⟩) := (HBw.out.cell (World.block_lt_of_cell? w8 _ g8)).trans g8
      have g10 : wr.cell? ⟨b8, o8, none⟩ = some (.string ⟨#[120, 45, 113]⟩) := g9
      have HBf := hid (HB8.out.trans (HBw.out.mono HB8.out.size))
      have hel := HEl.out
      have hcl : (tXq :: E).length ≤ 9 := by omega
      have hpos : 0 < (tXq :: E).length := by simp
      clear hve g8 HVu HTu8 HTe HUlt HUat HTu
      generalize (tXq :: E).length = el at *
      generalize U.length = ul at *
      have he0 : ((el : Int) == 0) = false := by rw [beq_eq_false_iff_ne]; omega
      have he1 : ¬ el = 0 := by omega
      have he2 : ¬ (el : Int) = 0 := by omega
      have he3 : (0 : Int) < (el : Int) := by omega
      have HKn := hid (HK.out wr (HG.out.kept HBf.out))
      rcases hel with hel | hel
      ·subst hel
       go_wp2_with fail
       refine HKn.out.mono ?_
       rintro e w9 ⟨rfl, hb9⟩
       have HB9 := hid (below2 HBf.out hb9)
       clear hb9
       go_wp2_with fail
       go_ret
       exact ⟨rfl, HB9.out⟩
      ·have hq1 : ((ul : Int) == (el : Int)) = false := by rw [beq_eq_false_iff_ne]; omega
       have hq2 : ((ul : Int) + 1 == (el : Int)) = true := by rw [beq_iff_eq]; omega
       have hq3 : ¬ (ul : Int) = (el : Int) := by omega
       have hq4 : (1 + (ul : Int) == (el : Int)) = true := by rw [beq_iff_eq]; omega
       have hull : (ul : Int) ≤ 8 := by omega
       have hul0 : (0 : Int) ≤ (ul : Int) := by omega
       have HQel := hid hel
       clear hel
       go_wp2_with fail
       refine HKn.out.mono ?_
       rintro e w9 ⟨rfl, hb9⟩
       have HB9 := hid (below2 HBf.out hb9)
       clear hb9
       go_wp2_with fail
       go_ret
       exact ⟨rfl, HB9.out⟩

end Go.Proofs.YtpopljcmkbchcaaGreatDoor
