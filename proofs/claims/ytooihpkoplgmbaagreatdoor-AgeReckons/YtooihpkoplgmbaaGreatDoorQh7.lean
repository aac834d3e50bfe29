/-
  Walks and plain facts that this claim leans on, put together out of 3 texts: Efa, Wb, Wr.
-/
import Derived.Test.YtooihpkoplgmbaaGreatDoorProg
import Derived.Test.YtooihpkoplgmbaaGreatDoorQh1
import Derived.Test.YtooihpkoplgmbaaGreatDoorQh3
import Derived.Test.YtooihpkoplgmbaaGreatDoorQh4
import Derived.Test.YtooihpkoplgmbaaGreatDoorQh5
import Derived.Test.YtooihpkoplgmbaaGreatDoorQh6
import Derived.BigRegion
import Derived.Deep.RegionHeld
import Derived.Deep.RegionHeldLaw
import Derived.Lib.IndexAny
import Derived.WalkKit
import Derived.Lib.UnsafeStr
import Derived.Lib.BufferRead
import Derived.Lib.RuneBytes
import Derived.Laws.RangeAny
import Derived.Deep.LoopGhost
import Derived.Maps.OwnSet
import Derived.Maps.OwnOps
import Derived.Maps.AppendAt
import Derived.StringKeys
import Derived.BigQuiet
import Derived.Deep.QuietTactic
import Derived.LoopN
import Derived.RegionTactic
import Derived.Deep.RegionLaw
import Derived.Deep.RegionWith
import Derived.WalkSpells
import Derived.WalkLawsBesides
import Derived.Lib.FieldsP
import Derived.Lib.DecodeN
import Derived.Lib.IndexMore
import Derived.Lib.Join
import Derived.Lib.SmallJoins
import Derived.Laws.CopyOwn
import Derived.Laws.ResultCell
import Derived.Deep.MidRow
import Derived.Laws.OwnMore
import Derived.Below
import Derived.WalkSmall
import Derived.Lib.LaidTab
import Derived.Lib.AppendIntMem
import Derived.Laws.AppendOwn
import Derived.Laws.Runes
import Derived.Lib.OthersKept
import Derived.Lib.FrozenHead2
import Derived.Lib.Builder
import Derived.Lib.AppendStr
import Derived.Lib.Replace
import Derived.Shelf.GgClosure.GivesRunes
import Derived.Laws.BitsAll
import Derived.Laws.Shifts
import Derived.Deep.DeepAppendRoom
import Derived.Laws.IdiomStrings
import Derived.Laws.BytesString
import Derived.Laws.CopyRow
import Derived.Sort.OwnSorted
import Derived.Lib.SlicesCompact
import Derived.Lib.Strings
import Derived.Laws.BitsAllLaws
import Derived.Lib.Bytealg
import Derived.Lib.BufferMore
import Derived.Shelf.Strings.Builder1
import Derived.Shelf.Strings.Builder2
import Derived.Shelf.Strings.OnBuilder
import Derived.Shelf.Strings.Trim
import Derived.Shelf.Small.Utf8
import Derived.Shelf.Small.Bits
import Derived.Shelf.Small.Strs
import Derived.Shelf.Small.Wraps
import Derived.Shelf.Strings.BuilderF
import Derived.Shelf.Strings.BuilderK
import Derived.Shelf.Utf8.RuneCount
import Derived.Shelf.Strings.Builder2Cap
import Derived.Shelf.Strconv.Itoa0
import Derived.Shelf.Strconv.Itoa1
import Derived.Shelf.LaysM
import Derived.Shelf.Strconv.Itoa2
import Derived.Shelf.Strconv.Itoa3
import Derived.Shelf.Strings.Search1
import Derived.Shelf.Strings.Search2
import Derived.Shelf.Strings.Search3
import Derived.Shelf.Strings.Cut
import Derived.Shelf.Strings.Count
import Derived.Shelf.Strings.Shaped
import Derived.Shelf.Sort.Plain
import Derived.Shelf.Strings.LastIndex
import Derived.Shelf.Strings.Prefix
import Derived.Shelf.Strings.Split
import Derived.Shelf.Strings.Replace
import Derived.Shelf.Strings.SplitShaped
import Derived.Shelf.Unicode.Decode
import Derived.Shelf.Strings.Runes
import Derived.Shelf.Strings.RuneCount
import Derived.Shelf.Strings.IndexAny
import Derived.Shelf.Strings.AsciiSet
import Derived.Shelf.Strings.IndexAnyAll
import Derived.Shelf.Strings.Explode
import Derived.Shelf.Unicode.DecodeSlow
import Derived.Shelf.Unicode.DecodeAny
import Derived.Shelf.Unicode.DecodeLast
import Derived.Shelf.Strings.FieldsFuncAny
import Derived.Shelf.Strings.FieldsFuncGrows
import Derived.Shelf.Slices.Equal
import Derived.Ground.Names2Prog
import Derived.Shelf.Slices.Clone
import Derived.Shelf.Slices.CompactS
import Derived.Shelf.Slices.Cells
import Derived.Shelf.Slices.In.SortNone
import Derived.Ground.SlgnProg
import Derived.Shelf.SlicesE.Equal
import Derived.Shelf.SlicesE.Clone
import Derived.Lib.SlTrimSet
import Derived.Shelf.Strings.SlTrimAscii
import Derived.Deep.CutRange
import Derived.Laws.Rows
import Derived.Laws.MakeOwn
import Derived.Deep.WholeRow
import Derived.Laws.AppendOwnNone
set_option linter.unusedSimpArgs false
set_option linter.unusedVariables false

namespace Go.Proofs.YtooihpkoplgmbaaGreatDoor
open Go.RowKit

structure Ctl where
 ns : Bool
 nc : Bool
 mx : Int
deriving DecidableEq

def nCC : List UInt8 := [99, 97, 99, 104, 101, 45, 99, 111, 110, 116, 114, 111, 108]

def nAg : List UInt8 := [97, 103, 101]

def nVy : List UInt8 := [118, 97, 114, 121]

def tNS : List UInt8 := [110, 111, 45, 115, 116, 111, 114, 101]

def tNC : List UInt8 := [110, 111, 45, 99, 97, 99, 104, 101]

def tMA : List UInt8 := [109, 97, 120, 45, 97, 103, 101]

def unqV (s : List UInt8) : List UInt8 := if Lib.hasPrefix s [34] && Lib.hasSuffix (Lib.trimPrefix s [34]) [34] then Lib.trimSuffix (Lib.trimPrefix s [34]) [34] else s

theorem suffix_one (l : List UInt8) (c : UInt8) : Lib.hasSuffix l [c] = true ↔ ∃ a, l = a ++ [c] := by
 unfold Lib.hasSuffix
 rw [List.isSuffixOf_iff_suffix]
 constructor
 ·rintro ⟨a, h⟩; exact ⟨a, h.symm⟩
 ·rintro ⟨a, h⟩; exact ⟨a, h.symm⟩

theorem unq_yes (a : List UInt8) : unqV (34 :: (a ++ [34])) = a := by
 have h1 : Lib.hasPrefix (34 :: (a ++ [34])) [34] = true := by simp [Lib.hasPrefix, List.isPrefixOf]
 have h2 : Lib.trimPrefix (34 :: (a ++ [34])) [34] = a ++ [34] := by unfold Lib.trimPrefix; rw [h1]; simp
 have h3 : Lib.hasSuffix (a ++ [34]) [34] = true := (suffix_one _ _).2 ⟨a, rfl⟩
 unfold unqV
 rw [h1, h2, h3]
 unfold Lib.trimSuffix
 rw [h3]
 simp

theorem unq_no (s : List UInt8) (h : ∀ a, s ≠ 34 :: (a ++ [34])) : unqV s = s := by
 unfold unqV
 rw [if_neg]
 intro hb
 rw [Bool.and_eq_true] at hb
 obtain ⟨h1, h2⟩ := hb
 cases s with
 | nil => simp [Lib.hasPrefix, List.isPrefixOf] at h1
 | cons c r =>
  have hc : c = 34 := by simp [Lib.hasPrefix, List.isPrefixOf] at h1; exact h1.symm
  subst hc
  have h3 : Lib.trimPrefix (34 :: r) [34] = r := by unfold Lib.trimPrefix; rw [h1]; simp
  rw [h3] at h2
  obtain ⟨a, rfl⟩ := (suffix_one _ _).1 h2
  exact h a rfl

theorem unq_le (s : List UInt8) : (unqV s).length ≤ s.length := by
 unfold unqV
 split
 ·unfold Lib.trimSuffix Lib.trimPrefix
  split <;> split <;> simp <;> omega
 ·exact Nat.le_refl _

def apN (p : List UInt8) : List UInt8 := low (strip (part 61 p).1)

def apV (p : List UInt8) : List UInt8 := unqV (strip (part 61 p).2.1)

def ctlS (c : Ctl) (p : List UInt8) : Ctl :=
 if apN p = tNS then ⟨true, c.nc, c.mx⟩ else if apN p = tNC then ⟨c.ns, true, c.mx⟩ else if apN p = tMA then ⟨c.ns, c.nc, if intOk (apV p) && decide (c.mx = -1) then intV (apV p) else c.mx⟩ else c

def ctl0 : Ctl := ⟨false, false, -1⟩

def ctlP (P : List (List UInt8)) : Ctl := P.foldl ctlS ctl0

def ctlV (L : List Hd) : Ctl := ctlP (pcsV L nCC)

theorem ctlP_snoc (P : List (List UInt8)) (p : List UInt8) : ctlP (P ++ [p]) = ctlS (ctlP P) p := by simp [ctlP]

theorem ctlP_take (P : List (List UInt8)) (k : Nat) (h : k < P.length) : ctlP (P.take (k + 1)) = ctlS (ctlP (P.take k)) P[k] := by
 rw [List.take_add_one, List.getElem?_eq_getElem h, ← ctlP_snoc]
 rfl

theorem intV_range (l : List UInt8) : 0 ≤ intV l ∧ intV l ≤ 9223372036854775807 := by
 unfold intV
 split
 ·rename_i h
  rw [Bool.and_eq_true] at h
  exact numI_range l h.1
 ·omega

theorem ctlS_mx {c : Ctl} {p : List UInt8} (h : -1 ≤ c.mx ∧ c.mx ≤ 9223372036854775807) : -1 ≤ (ctlS c p).mx ∧ (ctlS c p).mx ≤ 9223372036854775807 := by
 have := intV_range (apV p)
 unfold ctlS
 split
 ·exact h
 ·split
  ·exact h
  ·split
   ·simp only; split <;> omega
   ·exact h

theorem ctlP_mx (P : List (List UInt8)) : -1 ≤ (ctlP P).mx ∧ (ctlP P).mx ≤ 9223372036854775807 := by
 suffices H : ∀ (P : List (List UInt8)) (c : Ctl), (-1 ≤ c.mx ∧ c.mx ≤ 9223372036854775807) → -1 ≤ (P.foldl ctlS c).mx ∧ (P.foldl ctlS c).mx ≤ 9223372036854775807 from H P ctl0 (by decide)
 intro P
 induction P with
 | nil => intro c h; exact h
 | cons p P ih => intro c h; exact ih _ (ctlS_mx h)

def addV (a b : Int) : Int := if 9223372036854775807 < a + b then 9223372036854775807 else if a + b < 0 then 0 else a + b

def sinV (s n : Int) : Int := if n ≤ s then 0 else if 9223372036854775807 < n - s then 9223372036854775807 else n - s

def ageV (L : List Hd) (s n : Int) : Int := addV (intV (strip (getT L nAg))) (sinV s n)

def freV (L : List Hd) (s n : Int) : Bool := !(ctlV L).nc && decide (ageV L s n < (ctlV L).mx)

theorem sinV_range (s n : Int) : 0 ≤ sinV s n ∧ sinV s n ≤ 9223372036854775807 := by unfold sinV; split <;> (try split) <;> omega

def vrS (P : List (List UInt8)) : List (List UInt8) := (P.filter (fun p => !p.isEmpty)).map low

def vrOk (P : List (List UInt8)) : Bool := !P.contains [42]

theorem vrS_snoc (P : List (List UInt8)) (p : List UInt8) : vrS (P ++ [p]) = if p = [] then vrS P else vrS P ++ [low p] := by
 unfold vrS
 rw [List.filter_append, List.map_append]
 cases p with
 | nil => simp
 | cons a b => simp

theorem vrS_take (P : List (List UInt8)) (k : Nat) (h : k < P.length) : vrS (P.take (k + 1)) = if P[k] = [] then vrS (P.take k) else vrS (P.take k) ++ [low P[k]] := by
 rw [List.take_add_one, List.getElem?_eq_getElem h, ← vrS_snoc]
 rfl

theorem vrS_len (P : List (List UInt8)) : (vrS P).length ≤ P.length := by
 unfold vrS; rw [List.length_map]; exact List.length_filter_le _ _

theorem low_len16 (l : List UInt8) : (low l).length = l.length := by simp [low]

theorem vrS_szd (P : List (List UInt8)) (m : Nat) (h : ∀ p ∈ P, p.length ≤ m) : ∀ x ∈ vrS P, x.length ≤ m := by
 intro x hx
 unfold vrS at hx
 obtain ⟨p, hp, rfl⟩ := List.mem_map.1 hx
 rw [low_len16]
 exact h p (List.mem_filter.1 hp).1

theorem vrOk_stop (P : List (List UInt8)) (k : Nat) (h : k < P.length) (he : P[k] = [42]) : vrOk P = false := by
 unfold vrOk
 have : [42] ∈ P := by rw [← he]; exact List.getElem_mem h
 simp [this]

theorem vrOk_all (P : List (List UInt8)) (h : ∀ j (hj : j < P.length), P[j] ≠ [42]) : vrOk P = true := by
 unfold vrOk
 have : ¬ [42] ∈ P := fun hm => by
  obtain ⟨j, hj, e⟩ := List.getElem_of_mem hm
  exact h j hj e
 simp [this]

def srt16 (X : List (List UInt8)) : List (List UInt8) := X.mergeSort fun x y => decide (x ≤ y)

theorem srt16_len (X : List (List UInt8)) : (srt16 X).length = X.length := by unfold srt16; exact List.length_mergeSort ..

theorem srt16_mem (X : List (List UInt8)) (t : List UInt8) : t ∈ srt16 X ↔ t ∈ X := by unfold srt16; exact List.mem_mergeSort

theorem srt16_pair (X : List (List UInt8)) : (srt16 X).Pairwise (fun a b => a ≤ b) := by
 have h := List.pairwise_mergeSort (le := fun x y : List UInt8 => decide (x ≤ y)) (fun a b c h1 h2 => by
  simp only [decide_eq_true_eq] at *
  exact List.le_trans h1 h2) (fun a b => by
  simp only [Bool.or_eq_true, decide_eq_true_eq]
  exact List.le_total a b) X
 exact h.imp (fun h => by simpa using h)

theorem le_ltN (a b : List UInt8) : a ≤ b ↔ ltN b a = false := by
 have h : ltN b a = decide (b < a) := by rw [← less_ltN6, bytesLess_eq]
 rw [h, decide_eq_false_iff_not, List.not_lt]

theorem pw_one : ∀ (A B : List (List UInt8)), A.Pairwise (fun a b => ltN a b = true) → B.Pairwise (fun a b => ltN a b = true) → (∀ n, n ∈ A ↔ n ∈ B) → A = B
 | [], [], _, _, _ => rfl
 | [], b :: B, _, _, h => absurd ((h b).2 (by simp)) (by simp)
 | a :: A, [], _, _, h => absurd ((h a).1 (by simp)) (by simp)
 | a :: A, b :: B, hA, hB, h => by
  have hA2 := List.pairwise_cons.1 hA
  have hB2 := List.pairwise_cons.1 hB
  have hab : a = b := by
   rcases List.mem_cons.1 ((h a).1 (by simp)) with h1 | h1
   ·exact h1
   ·rcases List.mem_cons.1 ((h b).2 (by simp)) with h2 | h2
    ·exact h2.symm
    ·have h3 := hB2.1 a h1
     have h4 := hA2.1 b h2
     rw [ltN_asymm h3] at h4
     cases h4
  subst hab
  refine congrArg _ (pw_one A B hA2.2 hB2.2 fun n => ?_)
  constructor
  ·intro hn
   rcases List.mem_cons.1 ((h n).1 (by simp [hn])) with h1 | h1
   ·subst h1; have := hA2.1 n hn; rw [ltN_irrefl] at this; cases this
   ·exact h1
  ·intro hn
   rcases List.mem_cons.1 ((h n).2 (by simp [hn])) with h1 | h1
   ·subst h1; have := hB2.1 n hn; rw [ltN_irrefl] at this; cases this
   ·exact h1

theorem compact_upto (zs : List (List UInt8)) (hs : zs.Pairwise (fun a b => a ≤ b)) : ∀ m, m ≤ zs.length →
  (Lib.compactUpTo zs.toArray m).Pairwise (fun a b => ltN a b = true) ∧ (∀ n, n ∈ Lib.compactUpTo zs.toArray m ↔ n ∈ zs.take m) ∧ (Lib.compactUpTo zs.toArray m).length ≤ m ∧ ∀ j (hj : j < zs.length), j + 1 = m → ∀ x ∈ Lib.compactUpTo zs.toArray m, x = zs[j] ∨ ltN x zs[j] = true := by
 intro m
 induction m with
 | zero => intro _; exact ⟨by simp [Lib.compactUpTo], fun n => by simp [Lib.compactUpTo], by simp [Lib.compactUpTo], fun j hj h => by omega⟩
 | succ m ih =>
  intro hm
  obtain ⟨h1, h2, h3, h4⟩ := ih (by omega)
  have hmz : m < zs.length := by omega
  have hg : zs.toArray[m]! = zs[m] := by rw [getElem!_pos _ _ (by simpa using hmz)]; simp
  rw [Lib.compactUpTo_succ, hg]
  have htk : zs.take (m + 1) = zs.take m ++ [zs[m]] := by rw [List.take_add_one, List.getElem?_eq_getElem hmz]; rfl
  have hle : ∀ j (hj : j < zs.length), j < m → zs[j] ≤ zs[m] := fun j hj hjm => List.pairwise_iff_getElem.1 hs j m hj hmz hjm
  cases hk : Lib.keeps zs.toArray m with
  | true =>
   have hlt : ∀ x ∈ Lib.compactUpTo zs.toArray m, ltN x zs[m] = true := by
    intro x hx
    by_cases h0 : m = 0
    ·subst h0; simp [Lib.compactUpTo] at hx
    ·obtain ⟨k, rfl⟩ : ∃ k, m = k + 1 := ⟨m - 1, by omega⟩
     have hne : zs[k + 1] ≠ zs[k] := by
      unfold Lib.keeps at hk
      rw [decide_eq_true_eq] at hk
      rcases hk with hk | hk
      ·omega
      ·rw [hg, Nat.add_sub_cancel, getElem!_pos _ _ (by simp; omega)] at hk
       simpa using hk
     have hkk : ltN zs[k] zs[k + 1] = true := by
      have h5 := (le_ltN _ _).1 (hle k (by omega) (by omega))
      rcases ltN_total zs[k] zs[k + 1] with h6 | h6 | h6
      ·exact h6
      ·exact absurd h6.symm hne
      ·rw [h5] at h6; cases h6
     rcases h4 k (by omega) rfl x hx with rfl | h5
     ·exact hkk
     ·exact ltN_trans h5 hkk
   rw [if_pos rfl]
   refine ⟨?_, fun n => ?_, by simp; omega, fun j hj e x hx => ?_⟩
   ·rw [List.pairwise_append]
    exact ⟨h1, by simp, fun a ha b hb => by rw [List.mem_singleton.1 hb]; exact hlt a ha⟩
   ·rw [htk, List.mem_append, List.mem_append, h2 n]
   ·have : j = m := by omega
    subst this
    rcases List.mem_append.1 hx with hx | hx
    ·exact .inr (hlt x hx)
    ·exact .inl (List.mem_singleton.1 hx)
  | false =>
   have hm0 : m ≠ 0 := fun e => by subst e; simp [Lib.keeps] at hk
   obtain ⟨k, rfl⟩ : ∃ k, m = k + 1 := ⟨m - 1, by omega⟩
   have heq : zs[k + 1] = zs[k] := by
    unfold Lib.keeps at hk
    rw [decide_eq_false_iff_not] at hk
    rw [hg, Nat.add_sub_cancel, getElem!_pos _ _ (by simp; omega)] at hk
    simp at hk
    exact hk
   rw [if_neg (by simp), List.append_nil]
   refine ⟨h1, fun n => ?_, by omega, fun j hj e x hx => ?_⟩
   ·rw [htk, List.mem_append, h2 n, List.mem_singleton]
    constructor
    ·exact .inl
    ·rintro (h | h)
     ·exact h
     ·rw [h, heq, List.mem_take_iff_getElem]
      exact ⟨k, by omega, rfl⟩
   ·have : j = k + 1 := by omega
    subst this
    rw [heq]
    exact h4 k (by omega) rfl x hx

theorem compact_srt (X : List (List UInt8)) : Lib.compact (srt16 X) = srtN X := by
 obtain ⟨h1, h2, h3, _⟩ := compact_upto (srt16 X) (srt16_pair X) (srt16 X).length (Nat.le_refl _)
 have hf := srtN_facts X
 refine pw_one _ _ h1 hf.1 fun n => ?_
 rw [show Lib.compact (srt16 X) = Lib.compactUpTo (srt16 X).toArray (srt16 X).length from rfl, h2 n, hf.2.1 n, List.take_length, srt16_mem]

end Go.Proofs.YtooihpkoplgmbaaGreatDoor

namespace Go.Proofs.YtooihpkoplgmbaaGreatDoor
open Go.RowKit

theorem sizeBuilder : (Tryz.prog.info? 165).map (·.size) = some 2 := by kernel_rfl

theorem liesBuilder : liesAt Tryz.prog Tryz.prog.depth 165 (2 / Tryz.prog.cellsOf 165) 0 165 1 = true := by kernel_rfl

theorem infoByte : (Tryz.prog.info? 5).map (fun i => (i.zero, i.size, i.bytes)) = some (some (.int .u8 0), 1, 1) := by kernel_rfl

end Go.Proofs.YtooihpkoplgmbaaGreatDoor

namespace Go.Proofs.YtooihpkoplgmbaaGreatDoor
open Go.RowKit

theorem ownsRow_same {w w' : World} {B : Nat} {e : TypeId} {size : Nat} {v : Value} {n : Nat} {xs : List Value} (h : w.ownsRow B e size v n xs) (hk : ∀ g, v.ownBlock = some g → w'.heap[g]? = w.heap[g]?) : w'.ownsRow B e size v n xs := by
 refine ⟨h.1, ?_⟩
 rcases h.2 with hn | ⟨g, cap, cur, rfl, hb, hgg, rest⟩
 ·exact .inl hn
 ·exact .inr ⟨g, cap, cur, rfl, hb, (hk g rfl).trans hgg, rest⟩

end Go.Proofs.YtooihpkoplgmbaaGreatDoor
