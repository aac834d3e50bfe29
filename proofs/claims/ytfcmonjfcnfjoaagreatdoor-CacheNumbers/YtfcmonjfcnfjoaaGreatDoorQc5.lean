/-
  Walks and plain facts that this claim leans on, put together out of 12 texts: Ba, Bb, Bd, Be, Bf, Bg, Bi, Bj, Cb, Cf, Yrg, Cg.
-/
import Derived.Test.YtfcmonjfcnfjoaaGreatDoorProg
import Derived.Test.YtfcmonjfcnfjoaaGreatDoorQc1
import Derived.Test.YtfcmonjfcnfjoaaGreatDoorQc2
import Derived.Test.YtfcmonjfcnfjoaaGreatDoorQc3
import Derived.Test.YtfcmonjfcnfjoaaGreatDoorQc4
import Derived.WalkKit
import Derived.Lib.Strings
import Derived.Lib.UnsafeStr
import Derived.Laws.IdiomStrings
import Derived.Laws.AppendOwn
import Derived.Laws.BitsAllLaws
import Derived.Lib.Bytealg
import Derived.Lib.BufferMore
import Derived.LoopN
import Derived.Shelf.Strings.Builder1
import Derived.Shelf.Strings.Builder2
import Derived.Shelf.Strings.OnBuilder
import Derived.Shelf.Strings.Trim
import Derived.Shelf.Small.Utf8
import Derived.Shelf.Small.Bits
import Derived.Shelf.Small.Strs
import Derived.Shelf.Small.Wraps
import Derived.Shelf.Strings.BuilderF
import Derived.Shelf.Strings.BuilderK
import Derived.Shelf.Strings.Builder2Cap
import Derived.Shelf.Strconv.Itoa0
import Derived.Shelf.Strconv.Itoa1
import Derived.Shelf.LaysM
import Derived.Shelf.Strconv.Itoa2
import Derived.Shelf.Strconv.Itoa3
import Derived.Shelf.Strings.Search1
import Derived.Shelf.Strings.Search2
import Derived.Shelf.Strings.Cut
import Derived.Shelf.Strings.Shaped
import Derived.Shelf.Sort.Plain
import Derived.Shelf.Strings.Prefix
import Derived.Shelf.Strings.Runes
import Derived.Shelf.Strings.IndexAny
import Derived.Shelf.Strings.AsciiSet
import Derived.Shelf.Strings.IndexAnyAll
import Derived.Shelf.Unicode.DecodeSlow
import Derived.Shelf.Unicode.DecodeAny
import Derived.Shelf.Unicode.DecodeLast
import Derived.Shelf.Slices.CompactS
import Derived.Shelf.Slices.In.SortNone
import Derived.WalkSpells
import Derived.WalkLawsBesides
import Derived.Lib.SlTrimSet
import Derived.Lib.Join
import Derived.Lib.IndexMore
import Derived.Laws.OwnMore
import Derived.Below
import Derived.WalkSmall
import Derived.Lib.SmallJoins
import Derived.Deep.QuietTactic
import Derived.BigQuiet
import Derived.Deep.LoopGhost
import Derived.Deep.MidRow
import Derived.Shelf.Strings.SlTrimAscii
import Derived.Deep.CutRange
import Derived.Laws.Rows
import Derived.Laws.CopyOwn
import Derived.Laws.MakeOwn
import Derived.Laws.RangeAny
import Derived.Lib.DecodeN
import Derived.Lib.OthersKept
import Derived.RegionTactic
import Derived.Deep.RegionWith
import Derived.Laws.Runes
import Derived.Deep.WholeRow
import Derived.Deep.RegionLaw
import Derived.Deep.RegionHeldLaw
import Derived.Laws.AppendOwnNone
import Derived.BigRegion
import Derived.Deep.RegionHeld
import Derived.Lib.IndexAny
import Derived.Lib.BufferRead
import Derived.Lib.RuneBytes
import Derived.Maps.OwnSet
import Derived.Maps.OwnOps
import Derived.Maps.AppendAt
import Derived.StringKeys
import Derived.Lib.FieldsP
import Derived.Laws.ResultCell
import Derived.Lib.LaidTab
import Derived.Lib.AppendIntMem
import Derived.Lib.FrozenHead2
import Derived.Lib.Builder
import Derived.Lib.AppendStr
import Derived.Lib.Replace
import Derived.Shelf.GgClosure.GivesRunes
import Derived.Laws.BitsAll
import Derived.Laws.Shifts
import Derived.Deep.DeepAppendRoom
import Derived.Laws.BytesString
import Derived.Laws.CopyRow
set_option linter.unusedSimpArgs false
set_option linter.unusedVariables false

namespace Go.Proofs.YtfcmonjfcnfjoaaGreatDoor
open Go.RowKit

def ltN (a b : List UInt8) : Bool := decide (Lib.compareBytes a b < 0)

theorem cmp_cons (x y : UInt8) (a b : List UInt8) : Lib.compareBytes (x :: a) (y :: b) = if x < y then -1 else if y < x then 1 else Lib.compareBytes a b := rfl

theorem cmp_anti : ∀ (a b : List UInt8), Lib.compareBytes a b = - Lib.compareBytes b a
 | [], [] => rfl
 | [], _ :: _ => rfl
 | _ :: _, [] => rfl
 | x :: a, y :: b => by
  rw [cmp_cons, cmp_cons]
  have := cmp_anti a b
  by_cases h1 : x < y
  ·have h2 : ¬ y < x := fun h => absurd (UInt8.lt_trans h1 h) (UInt8.lt_irrefl _)
   simp [h1, h2]
  ·by_cases h2 : y < x
   ·simp [h1, h2]
   ·simp [h1, h2, this]

theorem cmp_zero : ∀ (a b : List UInt8), Lib.compareBytes a b = 0 → a = b
 | [], [], _ => rfl
 | [], _ :: _, h => by cases h
 | _ :: _, [], h => by cases h
 | x :: a, y :: b, h => by
  rw [cmp_cons] at h
  by_cases h1 : x < y
  ·simp [h1] at h
  ·by_cases h2 : y < x
   ·simp [h1, h2] at h
   ·simp [h1, h2] at h
    have : x = y := by
     apply UInt8.toNat_inj.1
     rw [UInt8.lt_iff_toNat_lt] at h1 h2
     omega
    rw [this, cmp_zero a b h]

theorem cmp_self : ∀ a : List UInt8, Lib.compareBytes a a = 0
 | [] => rfl
 | x :: a => by rw [cmp_cons, if_neg (UInt8.lt_irrefl _), if_neg (UInt8.lt_irrefl _)]; exact cmp_self a

theorem cmp_trans : ∀ (a b c : List UInt8), Lib.compareBytes a b < 0 → Lib.compareBytes b c < 0 → Lib.compareBytes a c < 0
 | [], _, [], _, h2 => by
  rename_i b h1
  cases b with
  | nil => simp [Lib.compareBytes] at h1
  | cons y b => simp [Lib.compareBytes] at h2
 | [], _, _ :: _, _, _ => by simp [Lib.compareBytes]
 | x :: a, [], _, h1, _ => by simp [Lib.compareBytes] at h1
 | x :: a, y :: b, [], _, h2 => by simp [Lib.compareBytes] at h2
 | x :: a, y :: b, z :: c, h1, h2 => by
  rw [cmp_cons] at h1 h2 ⊢
  simp only [UInt8.lt_iff_toNat_lt] at h1 h2 ⊢
  have ih := cmp_trans a b c
  split at h1
  ·split at h2
   ·rw [if_pos (by omega)]; decide
   ·split at h2
    ·omega
    ·rw [if_pos (by omega)]; decide
  ·split at h1
   ·omega
   ·split at h2
    ·rw [if_pos (by omega)]; decide
    ·split at h2
     ·omega
     ·rw [if_neg (by omega), if_neg (by omega)]; exact ih h1 h2

theorem ltN_irrefl (a : List UInt8) : ltN a a = false := by unfold ltN; rw [cmp_self]; rfl

theorem ltN_trans {a b c : List UInt8} (h1 : ltN a b = true) (h2 : ltN b c = true) : ltN a c = true := by
 unfold ltN at *; simp at *; exact cmp_trans a b c h1 h2

theorem ltN_asymm {a b : List UInt8} (h : ltN a b = true) : ltN b a = false := by
 cases h2 : ltN b a with
 | false => rfl
 | true => have := ltN_trans h h2; rw [ltN_irrefl] at this; cases this

theorem ltN_total (a b : List UInt8) : ltN a b = true ∨ a = b ∨ ltN b a = true := by
 have h := cmp_anti a b
 rcases Int.lt_trichotomy (Lib.compareBytes a b) 0 with h1 | h1 | h1
 ·left; unfold ltN; simpa using h1
 ·right; left; exact cmp_zero a b h1
 ·right; right; unfold ltN; simp; omega

theorem leN_trans {a b c : List UInt8} (h1 : ltN b a = false) (h2 : ltN c b = false) : ltN c a = false := by
 cases h3 : ltN c a with
 | false => rfl
 | true =>
  rcases ltN_total a b with h | h | h
  ·have := ltN_trans h3 h; rw [h2] at this; cases this
  ·subst h; rw [h3] at h2; cases h2
  ·rw [h1] at h; cases h

def nmAt (M : List Hd) (i : Nat) : List UInt8 := (M.getD i ⟨[], []⟩).name

def Srt (M : List Hd) (b : Nat) : Prop := ∀ p q, p < q → q < b → ltN (nmAt M q) (nmAt M p) = false

def Stab (M0 M : List Hd) : Prop := ∀ x : List UInt8, M.filter (fun h => h.name == x) = M0.filter (fun h => h.name == x)

theorem Stab.refl (M : List Hd) : Stab M M := fun _ => rfl

theorem Stab.trans {A B C : List Hd} (h1 : Stab A B) (h2 : Stab B C) : Stab A C := fun x => (h2 x).trans (h1 x)

def Ins (M : List Hd) (i j : Nat) : Prop := j ≤ i ∧ (∀ p q, p < q → q ≤ i → p ≠ j → q ≠ j → ltN (nmAt M q) (nmAt M p) = false) ∧ (∀ q, j < q → q ≤ i → ltN (nmAt M q) (nmAt M j) = false)

theorem Ins.start {M : List Hd} {i : Nat} (h : Srt M i) : Ins M i i := ⟨Nat.le_refl _, fun p q h1 h2 _ h4 => h p q h1 (by omega), fun q h1 h2 => by omega⟩

theorem Ins.done {M : List Hd} {i j : Nat} (h : Ins M i j) (hd : j = 0 ∨ ltN (nmAt M j) (nmAt M (j - 1)) = false) : Srt M (i + 1) := by
 obtain ⟨h1, h2, h3⟩ := h
 intro p q hpq hq
 by_cases e1 : p = j
 ·subst e1; exact h3 q hpq (by omega)
 ·by_cases e2 : q = j
  ·subst e2
   rcases hd with hd | hd
   ·omega
   ·by_cases e3 : p = q - 1
    ·subst e3; exact hd
    ·exact leN_trans (h2 p (q - 1) (by omega) (by omega) e1 (by omega)) hd
  ·exact h2 p q hpq (by omega) e1 e2

end Go.Proofs.YtfcmonjfcnfjoaaGreatDoor

namespace Go.Proofs.YtfcmonjfcnfjoaaGreatDoor
open Go.RowKit

theorem RowH.cells {w : World} {g : Nat} {M : List Hd} (h : RowH w g M) (i : Nat) (hi : i < M.length) : w.cell? ⟨g, i * 2, none⟩ = some (.string ⟨(M.getD i ⟨[], []⟩).name.toArray⟩) ∧ w.cell? ⟨g, i * 2 + 1, none⟩ = some (.string ⟨(M.getD i ⟨[], []⟩).value.toArray⟩) := by
 have e : M.getD i ⟨[], []⟩ = M[i] := by simp [List.getD, hi]
 have := cellsH_at M i hi
 rw [e, Lib.cell_of_heap h, Lib.cell_of_heap h]
 simpa using this

theorem RowH.kept {w w' : World} {g : Nat} {M : List Hd} (h : RowH w g M) (hb : Below w.heap.size w w') : RowH w' g M :=
 (hb.block g (Array.getElem?_eq_some_iff.1 h).1).trans h

theorem RowH.lt {w : World} {g : Nat} {M : List Hd} (h : RowH w g M) : g < w.heap.size := (Array.getElem?_eq_some_iff.1 h).1

end Go.Proofs.YtfcmonjfcnfjoaaGreatDoor

namespace Go.Proofs.YtfcmonjfcnfjoaaGreatDoor
open Go.RowKit

def lowHd (h : Hd) : Hd := ⟨low h.name, h.value⟩

def lowH (L : List Hd) : List Hd := L.map lowHd

end Go.Proofs.YtfcmonjfcnfjoaaGreatDoor

namespace Go.Proofs.YtfcmonjfcnfjoaaGreatDoor
open Go.RowKit

def scN : List UInt8 := [115, 101, 116, 45, 99, 111, 111, 107, 105, 101]

def Tog (M : List Hd) (k : Nat) : Prop := 1 ≤ k ∧ k ≤ M.length ∧ (∀ j, j < k → nmAt M j = nmAt M 0) ∧ (k = 1 ∨ nmAt M 0 ≠ scN) ∧ (k = M.length ∨ nmAt M k ≠ nmAt M 0 ∨ nmAt M 0 = scN)

end Go.Proofs.YtfcmonjfcnfjoaaGreatDoor

namespace Go.Proofs.YtfcmonjfcnfjoaaGreatDoor
open Go.RowKit

inductive Bld : List Hd → List Hd → Prop
 | nil : Bld [] []
 | step {R O : List Hd} (k : Nat) (h : Tog R k) (hO : Bld (R.drop k) O) : Bld R (⟨nmAt R 0, getT (R.take k) (nmAt R 0)⟩ :: O)

def SortsTo (L O : List Hd) : Prop := ∃ M, M.length = L.length ∧ Stab (lowH L) M ∧ Srt M M.length ∧ Bld M O

theorem Stab.mem {A B : List Hd} (h : Stab A B) {x : Hd} (hx : x ∈ B) : x ∈ A := by
 have : x ∈ B.filter (fun y => y.name == x.name) := List.mem_filter.2 ⟨hx, by simp⟩
 rw [h] at this
 exact (List.mem_filter.1 this).1

end Go.Proofs.YtfcmonjfcnfjoaaGreatDoor

namespace Go.Proofs.YtfcmonjfcnfjoaaGreatDoor
open Go.RowKit

def LeH (x y : Hd) : Prop := ltN y.name x.name = false

theorem ltN_eq {a b : List UInt8} (h1 : ltN a b = false) (h2 : ltN b a = false) : a = b := by
 rcases ltN_total a b with h | h | h
 ·rw [h1] at h; cases h
 ·exact h
 ·rw [h2] at h; cases h

theorem Srt.pair {M : List Hd} (h : Srt M M.length) : M.Pairwise LeH := by
 rw [List.pairwise_iff_getElem]
 intro i j hi hj hij
 have := h i j hij hj
 unfold nmAt at this
 rw [show M.getD j ⟨[], []⟩ = M[j] by simp [List.getD, hj], show M.getD i ⟨[], []⟩ = M[i] by simp [List.getD, hi]] at this
 exact this

theorem same_of_stab : ∀ {A B : List Hd}, A.Pairwise LeH → B.Pairwise LeH → Stab A B → A = B
 | [], B, _, _, hs => by
  cases B with
  | nil => rfl
  | cons b B => exact absurd (hs.mem List.mem_cons_self) (by simp)
 | a :: A, B, ha, hb, hs => by
  cases B with
  | nil =>
   have := hs a.name
   simp at this
  | cons b B =>
   have h1 : b ∈ a :: A := hs.mem List.mem_cons_self
   have hs' : Stab (b :: B) (a :: A) := fun x => (hs x).symm
   have h2 : a ∈ b :: B := hs'.mem List.mem_cons_self
   have e1 : ltN b.name a.name = false := by
    rcases List.mem_cons.1 h1 with e | e
    ·rw [e]; exact ltN_irrefl _
    ·exact (List.pairwise_cons.1 ha).1 b e
   have e2 : ltN a.name b.name = false := by
    rcases List.mem_cons.1 h2 with e | e
    ·rw [e]; exact ltN_irrefl _
    ·exact (List.pairwise_cons.1 hb).1 a e
   have en := ltN_eq e2 e1
   have hh := hs a.name
   rw [List.filter_cons_of_pos (by simp [en]), List.filter_cons_of_pos (by simp)] at hh
   have eab : b = a := (List.cons.inj hh).1
   subst eab
   congr 1
   refine same_of_stab (List.pairwise_cons.1 ha).2 (List.pairwise_cons.1 hb).2 fun x => ?_
   have := hs x
   by_cases hx : b.name = x
   ·rw [List.filter_cons_of_pos (by simp [hx]), List.filter_cons_of_pos (by simp [hx])] at this
    exact (List.cons.inj this).2
   ·rw [List.filter_cons_of_neg (by simp [hx]), List.filter_cons_of_neg (by simp [hx])] at this
    exact this

def LtH (x y : Hd) : Prop := ltN y.name x.name = false ∧ (x.name = y.name → x.name = scN)

structure Told (R O : List Hd) : Prop where
 ordered : O.Pairwise LtH
 named : ∀ x ∈ O, ∃ y ∈ R, y.name = x.name
 valued : ∀ x ∈ O, x.name ≠ scN → x.value = Lib.join ((R.filter (fun y => y.name == x.name)).map (·.value)) [44, 32]
 few : O.length ≤ R.length
 small : ∀ x ∈ O, x.value.length ≤ bulkV R

theorem bulkV_app (A B : List Hd) : bulkV (A ++ B) = bulkV A + bulkV B := by simp [bulkV]

theorem nmAt_get {M : List Hd} {j : Nat} (h : j < M.length) : nmAt M j = M[j].name := by simp [nmAt, List.getD, h]

theorem Bld.told : ∀ {R O : List Hd}, Bld R O → R.Pairwise LeH → Told R O := by
 intro R O h
 induction h with
 | nil => exact fun _ => ⟨.nil, by simp, by simp, Nat.le_refl _, by simp⟩
 | @step R O k h hO ih =>
  intro hp
  obtain ⟨hk1, hkl, hall, hk2, hend⟩ := h
  have hsp : R.take k ++ R.drop k = R := List.take_append_drop k R
  have hp' := hp
  rw [← hsp, List.pairwise_append] at hp'
  obtain ⟨hpt, hpd, hcr⟩ := hp'
  have T := ih hpd
  have h0 : 0 < R.length := by omega
  have hR0 : R[0] ∈ R.take k := List.mem_take_iff_getElem.2 ⟨0, by omega, rfl⟩
  have hn0 : nmAt R 0 = R[0].name := nmAt_get h0
  have hck : ∀ z ∈ R.drop k, z.name = nmAt R 0 → nmAt R 0 = scN := by
   intro z hz hzn
   rcases hend with e | e | e
   ·rw [e, List.drop_length] at hz; cases hz
   ·exfalso
    have hkR : k < R.length := by
     by_cases q : k < R.length
     ·exact q
     ·rw [List.drop_eq_nil_of_le (by omega)] at hz; cases hz
    have hd : R.drop k = R[k] :: R.drop (k + 1) := List.drop_eq_getElem_cons hkR
    have l1 : ltN R[k].name R[0].name = false := hcr R[0] hR0 R[k] (by rw [hd]; exact List.mem_cons_self)
    have l2 : ltN z.name R[k].name = false := by
     rw [hd] at hz hpd
     rcases List.mem_cons.1 hz with q | q
     ·rw [q]; exact ltN_irrefl _
     ·exact (List.pairwise_cons.1 hpd).1 z q
    rw [hzn, hn0] at l2
    apply e
    rw [nmAt_get hkR, hn0]
    exact ltN_eq l1 l2
   ·exact e
  have hta : ∀ y ∈ R.take k, y.name = nmAt R 0 := by
   intro y hy
   obtain ⟨j, hj, rfl⟩ := List.mem_take_iff_getElem.1 hy
   have := hall j (by omega)
   rw [nmAt_get (by omega)] at this
   exact this
  refine ⟨List.pairwise_cons.2 ⟨?_, T.ordered⟩, ?_, ?_, ?_, ?_⟩
  ·intro y hy
   obtain ⟨z, hz, hzn⟩ := T.named y hy
   refine ⟨?_, fun e => ?_⟩
   ·show ltN y.name (nmAt R 0) = false
    rw [← hzn, hn0]
    exact hcr R[0] hR0 z hz
   ·exact hck z hz (hzn.trans e.symm)
  ·intro x hx
   rcases List.mem_cons.1 hx with e | e
   ·subst e
    exact ⟨R[0], List.getElem_mem _, hn0.symm⟩
   ·obtain ⟨z, hz, hzn⟩ := T.named x e
    exact ⟨z, List.mem_of_mem_drop hz, hzn⟩
  ·intro x hx hne
   rcases List.mem_cons.1 hx with e | e
   ·subst e
    show getT (R.take k) (nmAt R 0) = _
    have e1 : R.filter (fun y => y.name == nmAt R 0) = R.take k := by
     conv => lhs; rw [← hsp]
     rw [List.filter_append, List.filter_eq_self.2 (fun y hy => by simp [hta y hy]), List.filter_eq_nil_iff.2, List.append_nil]
     intro z hz q
     exact hne (hck z hz (by simpa using q))
    show _ = Lib.join ((R.filter (fun y => y.name == nmAt R 0)).map (·.value)) [44, 32]
    rw [e1]
    unfold getT selV
    rw [List.filter_eq_self.2 (fun y hy => by rw [isN, hta y hy]; simp)]
   ·rw [T.valued x e hne]
    congr 2
    conv => rhs; rw [← hsp]
    have e2 : (R.take k).filter (fun y => y.name == x.name) = [] := List.filter_eq_nil_iff.2 (by
     intro y hy q
     obtain ⟨z, hz, hzn⟩ := T.named x e
     have q' : y.name = x.name := by simpa using q
     have := hck z hz (by rw [hzn, ← q', hta y hy])
     exact hne (by rw [← q', hta y hy, this]))
    rw [List.filter_append, e2, List.nil_append]
  ·have := T.few
   rw [List.length_drop] at this
   simp only [List.length_cons]
   omega
  ·intro x hx
   rw [← hsp, bulkV_app]
   rcases List.mem_cons.1 hx with e | e
   ·subst e
    have := getT_len (R.take k) (nmAt R 0)
    show (getT (R.take k) (nmAt R 0)).length ≤ _
    omega
   ·have := T.small x e
    omega

theorem join_one (x : List UInt8) (s : List UInt8) : Lib.join [x] s = x := by simp [Lib.join, List.intercalate]

theorem Bld.same : ∀ {R O : List Hd}, Bld R O → R.Pairwise LtH → O = R := by
 intro R O h
 induction h with
 | nil => exact fun _ => rfl
 | @step R O k h hO ih =>
  intro hp
  obtain ⟨hk1, hkl, hall, hk2, hend⟩ := h
  have h0 : 0 < R.length := by omega
  have hk : k = 1 := by
   rcases hk2 with e | e
   ·exact e
   ·by_cases q : k = 1
    ·exact q
    ·exfalso
     have h1 : 1 < R.length := by omega
     have := List.pairwise_iff_getElem.1 hp 0 1 h0 h1 (by omega)
     have q2 := hall 1 (by omega)
     rw [nmAt_get h1, nmAt_get h0] at q2
     exact e (by rw [nmAt_get h0]; exact this.2 q2.symm)
  subst hk
  cases R with
  | nil => simp at h0
  | cons x R =>
   have := ih (List.pairwise_cons.1 hp).2
   rw [this]
   show (⟨x.name, getT [x] x.name⟩ : Hd) :: R = x :: R
   have : getT [x] x.name = x.value := by simp [getT, selV, isN, join_one]
   rw [this]

end Go.Proofs.YtfcmonjfcnfjoaaGreatDoor

namespace Go.Proofs.YtfcmonjfcnfjoaaGreatDoor
open Go.RowKit

theorem Tog.le {M : List Hd} {k n : Nat} (h : Tog M k) (h' : Tog M n) : n ≤ k := by
 by_cases hl : n ≤ k
 ·exact hl
 ·exfalso
  obtain ⟨a1, a2, a3, a4, a5⟩ := h
  obtain ⟨b1, b2, b3, b4, b5⟩ := h'
  rcases a5 with e | e | e
  ·omega
  ·exact e (b3 k (by omega))
  ·rcases b4 with q | q
   ·omega
   ·exact q e

theorem Tog.one {M : List Hd} {k n : Nat} (h : Tog M k) (h' : Tog M n) : k = n := Nat.le_antisymm (h'.le h) (h.le h')

theorem Bld.one : ∀ {R O : List Hd}, Bld R O → ∀ {Q : List Hd}, Bld R Q → O = Q := by
 intro R O h
 induction h with
 | nil =>
  intro Q h'
  cases h' with
  | nil => rfl
  | step k h _ => obtain ⟨h1, h2, _⟩ := h; simp at h2; omega
 | @step R O k h hO ih =>
  intro Q h'
  cases h' with
  | nil => obtain ⟨h1, h2, _⟩ := h; simp at h2; omega
  | step n h2 hQ =>
   obtain rfl := h.one h2
   rw [ih hQ]

theorem SortsTo.one {L O Q : List Hd} (h : SortsTo L O) (h' : SortsTo L Q) : O = Q := by
 obtain ⟨M, _, hst, hsr, hb⟩ := h
 obtain ⟨M', _, hst', hsr', hb'⟩ := h'
 have : M = M' := same_of_stab hsr.pair hsr'.pair (fun x => (hst' x).trans (hst x).symm)
 subst this
 exact hb.one hb'

theorem Bld.all : ∀ {R O : List Hd}, Bld R O → ∀ y ∈ R, ∃ x ∈ O, x.name = y.name := by
 intro R O h
 induction h with
 | nil => intro y hy; cases hy
 | @step R O k h hO ih =>
  intro y hy
  obtain ⟨hk1, hkl, hall, _, _⟩ := h
  rw [← List.take_append_drop k R, List.mem_append] at hy
  rcases hy with hy | hy
  ·obtain ⟨j, hj, rfl⟩ := List.mem_take_iff_getElem.1 hy
   refine ⟨_, List.mem_cons_self, ?_⟩
   have := hall j (by omega)
   rw [nmAt_get (by omega)] at this
   exact this.symm
  ·obtain ⟨x, hx, e⟩ := ih y hy
   exact ⟨x, List.mem_cons_of_mem _ hx, e⟩

theorem Bld.cookies : ∀ {R O : List Hd}, Bld R O → O.filter (fun x => x.name == scN) = R.filter (fun x => x.name == scN) := by
 intro R O h
 induction h with
 | nil => rfl
 | @step R O k h hO ih =>
  obtain ⟨hk1, hkl, hall, hk2, _⟩ := h
  have h0 : 0 < R.length := by omega
  by_cases hs : nmAt R 0 = scN
  ·have hk : k = 1 := by
    rcases hk2 with e | e
    ·exact e
    ·exact absurd hs e
   subst hk
   cases R with
   | nil => simp at h0
   | cons x R =>
    have hx : x.name = scN := hs
    have e1 : getT [x] x.name = x.value := by simp [getT, selV, isN, join_one]
    show List.filter _ ((⟨x.name, getT [x] x.name⟩ : Hd) :: O) = _
    rw [e1, List.filter_cons_of_pos (by simp [hx]), List.filter_cons_of_pos (by simp [hx]), ih]
    rfl
  ·rw [List.filter_cons_of_neg (by simpa using hs), ih]
   conv => rhs; rw [← List.take_append_drop k R]
   have e2 : (R.take k).filter (fun x => x.name == scN) = [] := List.filter_eq_nil_iff.2 (by
    intro y hy q
    obtain ⟨j, hj, rfl⟩ := List.mem_take_iff_getElem.1 hy
    have := hall j (by omega)
    rw [nmAt_get (by omega)] at this
    exact hs (by rw [← this]; simpa using q))
   rw [List.filter_append, e2, List.nil_append]

end Go.Proofs.YtfcmonjfcnfjoaaGreatDoor

namespace Go.Proofs.YtfcmonjfcnfjoaaGreatDoor
open Go.RowKit

def SpI (s : List UInt8) (f i : Nat) (q : Bool) : Prop := f ≤ i ∧ i ≤ s.length ∧ cutQ false (s.drop f) = (cutQ q (s.drop i)).map (· + (i - f))

theorem SpI.start (s : List UInt8) (f : Nat) (h : f ≤ s.length) : SpI s f f false := ⟨Nat.le_refl _, h, by simp⟩

theorem SpI.last {s : List UInt8} {f : Nat} {q : Bool} (h : SpI s f s.length q) : pcs (s.drop f) = [s.drop f] := by
 obtain ⟨_, _, h3⟩ := h
 rw [List.drop_length] at h3
 refine pcs_none _ (h3.trans ?_)
 cases q <;> simp [cutQ]

theorem SpI.comma {s : List UInt8} {f i : Nat} (h : SpI s f i false) (hi : i < s.length) (hc : s[i] = 44) : pcs (s.drop f) = (s.drop f).take (i - f) :: pcs (s.drop (i + 1)) := by
 obtain ⟨h1, _, h3⟩ := h
 rw [List.drop_eq_getElem_cons hi, hc, cutQ_comma] at h3
 rw [pcs_some _ (i - f) (by rw [h3]; simp), List.drop_drop, show f + (i - f + 1) = i + 1 by omega]

theorem map_add {o : Option Nat} {a b c : Nat} (h : a + b = c) : (o.map (· + a)).map (· + b) = o.map (· + c) := by rw [map_map_add, h]

theorem SpI.step {s : List UInt8} {f i d : Nat} {q r : Bool} (h : SpI s f i q) (hd : i + d ≤ s.length) (hc : cutQ q (s.drop i) = (cutQ r (s.drop (i + d))).map (· + d)) : SpI s f (i + d) r := by
 obtain ⟨h1, h2, h3⟩ := h
 refine ⟨by omega, hd, ?_⟩
 rw [h3, hc]
 exact map_add (by omega)

theorem SpI.quote {s : List UInt8} {f i : Nat} {q : Bool} (h : SpI s f i q) (hi : i < s.length) (hc : s[i] = 34) : SpI s f (i + 1) (!q) := by
 refine h.step (by omega) ?_
 rw [List.drop_eq_getElem_cons hi, hc]
 cases q
 ·exact cutQ_open _
 ·exact cutQ_close _

theorem SpI.other {s : List UInt8} {f i : Nat} {q : Bool} (h : SpI s f i q) (hi : i < s.length) (h1 : s[i] ≠ 34) (h2 : q = false → s[i] ≠ 44) (h3 : q = true → s[i] ≠ 92) : SpI s f (i + 1) q := by
 refine h.step (by omega) ?_
 rw [List.drop_eq_getElem_cons hi]
 cases q
 ·exact cutQ_other _ _ (h2 rfl) h1
 ·exact cutQ_in _ _ h1 (h3 rfl)

end Go.Proofs.YtfcmonjfcnfjoaaGreatDoor

namespace Go.Proofs.YtfcmonjfcnfjoaaGreatDoor
open Go.RowKit

def quo : List UInt8 → List UInt8 × List UInt8
 | [] => ([], [])
 | [c] => if c = 34 then ([], []) else ([c], [])
 | c :: d :: r => if c = 34 then ([], d :: r) else if c = 92 then (d :: (quo r).1, (quo r).2) else (c :: (quo (d :: r)).1, (quo (d :: r)).2)

end Go.Proofs.YtfcmonjfcnfjoaaGreatDoor

namespace Go.Proofs.YtfcmonjfcnfjoaaGreatDoor

open Go.RowKit

theorem byte_all {p : UInt8 → Bool} (h : (List.range 256).all (fun n => p (UInt8.ofNat n)) = true) (c : UInt8) : p c = true := by
 have := List.all_eq_true.1 h c.toNat (List.mem_range.2 c.toNat_lt)
 simpa using this

end Go.Proofs.YtfcmonjfcnfjoaaGreatDoor

namespace Go.Proofs.YtfcmonjfcnfjoaaGreatDoor

open Go.RowKit

def But (b : Nat) (w w' : World) : Prop := Below b w w' ∧ ∀ k, b < k → k < w.heap.size → w'.heap[k]? = w.heap[k]?

theorem But.refl (b : Nat) (w : World) : But b w w := ⟨Below.refl _ _, fun _ _ _ => rfl⟩

theorem But.of {b : Nat} {w w' : World} (h : Below w.heap.size w w') (hb : b ≤ w.heap.size) : But b w w' := ⟨h.mono hb, fun k _ hk => h.block k hk⟩

theorem But.trans {b : Nat} {w w1 w2 : World} (h : But b w w1) (h2 : But b w1 w2) : But b w w2 :=
 ⟨h.1.trans h2.1, fun k hb hk => (h2.2 k hb (by have := h.1.size; omega)).trans (h.2 k hb hk)⟩

theorem But.then {b : Nat} {w w1 w2 : World} (h : But b w w1) (h2 : Below w1.heap.size w1 w2) (hb : b ≤ w1.heap.size) : But b w w2 := h.trans (But.of h2 hb)

theorem But.size {b : Nat} {w w1 : World} (h : But b w w1) : w.heap.size ≤ w1.heap.size := h.1.size

theorem But.block {b : Nat} {w w1 : World} (h : But b w w1) (k : Nat) (hk : k < w.heap.size) (hne : k ≠ b) : w1.heap[k]? = w.heap[k]? := by
 rcases Nat.lt_or_gt_of_ne hne with h1 | h1
 ·exact h.1.block k h1
 ·exact h.2 k h1 hk

theorem But.below {b B : Nat} {v w w1 : World} (h0 : Below B v w) (h : But b w w1) (hB : B ≤ b) : Below B v w1 := h0.trans (h.1.mono hB)

theorem But.own {b B n k : Nat} {e : TypeId} {v : Value} {xs : List Value} {w w1 : World} (h : But b w w1) (ho : w.ownsRow B e k v n xs) (hne : v.ownBlock ≠ some b) : w1.ownsRow B e k v n xs := by
 rcases ho.2 with h' | ⟨g, cap, cur, hv, hg, hrow, rest⟩
 ·exact ⟨ho.1, .inl h'⟩
 ·refine ⟨ho.1, .inr ⟨g, cap, cur, hv, hg, (h.block g (Array.getElem?_eq_some_iff.1 hrow).1 ?_).trans hrow, rest⟩⟩
  rintro rfl
  subst hv
  exact hne rfl

end Go.Proofs.YtfcmonjfcnfjoaaGreatDoor

namespace Go.Proofs.YtfcmonjfcnfjoaaGreatDoor

open Go.RowKit

def IsRow (k : IntKind) (w : World) (a : Option Addr) (len cap : Nat) (zs : List Int) : Prop :=
 (a = none ∧ len = 0 ∧ cap = 0 ∧ zs = []) ∨
 ∃ x, a = some x ∧ len ≤ cap ∧ cap ≤ maxLen ∧ zs.length = cap ∧ (∀ i, i < zs.length → w.cell? (x.add i) = some (.int k (zs.getD i 0))) ∧ ∀ n ∈ zs, (Lit.int k n).wf = true

theorem IsRow.block {k : IntKind} {w : World} {a : Option Addr} {len cap : Nat} {zs : List Int} (h : IsRow k w a len cap zs) {y : Addr} (hy : a = some y) {j : Nat} (hj : j < zs.length) : (y.add j).block < w.heap.size := by
 rcases h with ⟨rfl, _⟩ | ⟨x, rfl, _, _, _, hcell, _⟩
 ·cases hy
 ·obtain rfl := Option.some.inj hy
  exact World.block_lt_of_cell? w _ (hcell j hj)

end Go.Proofs.YtfcmonjfcnfjoaaGreatDoor

namespace Go.Proofs.YtfcmonjfcnfjoaaGreatDoor

open Go.RowKit

def SlB (w : World) (v : Value) (l : List UInt8) : Prop :=
 (∃ c, v = .slice none 0 c ∧ l = []) ∨ ∃ x cap, v = .slice (some x) l.length cap ∧ ∀ j (h : j < l.length), w.cell? (x.add j) = some (.int .u8 (l[j].toNat : Int))

theorem SlB.string {P : Program} {w : World} {v : Value} {l : List UInt8} {e src dst : TypeId} (h : SlB w v l) (hs : P.underlying src = some (.slice e)) (he : P.underlying e = some (.int .u8)) (hd : P.underlying dst = some .string) :
  (convert src dst v).run P w = .ok (.string ⟨l.toArray⟩) w := by
 rcases h with ⟨c, rfl, rfl⟩ | ⟨x, cap, rfl, hc⟩
 ·exact Lib.run_convert_nil_bytes w src dst e c hs he hd
 ·exact run_convert_bytes_back w src dst e x cap l hs he hd hc

theorem SlB.below {w w' : World} {v : Value} {l : List UInt8} {B : Nat} (h : SlB w v l) (hb : Below B w w') (hB : ∀ x n c, v = .slice (some x) n c → ∀ j, j < l.length → (x.add j).block < B) : SlB w' v l := by
 rcases h with h | ⟨x, cap, rfl, hc⟩
 ·exact .inl h
 ·exact .inr ⟨x, cap, rfl, fun j hj => (hb.cell (hB x _ _ rfl j hj)).trans (hc j hj)⟩

theorem SlB.kept {w w' : World} {v : Value} {l : List UInt8} (h : SlB w v l) (hb : Below w.heap.size w w') : SlB w' v l := by
 refine h.below hb ?_
 rcases h with ⟨c, rfl, rfl⟩ | ⟨x, cap, rfl, hc⟩
 ·intro x n c' e j hj; simp at hj
 ·intro x' n c' e j hj
  obtain ⟨e1, _, _⟩ := Value.slice.inj e
  obtain rfl := Option.some.inj e1
  exact World.block_lt_of_cell? w _ (hc j hj)

theorem SlB.alloc {w : World} {v : Value} {l : List UInt8} (h : SlB w v l) (o : Obj) : SlB (w.alloc o) v l := h.kept ((Below.refl _ w).alloc (Nat.le_refl _) o)

theorem SlB.len {w : World} {v : Value} {l : List UInt8} (h : SlB w v l) : ∃ a cap, v = .slice a l.length cap := by
 rcases h with ⟨c, rfl, rfl⟩ | ⟨x, cap, rfl, hc⟩
 ·exact ⟨none, c, rfl⟩
 ·exact ⟨some x, cap, rfl⟩

theorem SlB.own {w : World} {B : Nat} {e : TypeId} {v : Value} {l : List UInt8} (h : w.ownsRow B e 1 v l.length (Lib.byteCells l)) : SlB w v l := by
 rcases h.2 with ⟨rfl, h0⟩ | ⟨g, cap, cur, rfl, _⟩
 ·exact .inl ⟨0, rfl, List.eq_nil_of_length_eq_zero h0⟩
 ·exact .inr ⟨_, cap, rfl, fun j hj => h.cells (g := g) rfl j _ (by simp [Lib.byteCells, hj])⟩

theorem SlB.take {w : World} {a : Option Addr} {len cap : Nat} {l : List UInt8} (h : SlB w (.slice a len cap) l) (n : Nat) (hn : n < l.length) : SlB w (.slice a n cap) (l.take n) := by
 rcases h with ⟨c, e, rfl⟩ | ⟨x, c, e, hc⟩
 ·simp at hn
 ·obtain ⟨rfl, rfl, rfl⟩ := Value.slice.inj e
  refine .inr ⟨x, cap, by congr 1; simp; omega, fun j hj => ?_⟩
  have hj' : j < l.length := by simp at hj; omega
  rw [hc j hj']; simp

theorem IsRow.bytes {w : World} {a : Option Addr} {len cap : Nat} {zs : List Int} (h : IsRow .u8 w a len cap zs) : ∃ l : List UInt8, l.length = len ∧ SlB w (.slice a len cap) l ∧ len ≤ cap ∧ cap ≤ maxLen := by
 rcases h with ⟨rfl, rfl, rfl, rfl⟩ | ⟨x, rfl, hlc, hcm, hz, hcell, hwf⟩
 ·exact ⟨[], rfl, .inl ⟨0, rfl, rfl⟩, Nat.le_refl _, by unfold maxLen; omega⟩
 ·refine ⟨(zs.take len).map fun n => UInt8.ofNat n.toNat, by simp; omega, .inr ⟨x, cap, by congr 1; simp; omega, ?_⟩, hlc, hcm⟩
  intro j hj
  have hj' : j < len ∧ j < zs.length := by simp at hj; omega
  have hwfj := hwf zs[j] (List.getElem_mem hj'.2)
  have hb : 0 ≤ zs[j] ∧ zs[j] ≤ 255 := by simpa [Lit.wf, IntKind.min, IntKind.max, IntKind.bits, IntKind.signed] using hwfj
  rw [hcell j hj'.2]
  have e : zs.getD j 0 = zs[j] := by simp [List.getD, hj'.2]
  rw [e]
  congr 2
  simp
  omega

end Go.Proofs.YtfcmonjfcnfjoaaGreatDoor

namespace Go.Proofs.YtfcmonjfcnfjoaaGreatDoor

open Go.RowKit

def QR (A B out l : List UInt8) : Prop := out ++ (quo l).1 = A ∧ (quo l).2 = B

theorem QR.start (l : List UInt8) : QR (quo l).1 (quo l).2 [] l := ⟨rfl, rfl⟩

theorem QR.one {A B out : List UInt8} {c : UInt8} (h : QR A B out [c]) (hc : c ≠ 34) : QR A B (out ++ [c]) [] := by
 obtain ⟨h1, h2⟩ := h
 rw [quo, if_neg hc] at h1 h2
 exact ⟨by rw [← h1]; simp [quo], h2⟩

theorem QR.nil {A B out : List UInt8} (h : QR A B out []) : out = A ∧ B = [] := by
 obtain ⟨h1, h2⟩ := h
 exact ⟨by simpa [quo] using h1, h2.symm⟩

theorem But.grown {b : Nat} {w w1 w2 : World} {row : Option Nat} (h : But b w w1) (hg : w1.grownBy w2 row) (hr : ∀ k, row = some k → w.heap.size ≤ k) (hb : b < w.heap.size) : But b w w2 := by
 have h1 := h.1.size
 refine ⟨h.1.grown hg (by omega) (fun k hk => by have := hr k hk; omega), fun k hk1 hk2 => ?_⟩
 rw [hg.block k (by omega) (fun e => by have := hr k e.symm; omega)]
 exact h.2 k hk1 hk2

theorem But.alloc {b : Nat} {w w1 : World} (h : But b w w1) (o : Obj) (hb : b ≤ w1.heap.size) : But b w (w1.alloc o) := h.then ((Below.refl _ w1).alloc (Nat.le_refl _) o) hb

end Go.Proofs.YtfcmonjfcnfjoaaGreatDoor

namespace Go.Proofs.YtfcmonjfcnfjoaaGreatDoor

open Go.RowKit

end Go.Proofs.YtfcmonjfcnfjoaaGreatDoor

namespace Go.Proofs.YtfcmonjfcnfjoaaGreatDoor

open Go.RowKit Go.Maps Go.WideMaps

theorem But.map {b B n : Nat} {D : DataW Unit} {w w1 : World} (h : But b w w1) (ho : w.ownsMap Tryz.prog 9 unitElem B n D) (hne : B ≠ b) : w1.ownsMap Tryz.prog 9 unitElem B n D := by
 obtain ⟨es, clock, hb, rest⟩ := ho
 exact ⟨es, clock, (h.block B (Array.getElem?_eq_some_iff.1 hb).1 hne).trans hb, rest⟩

end Go.Proofs.YtfcmonjfcnfjoaaGreatDoor

namespace Go.Proofs.YtfcmonjfcnfjoaaGreatDoor

open Go.RowKit

end Go.Proofs.YtfcmonjfcnfjoaaGreatDoor

namespace Go.Proofs.YtfcmonjfcnfjoaaGreatDoor

open Go.RowKit

end Go.Proofs.YtfcmonjfcnfjoaaGreatDoor

namespace Go.Proofs.YtfcmonjfcnfjoaaGreatDoor

open Go.RowKit

def pcsV (L : List Hd) (n : List UInt8) : List (List UInt8) := if getB L n then splitV L n else []

end Go.Proofs.YtfcmonjfcnfjoaaGreatDoor

namespace Go.Proofs.YtfcmonjfcnfjoaaGreatDoor

open Go.RowKit

end Go.Proofs.YtfcmonjfcnfjoaaGreatDoor

namespace Go.Proofs.YtfcmonjfcnfjoaaGreatDoor

open Go.RowKit

end Go.Proofs.YtfcmonjfcnfjoaaGreatDoor

namespace Go.Proofs.YtfcmonjfcnfjoaaGreatDoor

open Go.RowKit

end Go.Proofs.YtfcmonjfcnfjoaaGreatDoor

namespace Go.Proofs.YtfcmonjfcnfjoaaGreatDoor

open Go.RowKit

end Go.Proofs.YtfcmonjfcnfjoaaGreatDoor

namespace Go.Proofs.YtfcmonjfcnfjoaaGreatDoor

open Go.RowKit

end Go.Proofs.YtfcmonjfcnfjoaaGreatDoor

namespace Go.Proofs.YtfcmonjfcnfjoaaGreatDoor

open Go.RowKit

end Go.Proofs.YtfcmonjfcnfjoaaGreatDoor

namespace Go.Proofs.YtfcmonjfcnfjoaaGreatDoor

open Go.RowKit

end Go.Proofs.YtfcmonjfcnfjoaaGreatDoor

namespace Go.Proofs.YtfcmonjfcnfjoaaGreatDoor

open Go.RowKit

end Go.Proofs.YtfcmonjfcnfjoaaGreatDoor

namespace Go.Proofs.YtfcmonjfcnfjoaaGreatDoor

open Go.RowKit

end Go.Proofs.YtfcmonjfcnfjoaaGreatDoor

namespace Go.Proofs.YtfcmonjfcnfjoaaGreatDoor

open Go.RowKit

end Go.Proofs.YtfcmonjfcnfjoaaGreatDoor

namespace Go.Proofs.YtfcmonjfcnfjoaaGreatDoor

open Go.RowKit

end Go.Proofs.YtfcmonjfcnfjoaaGreatDoor

namespace Go.Proofs.YtfcmonjfcnfjoaaGreatDoor

open Go.RowKit

def pT (c : UInt8) : Bool := endT c.toNat

set_option maxRecDepth 100000 in
theorem pT_contains (c : UInt8) : [(9 : UInt8), 32].contains c = pT c := by
 have := byte_all (p := fun c => [(9 : UInt8), 32].contains c == pT c) (by decide) c
 simpa using this

theorem trimB_strip (l : List UInt8) : trimB l = ((l.dropWhile pT).reverse.dropWhile pT).reverse := by
 rw [trim_comm]
 unfold trimB Lib.trimS Lib.trimLeftS Lib.trimRightS
 have : (fun c => [(9 : UInt8), 32].contains c) = pT := funext pT_contains
 rw [this]

end Go.Proofs.YtfcmonjfcnfjoaaGreatDoor

namespace Go.Proofs.YtfcmonjfcnfjoaaGreatDoor

open Go.RowKit

end Go.Proofs.YtfcmonjfcnfjoaaGreatDoor

namespace Go.Proofs.YtfcmonjfcnfjoaaGreatDoor

open Go.RowKit

end Go.Proofs.YtfcmonjfcnfjoaaGreatDoor

namespace Go.Proofs.YtfcmonjfcnfjoaaGreatDoor

open Go.RowKit

end Go.Proofs.YtfcmonjfcnfjoaaGreatDoor

namespace Go.Proofs.YtfcmonjfcnfjoaaGreatDoor

open Go.RowKit

end Go.Proofs.YtfcmonjfcnfjoaaGreatDoor

namespace Go.Proofs.YtfcmonjfcnfjoaaGreatDoor

open Go.RowKit

end Go.Proofs.YtfcmonjfcnfjoaaGreatDoor

namespace Go.Proofs.YtfcmonjfcnfjoaaGreatDoor

open Go.RowKit

end Go.Proofs.YtfcmonjfcnfjoaaGreatDoor

namespace Go.Proofs.YtfcmonjfcnfjoaaGreatDoor

open Go.RowKit

structure Three where
 (a b c : Nat)

structure Kd where
 W : Nat
 R : Nat
 s0 : Three
 s1 : Three
 g0 : Three
 g1 : Three

def Kd.B (k : Kd) : Nat := k.W / 8

def Kd.size (k : Kd) : Nat := 16 * k.B

end Go.Proofs.YtfcmonjfcnfjoaaGreatDoor

namespace Go.Proofs.YtfcmonjfcnfjoaaGreatDoor

open Go.RowKit

theorem index_one_none (l : List UInt8) (c : UInt8) (h : c ∉ l) : Lib.index l [c] = -1 := by
 induction l with
 | nil => rfl
 | cons a l ih =>
  have ha : a ≠ c := fun e => h (by simp [e])
  have hl : c ∉ l := fun e => h (by simp [e])
  unfold Lib.index
  rw [ih hl]
  have : [c].isPrefixOf (a :: l) = false := by simp [List.isPrefixOf]; exact fun e => ha e.symm
  rw [this]; rfl

theorem index_one_some (a r : List UInt8) (c : UInt8) (h : c ∉ a) : Lib.index (a ++ c :: r) [c] = a.length := by
 induction a with
 | nil => unfold Lib.index; simp [List.isPrefixOf]
 | cons x a ih =>
  have hx : x ≠ c := fun e => h (by simp [e])
  have ha : c ∉ a := fun e => h (by simp [e])
  rw [List.cons_append]
  unfold Lib.index
  rw [ih ha]
  have : [c].isPrefixOf (x :: (a ++ c :: r)) = false := by simp [List.isPrefixOf]; exact fun e => hx e.symm
  rw [this]
  have h1 : ((a.length : Int) == -1) = false := by rw [beq_eq_false_iff_ne]; omega
  simp [h1]

theorem cut_none (l : List UInt8) (c : UInt8) (h : c ∉ l) : Lib.cut l [c] = (l, [], false) := by
 unfold Lib.cut
 rw [index_one_none l c h]; rfl

theorem cut_some (a r : List UInt8) (c : UInt8) (h : c ∉ a) : Lib.cut (a ++ c :: r) [c] = (a, r, true) := by
 unfold Lib.cut
 rw [index_one_some a r c h]
 simp

theorem first_split (c : UInt8) : ∀ l : List UInt8, c ∉ l ∨ ∃ a r, c ∉ a ∧ l = a ++ c :: r
 | [] => .inl (by simp)
 | x :: l => by
  by_cases hx : x = c
  ·exact .inr ⟨[], l, by simp, by simp [hx]⟩
  ·rcases first_split c l with h | ⟨a, r, ha, rfl⟩
   ·exact .inl (by simp [h]; exact fun e => hx e.symm)
   ·exact .inr ⟨x :: a, r, by simp [ha]; exact fun e => hx e.symm, rfl⟩

def part (c : UInt8) : List UInt8 → List UInt8 × List UInt8 × Bool
 | [] => ([], [], false)
 | x :: l => if x = c then ([], l, true) else (x :: (part c l).1, (part c l).2.1, (part c l).2.2)

theorem part_none (c : UInt8) : ∀ l : List UInt8, c ∉ l → part c l = (l, [], false)
 | [], _ => rfl
 | x :: l, h => by
  have hx : x ≠ c := fun e => h (by simp [e])
  have hl : c ∉ l := fun e => h (by simp [e])
  rw [part, if_neg hx, part_none c l hl]

theorem part_some (c : UInt8) : ∀ (a r : List UInt8), c ∉ a → part c (a ++ c :: r) = (a, r, true)
 | [], r, _ => by rw [List.nil_append, part, if_pos rfl]
 | x :: a, r, h => by
  have hx : x ≠ c := fun e => h (by simp [e])
  have hl : c ∉ a := fun e => h (by simp [e])
  rw [List.cons_append, part, if_neg hx, part_some c a r hl]

theorem cut_part (c : UInt8) (l : List UInt8) : Lib.cut l [c] = part c l := by
 rcases first_split c l with h | ⟨a, r, h, rfl⟩
 ·rw [cut_none l c h, part_none c l h]
 ·rw [cut_some a r c h, part_some c a r h]

structure It where
 bits : Int
 want : List UInt8
 opt : List UInt8

end Go.Proofs.YtfcmonjfcnfjoaaGreatDoor

namespace Go.Proofs.YtfcmonjfcnfjoaaGreatDoor

open Go.RowKit

theorem row_kept {w w' : World} {g : Nat} {o : Obj} (h : w.heap[g]? = some o) (hb : Below w.heap.size w w') : w'.heap[g]? = some o := by
 have hlt : g < w.heap.size := by
  rcases Nat.lt_or_ge g w.heap.size with h' | h'
  ·exact h'
  ·rw [Array.getElem?_eq_none h'] at h; cases h
 rw [hb.block g hlt]; exact h

theorem there_row {w : World} {g n : Nat} {cs : Array Value} {t : TypeId} (h : w.heap[g]? = some (.cells cs t (0, 0))) (hn : n ≤ cs.size) : w.there g 0 n := by
 intro j hj
 constructor
 ·rw [cell_of_row w g _ cs t _ h]; simp; omega
 ·simp [World.frozen?, h]

theorem range_row {w : World} {g : Nat} {cs : List Value} {t : TypeId} {f : Nat × Nat} (h : w.heap[g]? = some (.cells cs.toArray t f)) : w.rangeAt g 0 cs := by
 intro j v hv
 rw [Nat.zero_add, cell_of_row w g j _ t _ h]
 simpa using hv

theorem kept_cell {w w' : World} {a : Addr} {v : Value} (h : w.cell? a = some v) (hb : Below w.heap.size w w') : w'.cell? a = some v := (hb.cell (World.block_lt_of_cell? w _ h)).trans h

end Go.Proofs.YtfcmonjfcnfjoaaGreatDoor

namespace Go.Proofs.YtfcmonjfcnfjoaaGreatDoor

open Go.RowKit

def ItAt (w : World) (v : Value) (L : List It) : Prop :=
 ∃ a cap, v = .slice a L.length cap ∧ L.length ≤ cap ∧ cap ≤ maxLen ∧ ∀ j (hj : j < L.length), ∃ b off, a = some ⟨b, off, none⟩ ∧ w.cell? ⟨b, off + j * 3, none⟩ = some (.int .i64 L[j].bits) ∧ w.cell? ⟨b, off + j * 3 + 1, none⟩ = some (.string ⟨L[j].want.toArray⟩) ∧ w.cell? ⟨b, off + j * 3 + 2, none⟩ = some (.string ⟨L[j].opt.toArray⟩)

theorem ItAt.view {w : World} {v : Value} {L : List It} (h : ItAt w v L) : ∃ a cap, v = .slice a L.length cap ∧ L.length ≤ cap ∧ cap ≤ maxLen ∧ ∀ j (hj : j < L.length), ∃ b off, a = some ⟨b, off, none⟩ ∧ w.cell? ⟨b, off + j * 3, none⟩ = some (.int .i64 L[j].bits) ∧ w.cell? ⟨b, off + j * 3 + 1, none⟩ = some (.string ⟨L[j].want.toArray⟩) ∧ w.cell? ⟨b, off + j * 3 + 2, none⟩ = some (.string ⟨L[j].opt.toArray⟩) := h

theorem ItAt.kept {w w' : World} {v : Value} {L : List It} (h : ItAt w v L) (hb : Below w.heap.size w w') : ItAt w' v L := by
 obtain ⟨a, cap, h1, h2, h3, h4⟩ := h
 refine ⟨a, cap, h1, h2, h3, fun j hj => ?_⟩
 obtain ⟨b, off, e, c1, c2, c3⟩ := h4 j hj
 exact ⟨b, off, e, kept_cell c1 hb, kept_cell c2 hb, kept_cell c3 hb⟩

def Gm (w : World) : Prop := ∃ m, w.cell? ⟨1, 0, none⟩ = some (.int .i64 m)

theorem Gm.kept {w w' : World} (h : Gm w) (hb : Below w.heap.size w w') : Gm w' := by
 obtain ⟨m, hm⟩ := h
 exact ⟨m, kept_cell hm hb⟩

end Go.Proofs.YtfcmonjfcnfjoaaGreatDoor

namespace Go.Proofs.YtfcmonjfcnfjoaaGreatDoor

open Go.RowKit

def cW (K : IntKind) (l : List Nat) : List Value := l.map fun (n : Nat) => .int K (n : Int)

theorem cW_len (K : IntKind) (l : List Nat) : (cW K l).length = l.length := by simp [cW]

def Rw (w : World) (g : Nat) (K : IntKind) (t : TypeId) (l : List Nat) : Prop := w.heap[g]? = some (.cells (cW K l).toArray t (0, 0))

theorem Rw.lt {w : World} {g : Nat} {K : IntKind} {t : TypeId} {l : List Nat} (h : Rw w g K t l) : g < w.heap.size := (Array.getElem?_eq_some_iff.1 h).1

theorem Rw.kept {w w' : World} {g : Nat} {K : IntKind} {t : TypeId} {l : List Nat} (h : Rw w g K t l) (hb : Below w.heap.size w w') : Rw w' g K t l := row_kept h hb

theorem Rw.drew {w : World} {g : Nat} {K : IntKind} {t : TypeId} {l : List Nat} (h : Rw w g K t l) : Rw w.drew g K t l := h

theorem Rw.cell {w : World} {g : Nat} {K : IntKind} {t : TypeId} {l : List Nat} (h : Rw w g K t l) (i : Nat) (hi : i < l.length) : w.cell? ⟨g, i, none⟩ = some (.int K (l.getD i 0 : Nat)) := by
 rw [cell_of_row w g i _ t _ h]
 simp [cW, hi]

theorem Rw.new (w : World) (K : IntKind) (t : TypeId) (l : List Nat) : Rw (w.alloc (.cells (cW K l).toArray t)) w.heap.size K t l := heap_alloc_new w _

theorem Rw.there {w : World} {g : Nat} {K : IntKind} {t : TypeId} {l : List Nat} (h : Rw w g K t l) (n : Nat) (hn : n = l.length) : w.there g 0 n := there_row h (by simp [cW_len, hn])

theorem Rw.range {w : World} {g : Nat} {K : IntKind} {t : TypeId} {l : List Nat} (h : Rw w g K t l) : w.rangeAt g 0 (cW K l) := range_row h

def But1 (wr : World) (a : Addr) (u : Value) (X : World) : Prop := Below wr.heap.size (wr.setCell a u) (X.setCell a u)

theorem But1.start (wr : World) (a : Addr) (u : Value) : But1 wr a u wr.drew := ⟨rfl, rfl, rfl, Nat.le_refl _, fun k hk => rfl⟩

theorem size_setCell (w : World) (a : Addr) (u : Value) : (w.setCell a u).heap.size = w.heap.size := by simp [World.setCell]

theorem But1.size {wr X : World} {a : Addr} {u : Value} (h : But1 wr a u X) : wr.heap.size ≤ X.heap.size := by
 have := Below.size h
 rwa [size_setCell, size_setCell] at this

theorem But1.cell {wr X : World} {a : Addr} {u v : Value} (h : But1 wr a u X) {p : Addr} (hp : wr.cell? p = some v) (hne : a ≠ p) : X.cell? p = some v := by
 have h1 := Below.cell h (p := p) (World.block_lt_of_cell? wr p hp)
 rw [World.cell?_setCell_other _ _ _ _ hne, World.cell?_setCell_other _ _ _ _ hne] at h1
 rw [h1]; exact hp

end Go.Proofs.YtfcmonjfcnfjoaaGreatDoor

namespace Go.Proofs.YtfcmonjfcnfjoaaGreatDoor

open Go.RowKit

end Go.Proofs.YtfcmonjfcnfjoaaGreatDoor

namespace Go.Proofs.YtfcmonjfcnfjoaaGreatDoor

open Go.RowKit

theorem SlB.at {w : World} {a : Option Addr} {n c : Nat} {l : List UInt8} (h : SlB w (.slice a n c) l) (k : Nat) (hk : k < l.length) : ∃ x, a = some x ∧ w.cell? (x.add k) = some (.int .u8 (l[k].toNat : Int)) := by
 rcases h with ⟨c, e, rfl⟩ | ⟨x, c, e, hc⟩
 ·simp at hk
 ·obtain ⟨rfl, _, _⟩ := Value.slice.inj e
  exact ⟨x, rfl, hc k hk⟩

end Go.Proofs.YtfcmonjfcnfjoaaGreatDoor

namespace Go.Proofs.YtfcmonjfcnfjoaaGreatDoor

open Go.RowKit

end Go.Proofs.YtfcmonjfcnfjoaaGreatDoor

namespace Go.Proofs.YtfcmonjfcnfjoaaGreatDoor

open Go.RowKit

def RtAt (w : World) (v : Value) (L : List It) : Prop :=
 ∃ a cap, v = .slice a L.length cap ∧ L.length ≤ cap ∧ cap ≤ maxLen ∧ ∀ j (hj : j < L.length), ∃ b off, a = some ⟨b, off, none⟩ ∧ w.cell? ⟨b, off + j * 3, none⟩ = some (.int .i64 L[j].bits) ∧ w.cell? ⟨b, off + j * 3 + 1, none⟩ = some (.string ⟨L[j].want.toArray⟩) ∧ w.cell? ⟨b, off + j * 3 + 2, none⟩ = some (.string ⟨L[j].opt.toArray⟩)

theorem RtAt.view {w : World} {v : Value} {L : List It} (h : RtAt w v L) : ∃ a cap, v = .slice a L.length cap ∧ L.length ≤ cap ∧ cap ≤ maxLen ∧ ∀ j (hj : j < L.length), ∃ b off, a = some ⟨b, off, none⟩ ∧ w.cell? ⟨b, off + j * 3, none⟩ = some (.int .i64 L[j].bits) ∧ w.cell? ⟨b, off + j * 3 + 1, none⟩ = some (.string ⟨L[j].want.toArray⟩) ∧ w.cell? ⟨b, off + j * 3 + 2, none⟩ = some (.string ⟨L[j].opt.toArray⟩) := h

end Go.Proofs.YtfcmonjfcnfjoaaGreatDoor

namespace Go.Proofs.YtfcmonjfcnfjoaaGreatDoor

open Go.RowKit

def Gp (w : World) : Prop := Lib.TabIs Tryz.prog w "internal/strconv.uint64pow10" .u64 Lib.pow10Tab

theorem gPow9 : Tryz.prog.globalNamed "internal/strconv.uint64pow10" = some 0 := by kernel_rfl

theorem Gp.kept {w w' : World} (h : Gp w) (hb : Below w.heap.size w w') : Gp w' := Joins.tab_stays gPow9 h hb (Nat.le_refl _)

end Go.Proofs.YtfcmonjfcnfjoaaGreatDoor

namespace Go.Proofs.YtfcmonjfcnfjoaaGreatDoor

open Go.RowKit

end Go.Proofs.YtfcmonjfcnfjoaaGreatDoor

namespace Go.Proofs.YtfcmonjfcnfjoaaGreatDoor
open Go.RowKit

def insN (x : List UInt8) : List (List UInt8) → List (List UInt8)
 | [] => [x]
 | y :: t => if ltN y x = true then y :: insN x t else if y = x then y :: t else x :: y :: t

theorem insN_mem (x n : List UInt8) : ∀ O : List (List UInt8), n ∈ insN x O ↔ n = x ∨ n ∈ O
 | [] => by simp [insN]
 | y :: t => by
  have ih := insN_mem x n t
  unfold insN
  split
  ·simp only [List.mem_cons, ih]
   constructor
   ·rintro (h | h | h)
    ·exact .inr (.inl h)
    ·exact .inl h
    ·exact .inr (.inr h)
   ·rintro (h | h | h)
    ·exact .inr (.inl h)
    ·exact .inl h
    ·exact .inr (.inr h)
  ·split
   ·rename_i h
    subst h
    simp only [List.mem_cons]
    constructor
    ·exact .inr
    ·rintro (h | h)
     ·exact .inl h
     ·exact h
   ·simp only [List.mem_cons]

theorem insN_pw (x : List UInt8) : ∀ O : List (List UInt8), O.Pairwise (fun a b => ltN a b = true) → (insN x O).Pairwise (fun a b => ltN a b = true)
 | [], _ => by simp [insN]
 | y :: t, h => by
  have h2 := List.pairwise_cons.1 h
  have ih := insN_pw x t h2.2
  unfold insN
  split
  ·rename_i hlt
   refine List.pairwise_cons.2 ⟨fun z hz => ?_, ih⟩
   rcases (insN_mem x z t).1 hz with rfl | hz
   ·exact hlt
   ·exact h2.1 z hz
  ·rename_i hnl
   split
   ·exact h
   ·rename_i hne
    have hxy : ltN x y = true := by
     rcases ltN_total x y with h3 | h3 | h3
     ·exact h3
     ·exact absurd h3.symm hne
     ·exact absurd h3 hnl
    refine List.pairwise_cons.2 ⟨fun z hz => ?_, h⟩
    rcases List.mem_cons.1 hz with rfl | hz
    ·exact hxy
    ·exact ltN_trans hxy (h2.1 z hz)

def srtN (L : List (List UInt8)) : List (List UInt8) := L.foldl (fun O x => insN x O) []

theorem srtN_facts (L : List (List UInt8)) : (srtN L).Pairwise (fun a b => ltN a b = true) ∧ (∀ n, n ∈ srtN L ↔ n ∈ L) ∧ (srtN L).length ≤ L.length := by
 suffices H : ∀ (L O : List (List UInt8)), O.Pairwise (fun a b => ltN a b = true) → (L.foldl (fun O x => insN x O) O).Pairwise (fun a b => ltN a b = true) ∧ (∀ n, n ∈ L.foldl (fun O x => insN x O) O ↔ n ∈ L ∨ n ∈ O) ∧ (L.foldl (fun O x => insN x O) O).length ≤ L.length + O.length by
  obtain ⟨h1, h2, h3⟩ := H L [] List.Pairwise.nil
  exact ⟨h1, fun n => by rw [srtN, h2 n]; simp, h3⟩
 have hlen : ∀ (x : List UInt8) (O : List (List UInt8)), (insN x O).length ≤ O.length + 1 := by
  intro x O
  induction O with
  | nil => simp [insN]
  | cons y t ih =>
   unfold insN
   split
   ·simp; omega
   ·split
    ·simp
    ·simp
 intro L
 induction L with
 | nil => intro O h; exact ⟨h, fun n => by simp, by simp⟩
 | cons x L ih =>
  intro O h
  obtain ⟨h1, h2, h3⟩ := ih (insN x O) (insN_pw x O h)
  refine ⟨h1, fun n => ?_, ?_⟩
  ·rw [List.foldl_cons, h2 n, insN_mem]
   simp only [List.mem_cons]
   constructor
   ·rintro (h | h | h)
    ·exact .inl (.inr h)
    ·exact .inl (.inl h)
    ·exact .inr h
   ·rintro ((h | h) | h)
    ·exact .inr (.inl h)
    ·exact .inl h
    ·exact .inr (.inr h)
  ·rw [List.foldl_cons]
   have := hlen x O
   simp
   omega

end Go.Proofs.YtfcmonjfcnfjoaaGreatDoor

namespace Go.Proofs.YtfcmonjfcnfjoaaGreatDoor
open Go.RowKit

theorem wpAnyH_to {P : Program} {md : Region.Mode} {ops : Array Oper} {Q : Exit → Act → World → Prop} {S : World → Prop} {fuel fuel' : Nat} {listed listed' : Array Bool} {a : Act} {w : World} (hf : fuel = fuel') (hl : listed = listed') (h : wpAnyH P md ops Q S fuel' listed' a w) : wpAnyH P md ops Q S fuel listed a w := by
 subst hf; subst hl; exact h

end Go.Proofs.YtfcmonjfcnfjoaaGreatDoor

namespace Go.Proofs.YtfcmonjfcnfjoaaGreatDoor
open Go.RowKit

theorem less_ltN6 : ∀ a b : List UInt8, Op.bytesLess a b = ltN a b
 | [], [] => rfl
 | [], _ :: _ => rfl
 | _ :: _, [] => rfl
 | x :: a, y :: b => by
  have ih := less_ltN6 a b
  unfold ltN at ih ⊢
  rw [Op.bytesLess, cmp_cons, ih]
  by_cases h1 : x < y
  ·simp [h1]
  ·by_cases h2 : y < x
   ·have : x ≠ y := fun e => by subst e; exact h1 h2
    simp [h1, h2, this]
   ·have : x = y := by
     rw [UInt8.lt_iff_toNat_lt] at h1 h2
     exact UInt8.toNat_inj.1 (by omega)
    simp [h1, h2, this]

def SoI (w : World) (vv : Value) (O : List (List UInt8)) (wr : World) : Prop := wr.ownsRow w.heap.size 9 1 vv O.length (cellsT O) ∧ Below w.heap.size w wr

theorem SoI.drewN {w wr : World} {vv : Value} {O : List (List UInt8)} (h : SoI w vv O wr) (n : Nat) : SoI w vv O (wr.drewN n) := ⟨h.1, Go.below_drewN h.2 n⟩

end Go.Proofs.YtfcmonjfcnfjoaaGreatDoor
