/-
  Walks and plain facts that this claim leans on, put together out of 2 texts: Eha, Ehb.
-/
import Derived.Test.YtfcmonjfcnfjoaaGreatDoorProg
import Derived.Test.YtfcmonjfcnfjoaaGreatDoorQc1
import Derived.Test.YtfcmonjfcnfjoaaGreatDoorQc2
import Derived.Test.YtfcmonjfcnfjoaaGreatDoorQc3
import Derived.Test.YtfcmonjfcnfjoaaGreatDoorQc4
import Derived.Test.YtfcmonjfcnfjoaaGreatDoorQc5
import Derived.Test.YtfcmonjfcnfjoaaGreatDoorQc6
import Derived.BigRegion
import Derived.Deep.RegionHeld
import Derived.Deep.RegionHeldLaw
import Derived.Lib.IndexAny
import Derived.WalkKit
import Derived.Lib.UnsafeStr
import Derived.Lib.BufferRead
import Derived.Lib.RuneBytes
import Derived.Laws.RangeAny
import Derived.Deep.LoopGhost
import Derived.Maps.OwnSet
import Derived.Maps.OwnOps
import Derived.Maps.AppendAt
import Derived.StringKeys
import Derived.BigQuiet
import Derived.Deep.QuietTactic
import Derived.LoopN
import Derived.RegionTactic
import Derived.Deep.RegionLaw
import Derived.Deep.RegionWith
import Derived.WalkSpells
import Derived.WalkLawsBesides
import Derived.Lib.FieldsP
import Derived.Lib.DecodeN
import Derived.Lib.IndexMore
import Derived.Lib.Join
import Derived.Lib.SmallJoins
import Derived.Laws.CopyOwn
import Derived.Laws.ResultCell
import Derived.Deep.MidRow
import Derived.Laws.OwnMore
import Derived.Below
import Derived.WalkSmall
import Derived.Lib.LaidTab
import Derived.Lib.AppendIntMem
import Derived.Laws.AppendOwn
import Derived.Laws.Runes
import Derived.Lib.OthersKept
import Derived.Lib.FrozenHead2
import Derived.Lib.Builder
import Derived.Lib.AppendStr
import Derived.Lib.Replace
import Derived.Shelf.GgClosure.GivesRunes
import Derived.Laws.BitsAll
import Derived.Laws.Shifts
import Derived.Deep.DeepAppendRoom
import Derived.Laws.IdiomStrings
import Derived.Laws.BytesString
import Derived.Laws.CopyRow
import Derived.Sort.OwnSorted
import Derived.Lib.SlicesCompact
import Derived.Shelf.Slices.In.SortNone
import Derived.Shelf.Slices.CompactS
import Derived.Lib.Strings
import Derived.Laws.BitsAllLaws
import Derived.Lib.Bytealg
import Derived.Lib.BufferMore
import Derived.Shelf.Strings.Builder1
import Derived.Shelf.Strings.Builder2
import Derived.Shelf.Strings.OnBuilder
import Derived.Shelf.Strings.Trim
import Derived.Shelf.Small.Utf8
import Derived.Shelf.Small.Bits
import Derived.Shelf.Small.Strs
import Derived.Shelf.Small.Wraps
import Derived.Shelf.Strings.BuilderF
import Derived.Shelf.Strings.BuilderK
import Derived.Shelf.Strings.Builder2Cap
import Derived.Shelf.Strconv.Itoa0
import Derived.Shelf.Strconv.Itoa1
import Derived.Shelf.LaysM
import Derived.Shelf.Strconv.Itoa2
import Derived.Shelf.Strconv.Itoa3
import Derived.Shelf.Strings.Search1
import Derived.Shelf.Strings.Search2
import Derived.Shelf.Strings.Cut
import Derived.Shelf.Strings.Shaped
import Derived.Shelf.Sort.Plain
import Derived.Shelf.Strings.Prefix
import Derived.Shelf.Strings.Runes
import Derived.Shelf.Strings.IndexAny
import Derived.Shelf.Strings.AsciiSet
import Derived.Shelf.Strings.IndexAnyAll
import Derived.Shelf.Unicode.DecodeSlow
import Derived.Shelf.Unicode.DecodeAny
import Derived.Shelf.Unicode.DecodeLast
import Derived.Lib.SlTrimSet
import Derived.Shelf.Strings.SlTrimAscii
import Derived.Deep.CutRange
import Derived.Laws.Rows
import Derived.Laws.MakeOwn
import Derived.Deep.WholeRow
import Derived.Laws.AppendOwnNone
set_option linter.unusedSimpArgs false
set_option linter.unusedVariables false

namespace Go.Proofs.YtfcmonjfcnfjoaaGreatDoor
open Go.RowKit

structure Cho where
 name : List UInt8
 value : List UInt8
 there : Bool
deriving DecidableEq

def choV (A : List Hd) (n : List UInt8) : Cho := ⟨n, getT A n, getB A n⟩

structure Rep where
 st : Int
 hd : List Hd
 bd : List UInt8
deriving DecidableEq

structure RowC where
 url : List UInt8
 ch : List Cho
 rp : Rep
 sto : Int
 tn : Int
deriving DecidableEq

structure CaS where
 rows : List RowC
 tn : Int
deriving DecidableEq

def meantV (u : List UInt8) (A : List Hd) (r : RowC) : Bool := decide (r.url = u) && !(r.ch.any fun c => decide (choV A c.name ≠ c))

def bestV (q : RowC → Bool) (R : List RowC) : Nat → Option Nat
 | 0 => none
 | k + 1 => match R[k]? with
  | none => bestV q R k
  | some r => match bestV q R k with
   | none => if q r then some k else none
   | some a => if q r && decide ((R.getD a r).tn < r.tn) then some k else some a

theorem bestV_lt (q : RowC → Bool) (R : List RowC) : ∀ k a, bestV q R k = some a → a < k ∧ a < R.length
 | 0, a, h => by simp [bestV] at h
 | k + 1, a, h => by
  have ih := bestV_lt q R k
  unfold bestV at h
  cases hr : R[k]? with
  | none => rw [hr] at h; have := ih a h; omega
  | some r =>
   have hk : k < R.length := (List.getElem?_eq_some_iff.1 hr).1
   rw [hr] at h
   dsimp only at h
   cases hb : bestV q R k with
   | none =>
    rw [hb] at h
    dsimp only at h
    split at h
    ·injection h with h; omega
    ·cases h
   | some b =>
    rw [hb] at h
    dsimp only at h
    have := ih b hb
    split at h
    ·injection h with h; omega
    ·injection h with h; omega

def takeV (C : CaS) (u : List UInt8) (A : List Hd) : Option (RowC × List RowC) :=
 if (ctlV A).ns then none else match bestV (meantV u A) C.rows C.rows.length with
  | none => none
  | some a => (C.rows[a]?).map fun r => (r, C.rows.eraseIdx a)

def tAge : List UInt8 := [97, 103, 101]

def setH (L : List Hd) (n v : List UInt8) : List Hd := if setE L n v = 0 then setV L n v else L

def tCl : List UInt8 := [99, 111, 110, 116, 101, 110, 116, 45, 108, 101, 110, 103, 116, 104]

def tCe : List UInt8 := [99, 111, 110, 116, 101, 110, 116, 45, 101, 110, 99, 111, 100, 105, 110, 103]

def tCt : List UInt8 := [99, 111, 110, 116, 101, 110, 116, 45, 116, 121, 112, 101]

def tCr : List UInt8 := [99, 111, 110, 116, 101, 110, 116, 45, 114, 97, 110, 103, 101]

def ofB (n : List UInt8) : Bool := [tCl, tCe, tCt, tCr].contains (low n)

def renS (L : List Hd) (h : Hd) : List Hd := if ofB h.name then L else setH L h.name h.value

def renV (K B : List Hd) : List Hd := B.foldl renS (dropV K tAge)

theorem renV_take (K B : List Hd) (k : Nat) (h : k < B.length) : (B.take (k + 1)).foldl renS (dropV K tAge) = renS ((B.take k).foldl renS (dropV K tAge)) B[k] := by
 rw [List.take_add_one, List.getElem?_eq_getElem h, List.foldl_append]
 rfl

def tEt : List UInt8 := [101, 116, 97, 103]

def tLm : List UInt8 := [108, 97, 115, 116, 45, 109, 111, 100, 105, 102, 105, 101, 100]

def tInm : List UInt8 := [105, 102, 45, 110, 111, 110, 101, 45, 109, 97, 116, 99, 104]

def tIms : List UInt8 := [105, 102, 45, 109, 111, 100, 105, 102, 105, 101, 100, 45, 115, 105, 110, 99, 101]

def condV (L : List Hd) : List Hd := (if getB L tEt then [⟨tInm, getT L tEt⟩] else []) ++ (if getB L tLm then [⟨tIms, getT L tLm⟩] else [])

def putOk (A : List Hd) (r : Rep) : Bool := vrOk (pcsV r.hd nVy) && decide (r.st = 200) && !(ctlV r.hd).ns && !(ctlV A).ns

def roomV (R : List RowC) : List RowC := if 16 ≤ R.length then R.drop 1 else R

def putV (C : CaS) (u : List UInt8) (A : List Hd) (r : Rep) (now : Int) : CaS :=
 if putOk A r then ⟨roomV (C.rows.filter fun x => !meantV u A x) ++ [⟨u, (varV (pcsV r.hd nVy)).map (choV A), r, now, C.tn + 1⟩], C.tn + 1⟩ else C

def useV (C : CaS) (u : List UInt8) (A : List Hd) : CaS := match takeV C u A with
 | none => C
 | some (r, R) => ⟨R ++ [r], C.tn⟩

structure FoR where
 state : Int
 rp : Rep
 ask : List Hd
deriving DecidableEq

def foundV (num : Int → List UInt8) (r : RowC) (A : List Hd) (now : Int) : FoR :=
 if (ctlV A).nc || !freV r.rp.hd r.sto now then ⟨1, ⟨r.rp.st, setH r.rp.hd tAge (num (ageV r.rp.hd r.sto now)), r.rp.bd⟩, condV r.rp.hd⟩
 else ⟨2, ⟨r.rp.st, setH r.rp.hd tAge (num (ageV r.rp.hd r.sto now)), r.rp.bd⟩, []⟩

def findV (num : Int → List UInt8) (C : CaS) (u : List UInt8) (A : List Hd) (now : Int) : FoR := match takeV C u A with
 | none => ⟨0, ⟨0, [], []⟩, []⟩
 | some (r, _) => foundV num r A now

def reRow (r : RowC) (B : List Hd) (now t : Int) : RowC := ⟨r.url, r.ch, ⟨r.rp.st, renV r.rp.hd B, r.rp.bd⟩, now, t⟩

def reV (C : CaS) (u : List UInt8) (A : List Hd) (B : List Hd) (now : Int) : CaS := match takeV C u A with
 | none => C
 | some (r, R) => ⟨R ++ [reRow r B now (C.tn + 1)], C.tn + 1⟩

def reRep (C : CaS) (u : List UInt8) (A : List Hd) (B : List Hd) : Rep × Bool := match takeV C u A with
 | none => (⟨0, [], []⟩, false)
 | some (r, _) => (⟨r.rp.st, renV r.rp.hd B, r.rp.bd⟩, true)

def drpV (C : CaS) (u : List UInt8) : CaS := ⟨C.rows.filter fun r => !decide (r.url = u), C.tn⟩

def Hk (L : List Hd) : Prop := L.length ≤ 64 ∧ Szd 4096 L

theorem Hk.szd {L : List Hd} (h : Hk L) : Szd 140737488351232 L ∧ L.length ≤ 1000000 ∧ bulkV L ≤ 1000000 := by
 refine ⟨h.2.mono (by decide), by have := h.1; omega, ?_⟩
 have h2 := h.2.bulk
 have h3 : (4096 + 2) * L.length ≤ 4098 * 64 := Nat.mul_le_mul_left _ h.1
 omega

theorem hk_nil : Hk [] := ⟨by decide, fun x hx => by simp at hx⟩

theorem Hk.drop {L : List Hd} (h : Hk L) (n : List UInt8) : Hk (dropV L n) :=
 ⟨Nat.le_trans (dropV_len L n) h.1, fun x hx => h.2 x (List.mem_filter.1 hx).1⟩

theorem hdE_ok {n v : List UInt8} (h : hdE n v = 0) : n.length ≤ 4096 ∧ (valT v).length ≤ 4096 := by
 unfold hdE at h
 split at h
 ·cases h
 ·split at h
  ·cases h
  ·omega

theorem Hk.set {L : List Hd} (h : Hk L) (n v : List UInt8) : Hk (setH L n v) := by
 unfold setH
 split
 ·rename_i he
  unfold setE at he
  unfold setV
  cases hf : firstV L n with
  | none =>
   rw [hf] at he
   dsimp only at he ⊢
   unfold addE at he
   split at he
   ·rename_i hn; exact absurd he hn
   ·rename_i hn
    split at he
    ·cases he
    ·have := hdE_ok (Decidable.not_not.1 hn)
     refine ⟨by simp; omega, fun x hx => ?_⟩
     rcases List.mem_append.1 hx with hx | hx
     ·exact h.2 x hx
     ·rw [List.mem_singleton.1 hx]; exact this
  | some k =>
   rw [hf] at he
   dsimp only at he ⊢
   have hz := hdE_ok he
   have hk : k < L.length := by
    unfold firstV at hf
    exact (List.findIdx?_eq_some_iff_getElem.1 hf).1
   have hd := dropV_len (L.drop (k + 1)) n
   rw [List.length_drop] at hd
   refine ⟨by simp; have := h.1; omega, fun x hx => ?_⟩
   rcases List.mem_append.1 hx with hx | hx
   ·rcases List.mem_append.1 hx with hx | hx
    ·exact h.2 x (List.mem_of_mem_take hx)
    ·rw [List.mem_singleton.1 hx]
     have : L.getD k ⟨[], []⟩ = L[k] := by simp [List.getD, hk]
     refine ⟨?_, hz.2⟩
     show (L.getD k ⟨[], []⟩).name.length ≤ 4096
     rw [this]
     exact (h.2 _ (List.getElem_mem hk)).1
   ·exact h.2 x (List.mem_of_mem_drop (List.mem_filter.1 hx).1)
 ·exact h

theorem Hk.ren {K B : List Hd} (h : Hk K) : Hk (renV K B) := by
 unfold renV
 suffices H : ∀ (B : List Hd) (L : List Hd), Hk L → Hk (B.foldl renS L) from H B _ (h.drop _)
 intro B
 induction B with
 | nil => intro L hL; exact hL
 | cons x B ih =>
  intro L hL
  refine ih _ ?_
  unfold renS
  split
  ·exact hL
  ·exact hL.set _ _

theorem takeV_mem {C : CaS} {u : List UInt8} {A : List Hd} {r : RowC} {R : List RowC} (h : takeV C u A = some (r, R)) : (ctlV A).ns = false ∧ ∃ a, bestV (meantV u A) C.rows C.rows.length = some a ∧ a < C.rows.length ∧ C.rows[a]? = some r ∧ R = C.rows.eraseIdx a := by
 unfold takeV at h
 split at h
 ·cases h
 ·rename_i hn
  refine ⟨by simpa using hn, ?_⟩
  split at h
  ·cases h
  ·rename_i a ha
   have := (bestV_lt _ _ _ _ ha).2
   rw [Option.map_eq_some_iff] at h
   obtain ⟨x, hx, e⟩ := h
   injection e with e1 e2
   subst e1
   exact ⟨a, ha, this, hx, e2.symm⟩

end Go.Proofs.YtfcmonjfcnfjoaaGreatDoor

namespace Go.Proofs.YtfcmonjfcnfjoaaGreatDoor
open Go.RowKit

def cellsC (L : List Cho) : List Value := L.flatMap fun c => [.string ⟨c.name.toArray⟩, .string ⟨c.value.toArray⟩, .bool c.there]

theorem cellsC_app (a b : List Cho) : cellsC (a ++ b) = cellsC a ++ cellsC b := by simp [cellsC]

theorem cellsC_len : ∀ L : List Cho, (cellsC L).length = L.length * 3
 | [] => rfl
 | p :: L => by
  have e : cellsC (p :: L) = [.string ⟨p.name.toArray⟩, .string ⟨p.value.toArray⟩, .bool p.there] ++ cellsC L := rfl
  rw [e, List.length_append, cellsC_len L]; show 3 + L.length * 3 = (L.length + 1) * 3; omega

theorem cellsC_at : ∀ (L : List Cho) (i : Nat) (h : i < L.length) (j : Nat) (v : Value), ([.string ⟨L[i].name.toArray⟩, .string ⟨L[i].value.toArray⟩, .bool L[i].there] : List Value)[j]? = some v → (cellsC L)[i * 3 + j]? = some v
 | [], i, h, _, _, _ => by simp at h
 | p :: L, 0, _, j, v, hv => by
  have hj : j < 3 := (List.getElem?_eq_some_iff.1 hv).1
  have e : cellsC (p :: L) = [.string ⟨p.name.toArray⟩, .string ⟨p.value.toArray⟩, .bool p.there] ++ cellsC L := rfl
  rw [e, Nat.zero_mul, Nat.zero_add, List.getElem?_append_left (by show j < 3; exact hj)]
  exact hv
 | p :: L, i + 1, h, j, v, hv => by
  have e : cellsC (p :: L) = [.string ⟨p.name.toArray⟩, .string ⟨p.value.toArray⟩, .bool p.there] ++ cellsC L := rfl
  rw [e, List.getElem?_append_right (by show 3 ≤ _; omega)]
  show (cellsC L)[(i + 1) * 3 + j - 3]? = _
  rw [show (i + 1) * 3 + j - 3 = i * 3 + j by omega]
  exact cellsC_at L i (by simpa using h) j v hv

def cellsB (l : List UInt8) : List Value := l.map fun b => .int .u8 (b.toNat : Int)

structure Zr where
 r : RowC
 c : Value
 h : Value
 b : Value

def zCells (z : Zr) : List Value := [.string ⟨z.r.url.toArray⟩, z.c, .int .i64 z.r.rp.st, z.h, z.b, .int .i64 z.r.sto, .int .i64 z.r.tn]

def zVal (z : Zr) : Value := .agg (zCells z).toArray

def cellsZ (Z : List Zr) : List Value := Z.flatMap zCells

theorem cellsZ_app (a b : List Zr) : cellsZ (a ++ b) = cellsZ a ++ cellsZ b := by simp [cellsZ]

theorem cellsZ_one (z : Zr) : cellsZ [z] = zCells z := by simp [cellsZ]

theorem cellsZ_cons (z : Zr) (Z : List Zr) : cellsZ (z :: Z) = zCells z ++ cellsZ Z := rfl

theorem cellsZ_len : ∀ L : List Zr, (cellsZ L).length = L.length * 7
 | [] => rfl
 | p :: L => by
  rw [cellsZ_cons, List.length_append, cellsZ_len L, List.length_cons]; show 7 + _ = _; omega

theorem cellsZ_at : ∀ (L : List Zr) (i : Nat) (h : i < L.length) (j : Nat) (v : Value), (zCells L[i])[j]? = some v → (cellsZ L)[i * 7 + j]? = some v
 | [], i, h, _, _, _ => by simp at h
 | p :: L, 0, _, j, v, hv => by
  have hj : j < 7 := (List.getElem?_eq_some_iff.1 hv).1
  rw [cellsZ_cons, Nat.zero_mul, Nat.zero_add, List.getElem?_append_left (by show j < 7; exact hj)]
  exact hv
 | p :: L, i + 1, h, j, v, hv => by
  rw [cellsZ_cons, List.getElem?_append_right (by show 7 ≤ _; omega)]
  show (cellsZ L)[(i + 1) * 7 + j - 7]? = _
  rw [show (i + 1) * 7 + j - 7 = i * 7 + j by omega]
  exact cellsZ_at L i (by simpa using h) j v hv

theorem cellsZ_take (X : List Zr) (i : Nat) : (cellsZ X).take (i * 7) = cellsZ (X.take i) := by
 by_cases hi : i ≤ X.length
 ·have e : cellsZ X = cellsZ (X.take i) ++ cellsZ (X.drop i) := by rw [← cellsZ_app, List.take_append_drop]
  rw [e, List.take_append_of_le_length (by rw [cellsZ_len, List.length_take]; omega)]
  exact List.take_of_length_le (by rw [cellsZ_len, List.length_take]; omega)
 ·rw [List.take_of_length_le (by rw [cellsZ_len]; omega), List.take_of_length_le (by omega)]

theorem cellsZ_drop (X : List Zr) (i : Nat) : (cellsZ X).drop (i * 7) = cellsZ (X.drop i) := by
 by_cases hi : i ≤ X.length
 ·have e : cellsZ X = cellsZ (X.take i) ++ cellsZ (X.drop i) := by rw [← cellsZ_app, List.take_append_drop]
  have hl : (cellsZ (X.take i)).length = i * 7 := by rw [cellsZ_len, List.length_take]; omega
  rw [e, ← hl, List.drop_left]
 ·rw [List.drop_of_length_le (by rw [cellsZ_len]; omega), List.drop_of_length_le (by omega)]
  rfl

theorem heap_cells17 {g : Nat} {T : TypeId} {f : Nat × Nat} : ∀ (vs : List Value) (o : Nat) (w : World) (cur : Array Value), w.heap[g]? = some (.cells cur T f) → o + vs.length ≤ cur.size →
  (w.setCells g o vs).heap[g]? = some (.cells (cur.toList.take o ++ (vs ++ cur.toList.drop (o + vs.length))).toArray T f)
 | [], o, w, cur, h, _ => by
  show w.heap[g]? = _
  rw [h]
  simp
 | v :: vs, o, w, cur, h, hl => by
  have h1 := Lib.heap_setCell_same h (i := o) v
  simp only [List.length_cons] at hl
  have h2 := heap_cells17 vs (o + 1) _ _ h1 (by rw [Array.size_setIfInBounds]; omega)
  show ((w.setCell ⟨g, o, none⟩ v).setCells g (o + 1) vs).heap[g]? = _
  rw [h2, Array.toList_setIfInBounds, List.set_eq_take_append_cons_drop, if_pos (by rw [Array.length_toList]; omega)]
  have ht : (cur.toList.take o).length = o := by rw [List.length_take, Array.length_toList (xs := cur)]; omega
  have e1 : (cur.toList.take o ++ v :: cur.toList.drop (o + 1)).take (o + 1) = cur.toList.take o ++ [v] := by
   rw [List.take_append, ht, List.take_of_length_le (by omega), show o + 1 - o = 1 by omega]
   rfl
  have e2 : (cur.toList.take o ++ v :: cur.toList.drop (o + 1)).drop (o + 1 + vs.length) = cur.toList.drop (o + (vs.length + 1)) := by
   rw [List.drop_append, ht, List.drop_of_length_le (by omega), List.nil_append, show o + 1 + vs.length - o = vs.length + 1 by omega, List.drop_succ_cons, List.drop_drop]
   congr 1
   omega
  rw [e1, e2, List.append_assoc]
  rfl

theorem far_cells17 {g k : Nat} (hne : k ≠ g) : ∀ (vs : List Value) (o : Nat) (w : World), (w.setCells g o vs).heap[k]? = w.heap[k]?
 | [], _, _ => rfl
 | v :: vs, o, w => (far_cells17 hne vs (o + 1) _).trans (heap_setCell_other w ⟨g, o, none⟩ k v hne)

theorem grown_cells17 (g : Nat) : ∀ (vs : List Value) (o : Nat) (w : World), w.grownBy (w.setCells g o vs) (some g)
 | [], _, w => ⟨rfl, rfl, rfl, Nat.le_refl _, fun _ _ _ => rfl⟩
 | v :: vs, o, w => by
  have h := grown_cells17 g vs (o + 1) (w.setCell ⟨g, o, none⟩ v)
  refine ⟨h.os, h.tape, h.output, ?_, fun k hk hne => far_cells17 (fun e => hne (by rw [e])) _ _ _⟩
  have h2 := h.size
  simp [World.setCell] at h2 ⊢
  exact h2

theorem below_grown17 {w w' : World} (h : Below w.heap.size w w') (row : Option Nat) : w.grownBy w' row := ⟨h.os, h.tape, h.output, h.size, fun k hk _ => h.block k hk⟩

theorem grown_t17 {a b c : World} {row : Option Nat} (h : a.grownBy b row) (k : b.grownBy c row) : a.grownBy c row :=
 ⟨k.os.trans h.os, k.tape.trans h.tape, k.output.trans h.output, Nat.le_trans h.size k.size, fun i hi hn => (k.block i (Nat.lt_of_lt_of_le hi h.size) hn).trans (h.block i hi hn)⟩

theorem own_in17 {w : World} {B K g n cap m : Nat} {T : TypeId} {xs : List Value} (h : w.ownsRow B T K (.slice (some ⟨g, 0, none⟩) n cap) m xs) : ∃ cur, B ≤ g ∧ w.heap[g]? = some (.cells cur T (0, 0)) ∧ n = m ∧ m ≤ cap ∧ cap ≤ maxLen ∧ cur.size = cap * K ∧ cur.toList.take (m * K) = xs := by
 rcases h.2 with h0 | ⟨g', cap', cur, hv, rest⟩
 ·exact absurd h0.1 (by simp)
 ·simp only [Value.slice.injEq, Option.some.injEq, Addr.mk.injEq] at hv
  obtain ⟨⟨rfl, _, _⟩, rfl, rfl⟩ := hv
  exact ⟨cur, rest.1, rest.2.1, rfl, rest.2.2⟩

theorem own_put17 {w : World} {B g n cap : Nat} {T : TypeId} {X : List Zr} (h : w.ownsRow B T 7 (.slice (some ⟨g, 0, none⟩) n cap) n (cellsZ X)) (i : Nat) (hi : i < n) (z : Zr) : (w.setCells g (i * 7) (zCells z)).ownsRow B T 7 (.slice (some ⟨g, 0, none⟩) n cap) n (cellsZ (X.set i z)) := by
 have hX : X.length = n := by have := h.1; rw [cellsZ_len] at this; omega
 obtain ⟨cur, hg, hrow, _, hnc, hcm, hcs, htake⟩ := own_in17 h
 have hl : i * 7 + 7 ≤ cur.size := by rw [hcs]; omega
 have h2 := heap_cells17 (zCells z) (i * 7) w cur hrow hl
 rw [show (zCells z).length = 7 from rfl] at h2
 obtain ⟨zc, hz⟩ : ∃ l, l = zCells z := ⟨_, rfl⟩
 have hzl : zc.length = 7 := by rw [hz]; rfl
 rw [← hz] at h2 ⊢
 have ht : (cur.toList.take (i * 7)).length = i * 7 := by rw [List.length_take, Array.length_toList (xs := cur)]; exact Nat.min_eq_left (by omega)
 have e1 : cur.toList.take (i * 7) = cellsZ (X.take i) := by
  rw [← cellsZ_take, ← htake, List.take_take, Nat.min_eq_left (by omega)]
 have e2 : (cur.toList.drop (i * 7 + 7)).take (n * 7 - (i * 7 + 7)) = cellsZ (X.drop (i + 1)) := by
  rw [← cellsZ_drop, ← htake, List.drop_take, show (i + 1) * 7 = i * 7 + 7 by omega]
 refine ⟨by rw [cellsZ_len, List.length_set, hX], .inr ⟨g, cap, _, rfl, hg, h2, hnc, hcm, ?_, ?_⟩⟩
 ·clear h2 hrow hcm htake e1 e2 h
  rw [List.size_toArray, List.length_append, List.length_append, ht, hzl, List.length_drop, Array.length_toList (xs := cur)]
  omega
 ·show List.take (n * 7) (cur.toList.take (i * 7) ++ (zc ++ cur.toList.drop (i * 7 + 7))) = _
  clear h2 hrow hcm htake h
  have key : ∀ (P Q : List Value), P.length = i * 7 → (P ++ (zc ++ Q)).take (n * 7) = P ++ (zc ++ Q.take (n * 7 - (i * 7 + 7))) := by
   intro P Q hP
   rw [List.take_append, hP, List.take_of_length_le (l := P) (by omega), List.take_append, hzl, List.take_of_length_le (l := zc) (by omega), show n * 7 - i * 7 - 7 = n * 7 - (i * 7 + 7) by omega]
  rw [key _ _ ht, e1, e2, List.set_eq_take_append_cons_drop, if_pos (by omega), cellsZ_app, cellsZ_cons, hz]

theorem own_cut17 {w : World} {B g n cap : Nat} {T : TypeId} {X : List Zr} (h : w.ownsRow B T 7 (.slice (some ⟨g, 0, none⟩) n cap) n (cellsZ X)) (i : Nat) (hi : i ≤ n) (vs : List Value) (hl : i * 7 + vs.length ≤ cap * 7) : (w.setCells g (i * 7) vs).ownsRow B T 7 (.slice (some ⟨g, 0, none⟩) i cap) i (cellsZ (X.take i)) := by
 have hX : X.length = n := by have := h.1; rw [cellsZ_len] at this; omega
 obtain ⟨cur, hg, hrow, _, hnc, hcm, hcs, htake⟩ := own_in17 h
 have h2 := heap_cells17 vs (i * 7) w cur hrow (by rw [hcs]; exact hl)
 have ht : (cur.toList.take (i * 7)).length = i * 7 := by rw [List.length_take, Array.length_toList (xs := cur)]; exact Nat.min_eq_left (by omega)
 refine ⟨by rw [cellsZ_len, List.length_take, hX, Nat.min_eq_left hi], .inr ⟨g, cap, _, rfl, hg, h2, Nat.le_trans hi hnc, hcm, ?_, ?_⟩⟩
 ·clear h2 hrow hcm htake h
  rw [List.size_toArray, List.length_append, List.length_append, ht, List.length_drop, Array.length_toList (xs := cur)]
  omega
 ·show List.take (i * 7) (cur.toList.take (i * 7) ++ _) = _
  rw [List.take_append_of_le_length (by rw [ht]; exact Nat.le_refl _), List.take_of_length_le (by rw [ht]; exact Nat.le_refl _), ← cellsZ_take, ← htake, List.take_take, Nat.min_eq_left (by omega)]

theorem own_range17 {w : World} {B n : Nat} {T : TypeId} {X : List Zr} {v : Value} (h : w.ownsRow B T 7 v n (cellsZ X)) (i : Nat) (hi : i < X.length) : ∃ g, v.ownBlock = some g ∧ w.rangeAt g (i * 7) (zCells X[i]) := by
 have hX : X.length = n := by have := h.1; rw [cellsZ_len] at this; omega
 rcases h.2 with ⟨_, h0⟩ | ⟨g, cap', cur, rfl, hg, hrow, hnc, hcm, hcs, htake⟩
 ·omega
 ·refine ⟨g, rfl, fun j u hu => ?_⟩
  have hc := cellsZ_at X i hi j u hu
  rw [h.cellAt (i * 7 + j) (by
   have := (List.getElem?_eq_some_iff.1 hc).1
   rw [cellsZ_len] at this
   omega)]
  exact hc

theorem own_there17 {w : World} {B g n cap : Nat} {T : TypeId} {X : List Zr} (h : w.ownsRow B T 7 (.slice (some ⟨g, 0, none⟩) n cap) n (cellsZ X)) (o m : Nat) (hm : o + m ≤ cap * 7) : w.there g o m := by
 obtain ⟨cur, hg, hrow, _, hnc, hcm, hcs, htake⟩ := own_in17 h
 intro j hj
 refine ⟨?_, Lib.frozen_of_heap hrow _⟩
 rw [Lib.cell_of_heap hrow]
 simp
 omega

theorem range_kept17 {w w' : World} {g o : Nat} {cs : List Value} (h : w.rangeAt g o cs) (hb : Below w.heap.size w w') : w'.rangeAt g o cs := fun j v hv => by
 have := h j v hv
 exact (hb.cell (World.block_lt_of_cell? w _ this)).trans this

theorem wpList_world17 {P : Program} {ops : Array Oper} {Q : Exit → Act → World → Prop} {rest : List Oper} {a : Act} {w w' : World} (e : w = w') (h : wpList P ops Q rest a w) : wpList P ops Q rest a w' := e ▸ h

def OwM (w : World) (B M : Nat) (T : TypeId) (k : Nat) (v : Value) (n : Nat) (xs : List Value) : Prop := w.ownsRow B T k v n xs ∧ ∀ g, v.ownBlock = some g → g < M

theorem OwM.same {w w' : World} {B M : Nat} {T : TypeId} {k : Nat} {v : Value} {n : Nat} {xs : List Value} (h : OwM w B M T k v n xs) (hk : ∀ g, v.ownBlock = some g → w'.heap[g]? = w.heap[g]?) : OwM w' B M T k v n xs := ⟨ownsRow_same h.1 hk, h.2⟩

theorem OwM.kept {w w' : World} {B M : Nat} {T : TypeId} {k : Nat} {v : Value} {n : Nat} {xs : List Value} (h : OwM w B M T k v n xs) (hb : Below M w w') : OwM w' B M T k v n xs := h.same fun g hg => hb.block g (h.2 g hg)

theorem OwM.mono {w : World} {B M : Nat} {T : TypeId} {k : Nat} {v : Value} {n : Nat} {xs : List Value} {M' : Nat} (h : OwM w B M T k v n xs) (hm : M ≤ M') : OwM w B M' T k v n xs := ⟨h.1, fun g hg => Nat.lt_of_lt_of_le (h.2 g hg) hm⟩

theorem OwM.of {w : World} {B : Nat} {T : TypeId} {k : Nat} {v : Value} {n : Nat} {xs : List Value} (h : w.ownsRow B T k v n xs) : OwM w B w.heap.size T k v n xs := ⟨h, fun g hg => (h.lt g hg).2⟩

theorem OwM.size {w : World} {B M : Nat} {T : TypeId} {k : Nat} {v : Value} {n : Nat} {xs : List Value} (h : OwM w B M T k v n xs) (hm : M ≤ w.heap.size) : OwM w B w.heap.size T k v n xs := h.mono hm

def Tq (T U : TypeId) (p : Nat) (w w' : World) : Prop := Below p w w' ∧ ∀ (k : Nat) (cur : Array Value) (S : TypeId) (fz : Nat × Nat), w.heap[k]? = some (Obj.cells cur S fz) → S ≠ T → S ≠ U → w'.heap[k]? = w.heap[k]?

theorem Tq.refl {T U : TypeId} {p : Nat} {a : World} : Tq T U p a a := ⟨Below.refl _ _, fun _ _ _ _ _ _ _ => rfl⟩

theorem Tq.trans {T U : TypeId} {p : Nat} {a b c : World} (h : Tq T U p a b) (h2 : Tq T U p b c) : Tq T U p a c :=
 ⟨h.1.trans h2.1, fun k cur S fz hk h3 h4 => (h2.2 k cur S fz ((h.2 k cur S fz hk h3 h4).trans hk) h3 h4).trans (h.2 k cur S fz hk h3 h4)⟩

theorem Tq.below {T U : TypeId} {p : Nat} {a b : World} (hb : Below a.heap.size a b) (hp : p ≤ a.heap.size) : Tq T U p a b := ⟨hb.mono hp, fun k _ _ _ hk _ _ => hb.block k (Array.getElem?_eq_some_iff.1 hk).1⟩

theorem Tq.more {T U : TypeId} {p : Nat} {a b c : World} (h : Tq T U p a b) (hb : Below b.heap.size b c) (hp : p ≤ b.heap.size) : Tq T U p a c := h.trans (Tq.below hb hp)

theorem Tq.low {T U : TypeId} {p : Nat} {a b : World} (h : Tq T U p a b) {q : Nat} (hq : q ≤ p) : Tq T U q a b := ⟨h.1.mono hq, h.2⟩

theorem Tq.own {T U : TypeId} {p : Nat} {a b : World} {B : Nat} {S : TypeId} {k : Nat} {v : Value} {n : Nat} {xs : List Value} (h : Tq T U p a b) (ho : a.ownsRow B S k v n xs) (h1 : S ≠ T) (h2 : S ≠ U) : b.ownsRow B S k v n xs :=
 ownsRow_same ho fun g hg => by
  obtain ⟨cur, hc⟩ := ownsRow_kind ho g hg
  exact h.2 g _ _ _ hc h1 h2

theorem Tq.owm {T U : TypeId} {p : Nat} {a b : World} {B M : Nat} {S : TypeId} {k : Nat} {v : Value} {n : Nat} {xs : List Value} (h : Tq T U p a b) (ho : OwM a B M S k v n xs) (h1 : S ≠ T) (h2 : S ≠ U) : OwM b B M S k v n xs := ⟨h.own ho.1 h1 h2, ho.2⟩

theorem Tq.grown {T U : TypeId} {p : Nat} {a b : World} {r : Option Nat} (hg : a.grownBy b r) (hr : ∀ g, r = some g → p ≤ g ∧ ∃ cur fz, a.heap[g]? = some (Obj.cells cur T fz)) (hp : p ≤ a.heap.size) : Tq T U p a b := by
 refine ⟨⟨hg.os, hg.tape, hg.output, hg.size, fun k hk => hg.block k (by omega) (fun e => by have := (hr k e.symm).1; omega)⟩, fun k cur S fz hk h1 _ => hg.block k (Array.getElem?_eq_some_iff.1 hk).1 (fun e => ?_)⟩
 obtain ⟨_, cur2, fz2, h2⟩ := hr k e.symm
 rw [hk] at h2
 injection h2 with h2
 injection h2 with _ h2 _
 exact h1 h2

theorem Tq.set {T U : TypeId} {p : Nat} {a : World} {g : Nat} {cur : Array Value} {S : TypeId} {fz : Nat × Nat} (hg : a.heap[g]? = some (Obj.cells cur S fz)) (hS : S = T ∨ S = U) (hp : p ≤ g) (i : Nat) (v : Value) : Tq T U p a (a.setCell ⟨g, i, none⟩ v) := by
 refine ⟨(Below.refl p a).setCell (p := ⟨g, i, none⟩) hp v, fun k c2 S2 f2 hk h1 h2 => heap_setCell_other a ⟨g, i, none⟩ k v (fun e => ?_)⟩
 have e : k = g := e
 subst e
 rw [hg] at hk
 injection hk with hk
 injection hk with _ hk _
 subst hk
 rcases hS with h | h
 ·exact h1 h
 ·exact h2 h

abbrev TqC (p : Nat) (w w' : World) : Prop := Tq 81 72 p w w'

def HdT (w : World) (v : Value) (L : List Hd) : Prop := HdAt w v L ∧ ∀ g, v.ownBlock = some g → ∃ cur fz, w.heap[g]? = some (Obj.cells cur 30 fz)

theorem HdAt.same17 {w w' : World} {v : Value} {L : List Hd} (h : HdAt w v L) (hk : ∀ g, v.ownBlock = some g → w'.heap[g]? = w.heap[g]?) : HdAt w' v L := by
 obtain ⟨a, cap, rfl, h2, h3, h4⟩ := h
 refine ⟨a, cap, rfl, h2, h3, fun j hj => ?_⟩
 obtain ⟨b, off, e, c1, c2⟩ := h4 j hj
 have hb := hk b (by rw [e]; rfl)
 exact ⟨b, off, e, (World.cell?_of_block (a := ⟨b, off + j * 2, none⟩) hb).trans c1, (World.cell?_of_block (a := ⟨b, off + j * 2 + 1, none⟩) hb).trans c2⟩

theorem own_hdt {w : World} {B : Nat} {v : Value} {L : List Hd} (h : w.ownsRow B 30 2 v L.length (cellsH L)) : HdT w v L :=
 ⟨own_hd h, fun g hg => by
  obtain ⟨cur, hc⟩ := ownsRow_kind h g hg
  exact ⟨cur, _, hc⟩⟩

theorem HdT.tq {p : Nat} {w w' : World} {v : Value} {L : List Hd} (h : HdT w v L) (hq : TqC p w w') : HdT w' v L := by
 have hk : ∀ g, v.ownBlock = some g → w'.heap[g]? = w.heap[g]? := fun g hg => by
  obtain ⟨cur, fz, hc⟩ := h.2 g hg
  exact hq.2 g _ _ _ hc (by decide) (by decide)
 exact ⟨h.1.same17 hk, fun g hg => by rw [hk g hg]; exact h.2 g hg⟩

theorem HdT.kept {w w' : World} {v : Value} {L : List Hd} (h : HdT w v L) (hb : Below w.heap.size w w') : HdT w' v L := by
 have hk : ∀ g, v.ownBlock = some g → w'.heap[g]? = w.heap[g]? := fun g hg => by
  obtain ⟨cur, fz, hc⟩ := h.2 g hg
  exact hb.block g (Array.getElem?_eq_some_iff.1 hc).1
 exact ⟨h.1.same17 hk, fun g hg => by rw [hk g hg]; exact h.2 g hg⟩

def DenZ (w : World) (B M : Nat) (z : Zr) : Prop :=
 OwM w B M 125 3 z.c z.r.ch.length (cellsC z.r.ch) ∧ OwM w B M 30 2 z.h z.r.rp.hd.length (cellsH z.r.rp.hd) ∧ OwM w B M 5 1 z.b z.r.rp.bd.length (cellsB z.r.rp.bd)

theorem DenZ.kept {w w' : World} {B M : Nat} {z : Zr} (h : DenZ w B M z) (hb : Below M w w') : DenZ w' B M z := ⟨h.1.kept hb, h.2.1.kept hb, h.2.2.kept hb⟩

theorem DenZ.mono {w : World} {B M M' : Nat} {z : Zr} (h : DenZ w B M z) (hm : M ≤ M') : DenZ w B M' z := ⟨h.1.mono hm, h.2.1.mono hm, h.2.2.mono hm⟩

theorem DenZ.tq {p : Nat} {w w' : World} {B M : Nat} {z : Zr} (h : DenZ w B M z) (hq : TqC p w w') : DenZ w' B M z :=
 ⟨hq.owm h.1 (by decide) (by decide), hq.owm h.2.1 (by decide) (by decide), hq.owm h.2.2 (by decide) (by decide)⟩

theorem DenZ.form {w : World} {B M : Nat} {z : Zr} (h : DenZ w B M z) : ∃ ca cc ha hc ba bc, z.c = .slice ca z.r.ch.length cc ∧ z.h = .slice ha z.r.rp.hd.length hc ∧ z.b = .slice ba z.r.rp.bd.length bc := by
 obtain ⟨ca, cc, e1⟩ := own_sl16 h.1.1
 obtain ⟨ha, hc, e2⟩ := own_sl16 h.2.1.1
 obtain ⟨ba, bc, e3⟩ := own_sl16 h.2.2.1
 exact ⟨ca, cc, ha, hc, ba, bc, e1, e2, e3⟩

theorem DenZ.one {w : World} {B M : Nat} {z : Zr} (h : DenZ w B M z) : ∀ u ∈ zCells z, u.oneCell' = true := by
 obtain ⟨ca, cc, ha, hc, ba, bc, e1, e2, e3⟩ := h.form
 intro u hu
 unfold zCells at hu
 rw [e1, e2, e3] at hu
 simp at hu
 rcases hu with rfl | rfl | rfl | rfl | rfl | rfl | rfl <;> rfl

def gMax : Nat := 1

def CaI (w : World) (p M : Nat) (C : CaS) : Prop :=
 (p + 1 ≤ M ∧ M ≤ w.heap.size ∧ gMax < p ∧ G5 w) ∧ ∃ a cap Z, w.heap[p]? = some (.cells #[.slice a C.rows.length cap, .int .i64 C.tn] 72 (0, 0)) ∧ OwM w (p + 1) M 81 7 (.slice a C.rows.length cap) C.rows.length (cellsZ Z) ∧ Z.map (·.r) = C.rows ∧ ∀ z ∈ Z, DenZ w (p + 1) M z

theorem G5.low17 {w w' : World} {p : Nat} (h : G5 w) (hp : gMax < p) (hb : Below p w w') : G5 w' := by
 obtain ⟨m, hm⟩ := h
 exact ⟨m, (hb.cell (p := ⟨1, 0, none⟩) hp).trans hm⟩

theorem CaI.kept {w w' : World} {p M : Nat} {C : CaS} (h : CaI w p M C) (hb : Below M w w') : CaI w' p M C := by
 obtain ⟨⟨h1, h2, h3, h4⟩, a, cap, Z, c1, c2, c3, c4⟩ := h
 exact ⟨⟨h1, Nat.le_trans h2 hb.size, h3, h4.low17 h3 (hb.mono (by omega))⟩, a, cap, Z, (hb.block p (by omega)).trans c1, c2.kept hb, c3, fun z hz => (c4 z hz).kept hb⟩

theorem CaI.size {w : World} {p M : Nat} {C : CaS} (h : CaI w p M C) : CaI w p w.heap.size C := by
 obtain ⟨⟨h1, h2, h3, h4⟩, a, cap, Z, c1, c2, c3, c4⟩ := h
 exact ⟨⟨by omega, Nat.le_refl _, h3, h4⟩, a, cap, Z, c1, c2.mono h2, c3, fun z hz => (c4 z hz).mono h2⟩

end Go.Proofs.YtfcmonjfcnfjoaaGreatDoor
