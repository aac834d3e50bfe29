/-
  Walks and plain facts that this claim leans on, put together out of 7 texts: Yf, Xa, Xc, Xe, Xi, Xj, Exa.
-/
import Derived.Test.YtamockkjbkibdaaGreatDoorProg
import Derived.Test.YtamockkjbkibdaaGreatDoorQa1
import Derived.Test.YtamockkjbkibdaaGreatDoorQa2
import Derived.Test.YtamockkjbkibdaaGreatDoorQa3
import Derived.Test.YtamockkjbkibdaaGreatDoorQa4
import Derived.Test.YtamockkjbkibdaaGreatDoorQa5
import Derived.Test.YtamockkjbkibdaaGreatDoorQa6
import Derived.Test.YtamockkjbkibdaaGreatDoorQa7
import Derived.Test.YtamockkjbkibdaaGreatDoorQa8
import Derived.Test.YtamockkjbkibdaaGreatDoorQa9
import Derived.Test.YtamockkjbkibdaaGreatDoorQa10
import Derived.Test.YtamockkjbkibdaaGreatDoorQa11
import Derived.Test.YtamockkjbkibdaaGreatDoorQa12
import Derived.Test.YtamockkjbkibdaaGreatDoorQa13
import Derived.Test.YtamockkjbkibdaaGreatDoorQa14
import Derived.Test.YtamockkjbkibdaaGreatDoorQa15
import Derived.Test.YtamockkjbkibdaaGreatDoorQa16
import Derived.Test.YtamockkjbkibdaaGreatDoorQa17
import Derived.Test.YtamockkjbkibdaaGreatDoorQa18
import Derived.Test.YtamockkjbkibdaaGreatDoorQa19
import Derived.Test.YtamockkjbkibdaaGreatDoorQa20
import Derived.Test.YtamockkjbkibdaaGreatDoorQa21
import Derived.Test.YtamockkjbkibdaaGreatDoorQa22
import Derived.Test.YtamockkjbkibdaaGreatDoorQa23
import Derived.Test.YtamockkjbkibdaaGreatDoorQa24
import Derived.Test.YtamockkjbkibdaaGreatDoorQa25
import Derived.Test.YtamockkjbkibdaaGreatDoorQa26
import Derived.Test.YtamockkjbkibdaaGreatDoorQa27
import Derived.Test.YtamockkjbkibdaaGreatDoorQa28
import Derived.Test.YtamockkjbkibdaaGreatDoorQa29
import Derived.Test.YtamockkjbkibdaaGreatDoorQa30
import Derived.Test.YtamockkjbkibdaaGreatDoorQa31
import Derived.Test.YtamockkjbkibdaaGreatDoorQa32
import Derived.Lib.IndexMore
import Derived.Lib.Join
import Derived.Lib.LastIndexByte
import Derived.WalkKit
import Derived.Lib.Strings
import Derived.Lib.UnsafeStr
import Derived.Laws.IdiomStrings
import Derived.Laws.AppendOwn
import Derived.Laws.BitsAllLaws
import Derived.Lib.Bytealg
import Derived.Lib.BufferMore
import Derived.LoopN
import Derived.RegionTactic
import Derived.Deep.RegionWith
import Derived.Deep.QuietTactic
import Derived.BigQuiet
import Derived.Laws.OwnMore
import Derived.Shelf.Strings.Builder1
import Derived.Shelf.Strings.Builder2
import Derived.Shelf.Strings.OnBuilder
import Derived.Shelf.Strings.Trim
import Derived.Shelf.Small.Utf8
import Derived.Shelf.Small.Strs
import Derived.Shelf.Small.Wraps
import Derived.Shelf.Strings.BuilderF
import Derived.Shelf.Strings.BuilderK
import Derived.Shelf.Strings.BuilderRune
import Derived.Shelf.Utf8.AppendRune
import Derived.Shelf.Utf8.AppendRunePlain
import Derived.Shelf.Strings.Builder2Cap
import Derived.Shelf.Strconv.Itoa0
import Derived.Shelf.Strconv.Itoa1
import Derived.Shelf.LaysM
import Derived.Shelf.Strconv.Itoa2
import Derived.Shelf.Strconv.Itoa3
import Derived.Shelf.Strings.Search1
import Derived.Shelf.Strings.Search2
import Derived.Shelf.Strings.Search3
import Derived.Shelf.Strings.Cut
import Derived.Shelf.Strings.Count
import Derived.Shelf.Strings.Shaped
import Derived.Shelf.Strings.LastIndex
import Derived.Shelf.Strings.Prefix
import Derived.Shelf.Strings.Split
import Derived.Shelf.Strings.Replace
import Derived.Shelf.Strings.Runes
import Derived.Shelf.Strings.IndexAny
import Derived.Shelf.Strings.AsciiSet
import Derived.Shelf.Strings.IndexAnyAll
import Derived.Shelf.Unicode.DecodeSlow
import Derived.Ground.Names2Prog
import Derived.Shelf.Slices.Clone
import Derived.Ground.SlgnProg
import Derived.Shelf.SlicesE.Clone
import Derived.Scope
import Derived.ScopeJumps
import Derived.WalkMore
import Derived.Lib.IndexAny
import Derived.Lib.Replace
import Derived.Lib.TrimByte
import Derived.Lib.ItoaNum
import Derived.Laws.RangeAny
import Derived.Lib.DecodeN
import Derived.Lib.OthersKept
import Derived.Deep.LoopGhost
import Derived.Laws.BytesString
import Derived.Deep.WholeRow
import Derived.BigRegion
import Derived.Lib.AppendStr
import Derived.Deep.RegionHeld
import Derived.WalkSpells
import Derived.WalkLawsBesides
import Derived.Lib.AppendIntMem
import Derived.Lib.SmallJoins
import Derived.WalkSmall
import Derived.OwnWalk
import Derived.Laws.CopyOwn
import Derived.Laws.ResultCell
import Derived.Deep.MidRow
import Derived.Lib.FrozenHead2
import Derived.Lib.Builder
import Derived.Deep.RegionLaw
import Derived.Lib.SlTrimSet
import Derived.Below
import Derived.Shelf.Strings.SlTrimAscii
import Derived.Deep.Cut
import Derived.Deep.CutRange
import Derived.Lib.BufferRead
import Derived.Lib.RuneBytes
import Derived.Laws.AppendOwnNone
import Derived.Laws.Runes
set_option linter.unusedSimpArgs false
set_option linter.unusedVariables false

namespace Go.Proofs.YtamockkjbkibdaaGreatDoor
open Go.RowKit

theorem Slim.fine {n : Nat} {u : Adr} (h : Slim n u) (hn : n ≤ 1000000) : Fine u := by
 obtain ⟨h1, h2, h3, h4, h5, h6, h7, h8⟩ := h
 have a1 := slL_len u.path
 have a2 := slL_flat u.path
 exact ⟨h1, ⟨by omega, by omega, by omega, by omega⟩, ⟨by omega, by omega, by omega⟩, by omega, by omega⟩

end Go.Proofs.YtamockkjbkibdaaGreatDoor

namespace Go.Proofs.YtamockkjbkibdaaGreatDoor
def isN (n : List UInt8) (h : Hd) : Bool := low h.name == low n

def selV (L : List Hd) (n : List UInt8) : List (List UInt8) := (L.filter (isN n)).map (·.value)

def getT (L : List Hd) (n : List UInt8) : List UInt8 := Lib.join (selV L n) [44, 32]

def getB (L : List Hd) (n : List UInt8) : Bool := !(selV L n).isEmpty

theorem selV_snoc (L : List Hd) (h : Hd) (n : List UInt8) : selV (L ++ [h]) n = selV L n ++ (if isN n h then [h.value] else []) := by
 unfold selV
 rw [List.filter_append, List.map_append]
 by_cases hh : isN n h = true <;> simp [hh]

def clos : List UInt8 → Nat
 | [] => 0
 | [c] => if c = 34 then 0 else if c = 92 then 2 else 1
 | c :: d :: r => if c = 34 then 0 else if c = 92 then 2 + clos r else 1 + clos (d :: r)

def cutQ : Bool → List UInt8 → Option Nat
 | _, [] => none
 | false, c :: r => if c = 44 then some 0 else if c = 34 then (cutQ true r).map (· + 1) else (cutQ false r).map (· + 1)
 | true, [_] => none
 | true, c :: d :: r => if c = 34 then (cutQ false (d :: r)).map (· + 1) else if c = 92 then (cutQ true r).map (· + 2) else (cutQ true (d :: r)).map (· + 1)

theorem clos_quote (r : List UInt8) : clos (34 :: r) = 0 := by cases r <;> simp [clos]

theorem clos_back (r : List UInt8) : clos (92 :: r) = 2 + clos (r.drop 1) := by cases r <;> simp [clos]

theorem clos_other (c : UInt8) (r : List UInt8) (h1 : c ≠ 34) (h2 : c ≠ 92) : clos (c :: r) = 1 + clos r := by cases r <;> simp [clos, h1, h2]

theorem cutQ_comma (r : List UInt8) : cutQ false (44 :: r) = some 0 := by simp [cutQ]

theorem cutQ_open (r : List UInt8) : cutQ false (34 :: r) = (cutQ true r).map (· + 1) := by simp [cutQ]

theorem cutQ_other (c : UInt8) (r : List UInt8) (h1 : c ≠ 44) (h2 : c ≠ 34) : cutQ false (c :: r) = (cutQ false r).map (· + 1) := by simp [cutQ, h1, h2]

theorem cutQ_close (r : List UInt8) : cutQ true (34 :: r) = (cutQ false r).map (· + 1) := by cases r <;> simp [cutQ]

theorem cutQ_back (r : List UInt8) : cutQ true (92 :: r) = (cutQ true (r.drop 1)).map (· + 2) := by cases r <;> simp [cutQ]

theorem cutQ_in (c : UInt8) (r : List UInt8) (h1 : c ≠ 34) (h2 : c ≠ 92) : cutQ true (c :: r) = (cutQ true r).map (· + 1) := by cases r <;> simp [cutQ, h1, h2]

theorem map_map_add (o : Option Nat) (a b : Nat) : (o.map (· + a)).map (· + b) = o.map (· + (a + b)) := by
 cases o <;> simp [Nat.add_assoc]

theorem cutQ_true : ∀ (n : Nat) (r : List UInt8), r.length ≤ n → cutQ true r = (cutQ false (r.drop (clos r + 1))).map (· + (clos r + 1)) := by
 intro n
 induction n with
 | zero =>
  intro r hr
  have : r = [] := List.eq_nil_of_length_eq_zero (by omega)
  subst this; rfl
 | succ n ih =>
  intro r hr
  cases r with
  | nil => rfl
  | cons c r =>
   simp at hr
   by_cases h1 : c = 34
   ·subst h1; rw [cutQ_close, clos_quote]; rfl
   ·by_cases h2 : c = 92
    ·subst h2
     rw [cutQ_back, clos_back, ih (r.drop 1) (by simp; omega), map_map_add, List.drop_drop]
     rw [show 2 + clos (r.drop 1) + 1 = (1 + (clos (r.drop 1) + 1)) + 1 by omega, List.drop_succ_cons]
     congr 2
     funext x; omega
    ·rw [cutQ_in c r h1 h2, clos_other c r h1 h2, ih r (by omega), map_map_add]
     rw [show 1 + clos r + 1 = (clos r + 1) + 1 by omega, List.drop_succ_cons]

theorem cutQ_false_open (r : List UInt8) : cutQ false (34 :: r) = (cutQ false (r.drop (clos r + 1))).map (· + (clos r + 2)) := by
 rw [cutQ_open, cutQ_true r.length r (Nat.le_refl _), map_map_add]

theorem cutQ_lt : ∀ (n : Nat) (q : Bool) (l : List UInt8) (k : Nat), l.length ≤ n → cutQ q l = some k → k < l.length := by
 intro n
 induction n with
 | zero =>
  intro q l k hl h
  have : l = [] := List.eq_nil_of_length_eq_zero (by omega)
  subst this; cases q <;> simp [cutQ] at h
 | succ n ih =>
  intro q l k hl h
  cases l with
  | nil => cases q <;> simp [cutQ] at h
  | cons c r =>
   simp at hl
   have step : ∀ (q : Bool) (r' : List UInt8) (a : Nat), r'.length + a ≤ r.length + 1 → 1 ≤ a → (cutQ q r').map (· + a) = some k → k < (c :: r).length := by
    intro q r' a ha ha1 hk
    obtain ⟨j, hj, rfl⟩ := Option.map_eq_some_iff.1 hk
    have := ih q r' j (by omega) hj
    simp; omega
   cases q with
   | false =>
    by_cases h1 : c = 44
    ·subst h1; rw [cutQ_comma] at h; simp at h; subst h; simp
    ·by_cases h2 : c = 34
     ·subst h2; rw [cutQ_open] at h; exact step true r 1 (by omega) (by omega) h
     ·rw [cutQ_other c r h1 h2] at h; exact step false r 1 (by omega) (by omega) h
   | true =>
    by_cases h1 : c = 34
    ·subst h1; rw [cutQ_close] at h; exact step false r 1 (by omega) (by omega) h
    ·by_cases h2 : c = 92
     ·subst h2; rw [cutQ_back] at h
      cases r with
      | nil => simp [cutQ] at h
      | cons d r => exact step true r 2 (by simp) (by omega) h
     ·rw [cutQ_in c r h1 h2] at h; exact step true r 1 (by omega) (by omega) h

def pcsN : Nat → List UInt8 → List (List UInt8)
 | 0, l => [l]
 | f + 1, l => match cutQ false l with
  | none => [l]
  | some k => l.take k :: pcsN f (l.drop (k + 1))

def pcs (l : List UInt8) : List (List UInt8) := pcsN l.length l

theorem pcsN_succ : ∀ (g : Nat) (m : List UInt8), m.length ≤ g → pcsN (g + 1) m = pcsN g m := by
 intro g
 induction g with
 | zero =>
  intro m hm
  have : m = [] := List.eq_nil_of_length_eq_zero (by omega)
  subst this; simp [pcsN, cutQ]
 | succ g ihg =>
  intro m hm
  rw [pcsN, pcsN]
  cases hc : cutQ false m with
  | none => rfl
  | some k =>
   have := cutQ_lt m.length false m k (Nat.le_refl _) hc
   simp only
   rw [ihg _ (by simp; omega)]

theorem pcsN_more (f : Nat) (l : List UInt8) (hl : l.length ≤ f) : pcsN f l = pcsN l.length l := by
 obtain ⟨d, rfl⟩ : ∃ d, f = l.length + d := ⟨f - l.length, by omega⟩
 clear hl
 induction d with
 | zero => rfl
 | succ d ih => rw [← Nat.add_assoc, pcsN_succ _ _ (by omega), ih]

theorem pcs_none (l : List UInt8) (h : cutQ false l = none) : pcs l = [l] := by
 unfold pcs
 cases hn : l.length with
 | zero => simp [pcsN]
 | succ n => simp [pcsN, h]

theorem pcs_some (l : List UInt8) (k : Nat) (h : cutQ false l = some k) : pcs l = l.take k :: pcs (l.drop (k + 1)) := by
 have hk := cutQ_lt l.length false l k (Nat.le_refl _) h
 unfold pcs
 cases hn : l.length with
 | zero => omega
 | succ n =>
  simp only [pcsN, h]
  rw [pcsN_more n _ (by simp; omega)]

def trimB (l : List UInt8) : List UInt8 := Lib.trimS l [9, 32]

def splitV (L : List Hd) (n : List UInt8) : List (List UInt8) := (pcs (getT L n)).map trimB

end Go.Proofs.YtamockkjbkibdaaGreatDoor

namespace Go.Proofs.YtamockkjbkibdaaGreatDoor
open Go.RowKit

def cellsT (L : List (List UInt8)) : List Value := L.map fun x => Value.string ⟨x.toArray⟩

theorem cellsT_app (a b : List (List UInt8)) : cellsT (a ++ b) = cellsT a ++ cellsT b := by simp [cellsT]

theorem cellsT_one (X : ByteArray) : cellsT [X.data.toList] = [.string X] := by
 show [Value.string ⟨X.data.toList.toArray⟩] = _
 rw [Lib.mk_data]

def cellsH (L : List Hd) : List Value := L.flatMap fun h => [.string ⟨h.name.toArray⟩, .string ⟨h.value.toArray⟩]

theorem cellsH_at (L : List Hd) : ∀ j (h : j < L.length), (cellsH L)[j * 2]? = some (.string ⟨L[j].name.toArray⟩) ∧ (cellsH L)[j * 2 + 1]? = some (.string ⟨L[j].value.toArray⟩) := by
 induction L with
 | nil => intro j h; simp at h
 | cons a L ih =>
  intro j h
  have e : cellsH (a :: L) = Value.string ⟨a.name.toArray⟩ :: Value.string ⟨a.value.toArray⟩ :: cellsH L := rfl
  cases j with
  | zero => rw [e]; exact ⟨rfl, rfl⟩
  | succ j =>
   have := ih j (by simpa using h)
   rw [e, show (j + 1) * 2 = j * 2 + 1 + 1 by omega]
   simpa using this

theorem TxAt.view {w : World} {v : Value} {L : List (List UInt8)} (h : TxAt w v L) : ∃ a cap, v = .slice a L.length cap ∧ L.length ≤ cap ∧ cap ≤ maxLen ∧ ∀ j (hj : j < L.length), ∃ b off, a = some ⟨b, off, none⟩ ∧ w.cell? ⟨b, off + j, none⟩ = some (.string ⟨L[j].toArray⟩) := h

theorem tx_of {w : World} {b off cap : Nat} {L : List (List UInt8)} (h1 : L.length ≤ cap) (h2 : cap ≤ maxLen) (h : TxL w b off L) : TxAt w (.slice (some ⟨b, off, none⟩) L.length cap) L :=
 ⟨_, cap, rfl, h1, h2, fun j hj => ⟨b, off, rfl, h j hj⟩⟩

theorem tx_nil (w : World) : TxAt w (.slice none 0 0) [] := ⟨none, 0, rfl, Nat.le_refl _, by decide, fun j hj => by simp at hj⟩

theorem HdAt.view {w : World} {v : Value} {L : List Hd} (h : HdAt w v L) : ∃ a cap, v = .slice a L.length cap ∧ L.length ≤ cap ∧ cap ≤ maxLen ∧ ∀ j (hj : j < L.length), ∃ b off, a = some ⟨b, off, none⟩ ∧ w.cell? ⟨b, off + j * 2, none⟩ = some (.string ⟨L[j].name.toArray⟩) ∧ w.cell? ⟨b, off + j * 2 + 1, none⟩ = some (.string ⟨L[j].value.toArray⟩) := h

theorem hd_of {w : World} {b off cap : Nat} {L : List Hd} (h1 : L.length ≤ cap) (h2 : cap ≤ maxLen) (h : HdS w b off L) : HdAt w (.slice (some ⟨b, off, none⟩) L.length cap) L :=
 ⟨_, cap, rfl, h1, h2, fun j hj => ⟨b, off, rfl, h j hj⟩⟩

theorem own_txt' {w : World} {B : Nat} {e : TypeId} {v : Value} {L : List (List UInt8)} (h : w.ownsRow B e 1 v L.length (cellsT L)) : TxAt w v L := by
 have h2 := h.2
 rcases h2 with ⟨hv, hn⟩ | ⟨g, cap, cur, rfl, hg, hrow, hnc, hcm, hcs, htake⟩
 ·obtain rfl := List.eq_nil_of_length_eq_zero hn
  rw [hv]; exact tx_nil w
 ·refine tx_of hnc hcm fun j hj => ?_
  rw [Nat.zero_add, h.cellAt j (by omega)]
  simp [cellsT, hj]

theorem own_same {w w' : World} {B : Nat} {e : TypeId} {k : Nat} {v : Value} {n : Nat} {xs : List Value} (h : w.ownsRow B e k v n xs) (hb : Below w.heap.size w w') : w'.ownsRow B e k v n xs := by
 rcases h.2 with h' | ⟨g, cap, cur, hv, hg, hrow, rest⟩
 ·exact ⟨h.1, .inl h'⟩
 ·exact ⟨h.1, .inr ⟨g, cap, cur, hv, hg, (hb.block g (Array.getElem?_eq_some_iff.1 hrow).1).trans hrow, rest⟩⟩

theorem xba {a b : ByteArray} (h : a.data.toList = b.data.toList) : a = b := by
 cases a; cases b; simp at h; simp [h]

theorem xsize (l : List UInt8) : (⟨l.toArray⟩ : ByteArray).size = l.length := by simp [ByteArray.size]

end Go.Proofs.YtamockkjbkibdaaGreatDoor

namespace Go.Proofs.YtamockkjbkibdaaGreatDoor
open Go.RowKit

theorem byteInt (c : UInt8) (n : Nat) (h : n < 256) : ((c.toNat : Int) == (n : Int)) = decide (c = UInt8.ofNat n) := by
 have h1 : (UInt8.ofNat n).toNat = n := by simp [UInt8.toNat_ofNat']; omega
 rw [Bool.eq_iff_iff]
 simp only [beq_iff_eq, decide_eq_true_eq]
 constructor
 ·intro e; exact UInt8.toNat_inj.1 (by rw [h1]; omega)
 ·intro e; rw [e, h1]

theorem byteNe {c : UInt8} {n : Nat} (h : n < 256) (e : c ≠ UInt8.ofNat n) : ((c.toNat : Int) == (n : Int)) = false := by
 rw [byteInt c n h]; simpa using e

set_option maxHeartbeats 1000000 in
theorem closing_any (s : ByteArray) (i : Nat) (w : World) (hs : s.size ≤ 140737488351232) (hi : i < s.size) :
  Calls Tryz.prog 154 #[.string s, .int .i64 i] w fun e w' => e = .returned (.int .i64 ((i + 1 + clos (s.data.toList.drop (i + 1)) : Nat) : Int)) ∧ w = w' := by
 go_enter Tryz.func154, Tryz.ntmps154
 go_wp2
 go_loop [1] (fun v => ∃ k : Nat, k ≤ s.size + 1 ∧ v = .int .i64 k ∧ k + clos (s.data.toList.drop k) = i + 1 + clos (s.data.toList.drop (i + 1))) (fun v => s.size + 2 - (intOf v).toNat)
 case atStart => exact ⟨i + 1, by omega, by go_num, rfl⟩
 case round =>
  obtain ⟨k, hk, rfl, hc⟩ := hrel
  have HC := hid hc
  clear hc
  by_cases hlt : k < s.size
  ·have hlt' : (k : Int) < (s.size : Int) := by omega
   have HD := hid (drop_cons s k hlt)
   by_cases h1 : s[k] = 34
   ·have h1' : (s[k].toNat : Int) = 34 := by rw [h1]; rfl
    have HR := hid (show k = i + 1 + clos (s.data.toList.drop (i + 1)) by have := HC.out; rw [HD.out, h1, clos_quote] at this; omega)
    clear h1
    go_wp2
    go_ret
    exact ⟨ret_int (by have := HR.out; omega), rfl⟩
   ·have h1' : ((s[k].toNat : Int) == 34) = false := byteNe (n := 34) (by omega) h1
    by_cases h2 : s[k] = 92
    ·have h2' : (s[k].toNat : Int) = 92 := by rw [h2]; rfl
     have HR := hid (show k + 2 + clos (s.data.toList.drop (k + 2)) = i + 1 + clos (s.data.toList.drop (i + 1)) by
      have := HC.out; rw [HD.out, h2, clos_back, List.drop_drop] at this
      rw [show k + 1 + 1 = k + 2 by omega] at this; omega)
     clear h1 h2
     go_wp2
     go_round
     case rel =>
      exact ⟨k + 2, by omega, by go_num, HR.out⟩
     case measure => simp [intOf]; omega
    ·have h2' : ((s[k].toNat : Int) == 92) = false := byteNe (n := 92) (by omega) h2
     have HR := hid (show k + 1 + clos (s.data.toList.drop (k + 1)) = i + 1 + clos (s.data.toList.drop (i + 1)) by
      have := HC.out; rw [HD.out, clos_other _ _ h1 h2] at this; omega)
     clear h1 h2
     go_wp2
     go_round
     case rel =>
      exact ⟨k + 1, by omega, by go_num, HR.out⟩
     case measure => simp [intOf]; omega
  ·have hlt' : decide ((k : Int) < (s.size : Int)) = false := by rw [decide_eq_false_iff_not]; omega
   have HR := hid (show k = i + 1 + clos (s.data.toList.drop (i + 1)) by
    have := HC.out; rw [List.drop_eq_nil_of_le (by simp; omega)] at this; simp [clos] at this; omega)
   go_wp2
   go_ret
   exact ⟨ret_int (by have := HR.out; omega), rfl⟩

theorem clos_le : ∀ (n : Nat) (l : List UInt8), l.length ≤ n → clos l ≤ l.length + 1 := by
 intro n
 induction n with
 | zero =>
  intro l hl
  have : l = [] := List.eq_nil_of_length_eq_zero (by omega)
  subst this; simp [clos]
 | succ n ih =>
  intro l hl
  cases l with
  | nil => simp [clos]
  | cons c r =>
   simp at hl
   by_cases h1 : c = 34
   ·subst h1; rw [clos_quote]; simp
   ·by_cases h2 : c = 92
    ·subst h2
     rw [clos_back]
     have := ih (r.drop 1) (by simp; omega)
     cases r with
     | nil => simp [clos]
     | cons d r => simp at this ⊢; omega
    ·rw [clos_other c r h1 h2]
     have := ih r (by omega)
     simp; omega

def cutA (l : List UInt8) : List UInt8 := match cutQ false l with | none => l | some k => l.take k

def cutR (l : List UInt8) : List UInt8 := match cutQ false l with | none => [] | some k => l.drop (k + 1)

def cutB (l : List UInt8) : Bool := (cutQ false l).isSome

theorem xret_ssb {a b c d : ByteArray} {x y : Bool} (h : a = b) (h2 : c = d) (g : x = y) : Ending.returned (.tuple #[.string a, .string c, .bool x]) = .returned (.tuple #[.string b, .string d, .bool y]) := by rw [h, h2, g]

theorem xext {a : ByteArray} {l : List UInt8} (h : a.data.toList = l) : a = ⟨l.toArray⟩ := xba h

set_option maxHeartbeats 1000000 in
theorem cutPiece_any (s : ByteArray) (w : World) (hs : s.size ≤ 140737488351232) :
  Calls Tryz.prog 121 #[.string s] w fun e w' => e = .returned (.tuple #[.string ⟨(cutA s.data.toList).toArray⟩, .string ⟨(cutR s.data.toList).toArray⟩, .bool (cutB s.data.toList)]) ∧ Below w.heap.size w w' := by
 go_enter Tryz.func121, Tryz.ntmps121
 go_wp2
 go_loop [5] (fun v => ∃ k : Nat, k ≤ s.size + 2 ∧ v = .int .i64 k ∧ cutQ false s.data.toList = (cutQ false (s.data.toList.drop k)).map (· + k)) (fun v => s.size + 3 - (intOf v).toNat)
 case atStart => exact ⟨0, by omega, by go_num, by simp⟩
 case round =>
  obtain ⟨k, hk, rfl, hc⟩ := hrel
  have HC := hid hc
  clear hc
  by_cases hlt : k < s.size
  ·have hlt' : (k : Int) < (s.size : Int) := by omega
   have HD := hid (drop_cons s k hlt)
   by_cases h1 : s[k] = 44
   ·have h1' : (s[k].toNat : Int) = 44 := by rw [h1]; rfl
    have HR := hid (show cutQ false s.data.toList = some k by have := HC.out; rw [HD.out, h1, cutQ_comma] at this; simpa using this)
    have hk0 : (0 : Int) ≤ (k : Int) := by omega
    have hk1 : (k : Int) ≤ (s.size : Int) := by omega
    have hk2 : (k : Int) + 1 ≤ (s.size : Int) := by omega
    clear h1
    go_wp2
    go_quiet (fail)
    go_wp2
    go_ret3
    refine ⟨xret_ssb (xext ?_) (xext ?_) ?_, Go.below_drewN (Below.refl _ _) _⟩
    ·rw [cutA, HR.out, Lib.extract_data]; simp
    ·rw [cutR, HR.out]; exact extract_drop s (k + 1)
    ·rw [cutB, HR.out]; rfl
   ·have h1' : ((s[k].toNat : Int) == 44) = false := byteNe (n := 44) (by omega) h1
    by_cases h2 : s[k] = 34
    ·have h2' : (s[k].toNat : Int) = 34 := by rw [h2]; rfl
     have hcl : clos (s.data.toList.drop (k + 1)) + (k + 1) ≤ s.size + 1 := by have := clos_le _ (s.data.toList.drop (k + 1)) (Nat.le_refl _); simp at this; omega
     have HR := hid (show cutQ false s.data.toList = (cutQ false (s.data.toList.drop (k + 1 + clos (s.data.toList.drop (k + 1)) + 1))).map (· + (k + 1 + clos (s.data.toList.drop (k + 1)) + 1)) by
      have := HC.out
      rw [HD.out, h2, cutQ_false_open, map_map_add, List.drop_drop] at this
      rw [this, show k + 1 + (clos (s.data.toList.drop (k + 1)) + 1) = k + 1 + clos (s.data.toList.drop (k + 1)) + 1 by omega, show clos (s.data.toList.drop (k + 1)) + 2 + k = k + 1 + clos (s.data.toList.drop (k + 1)) + 1 by omega])
     clear h1 h2
     obtain ⟨q, hq⟩ : ∃ q, q = clos (s.data.toList.drop (k + 1)) := ⟨_, rfl⟩
     rw [← hq] at hcl HR
     have HQ := hid hq
     clear hq
     go_wp2_with (go_at_call 154; refine (closing_any s k _ hs hlt).mono ?_; rintro e w' ⟨rfl, rfl⟩; rw [← HQ.out])
     go_round
     case rel =>
      exact ⟨k + 1 + q + 1, by omega, by go_num, HR.out⟩
     case measure => simp [intOf]; omega
    ·have h2' : ((s[k].toNat : Int) == 34) = false := byteNe (n := 34) (by omega) h2
     have HR := hid (show cutQ false s.data.toList = (cutQ false (s.data.toList.drop (k + 1))).map (· + (k + 1)) by
      have := HC.out
      rw [HD.out, cutQ_other _ _ h1 h2, map_map_add] at this
      rw [this, Nat.add_comm 1 k])
     clear h1 h2
     go_wp2
     go_round
     case rel =>
      exact ⟨k + 1, by omega, by go_num, HR.out⟩
     case measure => simp [intOf]; omega
  ·have hlt' : ¬ (k : Int) < (s.size : Int) := by omega
   have HR := hid (show cutQ false s.data.toList = none by
    have := HC.out; rw [List.drop_eq_nil_of_le (by simp; omega)] at this; simpa [cutQ] using this)
   go_wp2
   go_ret3
   refine ⟨xret_ssb (xext ?_) (xext ?_) ?_, Below.refl _ _⟩
   ·rw [cutA, HR.out]
   ·rw [cutR, HR.out]
   ·rw [cutB, HR.out]; rfl

end Go.Proofs.YtamockkjbkibdaaGreatDoor

namespace Go.Proofs.YtamockkjbkibdaaGreatDoor
open Go.RowKit

theorem infoTx : (Tryz.prog.info? 9).map (fun i => (i.zero, i.size, i.bytes)) = some (some (.string ByteArray.empty), 1, 16) := by kernel_rfl

theorem info3 {i : Option TypeInfo} {z : Value} {a b : Nat} (h : i.map (fun i => (i.zero, i.size, i.bytes)) = some (some z, a, b)) : ∃ j, i = some j ∧ j.zero = some z ∧ j.size = a ∧ j.bytes = b := by
 cases i with
 | none => cases h
 | some j =>
  simp at h
  exact ⟨j, rfl, h.1, h.2.1, h.2.2⟩

end Go.Proofs.YtamockkjbkibdaaGreatDoor

namespace Go.Proofs.YtamockkjbkibdaaGreatDoor
open Go.RowKit

theorem trimB_any (s : ByteArray) (w : World) (hs : s.size ≤ 9223372036854775807) :
  Calls Tryz.prog 106 #[.string s, .string ⟨#[9, 32]⟩] w fun e w' => e = .returned (.string ⟨(trimB s.data.toList).toArray⟩) ∧ Below w.heap.size w w' :=
 trim5_any s ⟨#[9, 32]⟩ w hs (by decide) (by decide)

theorem join5_any (v : Value) (L : List (List UInt8)) (sep : ByteArray) (w : World) (h : TxAt w v L) (hl : L.length ≤ 140737488355328) (hf : (Lib.join L sep.data.toList).length ≤ 140737488355328) :
  Calls Tryz.prog 63 #[v, .string sep] w fun e w' => e = .returned (.string ⟨(Lib.join L sep.data.toList).toArray⟩) ∧ Below w.heap.size w w' := by
 obtain ⟨a, cap, rfl, h3, h4, h5⟩ := h
 by_cases h0 : L = []
 ·subst h0
  refine (Tryz.strings_Join_none a cap sep w).mono ?_
  rintro e w' ⟨rfl, rfl⟩
  exact ⟨rfl, Below.refl _ _⟩
 ·have hl0 : 0 < L.length := List.length_pos_iff.2 h0
  obtain ⟨b, off, rfl, c0⟩ := h5 0 hl0
  have h2 : b < w.heap.size := World.block_lt_of_cell? w _ c0
  have e1 : (L.map fun x => (⟨x.toArray⟩ : ByteArray)).map (·.data.toList) = L := by
   rw [List.map_map]
   exact List.map_id L
  have hj := Tryz.strings_Join b off cap (L.map fun x => (⟨x.toArray⟩ : ByteArray)) sep w ?_ h2 (by simp; omega) (by simp; omega) ?_
  ·rw [e1, List.length_map] at hj
   exact hj
  ·intro j x hx
   rw [List.getElem?_map] at hx
   obtain ⟨y, hy, rfl⟩ := Option.map_eq_some_iff.1 hx
   obtain ⟨hj, e⟩ := List.getElem?_eq_some_iff.1 hy
   obtain ⟨b', off', e', c'⟩ := h5 j hj
   cases e'
   rw [c', e]
  ·rw [e1]; omega

def bulkV (L : List Hd) : Nat := (L.map fun h => h.value.length + 2).sum

theorem join_len (L : List (List UInt8)) (sep : List UInt8) : (Lib.join L sep).length ≤ (L.map fun x => x.length + sep.length).sum := by
 unfold Lib.join
 induction L with
 | nil => simp
 | cons x r ih =>
  cases r with
  | nil => simp [List.intercalate]
  | cons y r => simp [List.intercalate] at ih ⊢; omega

theorem selV_len (L : List Hd) (n : List UInt8) : (selV L n).length ≤ L.length := by
 unfold selV; simp [List.length_filter_le]

theorem getT_len (L : List Hd) (n : List UInt8) : (getT L n).length ≤ bulkV L := by
 refine Nat.le_trans (join_len _ _) ?_
 unfold selV bulkV
 rw [List.map_map]
 induction L with
 | nil => simp
 | cons h L ih =>
  by_cases hh : isN n h = true
  ·simp [List.filter_cons, hh] at ih ⊢; omega
  ·simp [List.filter_cons, hh] at ih ⊢; omega

def Szd (n : Nat) (L : List Hd) : Prop := ∀ h ∈ L, h.name.length ≤ n ∧ h.value.length ≤ n

theorem strNe {M N : ByteArray} (h : ¬ M = N) : (M.toList == N.toList) = false := by
 rw [Lib.toList_data, Lib.toList_data]
 rw [beq_eq_false_iff_ne]
 exact fun e => h (xba e)

theorem xret_sb {a b : ByteArray} {x y : Bool} (h : a = b) (g : x = y) : Ending.returned (.tuple #[.string a, .bool x]) = .returned (.tuple #[.string b, .bool y]) := by rw [h, g]

set_option maxHeartbeats 2000000 in
set_option maxRecDepth 100000 in
theorem get_any (v : Value) (L : List Hd) (n : ByteArray) (w : World) (h : HdAt w v L) (hs : n.size ≤ 140737488351232) (hz : Szd 140737488351232 L) (hl : L.length ≤ 1000000) (hb : bulkV L ≤ 140737488355328) :
  Calls Tryz.prog 120 #[v, .string n] w fun e w' => e = .returned (.tuple #[.string ⟨(getT L n.data.toList).toArray⟩, .bool (getB L n.data.toList)]) ∧ Below w.heap.size w w' := by
 obtain ⟨a1, c1, rfl, hc1, hm1, hv1⟩ := h.view
 have V1 := hid hv1
 clear h hv1
 obtain ⟨i0, hi, hz0, hz1, hz2⟩ := info3 infoTx
 have HZ := hid hz
 have HB := hid hb
 clear hz hb
 obtain ⟨N, hN⟩ : ∃ N : ByteArray, N = ⟨(low n.data.toList).toArray⟩ := ⟨_, rfl⟩
 have HN := hid (show N.data.toList = low n.data.toList by rw [hN])
 have HNe := hid hN
 clear hN
 go_enter Tryz.func120, Tryz.ntmps120
 go_wp2_with (go_at_call 76; refine (lower_any n _ hs).mono ?_)
 rintro e w0 ⟨rfl, hb0⟩
 rw [← HNe.out]
 go_wp2
 go_loopw [6, 8, 13] (fun vv x i wr => ∃ k : Nat, k ≤ L.length ∧ i = .int .i64 k ∧ wr.ownsRow w.heap.size 9 1 vv (selV (L.take k) n.data.toList).length (cellsT (selV (L.take k) n.data.toList)) ∧ Below w.heap.size w wr)
  (fun _ _ i _ => L.length - (intOf i).toNat)
 case atStart => exact ⟨0, Nat.zero_le _, rfl, World.ownsRow_nil _ _ _ _, hb0⟩
 case round =>
  obtain ⟨k, hk, rfl, hown, hbw⟩ := hrel
  have HO := hid hown
  have hwr := hbw.size
  clear hown
  by_cases hlt : k < L.length
  ·have hlt' : (k : Int) < (L.length : Int) := by omega
   obtain ⟨b1, o1, rfl, e1, e2⟩ := V1.out k hlt
   have f1 : wr.cell? ⟨b1, o1 + k * 2, none⟩ = some (.string ⟨L[k].name.toArray⟩) := (hbw.cell (World.block_lt_of_cell? w _ e1)).trans e1
   have f2 : wr.cell? ⟨b1, o1 + k * 2 + 1, none⟩ = some (.string ⟨L[k].value.toArray⟩) := (hbw.cell (World.block_lt_of_cell? w _ e2)).trans e2
   clear e1 e2
   obtain ⟨nm, hnm⟩ : ∃ x : ByteArray, x = ⟨L[k].name.toArray⟩ := ⟨_, rfl⟩
   obtain ⟨vl, hvl⟩ : ∃ x : ByteArray, x = ⟨L[k].value.toArray⟩ := ⟨_, rfl⟩
   rw [← hnm] at f1
   rw [← hvl] at f2
   have hsz : nm.size ≤ 140737488351232 := by rw [hnm, xsize]; exact (HZ.out _ (List.getElem_mem hlt)).1
   have HV := hid hvl
   have HM := hid hnm
   clear hnm hvl
   have HT := hid (show L.take (k + 1) = L.take k ++ [L[k]] by rw [List.take_add_one, List.getElem?_eq_getElem hlt]; rfl)
   obtain ⟨M, hM⟩ : ∃ x : ByteArray, x = ⟨(low nm.data.toList).toArray⟩ := ⟨_, rfl⟩
   have HMe := hid hM
   clear hM
   go_wp2_with fail
   refine (lower_any nm _ hsz).mono ?_
   rintro e w1 ⟨rfl, hb1⟩
   rw [← HMe.out]
   have hbw1 := (hbw.alloc hwr (.cells #[.string nm, .string vl] 94)).trans (hb1.mono (by simp; omega))
   have g2 : w1.cell? ⟨wr.heap.size, 1, none⟩ = some (.string vl) := (hb1.cell (p := ⟨wr.heap.size, 1, none⟩) (by simp)).trans (by simp [go_sem])
   have HO1 := hid (own_same (HO.out.alloc (.cells #[.string nm, .string vl] 94)) hb1)
   have hw1 := hbw1.size
   by_cases hmn : M = N
   ·subst hmn
    have HS := hid (show selV (L.take (k + 1)) n.data.toList = selV (L.take k) n.data.toList ++ [vl.data.toList] by
     rw [HT.out, selV_snoc, if_pos, HV.out]
     rw [isN, beq_iff_eq, ← HN.out, HMe.out, HM.out])
    go_wp2_with (at_builtin; go_must (refine wpList_append_own _ rfl _ _ 22 rfl w.heap.size 9 i0 (.string ByteArray.empty) 1 16 Tryz.underlying22 hi hz0 hz1 hz2 rfl (by decide) _ _ _ rfl (HO1.out.alloc _) ⟨w1.heap.size, 0, none⟩ 1 1 [.string vl] rfl rfl ?c1 ?c2 ?c3 ?c4 ?c5 ?_))
    case c1 =>
     intro q u hq
     match q, hq with
     | 0, hq => simp at hq; subst hq; simp [Addr.add]
    case c2 => intro u hu; simp at hu; subst hu; rfl
    case c3 => have := selV_len (L.take k) n.data.toList; simp at this; unfold maxLen; omega
    case c4 => have := selV_len (L.take k) n.data.toList; simp at this; omega
    case c5 => simp; omega
    intro v' w2 hown' hgrow hnil
    have HO2 := hid hown'
    have HB2 := hid (show Below w.heap.size w w2 from (hbw1.alloc hw1 _).grown hgrow (by simp; omega) (fun g hg => (HO1.out.lt g hg).1))
    clear hown' hgrow hnil
    go_wp2
    go_roundw
    case rel =>
     refine ⟨k + 1, by omega, by go_num, ?_, HB2.out⟩
     rw [HS.out, cellsT_app, cellsT_one, List.length_append]
     exact HO2.out
    case measure => simp [intOf]; omega
   ·have hne := strNe hmn
    have HS := hid (show selV (L.take (k + 1)) n.data.toList = selV (L.take k) n.data.toList by
     rw [HT.out, selV_snoc, if_neg, List.append_nil]
     rw [isN, beq_iff_eq, ← HN.out]
     intro e
     exact hmn (xba (by rw [← e, HMe.out, HM.out])))
    clear hmn
    go_wp2
    go_roundw
    case rel =>
     refine ⟨k + 1, by omega, by go_num, ?_, hbw1⟩
     rw [HS.out]
     exact HO1.out
    case measure => simp [intOf]; omega
  ·have hke : k = L.length := by omega
   subst hke
   have HT := hid (show selV (L.take L.length) n.data.toList = selV L n.data.toList by rw [List.take_length])
   have hown := HO.out
   rw [HT.out] at hown
   have hta := own_txt' hown
   obtain ⟨q, hq⟩ : ∃ q, q = selV L n.data.toList := ⟨_, rfl⟩
   have HQ := hid hq
   rw [← hq] at hown hta
   have hql : q.length ≤ L.length := by rw [hq]; exact selV_len _ _
   obtain ⟨a2, c2, rfl, _, _, _⟩ := hta.view
   have HA := hid hta
   clear hown hta hq HT HO
   have hjl : (Lib.join q [44, 32]).length ≤ 140737488355328 := by
    have h1 := getT_len L n.data.toList
    rw [getT, ← HQ.out] at h1
    exact Nat.le_trans h1 HB.out
   have HJ := hid (join5_any _ q ⟨#[44, 32]⟩ wr HA.out (by omega) hjl)
   clear hjl
   go_wp2_with fail
   refine HJ.out.mono ?_
   rintro e w3 ⟨rfl, hb3⟩
   go_wp2
   go_ret2
   refine ⟨xret_sb (xext ?_) ?_, hbw.trans (hb3.mono hwr)⟩
   ·rw [getT, ← HQ.out]
   ·rw [getB, ← HQ.out]
    cases q with
    | nil => rfl
    | cons x y => simp

end Go.Proofs.YtamockkjbkibdaaGreatDoor

namespace Go.Proofs.YtamockkjbkibdaaGreatDoor
def pNo : List UInt8 := [110, 111, 45, 114, 101, 102, 101, 114, 114, 101, 114]

def pDown : List UInt8 := [110, 111, 45, 114, 101, 102, 101, 114, 114, 101, 114, 45, 119, 104, 101, 110, 45, 100, 111, 119, 110, 103, 114, 97, 100, 101]

def pSame : List UInt8 := [115, 97, 109, 101, 45, 111, 114, 105, 103, 105, 110]

def pOrig : List UInt8 := [111, 114, 105, 103, 105, 110]

def pStrict : List UInt8 := [115, 116, 114, 105, 99, 116, 45, 111, 114, 105, 103, 105, 110]

def pCross : List UInt8 := [111, 114, 105, 103, 105, 110, 45, 119, 104, 101, 110, 45, 99, 114, 111, 115, 115, 45, 111, 114, 105, 103, 105, 110]

def pSCross : List UInt8 := [115, 116, 114, 105, 99, 116, 45, 111, 114, 105, 103, 105, 110, 45, 119, 104, 101, 110, 45, 99, 114, 111, 115, 115, 45, 111, 114, 105, 103, 105, 110]

def pUns : List UInt8 := [117, 110, 115, 97, 102, 101, 45, 117, 114, 108]

def knownR (s : List UInt8) : Bool := (s == pNo) || ((s == pDown) || ((s == pSame) || ((s == pOrig) || ((s == pStrict) || ((s == pCross) || ((s == pSCross) || ((s == pUns))))))))

def clearU (u : Adr) : Adr := { u with user := [], pass := [] }

def stripV (u : Adr) (only : Bool) : List UInt8 :=
 if webV u.scheme then (if !only && decide ((bareV (clearU u)).length ≤ 4096) then bareV (clearU u) else textO (orgV (clearU u)) ++ [47]) else []

def tellR (p : List UInt8) (same down : Bool) (u : Adr) : List UInt8 :=
 if p = pDown then (if down then [] else stripV u false)
 else if p = pUns then stripV u false
 else if p = pCross then stripV u (!same)
 else if p = pSCross then (if same then stripV u false else if down then [] else stripV u true)
 else if p = pStrict then (if down then [] else stripV u true)
 else if p = pOrig then stripV u true
 else if p = pSame then (if same then stripV u false else [])
 else []

def nameR (p : List UInt8) : List UInt8 := if knownR p then p else pSCross

def downR (u v : Adr) : Bool := (u.scheme == sHttps) && !trustV v

def ofR (p : List UInt8) (u v : Adr) : List UInt8 := tellR (nameR p) (sameO (orgV u) (orgV v)) (downR u v) u

def fromR (L : List (List UInt8)) (old : List UInt8) : List UInt8 := L.foldl (fun o x => if knownR (low x) then low x else o) old

theorem tell_one (p : List UInt8) (s d : Bool) (u : Adr) : tellR p s d u = [] ∨ tellR p s d u = stripV u false ∨ tellR p s d u = stripV u true := by
  unfold tellR
  cases s <;> cases d <;> simp only [Bool.not_true, Bool.not_false, if_true, if_false, Bool.false_eq_true] <;>
    (split
     · first | exact .inl rfl | exact .inr (.inl rfl)
     · split
       · first | exact .inr (.inl rfl)
       · split
         · first | exact .inr (.inl rfl) | exact .inr (.inr rfl)
         · split
           · first | exact .inl rfl | exact .inr (.inl rfl) | exact .inr (.inr rfl)
           · split
             · first | exact .inl rfl | exact .inr (.inr rfl)
             · split
               · exact .inr (.inr rfl)
               · split
                 · first | exact .inl rfl | exact .inr (.inl rfl)
                 · exact .inl rfl)

theorem org_web {u : Adr} (h : webV u.scheme = true) : orgV u = ⟨u.scheme, u.host, hasP u, false⟩ := org_spec (web_spec h)

theorem bare_whole (u : Adr) : bareV (clearU u) = textV (wholeU u) := by
 show bareV (clearU u) = bareV (clearU u) ++ []
 rw [List.append_nil]

theorem strip_read {u : Adr} (h : WebU u) (b : Bool) (hl : (stripV u b).length ≤ 4096) : ∃ v, readV (stripV u b) none = .ok v ∧ v.user = [] ∧ v.pass = [] ∧ v.hasFragment = false := by
 unfold stripV at hl ⊢
 rw [if_pos h.web] at hl ⊢
 split at hl
 ·rename_i hc
  rw [if_pos hc, bare_whole]
  rw [bare_whole] at hl
  exact ⟨_, h.whole.read hl, rfl, rfl, rfl⟩
 ·rename_i hc
  have e1 : orgV (clearU u) = ⟨u.scheme, u.host, hasP u, false⟩ := org_web (u := clearU u) h.web
  rw [if_neg hc, e1, text_root h.sp []]
  rw [e1, text_root h.sp []] at hl
  exact ⟨_, (h.sp.root partP_nil).read hl, rfl, rfl, rfl⟩

theorem strip_ne {u : Adr} (h : webV u.scheme = true) (b : Bool) : stripV u b ≠ [] := by
 unfold stripV
 rw [if_pos h]
 split
 ·unfold bareV; simp
 ·simp

def localV (h : List UInt8) : Bool := (decide (9 ≤ h.length) && (h.drop (h.length - 9) == [108, 111, 99, 97, 108, 104, 111, 115, 116])) || ((decide (4 < h.length) && (h.take 4 == [49, 50, 55, 46])) || (h == [91, 58, 58, 49, 93]))

theorem suffix_drop {a b : List UInt8} (h : Lib.hasSuffix a b = true) : b.length ≤ a.length ∧ a.drop (a.length - b.length) = b := by
 have h := (List.isSuffixOf_iff_suffix).1 h
 obtain ⟨t, rfl⟩ := h
 refine ⟨by simp, ?_⟩
 rw [List.length_append, Nat.add_sub_cancel, List.drop_left]

theorem near_local {h : List UInt8} (hn : nearV h = true) (hp : parseV h true = some h) : localV h = true := by
 unfold nearV at hn
 unfold localV
 simp only [Bool.or_eq_true, Bool.and_eq_true, beq_iff_eq, decide_eq_true_eq] at hn ⊢
 rcases hn with rfl | h1 | rfl | ⟨h1, -⟩
 ·exact .inl ⟨by decide, by decide⟩
 ·left
  obtain ⟨h2, h3⟩ := suffix_drop h1
  simp only [List.length_cons, List.length_nil] at h2 h3
  refine ⟨by omega, ?_⟩
  have e : h.drop (h.length - 9) = (h.drop (h.length - 10)).drop 1 := by rw [List.drop_drop]; congr 1; omega
  rw [e, h3]
  rfl
 ·exact .inr (.inr rfl)
 ·right; left
  have h1 := (List.isPrefixOf_iff_prefix).1 h1
  obtain ⟨t, rfl⟩ := h1
  refine ⟨?_, by simp⟩
  cases t with
  | nil => exact absurd hp (by decide +kernel)
  | cons c t => simp

end Go.Proofs.YtamockkjbkibdaaGreatDoor
