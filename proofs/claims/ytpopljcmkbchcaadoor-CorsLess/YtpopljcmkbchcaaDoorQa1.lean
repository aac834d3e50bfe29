/-
  Walks and plain facts that this claim leans on, put together out of 16 texts: Pa, Pb, Pf, Pg, Ph, Xa, Xb, Xc, Wa, Wi, Pd, Pe, Xe, Xg, Xi, Sh.
-/
import Derived.Test.YtpopljcmkbchcaaDoorProg
import Derived.WalkKit
import Derived.Lib.Strings
import Derived.Lib.UnsafeStr
import Derived.Laws.IdiomStrings
import Derived.Laws.AppendOwn
import Derived.Lib.BufferMore
import Derived.Lib.SlTrimSet
import Derived.Lib.Join
import Derived.Lib.IndexMore
import Derived.Laws.OwnMore
import Derived.Below
import Derived.WalkSmall
import Derived.Lib.SmallJoins
import Derived.WalkSpells
import Derived.WalkLawsBesides
import Derived.Laws.BitsAllLaws
import Derived.Lib.Bytealg
import Derived.Deep.QuietTactic
import Derived.BigQuiet
import Derived.Deep.LoopGhost
import Derived.Deep.MidRow
import Derived.Shelf.Strings.Builder1
import Derived.Shelf.Strings.Builder2
import Derived.Shelf.Strings.OnBuilder
import Derived.Shelf.Small.Utf8
import Derived.Shelf.Strings.BuilderF
import Derived.Shelf.Strings.BuilderK
import Derived.Shelf.Strings.BuilderRune
import Derived.Shelf.Utf8.AppendRune
import Derived.Shelf.Utf8.AppendRunePlain
import Derived.Shelf.Strings.Builder2Cap
import Derived.Shelf.Strconv.Itoa0
import Derived.Shelf.Strconv.Itoa1
import Derived.Shelf.LaysM
import Derived.Shelf.Strconv.Itoa2
import Derived.Shelf.Strconv.Itoa3
import Derived.Shelf.Unicode.Latin
import Derived.Shelf.Unicode.Decode
import Derived.Shelf.Unicode.DecodeSlow
import Derived.Shelf.Unicode.DecodeAny
import Derived.Shelf.Unicode.CaseLookup
import Derived.Shelf.Unicode.CaseConvert
import Derived.Shelf.Unicode.CaseTo
import Derived.Shelf.Unicode.CaseLaid
set_option linter.unusedSimpArgs false
set_option linter.unusedVariables false

namespace Go.Proofs.YtpopljcmkbchcaaDoor
def blankI (c : Int) : Bool := c == 9 || (c == 10 || (c == 12 || (c == 13 || c == 32)))

def digitI (c : Int) : Bool := decide (48 ≤ c) && decide (c ≤ 57)

def letterI (c : Int) : Bool := (decide (65 ≤ c) && decide (c ≤ 90)) || (decide (97 ≤ c) && decide (c ≤ 122))

def signI (c : Int) : Bool := c == 33 || (c == 35 || (c == 36 || (c == 37 || (c == 38 || (c == 39 || (c == 42 || (c == 43 || (c == 45 || (c == 46 || (c == 94 || (c == 95 || (c == 96 || (c == 124 || c == 126)))))))))))))

def tokI (c : Int) : Bool := signI c || (letterI c || digitI c)

def is16I (c : Int) : Bool := digitI c || ((decide (65 ≤ c) && decide (c ≤ 70)) || (decide (97 ≤ c) && decide (c ≤ 102)))

def val16I (c : Int) : Int :=
 if 97 ≤ c ∧ c ≤ 102 then c - 87 else if 65 ≤ c ∧ c ≤ 70 then c - 55 else if 48 ≤ c ∧ c ≤ 57 then c - 48 else 0

theorem hid {p : Prop} (h : p) : RowKit.Hid p := h

theorem ret_bool {a b : Bool} (h : a = b) : Ending.returned (.bool a) = .returned (.bool b) := by rw [h]

theorem ret_int {k : IntKind} {a b : Int} (h : a = b) : Ending.returned (.int k a) = .returned (.int k b) := by rw [h]

theorem ret_ib {k : IntKind} {a b : Int} {x y : Bool} (h : a = b) (g : x = y) : Ending.returned (.tuple #[.int k a, .bool x]) = .returned (.tuple #[.int k b, .bool y]) := by rw [h, g]

end Go.Proofs.YtpopljcmkbchcaaDoor

namespace Go.Proofs.YtpopljcmkbchcaaDoor
theorem take_snoc (s : ByteArray) (k : Nat) (h : k < s.size) : s.data.toList.take (k + 1) = s.data.toList.take k ++ [s[k]] := by
 rw [List.take_succ_eq_append_getElem (by simpa using h)]; rfl

theorem take_all (s : ByteArray) (k : Nat) (h : ¬ k < s.size) : s.data.toList.take k = s.data.toList :=
 List.take_of_length_le (by simp; omega)

theorem byteCells_one (c : UInt8) : Lib.byteCells [c] = [.int .u8 c.toNat] := rfl

end Go.Proofs.YtpopljcmkbchcaaDoor

namespace Go.Proofs.YtpopljcmkbchcaaDoor
open Go.RowKit

def rowIs (w : World) (g : Nat) (e : TypeId) (l : List UInt8) : Prop :=
 ∃ (C : Array Value) (fz : Nat × Nat), w.heap[g]? = some (.cells C e fz) ∧ l.length ≤ fz.1 ∧ ∀ j (h : j < l.length), C[j]? = some (.int .u8 (l[j].toNat : Int))

theorem rowIs.cell {w : World} {g : Nat} {e : TypeId} {l : List UInt8} (h : rowIs w g e l) (j : Nat) (hj : j < l.length) : w.cell? ⟨g, j, none⟩ = some (.int .u8 (l[j].toNat : Int)) := by
 obtain ⟨C, fz, hg, _, hc⟩ := h
 rw [Lib.cell_of_heap hg]; exact hc j hj

theorem rowIs.frozen {w : World} {g : Nat} {e : TypeId} {l : List UInt8} (h : rowIs w g e l) (j : Nat) (hj : j < l.length) : w.frozen? ⟨g, j, none⟩ = false := by
 obtain ⟨C, fz, hg, hf, _⟩ := h
 simp [World.frozen?, hg]
 omega

theorem rowIs.set {w : World} {g : Nat} {e : TypeId} {l : List UInt8} (h : rowIs w g e l) (j : Nat) (c : UInt8) : rowIs (w.setCell ⟨g, j, none⟩ (.int .u8 (c.toNat : Int))) g e (l.set j c) := by
 obtain ⟨C, fz, hg, hf, hc⟩ := h
 refine ⟨_, fz, Lib.heap_setCell_same hg _, by simpa using hf, ?_⟩
 intro i hi
 have hi' : i < l.length := by simpa using hi
 have hCi := hc i hi'
 have hlt : i < C.size := (Array.getElem?_eq_some_iff.1 hCi).1
 by_cases e : j = i
 ·subst e; simp [hlt]
 ·simp [Array.getElem?_setIfInBounds, e, hCi]

theorem rowIs.drew {w : World} {g : Nat} {e : TypeId} {l : List UInt8} (h : rowIs w g e l) : rowIs w.drew g e l := h

theorem rowIs_bytes (w : World) (e : TypeId) (s : ByteArray) (cap : Nat) (hcap : s.size ≤ cap) : rowIs (w.drew.alloc (.cells (bytesRow s cap) e ((bytesRow s cap).size, (bytesRow s cap).size + 1))) w.heap.size e s.data.toList := by
 refine ⟨_, _, heap_alloc_new w.drew _, ?_, ?_⟩
 ·simp [bytesRow]
 ·intro j hj
  have hj' : j < s.data.size := by simpa using hj
  rw [bytesRow_at s cap j hj']
  simp

theorem rowIs.string {P : Program} {w : World} {g cap : Nat} {e src dst : TypeId} {l : List UInt8} (h : rowIs w g e l) (hs : P.underlying src = some (.slice e)) (he : P.underlying e = some (.int .u8)) (hd : P.underlying dst = some .string) :
  (convert src dst (.slice (some ⟨g, 0, none⟩) l.length cap)).run P w = .ok (.string ⟨l.toArray⟩) w := by
 refine run_convert_bytes_back w src dst e ⟨g, 0, none⟩ cap l hs he hd fun j hj => ?_
 have := h.cell j hj
 rw [Addr.add_lit]
 simpa using this

def lowC (c : UInt8) : UInt8 := if 65 ≤ c.toNat ∧ c.toNat ≤ 90 then UInt8.ofNat (c.toNat + 32) else c

def low (l : List UInt8) : List UInt8 := l.map lowC

theorem lowC_yes (c : UInt8) (h : 65 ≤ c.toNat ∧ c.toNat ≤ 90) : ((lowC c).toNat : Int) = (c.toNat : Int) + 32 := by
 unfold lowC; rw [if_pos h]
 have : (UInt8.ofNat (c.toNat + 32)).toNat = (c.toNat + 32) % 256 := by simp
 rw [this]; omega

theorem lowC_no (c : UInt8) (h : ¬ (65 ≤ c.toNat ∧ c.toNat ≤ 90)) : lowC c = c := by unfold lowC; rw [if_neg h]

def lowTo (l : List UInt8) (k : Nat) : List UInt8 := (l.take k).map lowC ++ l.drop k

theorem lowTo_length (l : List UInt8) (k : Nat) : (lowTo l k).length = l.length := by simp [lowTo]; omega

theorem lowTo_at (l : List UInt8) (k : Nat) (h : k < l.length) (h' : k < (lowTo l k).length) : (lowTo l k)[k] = l[k] := by
 simp [lowTo, List.getElem_append, List.length_take]
 have : min k l.length = k := by omega
 simp [this]

theorem lowTo_succ (l : List UInt8) (k : Nat) (h : k < l.length) : lowTo l (k + 1) = (lowTo l k).set k (lowC l[k]) := by
 have e1 : (l.take k).length = k := by simp; omega
 unfold lowTo
 rw [List.take_succ_eq_append_getElem h, List.drop_eq_getElem_cons h, List.map_append, List.set_append_right _ _ (by simp; omega)]
 have e2 : k - (List.map lowC (List.take k l)).length = 0 := by simp; omega
 rw [e2, List.append_assoc]; rfl

theorem lowTo_zero (l : List UInt8) : lowTo l 0 = l := by simp [lowTo]

theorem lowTo_all (l : List UInt8) : lowTo l l.length = low l := by simp [lowTo, low]

end Go.Proofs.YtpopljcmkbchcaaDoor

namespace Go.Proofs.YtpopljcmkbchcaaDoor
def blC (c : UInt8) : Bool := blankI c.toNat

theorem all_reverse (A : List UInt8) (h : A.all blC = true) : A.reverse.all blC = true := by simpa using h

end Go.Proofs.YtpopljcmkbchcaaDoor

namespace Go.Proofs.YtpopljcmkbchcaaDoor
def ten (n d : Int) : Int := if (9223372036854775807 - d) / 10 < n then 9223372036854775807 else n * 10 + d

def numI (l : List UInt8) : Int := l.foldl (fun n c => ten n ((c.toNat : Int) - 48)) 0

def digP (c : UInt8) : Bool := digitI c.toNat

def intV (l : List UInt8) : Int := if l.all digP && !l.isEmpty then numI l else 0

def intOk (l : List UInt8) : Bool := l.all digP && !l.isEmpty

theorem numI_snoc (l : List UInt8) (c : UInt8) : numI (l ++ [c]) = ten (numI l) ((c.toNat : Int) - 48) := by simp [numI]

theorem ten_range (n d : Int) (h : 0 ≤ n ∧ n ≤ 9223372036854775807) (hd : 0 ≤ d ∧ d ≤ 9) : 0 ≤ ten n d ∧ ten n d ≤ 9223372036854775807 := by
 unfold ten; split <;> omega

theorem numI_range (l : List UInt8) (h : l.all digP = true) : 0 ≤ numI l ∧ numI l ≤ 9223372036854775807 := by
 suffices H : ∀ (l : List UInt8) (n : Int), 0 ≤ n ∧ n ≤ 9223372036854775807 → l.all digP = true → 0 ≤ l.foldl (fun n c => ten n ((c.toNat : Int) - 48)) n ∧ l.foldl (fun n c => ten n ((c.toNat : Int) - 48)) n ≤ 9223372036854775807 from H l 0 (by omega) h
 intro l
 induction l with
 | nil => intro n h _; exact h
 | cons c l ih =>
  intro n hn hall
  simp only [List.all_cons, Bool.and_eq_true] at hall
  refine ih _ (ten_range n _ hn ?_) hall.2
  have := hall.1
  simp [digP, digitI] at this
  omega

end Go.Proofs.YtpopljcmkbchcaaDoor

namespace Go.Proofs.YtpopljcmkbchcaaDoor
structure Hd where
 name : List UInt8
 value : List UInt8
deriving DecidableEq

def isN (n : List UInt8) (h : Hd) : Bool := low h.name == low n

def selV (L : List Hd) (n : List UInt8) : List (List UInt8) := (L.filter (isN n)).map (·.value)

def getT (L : List Hd) (n : List UInt8) : List UInt8 := Lib.join (selV L n) [44, 32]

def getB (L : List Hd) (n : List UInt8) : Bool := !(selV L n).isEmpty

theorem selV_snoc (L : List Hd) (h : Hd) (n : List UInt8) : selV (L ++ [h]) n = selV L n ++ (if isN n h then [h.value] else []) := by
 unfold selV
 rw [List.filter_append, List.map_append]
 by_cases hh : isN n h = true <;> simp [hh]

def cutQ : Bool → List UInt8 → Option Nat
 | _, [] => none
 | false, c :: r => if c = 44 then some 0 else if c = 34 then (cutQ true r).map (· + 1) else (cutQ false r).map (· + 1)
 | true, [_] => none
 | true, c :: d :: r => if c = 34 then (cutQ false (d :: r)).map (· + 1) else if c = 92 then (cutQ true r).map (· + 2) else (cutQ true (d :: r)).map (· + 1)

theorem cutQ_comma (r : List UInt8) : cutQ false (44 :: r) = some 0 := by simp [cutQ]

theorem cutQ_open (r : List UInt8) : cutQ false (34 :: r) = (cutQ true r).map (· + 1) := by simp [cutQ]

theorem cutQ_other (c : UInt8) (r : List UInt8) (h1 : c ≠ 44) (h2 : c ≠ 34) : cutQ false (c :: r) = (cutQ false r).map (· + 1) := by simp [cutQ, h1, h2]

theorem cutQ_close (r : List UInt8) : cutQ true (34 :: r) = (cutQ false r).map (· + 1) := by cases r <;> simp [cutQ]

theorem cutQ_back (r : List UInt8) : cutQ true (92 :: r) = (cutQ true (r.drop 1)).map (· + 2) := by cases r <;> simp [cutQ]

theorem cutQ_in (c : UInt8) (r : List UInt8) (h1 : c ≠ 34) (h2 : c ≠ 92) : cutQ true (c :: r) = (cutQ true r).map (· + 1) := by cases r <;> simp [cutQ, h1, h2]

theorem map_map_add (o : Option Nat) (a b : Nat) : (o.map (· + a)).map (· + b) = o.map (· + (a + b)) := by
 cases o <;> simp [Nat.add_assoc]

theorem cutQ_lt : ∀ (n : Nat) (q : Bool) (l : List UInt8) (k : Nat), l.length ≤ n → cutQ q l = some k → k < l.length := by
 intro n
 induction n with
 | zero =>
  intro q l k hl h
  have : l = [] := List.eq_nil_of_length_eq_zero (by omega)
  subst this; cases q <;> simp [cutQ] at h
 | succ n ih =>
  intro q l k hl h
  cases l with
  | nil => cases q <;> simp [cutQ] at h
  | cons c r =>
   simp at hl
   have step : ∀ (q : Bool) (r' : List UInt8) (a : Nat), r'.length + a ≤ r.length + 1 → 1 ≤ a → (cutQ q r').map (· + a) = some k → k < (c :: r).length := by
    intro q r' a ha ha1 hk
    obtain ⟨j, hj, rfl⟩ := Option.map_eq_some_iff.1 hk
    have := ih q r' j (by omega) hj
    simp; omega
   cases q with
   | false =>
    by_cases h1 : c = 44
    ·subst h1; rw [cutQ_comma] at h; simp at h; subst h; simp
    ·by_cases h2 : c = 34
     ·subst h2; rw [cutQ_open] at h; exact step true r 1 (by omega) (by omega) h
     ·rw [cutQ_other c r h1 h2] at h; exact step false r 1 (by omega) (by omega) h
   | true =>
    by_cases h1 : c = 34
    ·subst h1; rw [cutQ_close] at h; exact step false r 1 (by omega) (by omega) h
    ·by_cases h2 : c = 92
     ·subst h2; rw [cutQ_back] at h
      cases r with
      | nil => simp [cutQ] at h
      | cons d r => exact step true r 2 (by simp) (by omega) h
     ·rw [cutQ_in c r h1 h2] at h; exact step true r 1 (by omega) (by omega) h

def pcsN : Nat → List UInt8 → List (List UInt8)
 | 0, l => [l]
 | f + 1, l => match cutQ false l with
  | none => [l]
  | some k => l.take k :: pcsN f (l.drop (k + 1))

def pcs (l : List UInt8) : List (List UInt8) := pcsN l.length l

theorem pcsN_succ : ∀ (g : Nat) (m : List UInt8), m.length ≤ g → pcsN (g + 1) m = pcsN g m := by
 intro g
 induction g with
 | zero =>
  intro m hm
  have : m = [] := List.eq_nil_of_length_eq_zero (by omega)
  subst this; simp [pcsN, cutQ]
 | succ g ihg =>
  intro m hm
  rw [pcsN, pcsN]
  cases hc : cutQ false m with
  | none => rfl
  | some k =>
   have := cutQ_lt m.length false m k (Nat.le_refl _) hc
   simp only
   rw [ihg _ (by simp; omega)]

theorem pcsN_more (f : Nat) (l : List UInt8) (hl : l.length ≤ f) : pcsN f l = pcsN l.length l := by
 obtain ⟨d, rfl⟩ : ∃ d, f = l.length + d := ⟨f - l.length, by omega⟩
 clear hl
 induction d with
 | zero => rfl
 | succ d ih => rw [← Nat.add_assoc, pcsN_succ _ _ (by omega), ih]

theorem pcs_none (l : List UInt8) (h : cutQ false l = none) : pcs l = [l] := by
 unfold pcs
 cases hn : l.length with
 | zero => simp [pcsN]
 | succ n => simp [pcsN, h]

theorem pcs_some (l : List UInt8) (k : Nat) (h : cutQ false l = some k) : pcs l = l.take k :: pcs (l.drop (k + 1)) := by
 have hk := cutQ_lt l.length false l k (Nat.le_refl _) h
 unfold pcs
 cases hn : l.length with
 | zero => omega
 | succ n =>
  simp only [pcsN, h]
  rw [pcsN_more n _ (by simp; omega)]

def bndV (l : List UInt8) : Int := if l = [] then -1 else intV l

def bndOk (l : List UInt8) : Bool := l == [] || intOk l

end Go.Proofs.YtpopljcmkbchcaaDoor

namespace Go.Proofs.YtpopljcmkbchcaaDoor
def Dec (n : Nat) (T : List UInt8) : Prop := T ≠ [] ∧ T.all digP = true ∧ numI T = (n : Int) ∧ T.length ≤ 40

def decC (d : Nat) : UInt8 := UInt8.ofNat (48 + d)

theorem decC_val (d : Nat) (h : d < 10) : ((decC d).toNat : Int) - 48 = (d : Int) ∧ digP (decC d) = true := by
 rcases (show d = 0 ∨ d = 1 ∨ d = 2 ∨ d = 3 ∨ d = 4 ∨ d = 5 ∨ d = 6 ∨ d = 7 ∨ d = 8 ∨ d = 9 from by omega) with
  rfl | rfl | rfl | rfl | rfl | rfl | rfl | rfl | rfl | rfl <;> decide

theorem Dec.no {n : Nat} {T : List UInt8} (h : Dec n T) (c : UInt8) (hc : digP c = false) : c ∉ T := by
 intro hm
 have := List.all_eq_true.1 h.2.1 c hm
 rw [hc] at this
 cases this

theorem Dec.int {n : Nat} {T : List UInt8} (h : Dec n T) : bndV T = n ∧ bndOk T = true := by
 have e : (T.all digP && !T.isEmpty) = true := by
  rw [h.2.1]
  have := h.1
  cases T with
  | nil => exact absurd rfl this
  | cons a b => rfl
 constructor
 ·unfold bndV intV
  rw [if_neg h.1, if_pos e, h.2.2.1]
 ·unfold bndOk intOk
  rw [e]; simp

end Go.Proofs.YtpopljcmkbchcaaDoor

namespace Go.Proofs.YtpopljcmkbchcaaDoor
open Go.RowKit

def cellsT (L : List (List UInt8)) : List Value := L.map fun x => Value.string ⟨x.toArray⟩

theorem cellsT_app (a b : List (List UInt8)) : cellsT (a ++ b) = cellsT a ++ cellsT b := by simp [cellsT]

theorem cellsT_one (X : ByteArray) : cellsT [X.data.toList] = [.string X] := by
 show [Value.string ⟨X.data.toList.toArray⟩] = _
 rw [Lib.mk_data]

def cellsH (L : List Hd) : List Value := L.flatMap fun h => [.string ⟨h.name.toArray⟩, .string ⟨h.value.toArray⟩]

theorem cellsH_app (a b : List Hd) : cellsH (a ++ b) = cellsH a ++ cellsH b := by simp [cellsH]

theorem cellsH_len (a : List Hd) : (cellsH a).length = a.length * 2 := by
 induction a with
 | nil => rfl
 | cons h a ih => simp [cellsH] at ih ⊢; omega

theorem cellsH_one (h : Hd) : cellsH [h] = [.string ⟨h.name.toArray⟩, .string ⟨h.value.toArray⟩] := rfl

theorem cellsH_at (L : List Hd) : ∀ j (h : j < L.length), (cellsH L)[j * 2]? = some (.string ⟨L[j].name.toArray⟩) ∧ (cellsH L)[j * 2 + 1]? = some (.string ⟨L[j].value.toArray⟩) := by
 induction L with
 | nil => intro j h; simp at h
 | cons a L ih =>
  intro j h
  have e : cellsH (a :: L) = Value.string ⟨a.name.toArray⟩ :: Value.string ⟨a.value.toArray⟩ :: cellsH L := rfl
  cases j with
  | zero => rw [e]; exact ⟨rfl, rfl⟩
  | succ j =>
   have := ih j (by simpa using h)
   rw [e, show (j + 1) * 2 = j * 2 + 1 + 1 by omega]
   simpa using this

def TxL (w : World) (b off : Nat) (L : List (List UInt8)) : Prop := ∀ j (h : j < L.length), w.cell? ⟨b, off + j, none⟩ = some (.string ⟨L[j].toArray⟩)

def TxAt (w : World) (v : Value) (L : List (List UInt8)) : Prop :=
 ∃ a cap, v = .slice a L.length cap ∧ L.length ≤ cap ∧ cap ≤ maxLen ∧ ∀ j (hj : j < L.length), ∃ b off, a = some ⟨b, off, none⟩ ∧ w.cell? ⟨b, off + j, none⟩ = some (.string ⟨L[j].toArray⟩)

theorem TxAt.view {w : World} {v : Value} {L : List (List UInt8)} (h : TxAt w v L) : ∃ a cap, v = .slice a L.length cap ∧ L.length ≤ cap ∧ cap ≤ maxLen ∧ ∀ j (hj : j < L.length), ∃ b off, a = some ⟨b, off, none⟩ ∧ w.cell? ⟨b, off + j, none⟩ = some (.string ⟨L[j].toArray⟩) := h

theorem tx_of {w : World} {b off cap : Nat} {L : List (List UInt8)} (h1 : L.length ≤ cap) (h2 : cap ≤ maxLen) (h : TxL w b off L) : TxAt w (.slice (some ⟨b, off, none⟩) L.length cap) L :=
 ⟨_, cap, rfl, h1, h2, fun j hj => ⟨b, off, rfl, h j hj⟩⟩

theorem tx_nil (w : World) : TxAt w (.slice none 0 0) [] := ⟨none, 0, rfl, Nat.le_refl _, by decide, fun j hj => by simp at hj⟩

def HdS (w : World) (b off : Nat) (L : List Hd) : Prop :=
 ∀ j (h : j < L.length), w.cell? ⟨b, off + j * 2, none⟩ = some (.string ⟨L[j].name.toArray⟩) ∧ w.cell? ⟨b, off + j * 2 + 1, none⟩ = some (.string ⟨L[j].value.toArray⟩)

def HdAt (w : World) (v : Value) (L : List Hd) : Prop :=
 ∃ a cap, v = .slice a L.length cap ∧ L.length ≤ cap ∧ cap ≤ maxLen ∧ ∀ j (hj : j < L.length), ∃ b off, a = some ⟨b, off, none⟩ ∧ w.cell? ⟨b, off + j * 2, none⟩ = some (.string ⟨L[j].name.toArray⟩) ∧ w.cell? ⟨b, off + j * 2 + 1, none⟩ = some (.string ⟨L[j].value.toArray⟩)

theorem HdAt.view {w : World} {v : Value} {L : List Hd} (h : HdAt w v L) : ∃ a cap, v = .slice a L.length cap ∧ L.length ≤ cap ∧ cap ≤ maxLen ∧ ∀ j (hj : j < L.length), ∃ b off, a = some ⟨b, off, none⟩ ∧ w.cell? ⟨b, off + j * 2, none⟩ = some (.string ⟨L[j].name.toArray⟩) ∧ w.cell? ⟨b, off + j * 2 + 1, none⟩ = some (.string ⟨L[j].value.toArray⟩) := h

theorem hd_of {w : World} {b off cap : Nat} {L : List Hd} (h1 : L.length ≤ cap) (h2 : cap ≤ maxLen) (h : HdS w b off L) : HdAt w (.slice (some ⟨b, off, none⟩) L.length cap) L :=
 ⟨_, cap, rfl, h1, h2, fun j hj => ⟨b, off, rfl, h j hj⟩⟩

theorem hd_nil (w : World) : HdAt w (.slice none 0 0) [] := ⟨none, 0, rfl, Nat.le_refl _, by decide, fun j hj => by simp at hj⟩

theorem HdS.kept {w w' : World} {b off : Nat} {L : List Hd} (h : HdS w b off L) (hb : Below w.heap.size w w') : HdS w' b off L := fun j hj => by
 have h1 := h j hj
 exact ⟨(hb.cell (World.block_lt_of_cell? w _ h1.1)).trans h1.1, (hb.cell (World.block_lt_of_cell? w _ h1.2)).trans h1.2⟩

theorem TxL.kept {w w' : World} {b off : Nat} {L : List (List UInt8)} (h : TxL w b off L) (hb : Below w.heap.size w w') : TxL w' b off L := fun j hj => by
 have h1 := h j hj
 exact (hb.cell (World.block_lt_of_cell? w _ h1)).trans h1

theorem HdAt.kept {w w' : World} {v : Value} {L : List Hd} (h : HdAt w v L) (hb : Below w.heap.size w w') : HdAt w' v L := by
 obtain ⟨a, cap, h1, h2, h3, h4⟩ := h
 refine ⟨a, cap, h1, h2, h3, fun j hj => ?_⟩
 obtain ⟨b, off, e, c1, c2⟩ := h4 j hj
 exact ⟨b, off, e, (hb.cell (World.block_lt_of_cell? w _ c1)).trans c1, (hb.cell (World.block_lt_of_cell? w _ c2)).trans c2⟩

theorem TxAt.kept {w w' : World} {v : Value} {L : List (List UInt8)} (h : TxAt w v L) (hb : Below w.heap.size w w') : TxAt w' v L := by
 obtain ⟨a, cap, h1, h2, h3, h4⟩ := h
 refine ⟨a, cap, h1, h2, h3, fun j hj => ?_⟩
 obtain ⟨b, off, e, c1⟩ := h4 j hj
 exact ⟨b, off, e, (hb.cell (World.block_lt_of_cell? w _ c1)).trans c1⟩

theorem own_txt' {w : World} {B : Nat} {e : TypeId} {v : Value} {L : List (List UInt8)} (h : w.ownsRow B e 1 v L.length (cellsT L)) : TxAt w v L := by
 have h2 := h.2
 rcases h2 with ⟨hv, hn⟩ | ⟨g, cap, cur, rfl, hg, hrow, hnc, hcm, hcs, htake⟩
 ·obtain rfl := List.eq_nil_of_length_eq_zero hn
  rw [hv]; exact tx_nil w
 ·refine tx_of hnc hcm fun j hj => ?_
  rw [Nat.zero_add, h.cellAt j (by omega)]
  simp [cellsT, hj]

theorem own_hd {w : World} {B : Nat} {e : TypeId} {v : Value} {L : List Hd} (h : w.ownsRow B e 2 v L.length (cellsH L)) : HdAt w v L := by
 have h2 := h.2
 rcases h2 with ⟨hv, hn⟩ | ⟨g, cap, cur, rfl, hg, hrow, hnc, hcm, hcs, htake⟩
 ·obtain rfl := List.eq_nil_of_length_eq_zero hn
  rw [hv]; exact hd_nil w
 ·refine hd_of hnc hcm fun j hj => ?_
  rw [Nat.zero_add, h.cellAt _ (by omega), h.cellAt _ (by omega)]
  exact cellsH_at L j hj

theorem own_same {w w' : World} {B : Nat} {e : TypeId} {k : Nat} {v : Value} {n : Nat} {xs : List Value} (h : w.ownsRow B e k v n xs) (hb : Below w.heap.size w w') : w'.ownsRow B e k v n xs := by
 rcases h.2 with h' | ⟨g, cap, cur, hv, hg, hrow, rest⟩
 ·exact ⟨h.1, .inl h'⟩
 ·exact ⟨h.1, .inr ⟨g, cap, cur, hv, hg, (hb.block g (Array.getElem?_eq_some_iff.1 hrow).1).trans hrow, rest⟩⟩

theorem belowT {a b c : World} (h1 : Below a.heap.size a b) (h2 : Below b.heap.size b c) : Below a.heap.size a c := h1.trans (h2.mono h1.size)

theorem xba {a b : ByteArray} (h : a.data.toList = b.data.toList) : a = b := by
 cases a; cases b; simp at h; simp [h]

theorem xself (b : ByteArray) : b = ⟨b.data.toList.toArray⟩ := xba rfl

theorem xsize (l : List UInt8) : (⟨l.toArray⟩ : ByteArray).size = l.length := by simp [ByteArray.size]

end Go.Proofs.YtpopljcmkbchcaaDoor

namespace Go.Proofs.YtpopljcmkbchcaaDoor
open Go.RowKit

set_option maxHeartbeats 400000 in
theorem digit_any (c : Int) (w : World) :
  Calls Tryd.prog 40 #[.int .u8 c] w fun e w' => e = .returned (.bool (digitI c)) ∧ w = w' := by
 go_enter Tryd.func40, Tryd.ntmps40
 go_wp2
 all_goals
  go_ret
  exact ⟨ret_bool (by rw [Bool.eq_iff_iff]; simp [digitI]; omega), rfl⟩

set_option maxHeartbeats 400000 in
theorem letter_any (c : Int) (w : World) :
  Calls Tryd.prog 39 #[.int .u8 c] w fun e w' => e = .returned (.bool (letterI c)) ∧ w = w' := by
 go_enter Tryd.func39, Tryd.ntmps39
 go_wp2
 all_goals
  go_ret
  exact ⟨ret_bool (by rw [Bool.eq_iff_iff]; simp [letterI]; omega), rfl⟩

set_option maxHeartbeats 1000000 in
theorem tokenByte_any (c : Int) (w : World) :
  Calls Tryd.prog 27 #[.int .u8 c] w fun e w' => e = .returned (.bool (tokI c)) ∧ w = w' := by
 go_enter Tryd.func27, Tryd.ntmps27
 go_wp2_with (first | (go_at_call 39; refine (letter_any _ _).mono ?_; rintro e w' ⟨rfl, rfl⟩) | (go_at_call 40; refine (digit_any _ _).mono ?_; rintro e w' ⟨rfl, rfl⟩))
 all_goals
  go_ret
  exact ⟨ret_bool (by simp [tokI, signI, *]), rfl⟩

end Go.Proofs.YtpopljcmkbchcaaDoor

namespace Go.Proofs.YtpopljcmkbchcaaDoor
open Go.RowKit

set_option maxHeartbeats 1000000 in
theorem lower_any (s : ByteArray) (w : World) (hs : s.size ≤ 140737488351232) :
  Calls Tryd.prog 18 #[.string s] w fun e w' => e = .returned (.string ⟨(low s.data.toList).toArray⟩) ∧ Below w.heap.size w w' := by
 have hcv := run_bytes_of_string (P := Tryd.prog) w 9 54 5 s Tryd.underlying9 Tryd.underlying54 Tryd.underlying5
 have hcap := grownCap_ge w s.size 0 5
 have hr0 := rowIs_bytes w 5 s (grownCap w s.size 0 5) hcap
 have hb0 : Below w.heap.size w (w.drew.alloc (.cells (bytesRow s (grownCap w s.size 0 5)) 5 ((bytesRow s (grownCap w s.size 0 5)).size, (bytesRow s (grownCap w s.size 0 5)).size + 1))) := (Below.refl _ w).drew.alloc (Nat.le_refl _) _
 generalize (w.drew.alloc (.cells (bytesRow s (grownCap w s.size 0 5)) 5 ((bytesRow s (grownCap w s.size 0 5)).size, (bytesRow s (grownCap w s.size 0 5)).size + 1))) = w0 at hcv hr0 hb0
 generalize grownCap w s.size 0 5 = cap at hcv hcap
 go_enter Tryd.func18, Tryd.ntmps18
 go_wp2
 clear hcv
 go_loopw [10] (fun i wr => ∃ k : Nat, k ≤ s.size ∧ i = .int .i64 k ∧ rowIs wr w.heap.size 5 (lowTo s.data.toList k) ∧ Below w.heap.size w wr)
  (fun i _ => s.size - (intOf i).toNat)
 case atStart => exact ⟨0, Nat.zero_le _, rfl, by rw [lowTo_zero]; exact hr0, hb0⟩
 case round =>
  obtain ⟨k, hk, rfl, hr, hbw⟩ := hrel
  by_cases hlt : k < s.size
  ·have hl : k < s.data.toList.length := by simpa using hlt
   have hl' : k < (lowTo s.data.toList k).length := by rw [lowTo_length]; exact hl
   have hc := hr.cell k hl'
   rw [lowTo_at _ _ hl] at hc
   have hf := hr.frozen k hl'
   have hsucc := lowTo_succ s.data.toList k hl
   have hat := lowTo_at s.data.toList k hl hl'
   generalize s.data.toList[k] = c at hc hsucc hat
   have HS := hid hsucc
   have HAt := hid hat
   clear hsucc hat
   have hc8 : c.toNat < 256 := c.toNat_lt
   by_cases hu : 65 ≤ c.toNat ∧ c.toNat ≤ 90
   ·have h1 : (65 : Int) ≤ (c.toNat : Int) := by omega
    have h2 : (c.toNat : Int) ≤ 90 := by omega
    have HL := hid (lowC_yes c hu)
    clear hu
    go_wp2
    go_roundw
    case rel =>
     refine ⟨k + 1, by omega, by go_num, ?_, hbw.setCell (p := ⟨w.heap.size, k, none⟩) (Nat.le_refl _) _⟩
     rw [HS.out, ← HL.out]
     exact hr.set k _
    case measure => simp [intOf]; omega
   ·have HL := hid (lowC_no c hu)
    have hu' : (c.toNat : Int) < 65 ∨ 90 < (c.toNat : Int) := by omega
    clear hu
    rcases hu' with h1 | h1
    all_goals
     go_wp2
     go_roundw
     case rel =>
      refine ⟨k + 1, by omega, by go_num, ?_, hbw⟩
      have e : lowC c = (lowTo s.data.toList k)[k] := by rw [HL.out, HAt.out]
      rw [HS.out, e, List.set_getElem_self]
      exact hr
     case measure => simp [intOf]; omega
  ·have hk' : k = s.data.toList.length := by simp; omega
   have hr' : rowIs wr w.heap.size 5 (low s.data.toList) := by rw [← lowTo_all, ← hk']; exact hr
   clear hr hk'
   have hcv := hr'.string (P := Tryd.prog) (src := 54) (dst := 9) (cap := cap) Tryd.underlying54 Tryd.underlying5 Tryd.underlying9
   rw [show (low s.data.toList).length = s.size by simp [low]] at hcv
   go_wp2
   go_ret
   exact ⟨rfl, hbw⟩

end Go.Proofs.YtpopljcmkbchcaaDoor

namespace Go.Proofs.YtpopljcmkbchcaaDoor
abbrev inSetP (c set : Int) : Prop :=
 (1 ≤ set ∧ set ≤ 6) ∧ (c < 32 ∨ 126 < c ∨ (2 ≤ set ∧ (c = 32 ∨ c = 34 ∨ c = 60 ∨ c = 62)) ∨ (set = 2 ∧ c = 96) ∨ (3 ≤ set ∧ c = 35) ∨ (set = 4 ∧ c = 39) ∨ (5 ≤ set ∧ (c = 63 ∨ c = 94 ∨ c = 96 ∨ c = 123 ∨ c = 125)) ∨
  (set = 6 ∧ (c = 47 ∨ c = 58 ∨ c = 59 ∨ c = 61 ∨ c = 64 ∨ c = 91 ∨ c = 92 ∨ c = 93 ∨ c = 124)))

def inSetI (c set : Int) : Bool := decide (inSetP c set)

theorem inSetI_iff (c set : Int) : inSetI c set = true ↔ inSetP c set := by unfold inSetI; exact decide_eq_true_iff

end Go.Proofs.YtpopljcmkbchcaaDoor

namespace Go.Proofs.YtpopljcmkbchcaaDoor
def hexD (n : Nat) : UInt8 := if n < 10 then UInt8.ofNat (48 + n) else UInt8.ofNat (55 + n)

theorem and15 (n : Nat) (h : n < 256) : bits .and .u8 (n : Int) 15 = (n : Int) % 16 := by
 have := u8_and_nat n 15 h (by omega)
 rw [nat_mask4] at this
 simpa using this

def esc (c : UInt8) : List UInt8 := [37, hexD (c.toNat / 16), hexD (c.toNat % 16)]

def pct1 (set : Int) (c : UInt8) : List UInt8 := if inSetI c.toNat set then esc c else [c]

def pct (set : Int) (l : List UInt8) : List UInt8 := l.flatMap (pct1 set)

theorem pct1_le (set : Int) (c : UInt8) : (pct1 set c).length ≤ 3 := by unfold pct1 esc; split <;> simp

theorem pct_snoc (set : Int) (l : List UInt8) (c : UInt8) : pct set (l ++ [c]) = pct set l ++ pct1 set c := by simp [pct]

theorem pct_le (set : Int) (l : List UInt8) : (pct set l).length ≤ 3 * l.length := by
 induction l with
 | nil => simp [pct]
 | cons c l ih =>
  have h1 := pct1_le set c
  have h2 : pct set (c :: l) = pct1 set c ++ pct set l := by simp [pct]
  rw [h2]; simp; omega

def pcd (l : List UInt8) : UInt8 × Bool :=
 match l with
 | 37 :: a :: b :: _ => if is16I a.toNat && is16I b.toNat then (UInt8.ofNat (val16I a.toNat * 16 + val16I b.toNat).toNat, true) else (37, false)
 | c :: _ => (c, false)
 | [] => (0, false)

def unpctN : Nat → List UInt8 → List UInt8
 | 0, _ => []
 | _ + 1, [] => []
 | f + 1, c :: l => (pcd (c :: l)).1 :: unpctN f (if (pcd (c :: l)).2 then l.drop 2 else l)

def unpct (l : List UInt8) : List UInt8 := unpctN l.length l

theorem list_one (s : ByteArray) (h : 0 < s.size) : ∃ r, s.data.toList = s[0] :: r := by
 have h' : 0 < s.data.toList.length := by simpa using h
 match hl : s.data.toList, h' with
 | a :: r, _ =>
  refine ⟨r, ?_⟩
  have e : s[0] = s.data.toList[0]'(by rw [hl]; simp) := rfl
  rw [e]; simp [hl]

theorem pcd_short (l : List UInt8) (c : UInt8) (h : (c :: l).length < 3) : pcd (c :: l) = (c, false) := by
 match l, h with
 | [], _ => unfold pcd; split <;> simp_all
 | [a], _ => unfold pcd; split <;> simp_all

theorem pcd_other (l : List UInt8) (c : UInt8) (h : c ≠ 37) : pcd (c :: l) = (c, false) := by
 unfold pcd; split <;> simp_all

theorem pcd_three (a b : UInt8) (l : List UInt8) : pcd (37 :: a :: b :: l) = if is16I a.toNat && is16I b.toNat then (UInt8.ofNat (val16I a.toNat * 16 + val16I b.toNat).toNat, true) else (37, false) := rfl

theorem val16_lt (c : Int) : 0 ≤ val16I c ∧ val16I c < 16 := by unfold val16I; split <;> (try split) <;> (try split) <;> omega

theorem unpctN_fuel (f : Nat) : ∀ (g : Nat) (l : List UInt8), l.length ≤ f → l.length ≤ g → unpctN f l = unpctN g l := by
 induction f with
 | zero =>
  intro g l h _
  have : l = [] := List.eq_nil_of_length_eq_zero (by omega)
  subst this
  cases g <;> rfl
 | succ f ih =>
  intro g l h hg
  match l, g, h, hg with
  | [], g, _, _ => cases g <;> rfl
  | c :: l, 0, _, hg => simp at hg
  | c :: l, g + 1, h, hg =>
   simp only [List.length_cons] at h hg
   show _ :: unpctN f _ = _ :: unpctN g _
   rw [ih g _ ?_ ?_]
   ·split
    ·simp; omega
    ·omega
   ·split
    ·simp; omega
    ·omega

theorem unpct_cons (c : UInt8) (l : List UInt8) : unpct (c :: l) = (pcd (c :: l)).1 :: unpct (if (pcd (c :: l)).2 then l.drop 2 else l) := by
 show _ :: unpctN l.length _ = _
 unfold unpct
 rw [unpctN_fuel l.length _ _ ?_ (Nat.le_refl _)]
 split
 ·simp
 ·omega

theorem drop_cons (s : ByteArray) (k : Nat) (h : k < s.size) : s.data.toList.drop k = s[k] :: s.data.toList.drop (k + 1) := by
 rw [List.drop_eq_getElem_cons (by simpa using h)]; rfl

theorem drop_none (s : ByteArray) (k : Nat) (h : ¬ k < s.size) : s.data.toList.drop k = [] := List.drop_eq_nil_iff.2 (by simp; omega)

theorem extract_drop (s : ByteArray) (k : Nat) : (s.extract k s.size).data.toList = s.data.toList.drop k := by
 rw [Lib.extract_data, List.take_of_length_le (by simp)]

end Go.Proofs.YtpopljcmkbchcaaDoor

namespace Go.Proofs.YtpopljcmkbchcaaDoor
open Go.RowKit

theorem xext {a : ByteArray} {l : List UInt8} (h : a.data.toList = l) : a = ⟨l.toArray⟩ := xba h

end Go.Proofs.YtpopljcmkbchcaaDoor

namespace Go.Proofs.YtpopljcmkbchcaaDoor
open Go.RowKit

theorem xtens_app (d : Nat) (h : d < 10) (T : List UInt8) : (⟨#[48, 49, 50, 51, 52, 53, 54, 55, 56, 57]⟩ : ByteArray).extract d (d + 1) ++ ⟨T.toArray⟩ = ⟨(decC d :: T).toArray⟩ := by
 refine xext ?_
 rw [ByteArray.data_append, Array.toList_append]
 have : ((⟨#[48, 49, 50, 51, 52, 53, 54, 55, 56, 57]⟩ : ByteArray).extract d (d + 1)).data.toList = [decC d] := by
  rcases (show d = 0 ∨ d = 1 ∨ d = 2 ∨ d = 3 ∨ d = 4 ∨ d = 5 ∨ d = 6 ∨ d = 7 ∨ d = 8 ∨ d = 9 from by omega) with
   rfl | rfl | rfl | rfl | rfl | rfl | rfl | rfl | rfl | rfl <;> (rw [Lib.extract_data]; rfl)
 rw [this]; rfl

end Go.Proofs.YtpopljcmkbchcaaDoor

namespace Go.Proofs.YtpopljcmkbchcaaDoor
open Go.RowKit

theorem infoHd : (Tryd.prog.info? 35).map (fun i => (i.zero, i.size, i.bytes)) = some (some (.agg #[.string ByteArray.empty, .string ByteArray.empty]), 2, 32) := by kernel_rfl

theorem infoTx : (Tryd.prog.info? 9).map (fun i => (i.zero, i.size, i.bytes)) = some (some (.string ByteArray.empty), 1, 16) := by kernel_rfl

theorem info3 {i : Option TypeInfo} {z : Value} {a b : Nat} (h : i.map (fun i => (i.zero, i.size, i.bytes)) = some (some z, a, b)) : ∃ j, i = some j ∧ j.zero = some z ∧ j.size = a ∧ j.bytes = b := by
 cases i with
 | none => cases h
 | some j =>
  simp at h
  exact ⟨j, rfl, h.1, h.2.1, h.2.2⟩

end Go.Proofs.YtpopljcmkbchcaaDoor

namespace Go.Proofs
open Go.Shelf

def Tryd.lays158_ren : Go.Shelf.Ren := ⟨fun | 158 => 19 | 165 => 28 | 166 => 29 | 167 => 30 | 169 => 31 | 230 => 32 | 203 => 33 | 240 => 41 | 241 => 42 | 197 => 43 | 118 => 44 | 168 => 45 | 270 => 46 | 262 => 47 | 276 => 61 | 277 => 62 | 260 => 63 | 242 => 64 | 313 => 65 | 278 => 74 | 274 => 75 | 275 => 76 | n => n, fun | 9 => 9 | 4 => 4 | 3 => 3 | 5 => 5 | 72 => 57 | 0 => 0 | 76 => 61 | 75 => 60 | 107 => 66 | 70 => 55 | 20 => 20 | 37 => 54 | 127 => 72 | 21 => 21 | 105 => 73 | 164 => 85 | 162 => 91 | 203 => 89 | 119 => 101 | 46 => 102 | 139 => 105 | 138 => 104 | 51 => 106 | 160 => 107 | 208 => 123 | 206 => 121 | 80 => 64 | n => n, fun | 13 => 0 | 3 => 2 | 4 => 3 | n => n⟩

theorem Tryd.lays158 : Go.Proofs.Lays.n158 Tryd.prog Tryd.lays158_ren := {
 mixed := by kernel_rfl
 f118 := Tryd.func44.trans (congrArg some (by kernel_rfl))
 f158 := Tryd.func19.trans (congrArg some (by kernel_rfl))
 f165 := Tryd.func28.trans (congrArg some (by kernel_rfl))
 f166 := Tryd.func29.trans (congrArg some (by kernel_rfl))
 f167 := Tryd.func30.trans (congrArg some (by kernel_rfl))
 f168 := Tryd.func45.trans (congrArg some (by kernel_rfl))
 f169 := Tryd.func31.trans (congrArg some (by kernel_rfl))
 f197 := Tryd.func43.trans (congrArg some (by kernel_rfl))
 f203 := Tryd.func33.trans (congrArg some (by kernel_rfl))
 f230 := Tryd.func32.trans (congrArg some (by kernel_rfl))
 f240 := Tryd.func41.trans (congrArg some (by kernel_rfl))
 f241 := Tryd.func42.trans (congrArg some (by kernel_rfl))
 f242 := Tryd.func64.trans (congrArg some (by kernel_rfl))
 f260 := Tryd.func63.trans (congrArg some (by kernel_rfl))
 f262 := Tryd.func47.trans (congrArg some (by kernel_rfl))
 f270 := Tryd.func46.trans (congrArg some (by kernel_rfl))
 f274 := Tryd.func75.trans (congrArg some (by kernel_rfl))
 f275 := Tryd.func76.trans (congrArg some (by kernel_rfl))
 f276 := Tryd.func61.trans (congrArg some (by kernel_rfl))
 f277 := Tryd.func62.trans (congrArg some (by kernel_rfl))
 f278 := Tryd.func74.trans (congrArg some (by kernel_rfl))
 f313 := Tryd.func65.trans (congrArg some (by kernel_rfl))
 t0 := Tryd.underlying0
 a0 := Tryd.isAgg0
 z0 := Tryd.sizeOf0
 v0 := Tryd.zeroValue0
 t3 := Tryd.underlying3
 a3 := Tryd.isAgg3
 z3 := Tryd.sizeOf3
 v3 := Tryd.zeroValue3
 t4 := Tryd.underlying4
 a4 := Tryd.isAgg4
 z4 := Tryd.sizeOf4
 v4 := Tryd.zeroValue4
 t5 := Tryd.underlying5
 a5 := Tryd.isAgg5
 z5 := Tryd.sizeOf5
 v5 := Tryd.zeroValue5
 t9 := Tryd.underlying9
 a9 := Tryd.isAgg9
 z9 := Tryd.sizeOf9
 v9 := Tryd.zeroValue9
 t20 := Tryd.underlying20
 a20 := Tryd.isAgg20
 z20 := Tryd.sizeOf20
 v20 := Tryd.zeroValue20
 t21 := Tryd.underlying21
 a21 := Tryd.isAgg21
 z21 := Tryd.sizeOf21
 v21 := Tryd.zeroValue21
 t37 := Tryd.underlying54
 a37 := Tryd.isAgg54
 z37 := Tryd.sizeOf54
 v37 := Tryd.zeroValue54
 t46 := Tryd.underlying102
 a46 := Tryd.isAgg102
 z46 := Tryd.sizeOf102
 v46 := Tryd.zeroValue102
 t51 := Tryd.underlying106
 a51 := Tryd.isAgg106
 z51 := Tryd.sizeOf106
 v51 := Tryd.zeroValue106
 t70 := Tryd.underlying55
 a70 := Tryd.isAgg55
 z70 := Tryd.sizeOf55
 v70 := Tryd.zeroValue55
 t72 := Tryd.underlying57
 a72 := Tryd.isAgg57
 z72 := Tryd.sizeOf57
 v72 := Tryd.zeroValue57
 t75 := Tryd.underlying60
 a75 := Tryd.isAgg60
 z75 := Tryd.sizeOf60
 v75 := Tryd.zeroValue60
 t76 := Tryd.underlying61
 a76 := Tryd.isAgg61
 z76 := Tryd.sizeOf61
 v76 := Tryd.zeroValue61
 t105 := Tryd.underlying73
 a105 := Tryd.isAgg73
 z105 := Tryd.sizeOf73
 v105 := Tryd.zeroValue73
 t107 := Tryd.underlying66
 a107 := Tryd.isAgg66
 z107 := Tryd.sizeOf66
 v107 := Tryd.zeroValue66
 t119 := Tryd.underlying101
 a119 := Tryd.isAgg101
 z119 := Tryd.sizeOf101
 t127 := Tryd.underlying72
 a127 := Tryd.isAgg72
 z127 := Tryd.sizeOf72
 v127 := Tryd.zeroValue72
 t138 := Tryd.underlying104
 a138 := Tryd.isAgg104
 z138 := Tryd.sizeOf104
 v138 := Tryd.zeroValue104
 t139 := Tryd.underlying105
 a139 := Tryd.isAgg105
 z139 := Tryd.sizeOf105
 v139 := Tryd.zeroValue105
 t160 := Tryd.underlying107
 a160 := Tryd.isAgg107
 z160 := Tryd.sizeOf107
 v160 := Tryd.zeroValue107
 t162 := Tryd.underlying91
 a162 := Tryd.isAgg91
 z162 := Tryd.sizeOf91
 v162 := Tryd.zeroValue91
 t164 := Tryd.underlying85
 a164 := Tryd.isAgg85
 z164 := Tryd.sizeOf85
 v164 := Tryd.zeroValue85
 t203 := Tryd.underlying89
 a203 := Tryd.isAgg89
 z203 := Tryd.sizeOf89
 v203 := Tryd.zeroValue89
 t206 := Tryd.underlying121
 a206 := Tryd.isAgg121
 z206 := Tryd.sizeOf121
 v206 := Tryd.zeroValue121
 t208 := Tryd.underlying123
 a208 := Tryd.isAgg123
 z208 := Tryd.sizeOf123
 v208 := Tryd.zeroValue123
 g3 := by kernel_rfl
 g4 := by kernel_rfl
 g13 := by kernel_rfl }

theorem Tryd.Builder_Extra_158 : Builder.Extra Tryd.prog Tryd.lays158_ren := {
 sizeBuilder := by kernel_rfl
 liesBuilder := by kernel_rfl
 t5 := Tryd.underlying5
 a5 := Tryd.isAgg5
 z5 := Tryd.sizeOf5
 v5 := Tryd.zeroValue5
 infoByte := by kernel_rfl
 cellsByte := by kernel_rfl
 sizeByte := by kernel_rfl
 neB5 := by decide }

open Go.RowKit in
theorem Tryd.strings_ToUpper_ascii (s : ByteArray) (w : World) (hs : s.size ≤ 140737488355328) (hascii : ∀ (j : Nat) (b : UInt8), s.data.toList[j]? = some b → b.toNat < 128) :
  Calls Tryd.prog 19 #[.string s] w fun e w' => e = .returned (.string ⟨(Lib.toUpperA s.data.toList).toArray⟩) ∧ Below w.heap.size w w' := Any.strings_ToUpper_ascii Tryd.lays158 Tryd.Builder_Extra_158 s w hs hascii

def Tryd.lays156_ren : Go.Shelf.Ren := ⟨fun | 156 => 24 | 165 => 28 | 166 => 29 | 169 => 31 | 240 => 41 | 241 => 42 | 276 => 61 | 277 => 62 | n => n, fun | 31 => 36 | 9 => 9 | 3 => 3 | 4 => 4 | 0 => 0 | 20 => 20 | 72 => 57 | 76 => 61 | 70 => 55 | 37 => 54 | 75 => 60 | 127 => 72 | 164 => 85 | 5 => 5 | 80 => 64 | n => n, fun | n => n⟩

theorem Tryd.lays156 : Go.Proofs.Lays.n156 Tryd.prog Tryd.lays156_ren := {
 mixed := by kernel_rfl
 f156 := Tryd.func24.trans (congrArg some (by kernel_rfl))
 f165 := Tryd.func28.trans (congrArg some (by kernel_rfl))
 f166 := Tryd.func29.trans (congrArg some (by kernel_rfl))
 f169 := Tryd.func31.trans (congrArg some (by kernel_rfl))
 f240 := Tryd.func41.trans (congrArg some (by kernel_rfl))
 f241 := Tryd.func42.trans (congrArg some (by kernel_rfl))
 f276 := Tryd.func61.trans (congrArg some (by kernel_rfl))
 f277 := Tryd.func62.trans (congrArg some (by kernel_rfl))
 t0 := Tryd.underlying0
 a0 := Tryd.isAgg0
 z0 := Tryd.sizeOf0
 v0 := Tryd.zeroValue0
 t3 := Tryd.underlying3
 a3 := Tryd.isAgg3
 z3 := Tryd.sizeOf3
 v3 := Tryd.zeroValue3
 t4 := Tryd.underlying4
 a4 := Tryd.isAgg4
 z4 := Tryd.sizeOf4
 v4 := Tryd.zeroValue4
 t9 := Tryd.underlying9
 a9 := Tryd.isAgg9
 z9 := Tryd.sizeOf9
 v9 := Tryd.zeroValue9
 t20 := Tryd.underlying20
 a20 := Tryd.isAgg20
 z20 := Tryd.sizeOf20
 v20 := Tryd.zeroValue20
 t31 := Tryd.underlying36
 a31 := Tryd.isAgg36
 z31 := Tryd.sizeOf36
 v31 := Tryd.zeroValue36
 t37 := Tryd.underlying54
 a37 := Tryd.isAgg54
 z37 := Tryd.sizeOf54
 v37 := Tryd.zeroValue54
 t70 := Tryd.underlying55
 a70 := Tryd.isAgg55
 z70 := Tryd.sizeOf55
 v70 := Tryd.zeroValue55
 t72 := Tryd.underlying57
 a72 := Tryd.isAgg57
 z72 := Tryd.sizeOf57
 v72 := Tryd.zeroValue57
 t75 := Tryd.underlying60
 a75 := Tryd.isAgg60
 z75 := Tryd.sizeOf60
 v75 := Tryd.zeroValue60
 t76 := Tryd.underlying61
 a76 := Tryd.isAgg61
 z76 := Tryd.sizeOf61
 v76 := Tryd.zeroValue61
 t127 := Tryd.underlying72
 a127 := Tryd.isAgg72
 z127 := Tryd.sizeOf72
 v127 := Tryd.zeroValue72
 t164 := Tryd.underlying85
 a164 := Tryd.isAgg85
 z164 := Tryd.sizeOf85
 v164 := Tryd.zeroValue85 }

theorem Tryd.Builder_Extra_156 : Builder.Extra Tryd.prog Tryd.lays156_ren := {
 sizeBuilder := by kernel_rfl
 liesBuilder := by kernel_rfl
 t5 := Tryd.underlying5
 a5 := Tryd.isAgg5
 z5 := Tryd.sizeOf5
 v5 := Tryd.zeroValue5
 infoByte := by kernel_rfl
 cellsByte := by kernel_rfl
 sizeByte := by kernel_rfl
 neB5 := by decide }

open Go.RowKit in
theorem Tryd.strings_Join_none (a : Option Addr) (c : Nat) (sep : ByteArray) (w : World) :
  Calls Tryd.prog 24 #[.slice a 0 c, .string sep] w fun e w' => e = .returned (.string ⟨#[]⟩) ∧ w' = w := Any.strings_Join_none Tryd.lays156 Tryd.Builder_Extra_156 a c sep w

open Go.RowKit in
theorem Tryd.strings_Join (bk o c : Nat) (xs : List ByteArray) (sep : ByteArray) (w : World) (hcells : ∀ (j : Nat) x, xs[j]? = some x → w.cell? ⟨bk, o + j, none⟩ = some (.string x)) (hbk : bk < w.heap.size) (hN : xs.length ≤ 140737488355328) (hcap : xs.length ≤ c) (hlen : (Lib.join (xs.map (·.data.toList)) sep.data.toList).length ≤ 140737488355328) :
  Calls Tryd.prog 24 #[.slice (some ⟨bk, o, none⟩) xs.length c, .string sep] w fun e w' => e = .returned (.string ⟨(Lib.join (xs.map (·.data.toList)) sep.data.toList).toArray⟩) ∧ Below w.heap.size w w' := Any.strings_Join Tryd.lays156 Tryd.Builder_Extra_156 bk o c xs sep w hcells hbk hN hcap hlen

def Tryd.laysM171_ren : Go.Shelf.Ren := ⟨fun | 171 => 26 | 243 => 38 | 246 => 60 | 283 => 70 | 284 => 71 | 285 => 72 | 286 => 73 | 129 => 82 | 317 => 81 | 318 => 83 | 319 => 84 | 320 => 85 | 337 => 94 | 338 => 95 | n => n, fun | 3 => 3 | 9 => 9 | 2 => 2 | 4 => 4 | 171 => 95 | 0 => 0 | 53 => 96 | 37 => 54 | 5 => 5 | 173 => 99 | 212 => 116 | 51 => 106 | 20 => 20 | 213 => 117 | 46 => 102 | 232 => 142 | 233 => 143 | n => n, fun | 17 => 4 | 18 => 5 | 19 => 6 | n => n⟩

theorem Tryd.laysM171 : Go.Proofs.LaysM.n171 Tryd.prog Tryd.laysM171_ren := {
 mixed := by kernel_rfl
 f129 := Tryd.func82.trans (congrArg some (by kernel_rfl))
 f171 := Tryd.func26.trans (congrArg some (by kernel_rfl))
 f243 := Tryd.func38.trans (congrArg some (by kernel_rfl))
 f246 := Tryd.func60.trans (congrArg some (by kernel_rfl))
 f283 := Tryd.func70.trans (congrArg some (by kernel_rfl))
 f284 := Tryd.func71.trans (congrArg some (by kernel_rfl))
 f285 := Tryd.func72.trans (congrArg some (by kernel_rfl))
 f286 := Tryd.func73.trans (congrArg some (by kernel_rfl))
 f317 := Tryd.func81.trans (congrArg some (by kernel_rfl))
 f318 := Tryd.func83.trans (congrArg some (by kernel_rfl))
 f319 := Tryd.func84.trans (congrArg some (by kernel_rfl))
 f320 := Tryd.func85.trans (congrArg some (by kernel_rfl))
 f337 := Tryd.func94.trans (congrArg some (by kernel_rfl))
 f338 := Tryd.func95.trans (congrArg some (by kernel_rfl))
 t0 := Tryd.underlying0
 a0 := Tryd.isAgg0
 z0 := Tryd.sizeOf0
 v0 := Tryd.zeroValue0
 t2 := Tryd.underlying2
 a2 := Tryd.isAgg2
 z2 := Tryd.sizeOf2
 v2 := Tryd.zeroValue2
 t3 := Tryd.underlying3
 a3 := Tryd.isAgg3
 z3 := Tryd.sizeOf3
 v3 := Tryd.zeroValue3
 t4 := Tryd.underlying4
 a4 := Tryd.isAgg4
 z4 := Tryd.sizeOf4
 v4 := Tryd.zeroValue4
 t5 := Tryd.underlying5
 a5 := Tryd.isAgg5
 z5 := Tryd.sizeOf5
 v5 := Tryd.zeroValue5
 t9 := Tryd.underlying9
 a9 := Tryd.isAgg9
 z9 := Tryd.sizeOf9
 v9 := Tryd.zeroValue9
 t20 := Tryd.underlying20
 a20 := Tryd.isAgg20
 z20 := Tryd.sizeOf20
 v20 := Tryd.zeroValue20
 t37 := Tryd.underlying54
 a37 := Tryd.isAgg54
 z37 := Tryd.sizeOf54
 v37 := Tryd.zeroValue54
 t46 := Tryd.underlying102
 a46 := Tryd.isAgg102
 z46 := Tryd.sizeOf102
 v46 := Tryd.zeroValue102
 t51 := Tryd.underlying106
 a51 := Tryd.isAgg106
 z51 := Tryd.sizeOf106
 v51 := Tryd.zeroValue106
 t53 := Tryd.underlying96
 a53 := Tryd.isAgg96
 z53 := Tryd.sizeOf96
 v53 := Tryd.zeroValue96
 t171 := Tryd.underlying95
 a171 := Tryd.isAgg95
 z171 := Tryd.sizeOf95
 v171 := Tryd.zeroValue95
 t173 := Tryd.underlying99
 a173 := Tryd.isAgg99
 z173 := Tryd.sizeOf99
 v173 := Tryd.zeroValue99
 t212 := Tryd.underlying116
 a212 := Tryd.isAgg116
 z212 := Tryd.sizeOf116
 v212 := Tryd.zeroValue116
 t213 := Tryd.underlying117
 a213 := Tryd.isAgg117
 z213 := Tryd.sizeOf117
 t232 := Tryd.underlying142
 a232 := Tryd.isAgg142
 z232 := Tryd.sizeOf142
 v232 := Tryd.zeroValue142
 t233 := Tryd.underlying143
 a233 := Tryd.isAgg143
 z233 := Tryd.sizeOf143
 v233 := Tryd.zeroValue143
 g17 := by kernel_rfl
 g18 := by kernel_rfl
 g19 := by kernel_rfl
 i0 := by kernel_rfl
 i2 := by kernel_rfl
 i3 := by kernel_rfl
 i4 := by kernel_rfl
 i5 := by kernel_rfl
 i9 := by kernel_rfl
 i20 := by kernel_rfl
 i37 := by kernel_rfl
 i46 := by kernel_rfl
 i51 := by kernel_rfl
 i53 := by kernel_rfl
 i171 := by kernel_rfl
 i173 := by kernel_rfl
 i212 := by kernel_rfl
 i232 := by kernel_rfl
 i233 := by kernel_rfl
 m17 := by kernel_rfl
 m18 := by kernel_rfl
 m19 := by kernel_rfl }

open Go.RowKit Go.Sort Go.Lib in
theorem Tryd.strconv_Itoa (n : Int) (h0 : -9223372036854775808 ≤ n) (h1 : n ≤ 9223372036854775807) (w : World) (htab : Lib.TabIs Tryd.prog w "internal/strconv.uint64pow10" .u64 Lib.pow10Tab) :
  Calls Tryd.prog 26 #[.int .i64 n] w fun e w' => e = .returned (.string ⟨(Lib.itoa n).toArray⟩) ∧ ∃ k os, w' = grow (w.drewN k) os := Any.strconv_Itoa Tryd.laysM171 n h0 h1 w htab

def Tryd.lays203_ren : Go.Shelf.Ren := ⟨fun | 203 => 33 | 262 => 47 | 313 => 65 | 274 => 75 | 275 => 76 | n => n, fun | 21 => 21 | 4 => 4 | 3 => 3 | 162 => 91 | 203 => 89 | 160 => 107 | 46 => 102 | 0 => 0 | 208 => 123 | 51 => 106 | 206 => 121 | n => n, fun | 13 => 0 | n => n⟩

theorem Tryd.lays203 : Go.Proofs.Lays.n203 Tryd.prog Tryd.lays203_ren := {
 mixed := by kernel_rfl
 f203 := Tryd.func33.trans (congrArg some (by kernel_rfl))
 f262 := Tryd.func47.trans (congrArg some (by kernel_rfl))
 f274 := Tryd.func75.trans (congrArg some (by kernel_rfl))
 f275 := Tryd.func76.trans (congrArg some (by kernel_rfl))
 f313 := Tryd.func65.trans (congrArg some (by kernel_rfl))
 t0 := Tryd.underlying0
 a0 := Tryd.isAgg0
 z0 := Tryd.sizeOf0
 v0 := Tryd.zeroValue0
 t3 := Tryd.underlying3
 a3 := Tryd.isAgg3
 z3 := Tryd.sizeOf3
 v3 := Tryd.zeroValue3
 t4 := Tryd.underlying4
 a4 := Tryd.isAgg4
 z4 := Tryd.sizeOf4
 v4 := Tryd.zeroValue4
 t21 := Tryd.underlying21
 a21 := Tryd.isAgg21
 z21 := Tryd.sizeOf21
 v21 := Tryd.zeroValue21
 t46 := Tryd.underlying102
 a46 := Tryd.isAgg102
 z46 := Tryd.sizeOf102
 v46 := Tryd.zeroValue102
 t51 := Tryd.underlying106
 a51 := Tryd.isAgg106
 z51 := Tryd.sizeOf106
 v51 := Tryd.zeroValue106
 t160 := Tryd.underlying107
 a160 := Tryd.isAgg107
 z160 := Tryd.sizeOf107
 v160 := Tryd.zeroValue107
 t162 := Tryd.underlying91
 a162 := Tryd.isAgg91
 z162 := Tryd.sizeOf91
 v162 := Tryd.zeroValue91
 t203 := Tryd.underlying89
 a203 := Tryd.isAgg89
 z203 := Tryd.sizeOf89
 v203 := Tryd.zeroValue89
 t206 := Tryd.underlying121
 a206 := Tryd.isAgg121
 z206 := Tryd.sizeOf121
 v206 := Tryd.zeroValue121
 t208 := Tryd.underlying123
 a208 := Tryd.isAgg123
 z208 := Tryd.sizeOf123
 v208 := Tryd.zeroValue123
 g13 := by kernel_rfl }

end Go.Proofs
