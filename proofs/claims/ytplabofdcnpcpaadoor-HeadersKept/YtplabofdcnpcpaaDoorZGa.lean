/-
  Plain functions on bytes and lists of bytes that the walks of package infra speak of: nothing of the program stands here.
  Plain facts on lists of bytes: base 64 without its blanks and its padding.
  Plain facts: a row of bytes in memory that is the call's own; texts lowered and stripped.
  Plain facts: texts without the blanks at their ends.
  Plain facts: the number that digits are, held at the greatest.
  Plain functions of headers: what the walks of package headers speak of. Nothing of the program stands here.
  Plain facts: the digits of base 64, read from the left.
  Plain facts: the sets of bytes that are told as percent signs.
  Plain facts: texts told with percent signs, and back.
  The plain functions of package digest: SHA-2 over natural numbers, for words of 32 and of 64 bits.
-/
import Derived.Test.YtplabofdcnpcpaaDoorProg
import Derived.WalkKit
import Derived.Lib.Strings
import Derived.Lib.UnsafeStr
import Derived.Laws.IdiomStrings
import Derived.Laws.AppendOwn
import Derived.Lib.BufferMore
import Derived.Lib.SlTrimSet
import Derived.Lib.Join
import Derived.Lib.IndexMore
import Derived.Laws.BitsAllLaws
import Derived.Lib.Bytealg
import Derived.WalkSpells
import Derived.WalkLawsBesides
set_option linter.unusedSimpArgs false
set_option linter.unusedVariables false
namespace Go.Proofs.YtplabofdcnpcpaaDoor

def blankI (c : Int) : Bool := c == 9 || (c == 10 || (c == 12 || (c == 13 || c == 32)))
def digitI (c : Int) : Bool := decide (48 ≤ c) && decide (c ≤ 57)
def letterI (c : Int) : Bool := (decide (65 ≤ c) && decide (c ≤ 90)) || (decide (97 ≤ c) && decide (c ≤ 122))
def signI (c : Int) : Bool := c == 33 || (c == 35 || (c == 36 || (c == 37 || (c == 38 || (c == 39 || (c == 42 || (c == 43 || (c == 45 || (c == 46 || (c == 94 || (c == 95 || (c == 96 || (c == 124 || c == 126)))))))))))))
def tokI (c : Int) : Bool := signI c || (letterI c || digitI c)
def is64I (c : Int) : Bool := letterI c || (digitI c || (c == 43 || c == 47))
def val64I (c : Int) : Int :=
  if 65 ≤ c ∧ c ≤ 90 then c - 65 else if 97 ≤ c ∧ c ≤ 122 then c - 71 else if 48 ≤ c ∧ c ≤ 57 then c + 4 else if c = 43 then 62 else if c = 47 then 63 else 0
def is16I (c : Int) : Bool := digitI c || ((decide (65 ≤ c) && decide (c ≤ 70)) || (decide (97 ≤ c) && decide (c ≤ 102)))
def val16I (c : Int) : Int :=
  if 97 ≤ c ∧ c ≤ 102 then c - 87 else if 65 ≤ c ∧ c ≤ 70 then c - 55 else if 48 ≤ c ∧ c ≤ 57 then c - 48 else 0

theorem hid {p : Prop} (h : p) : RowKit.Hid p := h
theorem ret_bool {a b : Bool} (h : a = b) : Ending.returned (.bool a) = .returned (.bool b) := by rw [h]
theorem ret_int {k : IntKind} {a b : Int} (h : a = b) : Ending.returned (.int k a) = .returned (.int k b) := by rw [h]
theorem ret_ib {k : IntKind} {a b : Int} {x y : Bool} (h : a = b) (g : x = y) : Ending.returned (.tuple #[.int k a, .bool x]) = .returned (.tuple #[.int k b, .bool y]) := by rw [h, g]

end Go.Proofs.YtplabofdcnpcpaaDoor

namespace Go.Proofs.YtplabofdcnpcpaaDoor

theorem take_snoc (s : ByteArray) (k : Nat) (h : k < s.size) : s.data.toList.take (k + 1) = s.data.toList.take k ++ [s[k]] := by
  rw [List.take_succ_eq_append_getElem (by simpa using h)]; rfl

theorem take_all (s : ByteArray) (k : Nat) (h : ¬ k < s.size) : s.data.toList.take k = s.data.toList :=
  List.take_of_length_le (by simp; omega)

theorem byteCells_one (c : UInt8) : Lib.byteCells [c] = [.int .u8 c.toNat] := rfl

/-- Without the blanks. -/
def noBlanks (l : List UInt8) : List UInt8 := l.filter fun c => !blankI c.toNat

theorem noBlanks_le (l : List UInt8) : (noBlanks l).length ≤ l.length := List.length_filter_le _ _

theorem noBlanks_snoc_yes (l : List UInt8) (c : UInt8) (h : blankI c.toNat = true) : noBlanks (l ++ [c]) = noBlanks l := by
  simp [noBlanks, List.filter_append, h]

theorem noBlanks_snoc_no (l : List UInt8) (c : UInt8) (h : blankI c.toNat = false) : noBlanks (l ++ [c]) = noBlanks l ++ [c] := by
  simp [noBlanks, List.filter_append, h]

/-- Of a length that four divides, one or two signs of padding at the end are left out. -/
def noPadding (l : List UInt8) : List UInt8 := if l.length % 4 = 0 then Lib.trimSuffix (Lib.trimSuffix l [61]) [61] else l

/-- 'string(b)' of a row that the call owns. -/
theorem run_string_own {P : Program} {w : World} {base : Nat} {e src dst : TypeId} {v : Value} {l : List UInt8} (hs : P.underlying src = some (.slice e)) (he : P.underlying e = some (.int .u8)) (hd : P.underlying dst = some .string)
    (h : w.ownsRow base e 1 v l.length (Lib.byteCells l)) (hnn : v ≠ .slice none 0 0) : (convert src dst v).run P w = .ok (.string ⟨l.toArray⟩) w := by
  rcases h.2 with ⟨hv, _⟩ | ⟨g, cap, cur, rfl, _⟩
  · exact absurd hv hnn
  · refine run_convert_bytes_back w src dst e ⟨g, 0, none⟩ cap l hs he hd fun j hj => ?_
    exact h.cells (g := g) rfl j _ (by simp [Lib.byteCells, hj])

end Go.Proofs.YtplabofdcnpcpaaDoor

namespace Go.Proofs.YtplabofdcnpcpaaDoor
open Go.RowKit

/-- Block g holds the bytes l at its head, and none of these is frozen. -/
def rowIs (w : World) (g : Nat) (e : TypeId) (l : List UInt8) : Prop :=
  ∃ (C : Array Value) (fz : Nat × Nat), w.heap[g]? = some (.cells C e fz) ∧ l.length ≤ fz.1 ∧ ∀ j (h : j < l.length), C[j]? = some (.int .u8 (l[j].toNat : Int))

theorem rowIs.cell {w : World} {g : Nat} {e : TypeId} {l : List UInt8} (h : rowIs w g e l) (j : Nat) (hj : j < l.length) : w.cell? ⟨g, j, none⟩ = some (.int .u8 (l[j].toNat : Int)) := by
  obtain ⟨C, fz, hg, _, hc⟩ := h
  rw [Lib.cell_of_heap hg]; exact hc j hj

theorem rowIs.frozen {w : World} {g : Nat} {e : TypeId} {l : List UInt8} (h : rowIs w g e l) (j : Nat) (hj : j < l.length) : w.frozen? ⟨g, j, none⟩ = false := by
  obtain ⟨C, fz, hg, hf, _⟩ := h
  simp [World.frozen?, hg]
  omega

theorem rowIs.set {w : World} {g : Nat} {e : TypeId} {l : List UInt8} (h : rowIs w g e l) (j : Nat) (c : UInt8) : rowIs (w.setCell ⟨g, j, none⟩ (.int .u8 (c.toNat : Int))) g e (l.set j c) := by
  obtain ⟨C, fz, hg, hf, hc⟩ := h
  refine ⟨_, fz, Lib.heap_setCell_same hg _, by simpa using hf, ?_⟩
  intro i hi
  have hi' : i < l.length := by simpa using hi
  have hCi := hc i hi'
  have hlt : i < C.size := (Array.getElem?_eq_some_iff.1 hCi).1
  by_cases e : j = i
  · subst e; simp [hlt]
  · simp [Array.getElem?_setIfInBounds, e, hCi]

theorem rowIs.drew {w : World} {g : Nat} {e : TypeId} {l : List UInt8} (h : rowIs w g e l) : rowIs w.drew g e l := h

/-- '[]byte(s)': the new row. -/
theorem rowIs_bytes (w : World) (e : TypeId) (s : ByteArray) (cap : Nat) (hcap : s.size ≤ cap) : rowIs (w.drew.alloc (.cells (bytesRow s cap) e ((bytesRow s cap).size, (bytesRow s cap).size + 1))) w.heap.size e s.data.toList := by
  refine ⟨_, _, heap_alloc_new w.drew _, ?_, ?_⟩
  · simp [bytesRow]
  · intro j hj
    have hj' : j < s.data.size := by simpa using hj
    rw [bytesRow_at s cap j hj']
    simp

theorem rowIs.string {P : Program} {w : World} {g cap : Nat} {e src dst : TypeId} {l : List UInt8} (h : rowIs w g e l) (hs : P.underlying src = some (.slice e)) (he : P.underlying e = some (.int .u8)) (hd : P.underlying dst = some .string) :
    (convert src dst (.slice (some ⟨g, 0, none⟩) l.length cap)).run P w = .ok (.string ⟨l.toArray⟩) w := by
  refine run_convert_bytes_back w src dst e ⟨g, 0, none⟩ cap l hs he hd fun j hj => ?_
  have := h.cell j hj
  rw [Addr.add_lit]
  simpa using this

def lowC (c : UInt8) : UInt8 := if 65 ≤ c.toNat ∧ c.toNat ≤ 90 then UInt8.ofNat (c.toNat + 32) else c
def low (l : List UInt8) : List UInt8 := l.map lowC

theorem lowC_yes (c : UInt8) (h : 65 ≤ c.toNat ∧ c.toNat ≤ 90) : ((lowC c).toNat : Int) = (c.toNat : Int) + 32 := by
  unfold lowC; rw [if_pos h]
  have : (UInt8.ofNat (c.toNat + 32)).toNat = (c.toNat + 32) % 256 := by simp
  rw [this]; omega

theorem lowC_no (c : UInt8) (h : ¬ (65 ≤ c.toNat ∧ c.toNat ≤ 90)) : lowC c = c := by unfold lowC; rw [if_neg h]

/-- The first k lowered. -/
def lowTo (l : List UInt8) (k : Nat) : List UInt8 := (l.take k).map lowC ++ l.drop k

theorem lowTo_length (l : List UInt8) (k : Nat) : (lowTo l k).length = l.length := by simp [lowTo]; omega

theorem lowTo_at (l : List UInt8) (k : Nat) (h : k < l.length) (h' : k < (lowTo l k).length) : (lowTo l k)[k] = l[k] := by
  simp [lowTo, List.getElem_append, List.length_take]
  have : min k l.length = k := by omega
  simp [this]

theorem lowTo_succ (l : List UInt8) (k : Nat) (h : k < l.length) : lowTo l (k + 1) = (lowTo l k).set k (lowC l[k]) := by
  have e1 : (l.take k).length = k := by simp; omega
  unfold lowTo
  rw [List.take_succ_eq_append_getElem h, List.drop_eq_getElem_cons h, List.map_append, List.set_append_right _ _ (by simp; omega)]
  have e2 : k - (List.map lowC (List.take k l)).length = 0 := by simp; omega
  rw [e2, List.append_assoc]; rfl

theorem lowTo_zero (l : List UInt8) : lowTo l 0 = l := by simp [lowTo]
theorem lowTo_all (l : List UInt8) : lowTo l l.length = low l := by simp [lowTo, low]

end Go.Proofs.YtplabofdcnpcpaaDoor

namespace Go.Proofs.YtplabofdcnpcpaaDoor

def blC (c : UInt8) : Bool := blankI c.toNat
def strip (l : List UInt8) : List UInt8 := (((l.dropWhile blC).reverse).dropWhile blC).reverse

theorem dropBl_all (A X : List UInt8) (h : A.all blC = true) : (A ++ X).dropWhile blC = X.dropWhile blC := by
  induction A with
  | nil => rfl
  | cons a A ih =>
    simp only [List.all_cons, Bool.and_eq_true] at h
    simp [List.dropWhile_cons, h.1, ih h.2]

theorem dropWhile_stop (c : UInt8) (X : List UInt8) (h : blC c = false) : (c :: X).dropWhile blC = c :: X := by simp [List.dropWhile_cons, h]

theorem all_reverse (A : List UInt8) (h : A.all blC = true) : A.reverse.all blC = true := by simpa using h

theorem strip_parts (A M B : List UInt8) (hA : A.all blC = true) (hB : B.all blC = true) (hM : M = [] ∨ (∃ c r, M = c :: r ∧ blC c = false) ∧ ∃ r c, M = r ++ [c] ∧ blC c = false) : strip (A ++ M ++ B) = M := by
  unfold strip
  rw [List.append_assoc, dropBl_all A _ hA]
  rcases hM with rfl | ⟨⟨c, r, e1, h1⟩, ⟨r2, c2, e2, h2⟩⟩
  · have : B.dropWhile blC = [] := by
      have := dropBl_all B [] hB
      simpa using this
    simp [this]
  · rw [e1, List.cons_append, dropWhile_stop _ _ h1, ← List.cons_append, ← e1, List.reverse_append, dropBl_all _ _ (all_reverse B hB), e2, List.reverse_append]
    simp [dropWhile_stop, h2, List.dropWhile_cons]

/-- The text between two places, with blanks alone outside. -/
theorem strip_between (l : List UInt8) (k m : Nat) (hkm : k ≤ m) (hm : m ≤ l.length) (hA : (l.take k).all blC = true) (hB : (l.drop m).all blC = true)
    (h : k = m ∨ ∃ h1 : k < l.length, ∃ h2 : m - 1 < l.length, k < m ∧ blC l[k] = false ∧ blC l[m - 1] = false) : strip l = (l.take m).drop k := by
  have e : l = l.take k ++ (l.take m).drop k ++ l.drop m := by
    have h1 : l.take k = (l.take m).take k := by rw [List.take_take]; congr 1; omega
    rw [h1, List.take_append_drop, List.take_append_drop]
  conv => lhs; rw [e]
  refine strip_parts _ _ _ hA hB ?_
  rcases h with rfl | ⟨h1, h2, hlt, c1, c2⟩
  · left; simp
  · right
    refine ⟨⟨l[k], (l.take m).drop (k + 1), ?_, c1⟩, ⟨(l.take (m - 1)).drop k, l[m - 1], ?_, c2⟩⟩
    · rw [List.drop_eq_getElem_cons (by simp; omega)]; simp
    · have e2 : l.take m = l.take (m - 1) ++ [l[m - 1]] := by
        have := List.take_succ_eq_append_getElem h2
        rwa [show m - 1 + 1 = m by omega] at this
      rw [e2, List.drop_append]
      have : k - (l.take (m - 1)).length = 0 := by simp; omega
      rw [this]; rfl

end Go.Proofs.YtplabofdcnpcpaaDoor

namespace Go.Proofs.YtplabofdcnpcpaaDoor

def ten (n d : Int) : Int := if (9223372036854775807 - d) / 10 < n then 9223372036854775807 else n * 10 + d

def numI (l : List UInt8) : Int := l.foldl (fun n c => ten n ((c.toNat : Int) - 48)) 0
def digP (c : UInt8) : Bool := digitI c.toNat
def intV (l : List UInt8) : Int := if l.all digP && !l.isEmpty then numI l else 0
def intOk (l : List UInt8) : Bool := l.all digP && !l.isEmpty

theorem numI_snoc (l : List UInt8) (c : UInt8) : numI (l ++ [c]) = ten (numI l) ((c.toNat : Int) - 48) := by simp [numI]

theorem ten_range (n d : Int) (h : 0 ≤ n ∧ n ≤ 9223372036854775807) (hd : 0 ≤ d ∧ d ≤ 9) : 0 ≤ ten n d ∧ ten n d ≤ 9223372036854775807 := by
  unfold ten; split <;> omega

theorem numI_range (l : List UInt8) (h : l.all digP = true) : 0 ≤ numI l ∧ numI l ≤ 9223372036854775807 := by
  suffices H : ∀ (l : List UInt8) (n : Int), 0 ≤ n ∧ n ≤ 9223372036854775807 → l.all digP = true → 0 ≤ l.foldl (fun n c => ten n ((c.toNat : Int) - 48)) n ∧ l.foldl (fun n c => ten n ((c.toNat : Int) - 48)) n ≤ 9223372036854775807 from H l 0 (by omega) h
  intro l
  induction l with
  | nil => intro n h _; exact h
  | cons c l ih =>
    intro n hn hall
    simp only [List.all_cons, Bool.and_eq_true] at hall
    refine ih _ (ten_range n _ hn ?_) hall.2
    have := hall.1
    simp [digP, digitI] at this
    omega

end Go.Proofs.YtplabofdcnpcpaaDoor

namespace Go.Proofs.YtplabofdcnpcpaaDoor

/-- A header. -/
structure Hd where
  name : List UInt8
  value : List UInt8
deriving DecidableEq

def isN (n : List UInt8) (h : Hd) : Bool := low h.name == low n
/-- The values of all headers of that name. -/
def selV (L : List Hd) (n : List UInt8) : List (List UInt8) := (L.filter (isN n)).map (·.value)
def getT (L : List Hd) (n : List UInt8) : List UInt8 := Lib.join (selV L n) [44, 32]
def getB (L : List Hd) (n : List UInt8) : Bool := !(selV L n).isEmpty

theorem selV_snoc (L : List Hd) (h : Hd) (n : List UInt8) : selV (L ++ [h]) n = selV L n ++ (if isN n h then [h.value] else []) := by
  unfold selV
  rw [List.filter_append, List.map_append]
  by_cases hh : isN n h = true <;> simp [hh]

/-- How many bytes stand ahead of the quotes that close. -/
def clos : List UInt8 → Nat
  | [] => 0
  | [c] => if c = 34 then 0 else if c = 92 then 2 else 1
  | c :: d :: r => if c = 34 then 0 else if c = 92 then 2 + clos r else 1 + clos (d :: r)

/-- Where the first comma stands that is not in quotes. -/
def cutQ : Bool → List UInt8 → Option Nat
  | _, [] => none
  | false, c :: r => if c = 44 then some 0 else if c = 34 then (cutQ true r).map (· + 1) else (cutQ false r).map (· + 1)
  | true, [_] => none
  | true, c :: d :: r => if c = 34 then (cutQ false (d :: r)).map (· + 1) else if c = 92 then (cutQ true r).map (· + 2) else (cutQ true (d :: r)).map (· + 1)

theorem clos_quote (r : List UInt8) : clos (34 :: r) = 0 := by cases r <;> simp [clos]
theorem clos_back (r : List UInt8) : clos (92 :: r) = 2 + clos (r.drop 1) := by cases r <;> simp [clos]
theorem clos_other (c : UInt8) (r : List UInt8) (h1 : c ≠ 34) (h2 : c ≠ 92) : clos (c :: r) = 1 + clos r := by cases r <;> simp [clos, h1, h2]

theorem cutQ_comma (r : List UInt8) : cutQ false (44 :: r) = some 0 := by simp [cutQ]
theorem cutQ_open (r : List UInt8) : cutQ false (34 :: r) = (cutQ true r).map (· + 1) := by simp [cutQ]
theorem cutQ_other (c : UInt8) (r : List UInt8) (h1 : c ≠ 44) (h2 : c ≠ 34) : cutQ false (c :: r) = (cutQ false r).map (· + 1) := by simp [cutQ, h1, h2]
theorem cutQ_close (r : List UInt8) : cutQ true (34 :: r) = (cutQ false r).map (· + 1) := by cases r <;> simp [cutQ]
theorem cutQ_back (r : List UInt8) : cutQ true (92 :: r) = (cutQ true (r.drop 1)).map (· + 2) := by cases r <;> simp [cutQ]
theorem cutQ_in (c : UInt8) (r : List UInt8) (h1 : c ≠ 34) (h2 : c ≠ 92) : cutQ true (c :: r) = (cutQ true r).map (· + 1) := by cases r <;> simp [cutQ, h1, h2]

theorem map_map_add (o : Option Nat) (a b : Nat) : (o.map (· + a)).map (· + b) = o.map (· + (a + b)) := by
  cases o <;> simp [Nat.add_assoc]

theorem cutQ_true : ∀ (n : Nat) (r : List UInt8), r.length ≤ n → cutQ true r = (cutQ false (r.drop (clos r + 1))).map (· + (clos r + 1)) := by
  intro n
  induction n with
  | zero =>
    intro r hr
    have : r = [] := List.eq_nil_of_length_eq_zero (by omega)
    subst this; rfl
  | succ n ih =>
    intro r hr
    cases r with
    | nil => rfl
    | cons c r =>
      simp at hr
      by_cases h1 : c = 34
      · subst h1; rw [cutQ_close, clos_quote]; rfl
      · by_cases h2 : c = 92
        · subst h2
          rw [cutQ_back, clos_back, ih (r.drop 1) (by simp; omega), map_map_add, List.drop_drop]
          rw [show 2 + clos (r.drop 1) + 1 = (1 + (clos (r.drop 1) + 1)) + 1 by omega, List.drop_succ_cons]
          congr 2
          funext x; omega
        · rw [cutQ_in c r h1 h2, clos_other c r h1 h2, ih r (by omega), map_map_add]
          rw [show 1 + clos r + 1 = (clos r + 1) + 1 by omega, List.drop_succ_cons]

theorem cutQ_false_open (r : List UInt8) : cutQ false (34 :: r) = (cutQ false (r.drop (clos r + 1))).map (· + (clos r + 2)) := by
  rw [cutQ_open, cutQ_true r.length r (Nat.le_refl _), map_map_add]

theorem cutQ_lt : ∀ (n : Nat) (q : Bool) (l : List UInt8) (k : Nat), l.length ≤ n → cutQ q l = some k → k < l.length := by
  intro n
  induction n with
  | zero =>
    intro q l k hl h
    have : l = [] := List.eq_nil_of_length_eq_zero (by omega)
    subst this; cases q <;> simp [cutQ] at h
  | succ n ih =>
    intro q l k hl h
    cases l with
    | nil => cases q <;> simp [cutQ] at h
    | cons c r =>
      simp at hl
      have step : ∀ (q : Bool) (r' : List UInt8) (a : Nat), r'.length + a ≤ r.length + 1 → 1 ≤ a → (cutQ q r').map (· + a) = some k → k < (c :: r).length := by
        intro q r' a ha ha1 hk
        obtain ⟨j, hj, rfl⟩ := Option.map_eq_some_iff.1 hk
        have := ih q r' j (by omega) hj
        simp; omega
      cases q with
      | false =>
        by_cases h1 : c = 44
        · subst h1; rw [cutQ_comma] at h; simp at h; subst h; simp
        · by_cases h2 : c = 34
          · subst h2; rw [cutQ_open] at h; exact step true r 1 (by omega) (by omega) h
          · rw [cutQ_other c r h1 h2] at h; exact step false r 1 (by omega) (by omega) h
      | true =>
        by_cases h1 : c = 34
        · subst h1; rw [cutQ_close] at h; exact step false r 1 (by omega) (by omega) h
        · by_cases h2 : c = 92
          · subst h2; rw [cutQ_back] at h
            cases r with
            | nil => simp [cutQ] at h
            | cons d r => exact step true r 2 (by simp) (by omega) h
          · rw [cutQ_in c r h1 h2] at h; exact step true r 1 (by omega) (by omega) h

/-- The pcs of a text. -/
def pcsN : Nat → List UInt8 → List (List UInt8)
  | 0, l => [l]
  | f + 1, l => match cutQ false l with
    | none => [l]
    | some k => l.take k :: pcsN f (l.drop (k + 1))
def pcs (l : List UInt8) : List (List UInt8) := pcsN l.length l

theorem pcsN_succ : ∀ (g : Nat) (m : List UInt8), m.length ≤ g → pcsN (g + 1) m = pcsN g m := by
  intro g
  induction g with
  | zero =>
    intro m hm
    have : m = [] := List.eq_nil_of_length_eq_zero (by omega)
    subst this; simp [pcsN, cutQ]
  | succ g ihg =>
    intro m hm
    rw [pcsN, pcsN]
    cases hc : cutQ false m with
    | none => rfl
    | some k =>
      have := cutQ_lt m.length false m k (Nat.le_refl _) hc
      simp only
      rw [ihg _ (by simp; omega)]

theorem pcsN_more (f : Nat) (l : List UInt8) (hl : l.length ≤ f) : pcsN f l = pcsN l.length l := by
  obtain ⟨d, rfl⟩ : ∃ d, f = l.length + d := ⟨f - l.length, by omega⟩
  clear hl
  induction d with
  | zero => rfl
  | succ d ih => rw [← Nat.add_assoc, pcsN_succ _ _ (by omega), ih]

theorem pcs_none (l : List UInt8) (h : cutQ false l = none) : pcs l = [l] := by
  unfold pcs
  cases hn : l.length with
  | zero => simp [pcsN]
  | succ n => simp [pcsN, h]

theorem pcs_some (l : List UInt8) (k : Nat) (h : cutQ false l = some k) : pcs l = l.take k :: pcs (l.drop (k + 1)) := by
  have hk := cutQ_lt l.length false l k (Nat.le_refl _) h
  unfold pcs
  cases hn : l.length with
  | zero => omega
  | succ n =>
    simp only [pcsN, h]
    rw [pcsN_more n _ (by simp; omega)]

def trimB (l : List UInt8) : List UInt8 := Lib.trimS l [9, 32]
def splitV (L : List Hd) (n : List UInt8) : List (List UInt8) := (pcs (getT L n)).map trimB

/-- A range of bytes. -/
def rUnit (l : List UInt8) : Bool := Lib.hasPrefix l [98, 121, 116, 101, 115, 61]
def rRest (l : List UInt8) : List UInt8 := if rUnit l then l.drop 6 else l
def bndV (l : List UInt8) : Int := if l = [] then -1 else intV l
def bndOk (l : List UInt8) : Bool := l == [] || intOk l
def spansI (a b : Int) : Bool := if b < 0 then decide (0 ≤ a) else decide (a ≤ b)
def rL (l : List UInt8) : List UInt8 := (Lib.cut (rRest l) [45]).1
def rR (l : List UInt8) : List UInt8 := (Lib.cut (rRest l) [45]).2.1
def rOk (l : List UInt8) : Bool := rUnit l && (Lib.cut (rRest l) [45]).2.2 && bndOk (rL l) && bndOk (rR l) && spansI (bndV (rL l)) (bndV (rR l))
def rFrom (l : List UInt8) : Int := if rOk l then bndV (rL l) else 0
def rTo (l : List UInt8) : Int := if rOk l then bndV (rR l) else 0

end Go.Proofs.YtplabofdcnpcpaaDoor

namespace Go.Proofs.YtplabofdcnpcpaaDoor

/-- One digit more: the number that was read, how many of its bits are not told yet, the bytes that were told. -/
def step64 (t : Nat × Nat × List UInt8) (c : UInt8) : Nat × Nat × List UInt8 :=
  if 2 ≤ t.2.1 then (t.1 * 64 + (val64I c.toNat).toNat, t.2.1 - 2, t.2.2 ++ [UInt8.ofNat ((t.1 * 64 + (val64I c.toNat).toNat) / 2 ^ (t.2.1 - 2))])
  else (t.1 * 64 + (val64I c.toNat).toNat, t.2.1 + 6, t.2.2)

def run64 (l : List UInt8) : Nat × Nat × List UInt8 := l.foldl step64 (0, 0, [])

def is64 (c : UInt8) : Bool := is64I c.toNat

def b64 (l : List UInt8) : Option (List UInt8) :=
  if (noPadding (noBlanks l)).length % 4 = 1 then none else if (noPadding (noBlanks l)).all is64 then some (run64 (noPadding (noBlanks l))).2.2 else none

theorem run64_snoc (l : List UInt8) (c : UInt8) : run64 (l ++ [c]) = step64 (run64 l) c := by simp [run64]

theorem val64_lt (c : Int) : 0 ≤ val64I c ∧ val64I c < 64 := by unfold val64I; split <;> (try split) <;> (try split) <;> (try split) <;> (try split) <;> omega

theorem run64_held (l : List UInt8) : (run64 l).2.1 ≤ 6 := by
  suffices h : ∀ (l : List UInt8) (t : Nat × Nat × List UInt8), t.2.1 ≤ 6 ∧ t.2.1 % 2 = 0 → (l.foldl step64 t).2.1 ≤ 6 ∧ (l.foldl step64 t).2.1 % 2 = 0 from (h l (0, 0, []) (by simp)).1
  intro l
  induction l with
  | nil => intro t h; exact h
  | cons c l ih =>
    intro t h
    refine ih _ ?_
    unfold step64
    split <;> simp <;> omega

theorem run64_len (l : List UInt8) : (run64 l).2.2.length ≤ l.length := by
  suffices h : ∀ (l : List UInt8) (t : Nat × Nat × List UInt8), (l.foldl step64 t).2.2.length ≤ t.2.2.length + l.length by simpa [run64] using h l (0, 0, [])
  intro l
  induction l with
  | nil => intro t; simp
  | cons c l ih =>
    intro t
    have := ih (step64 t c)
    have h2 : (step64 t c).2.2.length ≤ t.2.2.length + 1 := by unfold step64; split <;> simp
    simp only [List.foldl_cons, List.length_cons]
    omega

theorem or64 (n : Nat) (c : Int) : bits .or .u32 (((n % 4294967296 : Nat) : Int) * 64 % 4294967296) (val64I c) = (((n * 64 + (val64I c).toNat) % 4294967296 : Nat) : Int) := by
  have hv := val64_lt c
  obtain ⟨v, hv'⟩ := Int.eq_ofNat_of_zero_le hv.1
  rw [hv']
  have e : ((n % 4294967296 : Nat) : Int) * 64 % 4294967296 = (((n % 4294967296) * 64 % 4294967296 : Nat) : Int) := by omega
  have hb : v < 64 := by omega
  rw [e, u32_or_nat _ _ (by omega) (by omega), nat_join 6 _ _ (by omega) (by omega)]
  simp only [Int.toNat_natCast]
  congr 1
  omega

theorem shr64 (m h : Nat) (hh : h ≤ 4) : ((m % 4294967296 : Nat) : Int) / 2 ^ h % 256 = ((UInt8.ofNat (m / 2 ^ h)).toNat : Int) := by
  have e : (UInt8.ofNat (m / 2 ^ h)).toNat = m / 2 ^ h % 256 := by simp
  rw [e]
  rcases (show h = 0 ∨ h = 1 ∨ h = 2 ∨ h = 3 ∨ h = 4 from by omega) with rfl | rfl | rfl | rfl | rfl <;> simp <;> omega

end Go.Proofs.YtplabofdcnpcpaaDoor

namespace Go.Proofs.YtplabofdcnpcpaaDoor

def idxA (c : Int) : Int := Lib.indexByte [47, 58, 59, 61, 64, 91, 92, 93, 124] c.toNat.toUInt8
def idxB (c : Int) : Int := Lib.indexByte [63, 94, 96, 123, 125] c.toNat.toUInt8
def idxC (c : Int) : Int := Lib.indexByte [32, 34, 60, 62] c.toNat.toUInt8

theorem index_nonneg (l : List UInt8) (b : UInt8) : 0 ≤ Lib.indexByte l b ↔ b ∈ l := by
  induction l with
  | nil => simp [Lib.indexByte]
  | cons a l ih =>
    have hge := Lib.indexByte_ge l b
    unfold Lib.indexByte
    by_cases h : a = b
    · simp [h]
    · have h2 : (a == b) = false := by simpa using h
      have h3 : ¬ b = a := fun e => h e.symm
      rw [h2]
      by_cases h4 : Lib.indexByte l b = -1
      · have : b ∉ l := by rw [← ih, h4]; decide
        simp [h4, h3, this]
      · have : b ∈ l := by rw [← ih]; omega
        simp [h4, this]; omega

theorem byte_eq (c : Int) (h0 : 0 ≤ c) (h1 : c ≤ 255) (k : Nat) (hk : k < 256) : c.toNat.toUInt8 = UInt8.ofNat k ↔ c = (k : Int) := by
  obtain ⟨n, rfl⟩ := Int.eq_ofNat_of_zero_le h0
  rw [Int.toNat_natCast]
  constructor
  · intro h
    have := congrArg UInt8.toNat h
    simp at this
    omega
  · intro h
    have : n = k := by omega
    subst this; rfl

theorem idxA_nonneg (c : Int) (h0 : 0 ≤ c) (h1 : c ≤ 255) : 0 ≤ idxA c ↔ (c = 47 ∨ c = 58 ∨ c = 59 ∨ c = 61 ∨ c = 64 ∨ c = 91 ∨ c = 92 ∨ c = 93 ∨ c = 124) := by
  have e := fun k hk => byte_eq c h0 h1 k hk
  unfold idxA
  rw [index_nonneg]
  simp only [List.mem_cons, List.not_mem_nil, or_false]
  rw [show (47 : UInt8) = UInt8.ofNat 47 from rfl, show (58 : UInt8) = UInt8.ofNat 58 from rfl, show (59 : UInt8) = UInt8.ofNat 59 from rfl, show (61 : UInt8) = UInt8.ofNat 61 from rfl, show (64 : UInt8) = UInt8.ofNat 64 from rfl,
    show (91 : UInt8) = UInt8.ofNat 91 from rfl, show (92 : UInt8) = UInt8.ofNat 92 from rfl, show (93 : UInt8) = UInt8.ofNat 93 from rfl, show (124 : UInt8) = UInt8.ofNat 124 from rfl]
  rw [e 47 (by omega), e 58 (by omega), e 59 (by omega), e 61 (by omega), e 64 (by omega), e 91 (by omega), e 92 (by omega), e 93 (by omega), e 124 (by omega)]
  simp

theorem idxB_nonneg (c : Int) (h0 : 0 ≤ c) (h1 : c ≤ 255) : 0 ≤ idxB c ↔ (c = 63 ∨ c = 94 ∨ c = 96 ∨ c = 123 ∨ c = 125) := by
  have e := fun k hk => byte_eq c h0 h1 k hk
  unfold idxB
  rw [index_nonneg]
  simp only [List.mem_cons, List.not_mem_nil, or_false]
  rw [show (63 : UInt8) = UInt8.ofNat 63 from rfl, show (94 : UInt8) = UInt8.ofNat 94 from rfl, show (96 : UInt8) = UInt8.ofNat 96 from rfl, show (123 : UInt8) = UInt8.ofNat 123 from rfl, show (125 : UInt8) = UInt8.ofNat 125 from rfl]
  rw [e 63 (by omega), e 94 (by omega), e 96 (by omega), e 123 (by omega), e 125 (by omega)]
  simp

theorem idxC_nonneg (c : Int) (h0 : 0 ≤ c) (h1 : c ≤ 255) : 0 ≤ idxC c ↔ (c = 32 ∨ c = 34 ∨ c = 60 ∨ c = 62) := by
  have e := fun k hk => byte_eq c h0 h1 k hk
  unfold idxC
  rw [index_nonneg]
  simp only [List.mem_cons, List.not_mem_nil, or_false]
  rw [show (32 : UInt8) = UInt8.ofNat 32 from rfl, show (34 : UInt8) = UInt8.ofNat 34 from rfl, show (60 : UInt8) = UInt8.ofNat 60 from rfl, show (62 : UInt8) = UInt8.ofNat 62 from rfl]
  rw [e 32 (by omega), e 34 (by omega), e 60 (by omega), e 62 (by omega)]
  simp

/-- Is the byte one of the set's? -/
abbrev inSetP (c set : Int) : Prop :=
  (1 ≤ set ∧ set ≤ 6) ∧ (c < 32 ∨ 126 < c ∨ (2 ≤ set ∧ (c = 32 ∨ c = 34 ∨ c = 60 ∨ c = 62)) ∨ (set = 2 ∧ c = 96) ∨ (3 ≤ set ∧ c = 35) ∨ (set = 4 ∧ c = 39) ∨ (5 ≤ set ∧ (c = 63 ∨ c = 94 ∨ c = 96 ∨ c = 123 ∨ c = 125)) ∨
    (set = 6 ∧ (c = 47 ∨ c = 58 ∨ c = 59 ∨ c = 61 ∨ c = 64 ∨ c = 91 ∨ c = 92 ∨ c = 93 ∨ c = 124)))

def inSetI (c set : Int) : Bool := decide (inSetP c set)

theorem inSetI_iff (c set : Int) : inSetI c set = true ↔ inSetP c set := by unfold inSetI; exact decide_eq_true_iff

end Go.Proofs.YtplabofdcnpcpaaDoor

namespace Go.Proofs.YtplabofdcnpcpaaDoor

/-- A digit of sixteen. -/
def hexD (n : Nat) : UInt8 := if n < 10 then UInt8.ofNat (48 + n) else UInt8.ofNat (55 + n)

theorem hexD_at (n : Nat) (h : n < (ByteArray.mk #[48, 49, 50, 51, 52, 53, 54, 55, 56, 57, 65, 66, 67, 68, 69, 70]).size) : (ByteArray.mk #[48, 49, 50, 51, 52, 53, 54, 55, 56, 57, 65, 66, 67, 68, 69, 70])[n] = hexD n := by
  have h16 : n < 16 := h
  rcases (show n = 0 ∨ n = 1 ∨ n = 2 ∨ n = 3 ∨ n = 4 ∨ n = 5 ∨ n = 6 ∨ n = 7 ∨ n = 8 ∨ n = 9 ∨ n = 10 ∨ n = 11 ∨ n = 12 ∨ n = 13 ∨ n = 14 ∨ n = 15 from by omega) with
    rfl | rfl | rfl | rfl | rfl | rfl | rfl | rfl | rfl | rfl | rfl | rfl | rfl | rfl | rfl | rfl <;> rfl

theorem and15 (n : Nat) (h : n < 256) : bits .and .u8 (n : Int) 15 = (n : Int) % 16 := by
  have := u8_and_nat n 15 h (by omega)
  rw [nat_mask4] at this
  simpa using this

def esc (c : UInt8) : List UInt8 := [37, hexD (c.toNat / 16), hexD (c.toNat % 16)]

def pct1 (set : Int) (c : UInt8) : List UInt8 := if inSetI c.toNat set then esc c else [c]

def pct (set : Int) (l : List UInt8) : List UInt8 := l.flatMap (pct1 set)

theorem pct1_le (set : Int) (c : UInt8) : (pct1 set c).length ≤ 3 := by unfold pct1 esc; split <;> simp

theorem pct_snoc (set : Int) (l : List UInt8) (c : UInt8) : pct set (l ++ [c]) = pct set l ++ pct1 set c := by simp [pct]

theorem pct_le (set : Int) (l : List UInt8) : (pct set l).length ≤ 3 * l.length := by
  induction l with
  | nil => simp [pct]
  | cons c l ih =>
    have h1 := pct1_le set c
    have h2 : pct set (c :: l) = pct1 set c ++ pct set l := by simp [pct]
    rw [h2]; simp; omega

/-- What a text begins with: a byte, and whether it was told by a percent sign. -/
def pcd (l : List UInt8) : UInt8 × Bool :=
  match l with
  | 37 :: a :: b :: _ => if is16I a.toNat && is16I b.toNat then (UInt8.ofNat (val16I a.toNat * 16 + val16I b.toNat).toNat, true) else (37, false)
  | c :: _ => (c, false)
  | [] => (0, false)

def unpctN : Nat → List UInt8 → List UInt8
  | 0, _ => []
  | _ + 1, [] => []
  | f + 1, c :: l => (pcd (c :: l)).1 :: unpctN f (if (pcd (c :: l)).2 then l.drop 2 else l)

def unpct (l : List UInt8) : List UInt8 := unpctN l.length l

theorem list_one (s : ByteArray) (h : 0 < s.size) : ∃ r, s.data.toList = s[0] :: r := by
  have h' : 0 < s.data.toList.length := by simpa using h
  match hl : s.data.toList, h' with
  | a :: r, _ =>
    refine ⟨r, ?_⟩
    have e : s[0] = s.data.toList[0]'(by rw [hl]; simp) := rfl
    rw [e]; simp [hl]

theorem list_three (s : ByteArray) (h : 2 < s.size) : ∃ r, s.data.toList = s[0] :: s[1] :: s[2] :: r := by
  have h' : 2 < s.data.toList.length := by simpa using h
  match hl : s.data.toList, h' with
  | a :: b :: c :: r, _ =>
    refine ⟨r, ?_⟩
    have e0 : s[0] = s.data.toList[0]'(by rw [hl]; simp) := rfl
    have e1 : s[1] = s.data.toList[1]'(by rw [hl]; simp) := rfl
    have e2 : s[2] = s.data.toList[2]'(by rw [hl]; simp) := rfl
    rw [e0, e1, e2]; simp [hl]

theorem pcd_short (l : List UInt8) (c : UInt8) (h : (c :: l).length < 3) : pcd (c :: l) = (c, false) := by
  match l, h with
  | [], _ => unfold pcd; split <;> simp_all
  | [a], _ => unfold pcd; split <;> simp_all

theorem pcd_other (l : List UInt8) (c : UInt8) (h : c ≠ 37) : pcd (c :: l) = (c, false) := by
  unfold pcd; split <;> simp_all

theorem pcd_three (a b : UInt8) (l : List UInt8) : pcd (37 :: a :: b :: l) = if is16I a.toNat && is16I b.toNat then (UInt8.ofNat (val16I a.toNat * 16 + val16I b.toNat).toNat, true) else (37, false) := rfl

theorem val16_lt (c : Int) : 0 ≤ val16I c ∧ val16I c < 16 := by unfold val16I; split <;> (try split) <;> (try split) <;> omega

theorem or16 (a b : Int) : bits .or .u8 (val16I a * 16) (val16I b) = ((UInt8.ofNat (val16I a * 16 + val16I b).toNat).toNat : Int) := by
  have ha := val16_lt a
  have hb := val16_lt b
  obtain ⟨x, hx⟩ := Int.eq_ofNat_of_zero_le ha.1
  obtain ⟨y, hy⟩ := Int.eq_ofNat_of_zero_le hb.1
  rw [hx, hy]
  have e : (x : Int) * 16 = ((x * 16 : Nat) : Int) := by omega
  have e2 : ((x : Int) * 16 + y).toNat = x * 16 + y := by omega
  rw [e2, e, u8_or_nat _ _ (by omega) (by omega), nat_join 4 _ _ (by omega) (by omega)]
  have : (UInt8.ofNat (x * 16 + y)).toNat = (x * 16 + y) % 256 := by simp
  rw [this]
  congr 1
  omega

theorem unpctN_fuel (f : Nat) : ∀ (g : Nat) (l : List UInt8), l.length ≤ f → l.length ≤ g → unpctN f l = unpctN g l := by
  induction f with
  | zero =>
    intro g l h _
    have : l = [] := List.eq_nil_of_length_eq_zero (by omega)
    subst this
    cases g <;> rfl
  | succ f ih =>
    intro g l h hg
    match l, g, h, hg with
    | [], g, _, _ => cases g <;> rfl
    | c :: l, 0, _, hg => simp at hg
    | c :: l, g + 1, h, hg =>
      simp only [List.length_cons] at h hg
      show _ :: unpctN f _ = _ :: unpctN g _
      rw [ih g _ ?_ ?_]
      · split
        · simp; omega
        · omega
      · split
        · simp; omega
        · omega

theorem unpct_cons (c : UInt8) (l : List UInt8) : unpct (c :: l) = (pcd (c :: l)).1 :: unpct (if (pcd (c :: l)).2 then l.drop 2 else l) := by
  show _ :: unpctN l.length _ = _
  unfold unpct
  rw [unpctN_fuel l.length _ _ ?_ (Nat.le_refl _)]
  split
  · simp
  · omega

theorem pcd_len (l : List UInt8) (h : (pcd l).2 = true) : 3 ≤ l.length := by
  unfold pcd at h
  split at h
  · simp
  · simp at h
  · simp at h

theorem drop_cons (s : ByteArray) (k : Nat) (h : k < s.size) : s.data.toList.drop k = s[k] :: s.data.toList.drop (k + 1) := by
  rw [List.drop_eq_getElem_cons (by simpa using h)]; rfl

theorem drop_none (s : ByteArray) (k : Nat) (h : ¬ k < s.size) : s.data.toList.drop k = [] := List.drop_eq_nil_iff.2 (by simp; omega)

theorem extract_drop (s : ByteArray) (k : Nat) : (s.extract k s.size).data.toList = s.data.toList.drop k := by
  rw [Lib.extract_data, List.take_of_length_le (by simp)]

end Go.Proofs.YtplabofdcnpcpaaDoor

namespace Go.Proofs.YtplabofdcnpcpaaDoor
open Go.RowKit

/-- A number that is worked out ahead of what goes on with it. -/
def force {α : Type} (n : Nat) (f : Nat → α) : α := match n with
  | 0 => f 0
  | m + 1 => f (m + 1)
theorem force_eq {α : Type} (n : Nat) (f : Nat → α) : force n f = f n := by cases n <;> rfl

def rotV (W x n : Nat) : Nat := (x / 2 ^ n) ||| (x * 2 ^ (W - n) % 2 ^ W)
def smV (W a b c x : Nat) : Nat := (rotV W x a ^^^ rotV W x b) ^^^ (x / 2 ^ c)
def grV (W a b c x : Nat) : Nat := (rotV W x a ^^^ rotV W x b) ^^^ rotV W x c
def chV (W a b c : Nat) : Nat := (a &&& b) ^^^ ((2 ^ W - 1 - a) &&& c)
def mjV (a b c : Nat) : Nat := ((a &&& b) ^^^ (a &&& c)) ^^^ (b &&& c)

structure Three where
  (a b c : Nat)
/-- What sets words of one size apart from those of the other. -/
structure Kd where
  W : Nat
  R : Nat
  s0 : Three
  s1 : Three
  g0 : Three
  g1 : Three
def nar : Kd := ⟨32, 64, ⟨7, 18, 3⟩, ⟨17, 19, 10⟩, ⟨2, 13, 22⟩, ⟨6, 11, 25⟩⟩
def wid : Kd := ⟨64, 80, ⟨1, 8, 7⟩, ⟨19, 61, 6⟩, ⟨28, 34, 39⟩, ⟨14, 18, 41⟩⟩

def Kd.small0 (k : Kd) (x : Nat) : Nat := smV k.W k.s0.a k.s0.b k.s0.c x
def Kd.small1 (k : Kd) (x : Nat) : Nat := smV k.W k.s1.a k.s1.b k.s1.c x
def Kd.great0 (k : Kd) (x : Nat) : Nat := grV k.W k.g0.a k.g0.b k.g0.c x
def Kd.great1 (k : Kd) (x : Nat) : Nat := grV k.W k.g1.a k.g1.b k.g1.c x

/-- The word that those bytes are, the greatest one first. -/
def beN : Nat → List UInt8 → Nat
  | w, [] => w
  | w, c :: r => beN (w * 256 + c.toNat) r

def wordV (B : Nat) (l : List UInt8) (t : Nat) : Nat := beN 0 ((l.drop (t * B)).take B)
def wordsV (B : Nat) (l : List UInt8) : List Nat := (List.range 16).map (wordV B l)

def nxtV (k : Kd) (w : List Nat) (t : Nat) : Nat := (k.small1 (w.getD (t - 2) 0) + w.getD (t - 7) 0 + k.small0 (w.getD (t - 15) 0) + w.getD (t - 16) 0) % 2 ^ k.W
def extV (k : Kd) : Nat → List Nat → List Nat
  | 0, w => w
  | n + 1, w => force (nxtV k w w.length) fun x => extV k n (w ++ [x])
def schV (k : Kd) (l : List UInt8) : List Nat := extV k (k.R - 16) (wordsV (k.W / 8) l)

structure St where
  (a b c d e f g h : Nat)
def St.list (s : St) : List Nat := [s.a, s.b, s.c, s.d, s.e, s.f, s.g, s.h]

def t1V (k : Kd) (s : St) (K w : Nat) : Nat := (s.h + k.great1 s.e + chV k.W s.e s.f s.g + K + w) % 2 ^ k.W
def t2V (k : Kd) (s : St) : Nat := (k.great0 s.a + mjV s.a s.b s.c) % 2 ^ k.W
def rndV (k : Kd) (s : St) (K w : Nat) : St :=
  force (t1V k s K w) fun t1 => force ((t1 + t2V k s) % 2 ^ k.W) fun x => force ((s.d + t1) % 2 ^ k.W) fun y => ⟨x, s.a, s.b, s.c, y, s.e, s.f, s.g⟩

/-- The rounds, one for each root and word. -/
def rdsV (k : Kd) : List Nat → List Nat → St → St
  | K :: Ks, w :: ws, s => rdsV k Ks ws (rndV k s (K / 2 ^ (64 - k.W)) w)
  | _, _, s => s

def addV (k : Kd) (s v : St) : St :=
  force ((s.a + v.a) % 2 ^ k.W) fun a => force ((s.b + v.b) % 2 ^ k.W) fun b => force ((s.c + v.c) % 2 ^ k.W) fun c => force ((s.d + v.d) % 2 ^ k.W) fun d =>
  force ((s.e + v.e) % 2 ^ k.W) fun e => force ((s.f + v.f) % 2 ^ k.W) fun f => force ((s.g + v.g) % 2 ^ k.W) fun g => force ((s.h + v.h) % 2 ^ k.W) fun h => ⟨a, b, c, d, e, f, g, h⟩

/-- One block is worked into the state; Ks: the roots, 64 bits each. -/
def foldV (k : Kd) (Ks : List Nat) (s : St) (l : List UInt8) : St := addV k s (rdsV k (Ks.take k.R) (schV k l) s)

/-- The whole blocks of a text, of n bytes each. -/
def workV (k : Kd) (Ks : List Nat) (n : Nat) : Nat → St → List UInt8 → St
  | 0, s, _ => s
  | m + 1, s, l => if n ≤ l.length then workV k Ks n m (foldV k Ks s (l.take n)) (l.drop n) else s

/-- A number as n bytes, the greatest one first. -/
def bytesV : Nat → Nat → List UInt8
  | 0, _ => []
  | n + 1, x => bytesV n (x / 256) ++ [UInt8.ofNat (x % 256)]

def Kd.B (k : Kd) : Nat := k.W / 8
def Kd.size (k : Kd) : Nat := 16 * k.B

/-- What a text has behind its whole blocks, filled up to one block or two. -/
def endLen (k : Kd) (n : Nat) : Nat := if n % k.size + 1 + 2 * k.B > k.size then 2 * k.size else k.size
def endV (k : Kd) (l : List UInt8) : List UInt8 :=
  l.drop (l.length - l.length % k.size) ++ 128 :: (List.replicate (endLen k l.length - l.length % k.size - 9) 0 ++ bytesV 8 (l.length * 8))

def stV (k : Kd) (Hs : List Nat) (i : Nat) : Nat := Hs.getD i 0 / 2 ^ (64 - k.W)
def startV (k : Kd) (Hs : List Nat) (f : Nat) : St := ⟨stV k Hs f, stV k Hs (f + 1), stV k Hs (f + 2), stV k Hs (f + 3), stV k Hs (f + 4), stV k Hs (f + 5), stV k Hs (f + 6), stV k Hs (f + 7)⟩

def toldV (k : Kd) (s : St) : List UInt8 := s.list.flatMap (bytesV k.B)

def summedV (k : Kd) (Hs Ks : List Nat) (f size : Nat) (l : List UInt8) : List UInt8 :=
  (toldV k (workV k Ks k.size 2 (workV k Ks k.size (l.length / k.size) (startV k Hs f) l) (endV k l))).take size

def sumV (Hs Ks : List Nat) (bits : Int) (l : List UInt8) : Option (List UInt8) :=
  if bits = 256 then some (summedV nar Hs Ks 0 32 l) else if bits = 384 then some (summedV wid Hs Ks 8 48 l) else if bits = 512 then some (summedV wid Hs Ks 0 64 l) else none

end Go.Proofs.YtplabofdcnpcpaaDoor
