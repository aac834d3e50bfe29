/-
  Plain functions of headers: what the walks of package headers speak of. Nothing of the program stands here.
-/
import Derived.Test.YtplabofdcnpcpaaPf
import Derived.Test.YtplabofdcnpcpaaPg
import Derived.Test.YtplabofdcnpcpaaPh
import Derived.Lib.SlTrimSet
import Derived.Lib.Join
import Derived.Lib.IndexMore
set_option linter.unusedSimpArgs false
set_option linter.unusedVariables false
namespace Go.Proofs.Ytplabofdcnpcpaa

/-- A header. -/
structure Hd where
  name : List UInt8
  value : List UInt8
deriving DecidableEq

def isN (n : List UInt8) (h : Hd) : Bool := low h.name == low n
/-- The values of all headers of that name. -/
def selV (L : List Hd) (n : List UInt8) : List (List UInt8) := (L.filter (isN n)).map (·.value)
def getT (L : List Hd) (n : List UInt8) : List UInt8 := Lib.join (selV L n) [44, 32]
def getB (L : List Hd) (n : List UInt8) : Bool := !(selV L n).isEmpty

theorem selV_snoc (L : List Hd) (h : Hd) (n : List UInt8) : selV (L ++ [h]) n = selV L n ++ (if isN n h then [h.value] else []) := by
  unfold selV
  rw [List.filter_append, List.map_append]
  by_cases hh : isN n h = true <;> simp [hh]

/-- How many bytes stand ahead of the quotes that close. -/
def clos : List UInt8 → Nat
  | [] => 0
  | [c] => if c = 34 then 0 else if c = 92 then 2 else 1
  | c :: d :: r => if c = 34 then 0 else if c = 92 then 2 + clos r else 1 + clos (d :: r)

/-- Where the first comma stands that is not in quotes. -/
def cutQ : Bool → List UInt8 → Option Nat
  | _, [] => none
  | false, c :: r => if c = 44 then some 0 else if c = 34 then (cutQ true r).map (· + 1) else (cutQ false r).map (· + 1)
  | true, [_] => none
  | true, c :: d :: r => if c = 34 then (cutQ false (d :: r)).map (· + 1) else if c = 92 then (cutQ true r).map (· + 2) else (cutQ true (d :: r)).map (· + 1)

theorem clos_quote (r : List UInt8) : clos (34 :: r) = 0 := by cases r <;> simp [clos]
theorem clos_back (r : List UInt8) : clos (92 :: r) = 2 + clos (r.drop 1) := by cases r <;> simp [clos]
theorem clos_other (c : UInt8) (r : List UInt8) (h1 : c ≠ 34) (h2 : c ≠ 92) : clos (c :: r) = 1 + clos r := by cases r <;> simp [clos, h1, h2]

theorem cutQ_comma (r : List UInt8) : cutQ false (44 :: r) = some 0 := by simp [cutQ]
theorem cutQ_open (r : List UInt8) : cutQ false (34 :: r) = (cutQ true r).map (· + 1) := by simp [cutQ]
theorem cutQ_other (c : UInt8) (r : List UInt8) (h1 : c ≠ 44) (h2 : c ≠ 34) : cutQ false (c :: r) = (cutQ false r).map (· + 1) := by simp [cutQ, h1, h2]
theorem cutQ_close (r : List UInt8) : cutQ true (34 :: r) = (cutQ false r).map (· + 1) := by cases r <;> simp [cutQ]
theorem cutQ_back (r : List UInt8) : cutQ true (92 :: r) = (cutQ true (r.drop 1)).map (· + 2) := by cases r <;> simp [cutQ]
theorem cutQ_in (c : UInt8) (r : List UInt8) (h1 : c ≠ 34) (h2 : c ≠ 92) : cutQ true (c :: r) = (cutQ true r).map (· + 1) := by cases r <;> simp [cutQ, h1, h2]

theorem map_map_add (o : Option Nat) (a b : Nat) : (o.map (· + a)).map (· + b) = o.map (· + (a + b)) := by
  cases o <;> simp [Nat.add_assoc]

theorem cutQ_true : ∀ (n : Nat) (r : List UInt8), r.length ≤ n → cutQ true r = (cutQ false (r.drop (clos r + 1))).map (· + (clos r + 1)) := by
  intro n
  induction n with
  | zero =>
    intro r hr
    have : r = [] := List.eq_nil_of_length_eq_zero (by omega)
    subst this; rfl
  | succ n ih =>
    intro r hr
    cases r with
    | nil => rfl
    | cons c r =>
      simp at hr
      by_cases h1 : c = 34
      · subst h1; rw [cutQ_close, clos_quote]; rfl
      · by_cases h2 : c = 92
        · subst h2
          rw [cutQ_back, clos_back, ih (r.drop 1) (by simp; omega), map_map_add, List.drop_drop]
          rw [show 2 + clos (r.drop 1) + 1 = (1 + (clos (r.drop 1) + 1)) + 1 by omega, List.drop_succ_cons]
          congr 2
          funext x; omega
        · rw [cutQ_in c r h1 h2, clos_other c r h1 h2, ih r (by omega), map_map_add]
          rw [show 1 + clos r + 1 = (clos r + 1) + 1 by omega, List.drop_succ_cons]

theorem cutQ_false_open (r : List UInt8) : cutQ false (34 :: r) = (cutQ false (r.drop (clos r + 1))).map (· + (clos r + 2)) := by
  rw [cutQ_open, cutQ_true r.length r (Nat.le_refl _), map_map_add]

theorem cutQ_lt : ∀ (n : Nat) (q : Bool) (l : List UInt8) (k : Nat), l.length ≤ n → cutQ q l = some k → k < l.length := by
  intro n
  induction n with
  | zero =>
    intro q l k hl h
    have : l = [] := List.eq_nil_of_length_eq_zero (by omega)
    subst this; cases q <;> simp [cutQ] at h
  | succ n ih =>
    intro q l k hl h
    cases l with
    | nil => cases q <;> simp [cutQ] at h
    | cons c r =>
      simp at hl
      have step : ∀ (q : Bool) (r' : List UInt8) (a : Nat), r'.length + a ≤ r.length + 1 → 1 ≤ a → (cutQ q r').map (· + a) = some k → k < (c :: r).length := by
        intro q r' a ha ha1 hk
        obtain ⟨j, hj, rfl⟩ := Option.map_eq_some_iff.1 hk
        have := ih q r' j (by omega) hj
        simp; omega
      cases q with
      | false =>
        by_cases h1 : c = 44
        · subst h1; rw [cutQ_comma] at h; simp at h; subst h; simp
        · by_cases h2 : c = 34
          · subst h2; rw [cutQ_open] at h; exact step true r 1 (by omega) (by omega) h
          · rw [cutQ_other c r h1 h2] at h; exact step false r 1 (by omega) (by omega) h
      | true =>
        by_cases h1 : c = 34
        · subst h1; rw [cutQ_close] at h; exact step false r 1 (by omega) (by omega) h
        · by_cases h2 : c = 92
          · subst h2; rw [cutQ_back] at h
            cases r with
            | nil => simp [cutQ] at h
            | cons d r => exact step true r 2 (by simp) (by omega) h
          · rw [cutQ_in c r h1 h2] at h; exact step true r 1 (by omega) (by omega) h

/-- The pcs of a text. -/
def pcsN : Nat → List UInt8 → List (List UInt8)
  | 0, l => [l]
  | f + 1, l => match cutQ false l with
    | none => [l]
    | some k => l.take k :: pcsN f (l.drop (k + 1))
def pcs (l : List UInt8) : List (List UInt8) := pcsN l.length l

theorem pcsN_succ : ∀ (g : Nat) (m : List UInt8), m.length ≤ g → pcsN (g + 1) m = pcsN g m := by
  intro g
  induction g with
  | zero =>
    intro m hm
    have : m = [] := List.eq_nil_of_length_eq_zero (by omega)
    subst this; simp [pcsN, cutQ]
  | succ g ihg =>
    intro m hm
    rw [pcsN, pcsN]
    cases hc : cutQ false m with
    | none => rfl
    | some k =>
      have := cutQ_lt m.length false m k (Nat.le_refl _) hc
      simp only
      rw [ihg _ (by simp; omega)]

theorem pcsN_more (f : Nat) (l : List UInt8) (hl : l.length ≤ f) : pcsN f l = pcsN l.length l := by
  obtain ⟨d, rfl⟩ : ∃ d, f = l.length + d := ⟨f - l.length, by omega⟩
  clear hl
  induction d with
  | zero => rfl
  | succ d ih => rw [← Nat.add_assoc, pcsN_succ _ _ (by omega), ih]

theorem pcs_none (l : List UInt8) (h : cutQ false l = none) : pcs l = [l] := by
  unfold pcs
  cases hn : l.length with
  | zero => simp [pcsN]
  | succ n => simp [pcsN, h]

theorem pcs_some (l : List UInt8) (k : Nat) (h : cutQ false l = some k) : pcs l = l.take k :: pcs (l.drop (k + 1)) := by
  have hk := cutQ_lt l.length false l k (Nat.le_refl _) h
  unfold pcs
  cases hn : l.length with
  | zero => omega
  | succ n =>
    simp only [pcsN, h]
    rw [pcsN_more n _ (by simp; omega)]

def trimB (l : List UInt8) : List UInt8 := Lib.trimS l [9, 32]
def splitV (L : List Hd) (n : List UInt8) : List (List UInt8) := (pcs (getT L n)).map trimB

/-- A range of bytes. -/
def rUnit (l : List UInt8) : Bool := Lib.hasPrefix l [98, 121, 116, 101, 115, 61]
def rRest (l : List UInt8) : List UInt8 := if rUnit l then l.drop 6 else l
def bndV (l : List UInt8) : Int := if l = [] then -1 else intV l
def bndOk (l : List UInt8) : Bool := l == [] || intOk l
def spansI (a b : Int) : Bool := if b < 0 then decide (0 ≤ a) else decide (a ≤ b)
def rL (l : List UInt8) : List UInt8 := (Lib.cut (rRest l) [45]).1
def rR (l : List UInt8) : List UInt8 := (Lib.cut (rRest l) [45]).2.1
def rOk (l : List UInt8) : Bool := rUnit l && (Lib.cut (rRest l) [45]).2.2 && bndOk (rL l) && bndOk (rR l) && spansI (bndV (rL l)) (bndV (rR l))
def rFrom (l : List UInt8) : Int := if rOk l then bndV (rL l) else 0
def rTo (l : List UInt8) : Int := if rOk l then bndV (rR l) else 0

end Go.Proofs.Ytplabofdcnpcpaa
