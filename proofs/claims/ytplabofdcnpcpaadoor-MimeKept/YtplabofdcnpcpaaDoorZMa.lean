/-
  Plain functions of kinds of content: what the walks of package mime speak of. Nothing of the program stands here.
-/
import Derived.Test.YtplabofdcnpcpaaDoorZGa
import Derived.Test.YtplabofdcnpcpaaDoorZXc
import Derived.Test.YtplabofdcnpcpaaDoorZWh
import Derived.Lib.IndexAny
set_option linter.unusedSimpArgs false
set_option linter.unusedVariables false
namespace Go.Proofs.YtplabofdcnpcpaaDoor
open Go.RowKit

/-- What stands ahead of the first of these bytes, and the rest. -/
def upA (S l : List UInt8) : List UInt8 := l.takeWhile fun x => !(S.contains x)
def upR (S l : List UInt8) : List UInt8 := l.dropWhile fun x => !(S.contains x)

theorem up_app (S l : List UInt8) : upA S l ++ upR S l = l := List.takeWhile_append_dropWhile
theorem upA_le (S l : List UInt8) : (upA S l).length ≤ l.length := (List.takeWhile_prefix _).length_le
theorem upR_le (S l : List UInt8) : (upR S l).length ≤ l.length := (List.dropWhile_suffix _).length_le

theorem upR_head (S l : List UInt8) (c : UInt8) (h : (upR S l).head? = some c) : S.contains c = true := by
  induction l with
  | nil => simp [upR] at h
  | cons x l ih =>
    unfold upR at h ih
    rw [List.dropWhile_cons] at h
    split at h
    · exact ih h
    · rename_i hx
      simp only [List.head?_cons, Option.some.injEq] at h
      subst h
      simpa using hx

theorem up_index (S l : List UInt8) : (Lib.indexAny l S = -1 ∧ upA S l = l ∧ upR S l = []) ∨ ∃ i : Nat, i < l.length ∧ Lib.indexAny l S = (i : Int) ∧ upA S l = l.take i ∧ upR S l = l.drop i := by
  have key : ∀ k, (∀ (j : Nat) b, j < k → l[j]? = some b → S.contains b = false) → (k = l.length ∨ ∃ b, l[k]? = some b ∧ S.contains b = true) → k ≤ l.length → upA S l = l.take k ∧ upR S l = l.drop k := by
    induction l with
    | nil => intro k _ _ hk; simp at hk; subst hk; exact ⟨rfl, rfl⟩
    | cons x l ih =>
      intro k h1 h2 hk
      cases k with
      | zero =>
        rcases h2 with h2 | ⟨b, hb, hc⟩
        · simp at h2
        · simp at hb; subst hb
          have hm : (!S.contains x) = false := by rw [hc]; rfl
          unfold upA upR
          rw [List.takeWhile_cons, List.dropWhile_cons, hm]
          exact ⟨rfl, rfl⟩
      | succ k =>
        have h0 := h1 0 x (by omega) rfl
        have := ih k (fun j b hj hb => h1 (j + 1) b (by omega) (by simpa using hb)) (by
          rcases h2 with h2 | ⟨b, hb, hc⟩
          · left; simpa using h2
          · right; exact ⟨b, by simpa using hb, hc⟩) (by simpa using hk)
        unfold upA upR at this ⊢
        have hm : (!S.contains x) = true := by rw [h0]; rfl
        rw [List.takeWhile_cons, List.dropWhile_cons, hm]
        simp only [if_true, List.take_succ_cons, List.drop_succ_cons]
        exact ⟨by rw [this.1], this.2⟩
  by_cases h : ∃ i, i < l.length ∧ (∃ b, l[i]? = some b ∧ S.contains b = true)
  · obtain ⟨i, hi, hmin⟩ : ∃ i, (i < l.length ∧ (∃ b, l[i]? = some b ∧ S.contains b = true)) ∧ ∀ j, j < i → ¬ (j < l.length ∧ (∃ b, l[j]? = some b ∧ S.contains b = true)) := by
      obtain ⟨n, hn⟩ := h
      induction n using Nat.strongRecOn with
      | _ n ih =>
        by_cases h2 : ∃ j, j < n ∧ (j < l.length ∧ (∃ b, l[j]? = some b ∧ S.contains b = true))
        · obtain ⟨j, hj, hp⟩ := h2; exact ih j hj hp
        · exact ⟨n, hn, fun j hj hp => h2 ⟨j, hj, hp⟩⟩
    obtain ⟨hil, b, hb, hc⟩ := hi
    have hno : Lib.NoAny l S i := fun j x hj hx => by
      cases hS : S.contains x with
      | false => rfl
      | true => exact absurd ⟨by omega, x, hx, hS⟩ (hmin j hj)
    right
    refine ⟨i, hil, Lib.indexAny_hit hno hb hc, ?_⟩
    exact key i (fun j x hj hx => hno j x hj hx) (.inr ⟨b, hb, hc⟩) (by omega)
  · left
    have hno : Lib.NoAny l S l.length := fun j x hj hx => by
      cases hS : S.contains x with
      | false => rfl
      | true => exact absurd ⟨j, hj, x, hx, hS⟩ h
    have := key l.length (fun j x hj hx => hno j x hj hx) (.inl rfl) (Nat.le_refl _)
    refine ⟨Lib.indexAny_none hno, ?_, ?_⟩
    · rw [this.1, List.take_length]
    · rw [this.2, List.drop_length]

def bl4 : List UInt8 := [9, 10, 13, 32]
def tL (l : List UInt8) : List UInt8 := Lib.trimLeftS l bl4
def tR (l : List UInt8) : List UInt8 := Lib.trimRightS l bl4
def tB (l : List UInt8) : List UInt8 := Lib.trimS l bl4

theorem tL_le (l : List UInt8) : (tL l).length ≤ l.length := (List.dropWhile_suffix _).length_le
theorem tR_le (l : List UInt8) : (tR l).length ≤ l.length := by
  unfold tR Lib.trimRightS
  rw [List.length_reverse]
  exact Nat.le_trans (List.dropWhile_suffix _).length_le (by simp)
theorem tB_le (l : List UInt8) : (tB l).length ≤ l.length := by
  refine Nat.le_trans ?_ (tR_le l)
  exact tL_le (tR l)

/-- What stands behind a quote, and what is left behind the closing one. -/
def quo : List UInt8 → List UInt8 × List UInt8
  | [] => ([], [])
  | [c] => if c = 34 then ([], []) else ([c], [])
  | c :: d :: r => if c = 34 then ([], d :: r) else if c = 92 then (d :: (quo r).1, (quo r).2) else (c :: (quo (d :: r)).1, (quo (d :: r)).2)

theorem quo_len : ∀ (n : Nat) (l : List UInt8), l.length ≤ n → (quo l).1.length + (quo l).2.length ≤ l.length := by
  intro n
  induction n with
  | zero => intro l h; obtain rfl := List.eq_nil_of_length_eq_zero (show l.length = 0 by omega); simp [quo]
  | succ n ih =>
    intro l h
    match l, h with
    | [], _ => simp [quo]
    | [c], _ => unfold quo; split <;> simp
    | c :: d :: r, h =>
      unfold quo
      simp at h
      split
      · simp
      · split
        · have := ih r (by omega); simp; omega
        · have := ih (d :: r) (by simp; omega); simp at this ⊢; omega

def isQ (l : List UInt8) : Bool := l.head? == some 34
def mvalV (l : List UInt8) : List UInt8 := if isQ l then (quo (l.drop 1)).1 else tR (upA [59] l)
def valB6 (l : List UInt8) : Bool := isQ l || !(tR (upA [59] l)).isEmpty
def valR (l : List UInt8) : List UInt8 := if isQ l then upR [59] (quo (l.drop 1)).2 else upR [59] l

theorem valV_le (l : List UInt8) : (mvalV l).length ≤ l.length := by
  unfold mvalV
  split
  · have := quo_len _ (l.drop 1) (Nat.le_refl _); rw [List.length_drop] at this; omega
  · exact Nat.le_trans (tR_le _) (upA_le _ _)
theorem valR_le (l : List UInt8) : (valR l).length ≤ l.length := by
  unfold valR
  split
  · have := quo_len _ (l.drop 1) (Nat.le_refl _); have h2 := upR_le [59] (quo (l.drop 1)).2; rw [List.length_drop] at this; omega
  · exact upR_le _ _

def fitC (c : UInt8) : Bool := decide (c.toNat = 9) || (decide (32 ≤ c.toNat) && !decide (c.toNat = 127))
def fitV (l : List UInt8) : Bool := l.all fitC

def namP (l : List UInt8) : List UInt8 := upA [59, 61] (tL l)
def rstP (l : List UInt8) : List UInt8 := upR [59, 61] (tL l)
def isE (l : List UInt8) : Bool := l.head? == some 61
/-- One piece: the parameter, does it count, what is left. -/
def parN (l : List UInt8) : List UInt8 := if isE (rstP l) then low (namP l) else []
def parV (l : List UInt8) : List UInt8 := if isE (rstP l) then mvalV ((rstP l).drop 1) else []
def parB (l : List UInt8) : Bool := isE (rstP l) && valB6 ((rstP l).drop 1) && tokL (namP l) && fitV (mvalV ((rstP l).drop 1))
def parR (l : List UInt8) : List UInt8 := if isE (rstP l) then valR ((rstP l).drop 1) else rstP l

theorem parR_le (l : List UInt8) : (parR l).length ≤ l.length := by
  have h1 := upR_le [59, 61] (tL l)
  have h2 := tL_le l
  unfold parR rstP
  split
  · have := valR_le ((upR [59, 61] (tL l)).drop 1); rw [List.length_drop] at this; omega
  · omega

theorem parN_le (l : List UInt8) : (parN l).length ≤ l.length := by
  have h1 := upA_le [59, 61] (tL l)
  have h2 := tL_le l
  unfold parN namP low
  split
  · rw [List.length_map]; omega
  · simp

theorem parV_le (l : List UInt8) : (parV l).length ≤ l.length := by
  have h1 := upR_le [59, 61] (tL l)
  have h2 := tL_le l
  unfold parV rstP
  split
  · have := valV_le ((upR [59, 61] (tL l)).drop 1); rw [List.length_drop] at this; omega
  · simp

def has6 (out : List Hd) (n : List UInt8) : Bool := out.any fun p => p.name == n
def mstepP (out : List Hd) (l : List UInt8) : List Hd := if parB l && !has6 out (parN l) then out ++ [⟨parN l, parV l⟩] else out
def isS (l : List UInt8) : Bool := l.head? == some 59

/-- The pieces, each behind a semicolon. -/
def prmN : Nat → List Hd → List UInt8 → List Hd
  | 0, out, _ => out
  | f + 1, out, l => if isS l then prmN f (mstepP out (l.drop 1)) (parR (l.drop 1)) else out
def prm (out : List Hd) (l : List UInt8) : List Hd := prmN l.length out l

theorem isS_len {l : List UInt8} (h : isS l = true) : 1 ≤ l.length := by cases l with
  | nil => simp [isS] at h
  | cons => simp

theorem prmN_more : ∀ (f : Nat) (out : List Hd) (l : List UInt8), l.length ≤ f → prmN f out l = prm out l := by
  have step : ∀ (g : Nat) (out : List Hd) (l : List UInt8), l.length ≤ g → prmN (g + 1) out l = prmN g out l := by
    intro g
    induction g with
    | zero =>
      intro out l h
      obtain rfl := List.eq_nil_of_length_eq_zero (show l.length = 0 by omega)
      rfl
    | succ g ih =>
      intro out l h
      rw [prmN]
      conv => rhs; rw [prmN]
      have := parR_le (l.drop 1)
      rw [List.length_drop] at this
      rw [ih _ _ (by omega)]
  intro f out l h
  obtain ⟨d, rfl⟩ : ∃ d, f = l.length + d := ⟨f - l.length, by omega⟩
  clear h
  unfold prm
  induction d with
  | zero => rfl
  | succ d ih => rw [← Nat.add_assoc, step _ _ _ (by omega), ih]

theorem prm_step (out : List Hd) (l : List UInt8) (h : isS l = true) : prm out l = prm (mstepP out (l.drop 1)) (parR (l.drop 1)) := by
  have h1 := isS_len h
  have h2 := parR_le (l.drop 1)
  rw [List.length_drop] at h2
  obtain ⟨n, hn⟩ : ∃ n, l.length = n + 1 := ⟨l.length - 1, by omega⟩
  rw [prm, hn, prmN, if_pos h, prmN_more n _ _ (by omega)]

theorem prm_end (out : List Hd) (l : List UInt8) (h : isS l = false) : prm out l = out := by
  unfold prm
  cases hn : l.length with
  | zero => rfl
  | succ n => rw [prmN, h]; rfl

/-- A kind. -/
structure Kn where
  major : List UInt8
  minor : List UInt8
  params : List Hd
deriving DecidableEq

def mjr (s : List UInt8) : List UInt8 := (Lib.cut (tB s) [47]).1
def bhn (s : List UInt8) : List UInt8 := (Lib.cut (tB s) [47]).2.1
def mnr (s : List UInt8) : List UInt8 := tR (upA [59] (bhn s))
def knOk (s : List UInt8) : Bool := tokL (mjr s) && tokL (mnr s)
def knNone : Kn := ⟨[], [], []⟩
def knV (s : List UInt8) : Kn := if knOk s then ⟨low (mjr s), low (mnr s), prm [] (upR [59] (bhn s))⟩ else knNone

/-- How a value is written. -/
def escC (c : UInt8) : List UInt8 := if c = 34 ∨ c = 92 then [92, c] else [c]
def wrtV (v : List UInt8) : List UInt8 := if tokL v then v else 34 :: (v.flatMap escC ++ [34])
def prmT (p : Hd) : List UInt8 := 59 :: (p.name ++ 61 :: wrtV p.value)
def essV (t : Kn) : List UInt8 := t.major ++ 47 :: t.minor
def txtV (t : Kn) : List UInt8 := essV t ++ t.params.flatMap prmT

/-- The charset of a kind. -/
def csV (t : Kn) : Option Hd := t.params.find? fun p => p.name == [99, 104, 97, 114, 115, 101, 116]
def withC (t a : Kn) : Kn := match csV t with
  | some _ => t
  | none => if essV t = essV a then (match csV a with | some p => { t with params := t.params ++ [p] } | none => t) else t
/-- One more piece. -/
def extS (st : Kn × Bool) (s : List UInt8) : Kn × Bool := if knOk s && !(essV (knV s) == [42, 47, 42]) then (withC (knV s) st.1, true) else st
def extMv (ps : List (List UInt8)) : Kn × Bool := ps.foldl extS (knNone, false)

end Go.Proofs.YtplabofdcnpcpaaDoor
