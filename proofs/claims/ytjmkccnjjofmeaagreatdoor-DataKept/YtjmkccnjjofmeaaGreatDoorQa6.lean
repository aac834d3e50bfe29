/-
  Walks and plain facts that this claim leans on, put together out of 9 texts: Ma, Md, Xe, Xg, Xi, Mc, Pr, Ps, Me.
-/
import Derived.Test.YtjmkccnjjofmeaaGreatDoorProg
import Derived.Test.YtjmkccnjjofmeaaGreatDoorQa1
import Derived.Test.YtjmkccnjjofmeaaGreatDoorQa3
import Derived.Test.YtjmkccnjjofmeaaGreatDoorQa4
import Derived.Test.YtjmkccnjjofmeaaGreatDoorQa5
import Derived.WalkKit
import Derived.WalkSpells
import Derived.WalkLawsBesides
import Derived.Laws.OwnMore
import Derived.Below
import Derived.WalkSmall
import Derived.Lib.SmallJoins
import Derived.Lib.Strings
import Derived.Lib.UnsafeStr
import Derived.Laws.IdiomStrings
import Derived.Laws.AppendOwn
import Derived.Lib.SlTrimSet
import Derived.Lib.Join
import Derived.Lib.IndexMore
import Derived.Lib.BufferMore
import Derived.Lib.IndexAny
import Derived.Laws.BitsAllLaws
import Derived.Lib.Bytealg
import Derived.Deep.QuietTactic
import Derived.BigQuiet
import Derived.Deep.LoopGhost
import Derived.Deep.MidRow
import Derived.Lib.BufferRead
import Derived.Lib.RuneBytes
import Derived.Laws.RangeAny
set_option linter.unusedSimpArgs false
set_option linter.unusedVariables false

namespace Go.Proofs.YtjmkccnjjofmeaaGreatDoor
open Go.RowKit

/-- What stands ahead of the first of these bytes, and the rest. -/
def upA (S l : List UInt8) : List UInt8 := l.takeWhile fun x => !(S.contains x)

def upR (S l : List UInt8) : List UInt8 := l.dropWhile fun x => !(S.contains x)

theorem up_app (S l : List UInt8) : upA S l ++ upR S l = l := List.takeWhile_append_dropWhile

theorem upA_le (S l : List UInt8) : (upA S l).length ≤ l.length := (List.takeWhile_prefix _).length_le

theorem upR_le (S l : List UInt8) : (upR S l).length ≤ l.length := (List.dropWhile_suffix _).length_le

theorem upR_head (S l : List UInt8) (c : UInt8) (h : (upR S l).head? = some c) : S.contains c = true := by
  induction l with
  | nil => simp [upR] at h
  | cons x l ih =>
    unfold upR at h ih
    rw [List.dropWhile_cons] at h
    split at h
    · exact ih h
    · rename_i hx
      simp only [List.head?_cons, Option.some.injEq] at h
      subst h
      simpa using hx

theorem up_index (S l : List UInt8) : (Lib.indexAny l S = -1 ∧ upA S l = l ∧ upR S l = []) ∨ ∃ i : Nat, i < l.length ∧ Lib.indexAny l S = (i : Int) ∧ upA S l = l.take i ∧ upR S l = l.drop i := by
  have key : ∀ k, (∀ (j : Nat) b, j < k → l[j]? = some b → S.contains b = false) → (k = l.length ∨ ∃ b, l[k]? = some b ∧ S.contains b = true) → k ≤ l.length → upA S l = l.take k ∧ upR S l = l.drop k := by
    induction l with
    | nil => intro k _ _ hk; simp at hk; subst hk; exact ⟨rfl, rfl⟩
    | cons x l ih =>
      intro k h1 h2 hk
      cases k with
      | zero =>
        rcases h2 with h2 | ⟨b, hb, hc⟩
        · simp at h2
        · simp at hb; subst hb
          have hm : (!S.contains x) = false := by rw [hc]; rfl
          unfold upA upR
          rw [List.takeWhile_cons, List.dropWhile_cons, hm]
          exact ⟨rfl, rfl⟩
      | succ k =>
        have h0 := h1 0 x (by omega) rfl
        have := ih k (fun j b hj hb => h1 (j + 1) b (by omega) (by simpa using hb)) (by
          rcases h2 with h2 | ⟨b, hb, hc⟩
          · left; simpa using h2
          · right; exact ⟨b, by simpa using hb, hc⟩) (by simpa using hk)
        unfold upA upR at this ⊢
        have hm : (!S.contains x) = true := by rw [h0]; rfl
        rw [List.takeWhile_cons, List.dropWhile_cons, hm]
        simp only [if_true, List.take_succ_cons, List.drop_succ_cons]
        exact ⟨by rw [this.1], this.2⟩
  by_cases h : ∃ i, i < l.length ∧ (∃ b, l[i]? = some b ∧ S.contains b = true)
  · obtain ⟨i, hi, hmin⟩ : ∃ i, (i < l.length ∧ (∃ b, l[i]? = some b ∧ S.contains b = true)) ∧ ∀ j, j < i → ¬ (j < l.length ∧ (∃ b, l[j]? = some b ∧ S.contains b = true)) := by
      obtain ⟨n, hn⟩ := h
      induction n using Nat.strongRecOn with
      | _ n ih =>
        by_cases h2 : ∃ j, j < n ∧ (j < l.length ∧ (∃ b, l[j]? = some b ∧ S.contains b = true))
        · obtain ⟨j, hj, hp⟩ := h2; exact ih j hj hp
        · exact ⟨n, hn, fun j hj hp => h2 ⟨j, hj, hp⟩⟩
    obtain ⟨hil, b, hb, hc⟩ := hi
    have hno : Lib.NoAny l S i := fun j x hj hx => by
      cases hS : S.contains x with
      | false => rfl
      | true => exact absurd ⟨by omega, x, hx, hS⟩ (hmin j hj)
    right
    refine ⟨i, hil, Lib.indexAny_hit hno hb hc, ?_⟩
    exact key i (fun j x hj hx => hno j x hj hx) (.inr ⟨b, hb, hc⟩) (by omega)
  · left
    have hno : Lib.NoAny l S l.length := fun j x hj hx => by
      cases hS : S.contains x with
      | false => rfl
      | true => exact absurd ⟨j, hj, x, hx, hS⟩ h
    have := key l.length (fun j x hj hx => hno j x hj hx) (.inl rfl) (Nat.le_refl _)
    refine ⟨Lib.indexAny_none hno, ?_, ?_⟩
    · rw [this.1, List.take_length]
    · rw [this.2, List.drop_length]

def bl4 : List UInt8 := [9, 10, 13, 32]

def tL (l : List UInt8) : List UInt8 := Lib.trimLeftS l bl4

def tR (l : List UInt8) : List UInt8 := Lib.trimRightS l bl4

def tB (l : List UInt8) : List UInt8 := Lib.trimS l bl4

theorem tL_le (l : List UInt8) : (tL l).length ≤ l.length := (List.dropWhile_suffix _).length_le

theorem tR_le (l : List UInt8) : (tR l).length ≤ l.length := by
  unfold tR Lib.trimRightS
  rw [List.length_reverse]
  exact Nat.le_trans (List.dropWhile_suffix _).length_le (by simp)

theorem tB_le (l : List UInt8) : (tB l).length ≤ l.length := by
  refine Nat.le_trans ?_ (tR_le l)
  exact tL_le (tR l)

/-- What stands behind a quote, and what is left behind the closing one. -/
def quo : List UInt8 → List UInt8 × List UInt8
  | [] => ([], [])
  | [c] => if c = 34 then ([], []) else ([c], [])
  | c :: d :: r => if c = 34 then ([], d :: r) else if c = 92 then (d :: (quo r).1, (quo r).2) else (c :: (quo (d :: r)).1, (quo (d :: r)).2)

theorem quo_len : ∀ (n : Nat) (l : List UInt8), l.length ≤ n → (quo l).1.length + (quo l).2.length ≤ l.length := by
  intro n
  induction n with
  | zero => intro l h; obtain rfl := List.eq_nil_of_length_eq_zero (show l.length = 0 by omega); simp [quo]
  | succ n ih =>
    intro l h
    match l, h with
    | [], _ => simp [quo]
    | [c], _ => unfold quo; split <;> simp
    | c :: d :: r, h =>
      unfold quo
      simp at h
      split
      · simp
      · split
        · have := ih r (by omega); simp; omega
        · have := ih (d :: r) (by simp; omega); simp at this ⊢; omega

def isQ (l : List UInt8) : Bool := l.head? == some 34

def mvalV (l : List UInt8) : List UInt8 := if isQ l then (quo (l.drop 1)).1 else tR (upA [59] l)

def valB6 (l : List UInt8) : Bool := isQ l || !(tR (upA [59] l)).isEmpty

def valR (l : List UInt8) : List UInt8 := if isQ l then upR [59] (quo (l.drop 1)).2 else upR [59] l

theorem valV_le (l : List UInt8) : (mvalV l).length ≤ l.length := by
  unfold mvalV
  split
  · have := quo_len _ (l.drop 1) (Nat.le_refl _); rw [List.length_drop] at this; omega
  · exact Nat.le_trans (tR_le _) (upA_le _ _)

theorem valR_le (l : List UInt8) : (valR l).length ≤ l.length := by
  unfold valR
  split
  · have := quo_len _ (l.drop 1) (Nat.le_refl _); have h2 := upR_le [59] (quo (l.drop 1)).2; rw [List.length_drop] at this; omega
  · exact upR_le _ _

def fitC (c : UInt8) : Bool := decide (c.toNat = 9) || (decide (32 ≤ c.toNat) && !decide (c.toNat = 127))

def fitV (l : List UInt8) : Bool := l.all fitC

def namP (l : List UInt8) : List UInt8 := upA [59, 61] (tL l)

def rstP (l : List UInt8) : List UInt8 := upR [59, 61] (tL l)

def isE (l : List UInt8) : Bool := l.head? == some 61

/-- One piece: the parameter, does it count, what is left. -/
def parN (l : List UInt8) : List UInt8 := if isE (rstP l) then low (namP l) else []

def parV (l : List UInt8) : List UInt8 := if isE (rstP l) then mvalV ((rstP l).drop 1) else []

def parB (l : List UInt8) : Bool := isE (rstP l) && valB6 ((rstP l).drop 1) && tokL (namP l) && fitV (mvalV ((rstP l).drop 1))

def parR (l : List UInt8) : List UInt8 := if isE (rstP l) then valR ((rstP l).drop 1) else rstP l

theorem parR_le (l : List UInt8) : (parR l).length ≤ l.length := by
  have h1 := upR_le [59, 61] (tL l)
  have h2 := tL_le l
  unfold parR rstP
  split
  · have := valR_le ((upR [59, 61] (tL l)).drop 1); rw [List.length_drop] at this; omega
  · omega

theorem parN_le (l : List UInt8) : (parN l).length ≤ l.length := by
  have h1 := upA_le [59, 61] (tL l)
  have h2 := tL_le l
  unfold parN namP low
  split
  · rw [List.length_map]; omega
  · simp

theorem parV_le (l : List UInt8) : (parV l).length ≤ l.length := by
  have h1 := upR_le [59, 61] (tL l)
  have h2 := tL_le l
  unfold parV rstP
  split
  · have := valV_le ((upR [59, 61] (tL l)).drop 1); rw [List.length_drop] at this; omega
  · simp

def has6 (out : List Hd) (n : List UInt8) : Bool := out.any fun p => p.name == n

def mstepP (out : List Hd) (l : List UInt8) : List Hd := if parB l && !has6 out (parN l) then out ++ [⟨parN l, parV l⟩] else out

def isS (l : List UInt8) : Bool := l.head? == some 59

/-- The pieces, each behind a semicolon. -/
def prmN : Nat → List Hd → List UInt8 → List Hd
  | 0, out, _ => out
  | f + 1, out, l => if isS l then prmN f (mstepP out (l.drop 1)) (parR (l.drop 1)) else out

def prm (out : List Hd) (l : List UInt8) : List Hd := prmN l.length out l

theorem isS_len {l : List UInt8} (h : isS l = true) : 1 ≤ l.length := by cases l with
  | nil => simp [isS] at h
  | cons => simp

theorem prmN_more : ∀ (f : Nat) (out : List Hd) (l : List UInt8), l.length ≤ f → prmN f out l = prm out l := by
  have step : ∀ (g : Nat) (out : List Hd) (l : List UInt8), l.length ≤ g → prmN (g + 1) out l = prmN g out l := by
    intro g
    induction g with
    | zero =>
      intro out l h
      obtain rfl := List.eq_nil_of_length_eq_zero (show l.length = 0 by omega)
      rfl
    | succ g ih =>
      intro out l h
      rw [prmN]
      conv => rhs; rw [prmN]
      have := parR_le (l.drop 1)
      rw [List.length_drop] at this
      rw [ih _ _ (by omega)]
  intro f out l h
  obtain ⟨d, rfl⟩ : ∃ d, f = l.length + d := ⟨f - l.length, by omega⟩
  clear h
  unfold prm
  induction d with
  | zero => rfl
  | succ d ih => rw [← Nat.add_assoc, step _ _ _ (by omega), ih]

theorem prm_step (out : List Hd) (l : List UInt8) (h : isS l = true) : prm out l = prm (mstepP out (l.drop 1)) (parR (l.drop 1)) := by
  have h1 := isS_len h
  have h2 := parR_le (l.drop 1)
  rw [List.length_drop] at h2
  obtain ⟨n, hn⟩ : ∃ n, l.length = n + 1 := ⟨l.length - 1, by omega⟩
  rw [prm, hn, prmN, if_pos h, prmN_more n _ _ (by omega)]

theorem prm_end (out : List Hd) (l : List UInt8) (h : isS l = false) : prm out l = out := by
  unfold prm
  cases hn : l.length with
  | zero => rfl
  | succ n => rw [prmN, h]; rfl

/-- A kind. -/
structure Kn where
  major : List UInt8
  minor : List UInt8
  params : List Hd
deriving DecidableEq

def mjr (s : List UInt8) : List UInt8 := (Lib.cut (tB s) [47]).1

def bhn (s : List UInt8) : List UInt8 := (Lib.cut (tB s) [47]).2.1

def mnr (s : List UInt8) : List UInt8 := tR (upA [59] (bhn s))

def knOk (s : List UInt8) : Bool := tokL (mjr s) && tokL (mnr s)

def knNone : Kn := ⟨[], [], []⟩

def knV (s : List UInt8) : Kn := if knOk s then ⟨low (mjr s), low (mnr s), prm [] (upR [59] (bhn s))⟩ else knNone

/-- How a value is written. -/
def escC (c : UInt8) : List UInt8 := if c = 34 ∨ c = 92 then [92, c] else [c]

def wrtV (v : List UInt8) : List UInt8 := if tokL v then v else 34 :: (v.flatMap escC ++ [34])

def prmT (p : Hd) : List UInt8 := 59 :: (p.name ++ 61 :: wrtV p.value)

def essV (t : Kn) : List UInt8 := t.major ++ 47 :: t.minor

def txtV (t : Kn) : List UInt8 := essV t ++ t.params.flatMap prmT

/-- The charset of a kind. -/
def csV (t : Kn) : Option Hd := t.params.find? fun p => p.name == [99, 104, 97, 114, 115, 101, 116]

def withC (t a : Kn) : Kn := match csV t with
  | some _ => t
  | none => if essV t = essV a then (match csV a with | some p => { t with params := t.params ++ [p] } | none => t) else t

/-- One more piece. -/
def extS (st : Kn × Bool) (s : List UInt8) : Kn × Bool := if knOk s && !(essV (knV s) == [42, 47, 42]) then (withC (knV s) st.1, true) else st

def extV (ps : List (List UInt8)) : Kn × Bool := ps.foldl extS (knNone, false)

end Go.Proofs.YtjmkccnjjofmeaaGreatDoor

namespace Go.Proofs.YtjmkccnjjofmeaaGreatDoor
open Go.RowKit

theorem byte_all {p : UInt8 → Bool} (h : (List.range 256).all (fun n => p (UInt8.ofNat n)) = true) (c : UInt8) : p c = true := by
  have := List.all_eq_true.1 h c.toNat (List.mem_range.2 c.toNat_lt)
  simpa using this

set_option maxRecDepth 100000 in
theorem tok_facts (c : UInt8) (h : tokC c = true) : bl4.contains c = false ∧ c ≠ 34 ∧ c ≠ 47 ∧ c ≠ 59 ∧ c ≠ 61 ∧ tokC (lowC c) = true := by
  have h2 := byte_all (p := fun c => !tokC c || (!bl4.contains c && !(c == 34) && !(c == 47) && !(c == 59) && !(c == 61) && tokC (lowC c))) (by decide) c
  simp only [h, Bool.not_true, Bool.false_or, Bool.and_eq_true, Bool.not_eq_true', beq_eq_false_iff_ne] at h2
  obtain ⟨⟨⟨⟨⟨a, b⟩, d⟩, e⟩, f⟩, g⟩ := h2
  exact ⟨a, b, d, e, f, g⟩

set_option maxRecDepth 100000 in
theorem low6C (c : UInt8) : lowC (lowC c) = lowC c := by
  have := byte_all (p := fun c => lowC (lowC c) == lowC c) (by decide) c
  simpa using this

theorem low6 (l : List UInt8) : low (low l) = low l := by
  unfold low; rw [List.map_map]; congr 1; funext c; exact low6C c

theorem tokL_all {l : List UInt8} (h : tokL l = true) : ∀ c ∈ l, tokC c = true := by
  unfold tokL at h
  simp only [Bool.and_eq_true, List.all_eq_true] at h
  exact h.1

theorem tokL_ne {l : List UInt8} (h : tokL l = true) : l ≠ [] := by
  rintro rfl; simp [tokL] at h

theorem tokL_of {l : List UInt8} (h : ∀ c ∈ l, tokC c = true) (hn : l ≠ []) : tokL l = true := by
  unfold tokL
  simp only [Bool.and_eq_true, List.all_eq_true]
  refine ⟨h, ?_⟩
  cases l with
  | nil => exact absurd rfl hn
  | cons => rfl

theorem tokL_low {l : List UInt8} (h : tokL l = true) : tokL (low l) = true := by
  refine tokL_of (fun c hc => ?_) ?_
  · obtain ⟨d, hd, rfl⟩ := List.mem_map.1 hc
    exact (tok_facts d (tokL_all h d hd)).2.2.2.2.2
  · intro e
    have := tokL_ne h
    unfold low at e
    exact this (List.map_eq_nil_iff.1 e)

theorem up_stop (S a r : List UInt8) (ha : ∀ c ∈ a, S.contains c = false) (hr : r = [] ∨ ∃ c r', r = c :: r' ∧ S.contains c = true) : upA S (a ++ r) = a ∧ upR S (a ++ r) = r := by
  induction a with
  | nil =>
    rcases hr with rfl | ⟨c, r', rfl, hc⟩
    · exact ⟨rfl, rfl⟩
    · have hm : (!S.contains c) = false := by rw [hc]; rfl
      rw [List.nil_append]
      unfold upA upR
      rw [List.takeWhile_cons, List.dropWhile_cons, hm]
      exact ⟨rfl, rfl⟩
  | cons x a ih =>
    have h0 : (!S.contains x) = true := by rw [ha x (by simp)]; rfl
    have := ih fun c hc => ha c (by simp [hc])
    rw [List.cons_append]
    unfold upA upR at this ⊢
    rw [List.takeWhile_cons, List.dropWhile_cons, h0]
    simp only [if_true]
    exact ⟨by rw [this.1], this.2⟩

theorem tL_keep {c : UInt8} {l : List UInt8} (h : bl4.contains c = false) : tL (c :: l) = c :: l := by
  unfold tL Lib.trimLeftS
  rw [List.dropWhile_cons, h]; rfl

theorem tR_keep {c : UInt8} {l : List UInt8} (h : bl4.contains c = false) : tR (l ++ [c]) = l ++ [c] := by
  unfold tR Lib.trimRightS
  rw [List.reverse_append, List.reverse_singleton, List.singleton_append, List.dropWhile_cons, h]
  simp

theorem tR_tok {l : List UInt8} (h : ∀ c ∈ l, tokC c = true) : tR l = l := by
  rcases List.eq_nil_or_concat l with rfl | ⟨a, c, rfl⟩
  · rfl
  · rw [List.concat_eq_append] at h ⊢
    exact tR_keep (tok_facts c (h c (by simp))).1

theorem tL_tok {l r : List UInt8} (h : tokL l = true) : tL (l ++ r) = l ++ r := by
  cases l with
  | nil => exact absurd rfl (tokL_ne h)
  | cons c l => exact tL_keep (tok_facts c (tokL_all h c (by simp))).1

theorem esc_quo (v r : List UInt8) : quo (v.flatMap escC ++ 34 :: r) = (v, r) := by
  induction v with
  | nil => cases r <;> simp [quo]
  | cons c v ih =>
    rw [List.flatMap_cons, List.append_assoc]
    by_cases h : c = 34 ∨ c = 92
    · rw [escC, if_pos h]
      show quo (92 :: c :: (v.flatMap escC ++ 34 :: r)) = _
      rw [quo, if_neg (by decide), if_pos rfl, ih]
    · rw [escC, if_neg h]
      show quo (c :: (v.flatMap escC ++ 34 :: r)) = _
      obtain ⟨d, t, ht⟩ : ∃ d t, v.flatMap escC ++ 34 :: r = d :: t := by
        cases v.flatMap escC with
        | nil => exact ⟨_, _, rfl⟩
        | cons a b => exact ⟨_, _, rfl⟩
      rw [ht] at ih ⊢
      rw [quo, if_neg (fun e => h (.inl e)), if_neg (fun e => h (.inr e)), ih]

/-- What may stand behind a parameter. -/
def Semi (r : List UInt8) : Prop := r = [] ∨ ∃ r', r = 59 :: r'

theorem Semi.stop {r : List UInt8} (h : Semi r) : r = [] ∨ ∃ c r', r = c :: r' ∧ [(59 : UInt8)].contains c = true := by
  rcases h with h | ⟨r', h⟩
  · exact .inl h
  · exact .inr ⟨59, r', h, rfl⟩

theorem val_back (v r : List UInt8) (hr : Semi r) : mvalV (wrtV v ++ r) = v ∧ valB6 (wrtV v ++ r) = true ∧ valR (wrtV v ++ r) = r := by
  by_cases ht : tokL v = true
  · have h1 := up_stop [59] v r (fun c hc => by have := (tok_facts c (tokL_all ht c hc)).2.2.2.1; simp [this]) hr.stop
    have hq : isQ (v ++ r) = false := by
      cases v with
      | nil => exact absurd rfl (tokL_ne ht)
      | cons c v =>
        have := (tok_facts c (tokL_all ht c (by simp))).2.1
        simp [isQ, this]
    unfold mvalV valB6 valR wrtV
    rw [if_pos ht, hq, h1.1, h1.2, tR_tok (tokL_all ht)]
    refine ⟨rfl, ?_, rfl⟩
    have := tokL_ne ht
    cases v with
    | nil => exact absurd rfl this
    | cons => rfl
  · have e : wrtV v ++ r = 34 :: (v.flatMap escC ++ 34 :: r) := by
      rw [wrtV, if_neg ht]; simp
    rw [e]
    have hq : isQ (34 :: (v.flatMap escC ++ 34 :: r)) = true := rfl
    unfold mvalV valB6 valR
    rw [hq]
    simp only [if_true, Bool.true_or, List.drop_succ_cons, List.drop_zero, esc_quo]
    refine ⟨trivial, trivial, ?_⟩
    have := up_stop [59] [] r (by simp) hr.stop
    exact this.2

/-- A parameter that may be. -/
def GoodP (p : Hd) : Prop := tokL p.name = true ∧ low p.name = p.name ∧ fitV p.value = true

theorem par_back (p : Hd) (r : List UInt8) (hp : GoodP p) (hr : Semi r) : parN (p.name ++ 61 :: (wrtV p.value ++ r)) = p.name ∧ parV (p.name ++ 61 :: (wrtV p.value ++ r)) = p.value ∧ parB (p.name ++ 61 :: (wrtV p.value ++ r)) = true ∧ parR (p.name ++ 61 :: (wrtV p.value ++ r)) = r := by
  obtain ⟨h1, h2, h3⟩ := hp
  have hu := up_stop [59, 61] p.name (61 :: (wrtV p.value ++ r)) (fun c hc => by have := tok_facts c (tokL_all h1 c hc); simp [this.2.2.2.1, this.2.2.2.2.1]) (.inr ⟨61, _, rfl, rfl⟩)
  have hv := val_back p.value r hr
  have hE : isE (61 :: (wrtV p.value ++ r)) = true := rfl
  unfold parN parV parB parR namP rstP
  rw [tL_tok h1, hu.1, hu.2, hE]
  simp only [if_true, List.drop_succ_cons, List.drop_zero, hv.1, hv.2.1, hv.2.2, h1, h2, h3, Bool.and_self, and_self]

def Names : List Hd → Prop
  | [] => True
  | p :: ps => has6 ps p.name = false ∧ Names ps

theorem has6_app (a b : List Hd) (n : List UInt8) : has6 (a ++ b) n = (has6 a n || has6 b n) := by simp [has6]

/-- No two of one name. -/
def Once (ps : List Hd) : Prop := ps.Pairwise fun p q => p.name ≠ q.name

theorem has6_no {ps : List Hd} {n : List UInt8} : has6 ps n = false ↔ ∀ p ∈ ps, p.name ≠ n := by
  unfold has6
  rw [List.any_eq_false]
  constructor
  · intro h p hp e; exact h p hp (by simp [e])
  · intro h p hp e; exact h p hp (by simpa using e)

theorem semi_prms (ps : List Hd) : Semi (ps.flatMap prmT) := by
  cases ps with
  | nil => exact .inl rfl
  | cons p ps => exact .inr ⟨_, rfl⟩

theorem prm_back (ps : List Hd) : ∀ out, (∀ p ∈ ps, GoodP p) → Once (out ++ ps) → prm out (ps.flatMap prmT) = out ++ ps := by
  induction ps with
  | nil => intro out _ _; rw [List.append_nil]; exact prm_end out [] rfl
  | cons p ps ih =>
    intro out hg ho
    have e : (p :: ps).flatMap prmT = 59 :: (p.name ++ 61 :: (wrtV p.value ++ ps.flatMap prmT)) := by
      rw [List.flatMap_cons]; simp [prmT]
    have hb := par_back p (ps.flatMap prmT) (hg p (by simp)) (semi_prms ps)
    have hno : has6 out p.name = false := by
      rw [has6_no]
      intro q hq
      exact (List.pairwise_append.1 ho).2.2 q hq p (by simp)
    rw [e, prm_step _ _ rfl]
    simp only [List.drop_succ_cons, List.drop_zero]
    unfold mstepP
    rw [hb.1, hb.2.1, hb.2.2.1, hb.2.2.2, hno]
    simp only [Bool.not_false, Bool.and_self, if_true]
    rw [ih (out ++ [p]) (fun q hq => hg q (by simp [hq])) (by rw [List.append_assoc]; exact ho), List.append_assoc]
    rfl

/-- A kind that may be. -/
def GoodK (t : Kn) : Prop := tokL t.major = true ∧ low t.major = t.major ∧ tokL t.minor = true ∧ low t.minor = t.minor ∧ (∀ p ∈ t.params, GoodP p) ∧ Once t.params

theorem wrt_last (v : List UInt8) : ∃ a c, wrtV v = a ++ [c] ∧ bl4.contains c = false := by
  by_cases ht : tokL v = true
  · rw [wrtV, if_pos ht]
    rcases List.eq_nil_or_concat v with rfl | ⟨a, c, rfl⟩
    · exact absurd rfl (tokL_ne ht)
    · rw [List.concat_eq_append] at ht ⊢
      exact ⟨a, c, rfl, (tok_facts c (tokL_all ht c (by simp))).1⟩
  · rw [wrtV, if_neg ht]
    exact ⟨34 :: v.flatMap escC, 34, by simp, by decide⟩

theorem txt_last (t : Kn) (h : GoodK t) : ∃ a c, txtV t = a ++ [c] ∧ bl4.contains c = false := by
  obtain ⟨h1, h2, h3, h4, h5, h6⟩ := h
  unfold txtV
  rcases List.eq_nil_or_concat t.params with hp | ⟨ps, p, hp⟩
  · rw [hp]
    unfold essV
    rcases List.eq_nil_or_concat t.minor with hm | ⟨a, c, hm⟩
    · exact absurd hm (tokL_ne h3)
    · rw [List.concat_eq_append] at hm
      refine ⟨t.major ++ 47 :: a, c, by rw [hm]; simp, (tok_facts c (tokL_all h3 c (by rw [hm]; simp))).1⟩
  · obtain ⟨a, c, hw, hc⟩ := wrt_last p.value
    rw [List.concat_eq_append] at hp
    refine ⟨essV t ++ (ps.flatMap prmT ++ 59 :: (p.name ++ 61 :: a)), c, ?_, hc⟩
    rw [hp, List.flatMap_append]
    simp [prmT, hw]

theorem kn_back (t : Kn) (h : GoodK t) : knOk (txtV t) = true ∧ knV (txtV t) = t := by
  obtain ⟨a, c, hl, hc⟩ := txt_last t h
  obtain ⟨h1, h2, h3, h4, h5, h6⟩ := h
  have e1 : tB (txtV t) = txtV t := by
    have r1 : tR (txtV t) = txtV t := by rw [hl]; exact tR_keep hc
    show tL (tR (txtV t)) = _
    rw [r1]
    unfold txtV essV
    rw [List.append_assoc]
    exact tL_tok h1
  have e2 : txtV t = t.major ++ 47 :: (t.minor ++ t.params.flatMap prmT) := by unfold txtV essV; simp
  have hn : (47 : UInt8) ∉ t.major := fun hm => (tok_facts 47 (tokL_all h1 47 hm)).2.2.1 rfl
  have e3 : Lib.cut (tB (txtV t)) [47] = (t.major, t.minor ++ t.params.flatMap prmT, true) := by
    rw [e1, e2, xcut_some _ _ _ hn]
  have hu := up_stop [59] t.minor (t.params.flatMap prmT) (fun c hc => by have := (tok_facts c (tokL_all h3 c hc)).2.2.2.1; simp [this]) (semi_prms _).stop
  have m1 : mjr (txtV t) = t.major := by rw [mjr, e3]
  have m2 : bhn (txtV t) = t.minor ++ t.params.flatMap prmT := by rw [bhn, e3]
  have m3 : mnr (txtV t) = t.minor := by rw [mnr, m2, hu.1]; exact tR_tok (tokL_all h3)
  have ok : knOk (txtV t) = true := by rw [knOk, m1, m3, h1, h3]; rfl
  refine ⟨ok, ?_⟩
  rw [knV, if_pos ok, m1, m3, m2, hu.2, h2, h4, prm_back t.params [] h5 (by simpa using h6)]
  rfl

theorem prmN_good : ∀ (f : Nat) (out : List Hd) (l : List UInt8), (∀ p ∈ out, GoodP p) → Once out → (∀ p ∈ prmN f out l, GoodP p) ∧ Once (prmN f out l) := by
  intro f
  induction f with
  | zero => intro out l h1 h2; exact ⟨h1, h2⟩
  | succ f ih =>
    intro out l h1 h2
    rw [prmN]
    split
    · unfold mstepP
      by_cases hs : (parB (l.drop 1) && !has6 out (parN (l.drop 1))) = true
      · rw [if_pos hs]
        simp only [Bool.and_eq_true, Bool.not_eq_true'] at hs
        obtain ⟨hB, hno⟩ := hs
        have hg : GoodP ⟨parN (l.drop 1), parV (l.drop 1)⟩ := by
          unfold parB at hB
          simp only [Bool.and_eq_true] at hB
          obtain ⟨⟨⟨b1, b2⟩, b3⟩, b4⟩ := hB
          refine ⟨?_, ?_, ?_⟩
          · show tokL (parN _) = true
            rw [parN, if_pos b1]; exact tokL_low b3
          · show low (parN _) = parN _
            rw [parN, if_pos b1]; exact low6 _
          · show fitV (parV _) = true
            rw [parV, if_pos b1]; exact b4
        refine ih _ _ ?_ ?_
        · intro p hp
          rcases List.mem_append.1 hp with hp | hp
          · exact h1 p hp
          · obtain rfl := List.mem_singleton.1 hp; exact hg
        · refine List.pairwise_append.2 ⟨h2, List.pairwise_singleton _ _, fun p hp q hq => ?_⟩
          obtain rfl := List.mem_singleton.1 hq
          exact has6_no.1 hno p hp
      · rw [if_neg hs]; exact ih _ _ h1 h2
    · exact ⟨h1, h2⟩

theorem kn_good (s : List UInt8) (h : knOk s = true) : GoodK (knV s) := by
  have hk := h
  unfold knOk at hk
  simp only [Bool.and_eq_true] at hk
  rw [knV, if_pos h]
  have hp := prmN_good (upR [59] (bhn s)).length [] (upR [59] (bhn s)) (by simp) List.Pairwise.nil
  exact ⟨tokL_low hk.1, low6 _, tokL_low hk.2, low6 _, hp.1, hp.2⟩

end Go.Proofs.YtjmkccnjjofmeaaGreatDoor

namespace Go.Proofs.YtjmkccnjjofmeaaGreatDoor
open Go.RowKit

theorem xext {a : ByteArray} {l : List UInt8} (h : a.data.toList = l) : a = ⟨l.toArray⟩ := xba h

end Go.Proofs.YtjmkccnjjofmeaaGreatDoor

namespace Go.Proofs.YtjmkccnjjofmeaaGreatDoor
open Go.RowKit

theorem xempty_no (s : ByteArray) (h : s.data.toList ≠ []) : s.toList.isEmpty = false := by
  rw [Lib.toList_data]
  cases hl : s.data.toList with
  | nil => exact absurd hl h
  | cons a b => rfl

end Go.Proofs.YtjmkccnjjofmeaaGreatDoor

namespace Go.Proofs.YtjmkccnjjofmeaaGreatDoor
open Go.RowKit

/-- A header as a value. -/
def hdVal (n v : ByteArray) : Value := .agg #[.string n, .string v]

theorem info3 {i : Option TypeInfo} {z : Value} {a b : Nat} (h : i.map (fun i => (i.zero, i.size, i.bytes)) = some (some z, a, b)) : ∃ j, i = some j ∧ j.zero = some z ∧ j.size = a ∧ j.bytes = b := by
  cases i with
  | none => cases h
  | some j =>
    simp at h
    exact ⟨j, rfl, h.1, h.2.1, h.2.2⟩

end Go.Proofs.YtjmkccnjjofmeaaGreatDoor

namespace Go.Proofs.YtjmkccnjjofmeaaGreatDoor
open Go.RowKit

/-- The block b is a reader that has R left. -/
def Rdr (w : World) (b : Nat) (R : ByteArray) : Prop := w.heap[b]? = some (.cells #[.string R] 122 (0, 0))

theorem Rdr.lt {w : World} {b : Nat} {R : ByteArray} (h : Rdr w b R) : b < w.heap.size := (Array.getElem?_eq_some_iff.1 h).1

theorem Rdr.cell {w : World} {b : Nat} {R : ByteArray} (h : Rdr w b R) : w.cell? ⟨b, 0, none⟩ = some (.string R) := by rw [Lib.cell_of_heap h]; rfl

theorem Rdr.frozen {w : World} {b : Nat} {R : ByteArray} (h : Rdr w b R) : w.frozen? ⟨b, 0, none⟩ = false := Lib.frozen_of_heap h 0

theorem Rdr.set {w : World} {b : Nat} {R : ByteArray} (h : Rdr w b R) (T : ByteArray) : Rdr (w.setCell ⟨b, 0, none⟩ (.string T)) b T := Lib.heap_setCell_same h (i := 0) (.string T)

theorem Rdr.kept {w w' : World} {b : Nat} {R : ByteArray} (h : Rdr w b R) (hb : Below w.heap.size w w') : Rdr w' b R := (hb.block b h.lt).trans h

/-- Of what was there nothing has turned but block b. -/
def But (b : Nat) (w w' : World) : Prop := Below b w w' ∧ ∀ k, b < k → k < w.heap.size → w'.heap[k]? = w.heap[k]?

theorem But.refl (b : Nat) (w : World) : But b w w := ⟨Below.refl _ _, fun _ _ _ => rfl⟩

theorem But.of {b : Nat} {w w' : World} (h : Below w.heap.size w w') (hb : b ≤ w.heap.size) : But b w w' := ⟨h.mono hb, fun k _ hk => h.block k hk⟩

theorem But.trans {b : Nat} {w w1 w2 : World} (h : But b w w1) (h2 : But b w1 w2) : But b w w2 :=
  ⟨h.1.trans h2.1, fun k hb hk => (h2.2 k hb (by have := h.1.size; omega)).trans (h.2 k hb hk)⟩

theorem But.then {b : Nat} {w w1 w2 : World} (h : But b w w1) (h2 : Below w1.heap.size w1 w2) (hb : b ≤ w1.heap.size) : But b w w2 := h.trans (But.of h2 hb)

theorem But.set {b : Nat} {w w1 : World} (h : But b w w1) (j : Nat) (x : Value) : But b w (w1.setCell ⟨b, j, none⟩ x) :=
  ⟨h.1.setCell (p := ⟨b, j, none⟩) (Nat.le_refl _) _, fun k hb hk => by
    rw [heap_setCell_other _ _ _ _ (show k ≠ b by omega)]; exact h.2 k hb hk⟩

theorem But.size {b : Nat} {w w1 : World} (h : But b w w1) : w.heap.size ≤ w1.heap.size := h.1.size

theorem But.block {b : Nat} {w w1 : World} (h : But b w w1) (k : Nat) (hk : k < w.heap.size) (hne : k ≠ b) : w1.heap[k]? = w.heap[k]? := by
  rcases Nat.lt_or_gt_of_ne hne with h1 | h1
  · exact h.1.block k h1
  · exact h.2 k h1 hk

/-- A world of which the block is new. -/
theorem But.below {b B : Nat} {v w w1 : World} (h0 : Below B v w) (h : But b w w1) (hB : B ≤ b) : Below B v w1 := h0.trans (h.1.mono hB)

theorem But.own {b B n k : Nat} {e : TypeId} {v : Value} {xs : List Value} {w w1 : World} (h : But b w w1) (ho : w.ownsRow B e k v n xs) (hne : v.ownBlock ≠ some b) : w1.ownsRow B e k v n xs := by
  rcases ho.2 with h' | ⟨g, cap, cur, hv, hg, hrow, rest⟩
  · exact ⟨ho.1, .inl h'⟩
  · refine ⟨ho.1, .inr ⟨g, cap, cur, hv, hg, (h.block g (Array.getElem?_eq_some_iff.1 hrow).1 ?_).trans hrow, rest⟩⟩
    rintro rfl
    subst hv
    exact hne rfl

def dr1 (R : ByteArray) : ByteArray := ⟨(R.data.toList.drop 1).toArray⟩

theorem dr1_size (R : ByteArray) : (dr1 R).size = R.size - 1 := by
  unfold dr1; rw [xsize, List.length_drop]; simp

theorem dr1_ext (R : ByteArray) : R.extract 1 R.size = dr1 R := xba (by rw [extract_drop]; rfl)

theorem head_at (R : ByteArray) (h : 0 < R.size) : R.data.toList.head? = some (R[0]'h) := by
  rw [← Lib.data_getElem? R 0 h, List.head?_eq_getElem?]

theorem ret_tf {a b : Bool} (h : a = b) : Ending.returned (.bool a) = .returned (.bool b) := by rw [h]

theorem byte_bne {a b : UInt8} (h : a ≠ b) : ((a.toNat : Int) != (b.toNat : Int)) = true := by
  rw [bne_iff_ne]
  intro e
  exact h (UInt8.toNat_inj.1 (by omega))

set_option maxHeartbeats 1000000 in
set_option maxRecDepth 100000 in
theorem pass_yes (c : UInt8) (b : Nat) (R : ByteArray) (w : World) (hR : Rdr w b R) (hh : R.data.toList.head? = some c) :
    Calls Tryz.prog 131 #[.pointer (some ⟨b, 0, none⟩), .int .u8 (c.toNat : Int)] w fun e w' => e = .returned (.bool true) ∧ Rdr w' b (dr1 R) ∧ But b w w' := by
  have hne : R.data.toList ≠ [] := fun e => by rw [e] at hh; cases hh
  have h0 : 0 < R.size := by
    rw [Lib.size_eq]; exact List.length_pos_iff.2 hne
  have hc : R[0]'h0 = c := by rw [head_at R h0] at hh; exact Option.some.inj hh
  have hc1 := hR.cell
  have hf1 := hR.frozen
  have HE := hid (dr1_ext R)
  have HR := hid hR
  have he := xempty_no R hne
  clear hR hh hne
  subst hc
  go_enter Tryz.func131, Tryz.ntmps131
  go_wp2
  go_ret
  rw [HE.out]
  exact ⟨rfl, HR.out.set _, (But.refl _ _).set _ _⟩

set_option maxHeartbeats 1000000 in
set_option maxRecDepth 100000 in
theorem pass_no (c : UInt8) (b : Nat) (R : ByteArray) (w : World) (hR : Rdr w b R) (hh : R.data.toList.head? ≠ some c) :
    Calls Tryz.prog 131 #[.pointer (some ⟨b, 0, none⟩), .int .u8 (c.toNat : Int)] w fun e w' => e = .returned (.bool false) ∧ w' = w := by
  have hc1 := hR.cell
  clear hR
  by_cases hne : R.data.toList = []
  · have he : R.toList.isEmpty = true := by rw [Lib.toList_data, hne]; rfl
    clear hh hne
    go_enter Tryz.func131, Tryz.ntmps131
    go_wp2
    go_ret
    exact ⟨rfl, rfl⟩
  · have h0 : 0 < R.size := by
      rw [Lib.size_eq]; exact List.length_pos_iff.2 hne
    have he := xempty_no R hne
    have hc : R[0]'h0 ≠ c := fun e => hh (by rw [head_at R h0, e])
    have hc2 := byte_bne hc
    clear hh hne hc
    go_enter Tryz.func131, Tryz.ntmps131
    go_wp2
    go_ret
    exact ⟨rfl, rfl⟩

end Go.Proofs.YtjmkccnjjofmeaaGreatDoor

namespace Go.Proofs.YtjmkccnjjofmeaaGreatDoor
open Go.RowKit

/-- It is nil; or it leads to a row of cap cells, the numbers zs (the first len are its elements), each fitting its kind. -/
def IsRow (k : IntKind) (w : World) (a : Option Addr) (len cap : Nat) (zs : List Int) : Prop :=
  (a = none ∧ len = 0 ∧ cap = 0 ∧ zs = []) ∨
  ∃ x, a = some x ∧ len ≤ cap ∧ cap ≤ maxLen ∧ zs.length = cap ∧ (∀ i, i < zs.length → w.cell? (x.add i) = some (.int k (zs.getD i 0))) ∧ ∀ n ∈ zs, (Lit.int k n).wf = true

theorem IsRow.block {k : IntKind} {w : World} {a : Option Addr} {len cap : Nat} {zs : List Int} (h : IsRow k w a len cap zs) {y : Addr} (hy : a = some y) {j : Nat} (hj : j < zs.length) : (y.add j).block < w.heap.size := by
  rcases h with ⟨rfl, _⟩ | ⟨x, rfl, _, _, _, hcell, _⟩
  · cases hy
  · obtain rfl := Option.some.inj hy
    exact World.block_lt_of_cell? w _ (hcell j hj)

end Go.Proofs.YtjmkccnjjofmeaaGreatDoor

namespace Go.Proofs.YtjmkccnjjofmeaaGreatDoor
open Go.RowKit

/-- The slice v reads as the bytes l. -/
def SlB (w : World) (v : Value) (l : List UInt8) : Prop :=
  (∃ c, v = .slice none 0 c ∧ l = []) ∨ ∃ x cap, v = .slice (some x) l.length cap ∧ ∀ j (h : j < l.length), w.cell? (x.add j) = some (.int .u8 (l[j].toNat : Int))

theorem SlB.string {P : Program} {w : World} {v : Value} {l : List UInt8} {e src dst : TypeId} (h : SlB w v l) (hs : P.underlying src = some (.slice e)) (he : P.underlying e = some (.int .u8)) (hd : P.underlying dst = some .string) :
    (convert src dst v).run P w = .ok (.string ⟨l.toArray⟩) w := by
  rcases h with ⟨c, rfl, rfl⟩ | ⟨x, cap, rfl, hc⟩
  · exact Lib.run_convert_nil_bytes w src dst e c hs he hd
  · exact run_convert_bytes_back w src dst e x cap l hs he hd hc

theorem SlB.below {w w' : World} {v : Value} {l : List UInt8} {B : Nat} (h : SlB w v l) (hb : Below B w w') (hB : ∀ x n c, v = .slice (some x) n c → ∀ j, j < l.length → (x.add j).block < B) : SlB w' v l := by
  rcases h with h | ⟨x, cap, rfl, hc⟩
  · exact .inl h
  · exact .inr ⟨x, cap, rfl, fun j hj => (hb.cell (hB x _ _ rfl j hj)).trans (hc j hj)⟩

theorem SlB.kept {w w' : World} {v : Value} {l : List UInt8} (h : SlB w v l) (hb : Below w.heap.size w w') : SlB w' v l := by
  refine h.below hb ?_
  rcases h with ⟨c, rfl, rfl⟩ | ⟨x, cap, rfl, hc⟩
  · intro x n c' e j hj; simp at hj
  · intro x' n c' e j hj
    obtain ⟨e1, _, _⟩ := Value.slice.inj e
    obtain rfl := Option.some.inj e1
    exact World.block_lt_of_cell? w _ (hc j hj)

theorem SlB.alloc {w : World} {v : Value} {l : List UInt8} (h : SlB w v l) (o : Obj) : SlB (w.alloc o) v l := h.kept ((Below.refl _ w).alloc (Nat.le_refl _) o)

theorem SlB.len {w : World} {v : Value} {l : List UInt8} (h : SlB w v l) : ∃ a cap, v = .slice a l.length cap := by
  rcases h with ⟨c, rfl, rfl⟩ | ⟨x, cap, rfl, hc⟩
  · exact ⟨none, c, rfl⟩
  · exact ⟨some x, cap, rfl⟩

/-- A new block that holds the bytes. -/
theorem SlB.laid (w : World) (C : Array Value) (e : TypeId) (fz : Nat × Nat) (l : List UInt8) (cap : Nat) (h : C = (Lib.byteCells l).toArray) : SlB (w.alloc (.cells C e fz)) (.slice (some ⟨w.heap.size, 0, none⟩) l.length cap) l := by
  refine .inr ⟨_, cap, rfl, fun j hj => ?_⟩
  rw [Addr.add_lit, Nat.zero_add, World.cell?_alloc_mark, h]
  simp [Lib.byteCells, hj]

/-- What an owned row reads as. -/
theorem SlB.own {w : World} {B : Nat} {e : TypeId} {v : Value} {l : List UInt8} (h : w.ownsRow B e 1 v l.length (Lib.byteCells l)) : SlB w v l := by
  rcases h.2 with ⟨rfl, h0⟩ | ⟨g, cap, cur, rfl, _⟩
  · exact .inl ⟨0, rfl, List.eq_nil_of_length_eq_zero h0⟩
  · exact .inr ⟨_, cap, rfl, fun j hj => h.cells (g := g) rfl j _ (by simp [Lib.byteCells, hj])⟩

theorem SlB.take {w : World} {a : Option Addr} {len cap : Nat} {l : List UInt8} (h : SlB w (.slice a len cap) l) (n : Nat) (hn : n < l.length) : SlB w (.slice a n cap) (l.take n) := by
  rcases h with ⟨c, e, rfl⟩ | ⟨x, c, e, hc⟩
  · simp at hn
  · obtain ⟨rfl, rfl, rfl⟩ := Value.slice.inj e
    refine .inr ⟨x, cap, by congr 1; simp; omega, fun j hj => ?_⟩
    have hj' : j < l.length := by simp at hj; omega
    rw [hc j hj']; simp

/-- A slice that came in reads as bytes. -/
theorem IsRow.bytes {w : World} {a : Option Addr} {len cap : Nat} {zs : List Int} (h : IsRow .u8 w a len cap zs) : ∃ l : List UInt8, l.length = len ∧ SlB w (.slice a len cap) l ∧ len ≤ cap ∧ cap ≤ maxLen := by
  rcases h with ⟨rfl, rfl, rfl, rfl⟩ | ⟨x, rfl, hlc, hcm, hz, hcell, hwf⟩
  · exact ⟨[], rfl, .inl ⟨0, rfl, rfl⟩, Nat.le_refl _, by unfold maxLen; omega⟩
  · refine ⟨(zs.take len).map fun n => UInt8.ofNat n.toNat, by simp; omega, .inr ⟨x, cap, by congr 1; simp; omega, ?_⟩, hlc, hcm⟩
    intro j hj
    have hj' : j < len ∧ j < zs.length := by simp at hj; omega
    have hwfj := hwf zs[j] (List.getElem_mem hj'.2)
    have hb : 0 ≤ zs[j] ∧ zs[j] ≤ 255 := by simpa [Lit.wf, IntKind.min, IntKind.max, IntKind.bits, IntKind.signed] using hwfj
    rw [hcell j hj'.2]
    have e : zs.getD j 0 = zs[j] := by simp [List.getD, hj'.2]
    rw [e]
    congr 2
    simp
    omega

/-- From place pos on, by at most fuel runes: each rune encoded anew. -/
def recFrom (s : ByteArray) : Nat → Nat → List UInt8
  | 0, _ => []
  | fuel + 1, pos => if pos < s.size then Lib.encodeRune (Utf8.decode s pos).1 ++ recFrom s fuel (pos + (Utf8.decode s pos).2) else []

def recode (s : ByteArray) : List UInt8 := recFrom s s.size 0

def bom : List UInt8 := [239, 187, 191]

def dec (l : List UInt8) : List UInt8 := recode ⟨(Lib.trimPrefix l bom).toArray⟩

theorem width_pos (s : ByteArray) (pos : Nat) (h : pos < s.size) : 1 ≤ (Utf8.decode s pos).2 := by
  by_cases ha : (s[pos]'h).toNat < 128
  · rw [decode_ascii s pos h ha]
    exact Nat.le_refl _
  · exact (decode_high s pos h (by omega)).2

theorem recFrom_end (s : ByteArray) (fuel pos : Nat) (h : ¬ pos < s.size) : recFrom s fuel pos = [] := by
  cases fuel with
  | zero => rfl
  | succ f => simp [recFrom, h]

end Go.Proofs.YtjmkccnjjofmeaaGreatDoor

namespace Go.Proofs.YtjmkccnjjofmeaaGreatDoor
open Go.RowKit

theorem infoU8 : (Tryz.prog.info? 5).map (fun i => (i.zero, i.size, i.bytes)) = some (some (.int .u8 0), 1, 1) := by kernel_rfl

theorem ret_str6 {a b : ByteArray} (h : a = b) : Ending.returned (.string a) = .returned (.string b) := by rw [h]

def ba (l : List UInt8) : ByteArray := ⟨l.toArray⟩

theorem ba_size (l : List UInt8) : (ba l).size = l.length := xsize l

theorem mba_self (R : ByteArray) : ba R.data.toList = R := (xself R).symm

set_option maxHeartbeats 1000000 in
set_option maxRecDepth 100000 in
theorem upTo_gen (S : ByteArray) (b : Nat) (R : ByteArray) (w : World) (hR : Rdr w b R) (hs : R.size ≤ 4000000000)
    (hI : Calls Tryz.prog 130 #[.string R, .string S] w fun e w' => e = .returned (.int .i64 (Lib.indexAny R.data.toList S.data.toList)) ∧ Below w.heap.size w w') :
    Calls Tryz.prog 100 #[.pointer (some ⟨b, 0, none⟩), .string S] w fun e w' => e = .returned (.string (ba (upA S.data.toList R.data.toList))) ∧ Rdr w' b (ba (upR S.data.toList R.data.toList)) ∧ But b w w' := by
  have HI := hid hI
  have hc1 := hR.cell
  have HR := hid hR
  clear hI hR
  rcases up_index S.data.toList R.data.toList with ⟨h1, h2, h3⟩ | ⟨i, hi, h1, h2, h3⟩
  · have HA := hid (show R.extract 0 R.size = ba (upA S.data.toList R.data.toList) by rw [h2]; exact xba (by rw [extract_drop]; rfl))
    have HB := hid (show ByteArray.empty = ba (upR S.data.toList R.data.toList) by rw [h3]; rfl)
    clear h2 h3
    go_enter Tryz.func100, Tryz.ntmps100
    go_wp2_with fail
    refine HI.out.mono ?_
    rintro e w1 ⟨rfl, hb1⟩
    rw [h1]
    have H1 := hid (HR.out.kept hb1)
    have hc2 := H1.out.cell
    have hf2 := H1.out.frozen
    have HBt := hid (But.of hb1 (Nat.le_of_lt HR.out.lt))
    clear hb1
    go_wp2
    go_ret
    rw [← HA.out, ← HB.out]
    refine ⟨?_, H1.out.set _, HBt.out.set _ _⟩
    simp
  · have hi' : (i : Int) < (R.size : Int) := by rw [Lib.size_eq]; omega
    have HA := hid (show R.extract 0 i = ba (upA S.data.toList R.data.toList) by rw [h2]; exact xba (by rw [Lib.extract_data]; simp [ba]))
    have HB := hid (show R.extract i R.size = ba (upR S.data.toList R.data.toList) by rw [h3]; exact xba (by rw [extract_drop]; rfl))
    clear h2 h3
    go_enter Tryz.func100, Tryz.ntmps100
    go_wp2_with fail
    refine HI.out.mono ?_
    rintro e w1 ⟨rfl, hb1⟩
    rw [h1]
    have H1 := hid (HR.out.kept hb1)
    have hc2 := H1.out.cell
    have hf2 := H1.out.frozen
    have HBt := hid (But.of hb1 (Nat.le_of_lt HR.out.lt))
    clear hb1
    go_wp2
    go_ret
    rw [← HA.out, ← HB.out]
    refine ⟨rfl, H1.out.set _, HBt.out.set _ _⟩

theorem fit_step (l : List UInt8) (k : Nat) (h : k < l.length) : fitV (l.take (k + 1)) = (fitV (l.take k) && fitC l[k]) := by
  unfold fitV
  rw [List.take_succ_eq_append_getElem h, List.all_append]; simp

theorem fit_bad (l : List UInt8) (k : Nat) (h : k < l.length) (hb : fitC l[k] = false) : fitV l = false := by
  unfold fitV
  rw [List.all_eq_false]
  exact ⟨l[k], List.getElem_mem h, by rw [hb]; decide⟩

set_option maxHeartbeats 1000000 in
theorem fits_any (s : ByteArray) (w : World) (hs : s.size ≤ 140737488351232) :
    Calls Tryz.prog 156 #[.string s] w fun e w' => e = .returned (.bool (fitV s.data.toList)) ∧ w' = w := by
  go_enter Tryz.func156, Tryz.ntmps156
  go_wp2
  go_loop [7] (fun i => ∃ k : Nat, k ≤ s.size ∧ i = .int .i64 k ∧ fitV (s.data.toList.take k) = true) (fun i => s.size - (intOf i).toNat)
  case atStart => exact ⟨0, Nat.zero_le _, rfl, rfl⟩
  case round =>
    obtain ⟨k, hk, rfl, hf⟩ := hrel
    have HF := hid hf
    clear hf
    by_cases hlt : k < s.size
    · have hl : k < s.data.toList.length := by simpa using hlt
      have HS := hid (fit_step s.data.toList k hl)
      have HBd := hid (fit_bad s.data.toList k hl)
      have hx : s.data.toList[k] = s[k] := rfl
      rw [hx] at HS HBd
      go_wp2
      all_goals first
        | (go_round
           case rel => exact ⟨k + 1, by omega, by go_num, by rw [HS.out, HF.out, Bool.true_and]; unfold fitC; simp at *; omega⟩
           case measure => simp [intOf]; omega)
        | (go_ret
           exact ⟨ret_tf (HBd.out (by unfold fitC; simp at *; omega)).symm, rfl⟩)
    · have HA := hid (take_all s k hlt)
      go_wp2
      go_ret
      exact ⟨ret_tf (by rw [← HF.out, HA.out]), rfl⟩

end Go.Proofs.YtjmkccnjjofmeaaGreatDoor
