/-
  The plain functions of package policy: pieces, rules, chains, what a policy permits, how it is written.
-/
import Derived.Test.YtplabofdcnpcpaaOa
import Derived.Test.YtplabofdcnpcpaaXa
set_option linter.unusedSimpArgs false
set_option linter.unusedVariables false
namespace Go.Proofs.Ytplabofdcnpcpaa

/-- One rule. -/
structure Ru where
  name : List UInt8
  vals : List (List UInt8)
deriving DecidableEq

/-- The pieces of a text between the bytes c. -/
def pcV (c : UInt8) : List UInt8 → List (List UInt8)
  | [] => [[]]
  | x :: l => if x = c then [] :: pcV c l else match pcV c l with
    | [] => [[x]]
    | h :: t => (x :: h) :: t

theorem pcV_ne (c : UInt8) (l : List UInt8) : pcV c l ≠ [] := by
  cases l with
  | nil => simp [pcV]
  | cons x l =>
    rw [pcV]
    split
    · simp
    · split <;> simp

theorem pcV_none (c : UInt8) : ∀ l : List UInt8, c ∉ l → pcV c l = [l]
  | [], _ => rfl
  | x :: l, h => by
    rw [pcV, if_neg (fun e => h (by simp [e])), pcV_none c l (fun e => h (by simp [e]))]

theorem pcV_some (c : UInt8) : ∀ (a r : List UInt8), c ∉ a → pcV c (a ++ c :: r) = a :: pcV c r
  | [], r, _ => by rw [List.nil_append, pcV, if_pos rfl]
  | x :: a, r, h => by
    rw [List.cons_append, pcV, if_neg (fun e => h (by simp [e])), pcV_some c a r (fun e => h (by simp [e]))]

theorem pcV_part (c : UInt8) (l : List UInt8) : pcV c l = if (part c l).2.2 then (part c l).1 :: pcV c (part c l).2.1 else [(part c l).1] := by
  rcases first_split c l with h | ⟨a, r, h, rfl⟩
  · rw [part_none c l h, pcV_none c l h]; rfl
  · rw [part_some c a r h, pcV_some c a r h]; rfl

theorem pcV_ind (c : UInt8) {P : List UInt8 → Prop} (h1 : ∀ l, c ∉ l → P l) (h2 : ∀ a r, c ∉ a → P r → P (a ++ c :: r)) : ∀ l, P l := by
  intro l
  generalize hn : l.length = n
  induction n using Nat.strongRecOn generalizing l with
  | _ n ih =>
    rcases first_split c l with h | ⟨a, r, ha, rfl⟩
    · exact h1 l h
    · exact h2 a r ha (ih r.length (by rw [← hn]; simp; omega) r rfl)

theorem pcV_len (c : UInt8) : ∀ l : List UInt8, (pcV c l).length ≤ l.length + 1 :=
  pcV_ind c (fun l h => by rw [pcV_none c l h]; simp) (fun a r h ih => by rw [pcV_some c a r h]; simp; omega)

theorem pcV_mem (c : UInt8) : ∀ l : List UInt8, ∀ p ∈ pcV c l, c ∉ p ∧ p.length ≤ l.length ∧ ∀ x ∈ p, x ∈ l :=
  pcV_ind c (fun l h p hp => by
      rw [pcV_none c l h] at hp
      obtain rfl := List.mem_singleton.1 hp
      exact ⟨h, Nat.le_refl _, fun x hx => hx⟩)
    (fun a r h ih p hp => by
      rw [pcV_some c a r h] at hp
      rcases List.mem_cons.1 hp with rfl | hp
      · exact ⟨h, by simp <;> omega, fun x hx => by simp [hx]⟩
      · obtain ⟨h1, h2, h3⟩ := ih p hp
        exact ⟨h1, by simp <;> omega, fun x hx => by simp [h3 x hx]⟩)

def hasR (L : List Ru) (n : List UInt8) : Bool := L.any fun r => decide (r.name = n)
/-- The rule that a piece is. -/
def ruleV (p : List UInt8) : Option Ru := match words9 p with
  | [] => none
  | x :: t => some ⟨low x, t⟩
def addR (L : List Ru) (p : List UInt8) : List Ru := match ruleV p with
  | none => L
  | some r => if hasR L r.name then L else L ++ [r]
def polF : List (List UInt8) → List Ru → List Ru
  | [], L => L
  | p :: ps, L => if 32 ≤ L.length then L else polF ps (addR L p)
def polV (s : List UInt8) : List Ru := polF (pcV 59 s) []

theorem polF_full (ps : List (List UInt8)) (L : List Ru) (h : 32 ≤ L.length) : polF ps L = L := by
  cases ps with
  | nil => rfl
  | cons p ps => rw [polF, if_pos h]

theorem addR_len (L : List Ru) (p : List UInt8) : (addR L p).length ≤ L.length + 1 := by
  unfold addR
  split
  · omega
  · split
    · omega
    · simp

theorem polF_len : ∀ (ps : List (List UInt8)) (L : List Ru), L.length ≤ 32 → (polF ps L).length ≤ 32
  | [], L, h => h
  | p :: ps, L, h => by
    rw [polF]
    split
    · exact h
    · exact polF_len ps _ (by have := addR_len L p; omega)

theorem polV_len (s : List UInt8) : (polV s).length ≤ 32 := polF_len _ _ (by simp)

abbrev nWk : List UInt8 := [119, 111, 114, 107, 101, 114, 45, 115, 114, 99]
abbrev nSe : List UInt8 := [115, 99, 114, 105, 112, 116, 45, 115, 114, 99, 45, 101, 108, 101, 109]
abbrev nYe : List UInt8 := [115, 116, 121, 108, 101, 45, 115, 114, 99, 45, 101, 108, 101, 109]
abbrev nFr : List UInt8 := [102, 114, 97, 109, 101, 45, 115, 114, 99]
abbrev nCo : List UInt8 := [99, 111, 110, 110, 101, 99, 116, 45, 115, 114, 99]
abbrev nFo : List UInt8 := [102, 111, 110, 116, 45, 115, 114, 99]
abbrev nIm : List UInt8 := [105, 109, 103, 45, 115, 114, 99]
abbrev nMe : List UInt8 := [109, 101, 100, 105, 97, 45, 115, 114, 99]
abbrev nSc : List UInt8 := [115, 99, 114, 105, 112, 116, 45, 115, 114, 99]
abbrev nSt : List UInt8 := [115, 116, 121, 108, 101, 45, 115, 114, 99]
abbrev nCh : List UInt8 := [99, 104, 105, 108, 100, 45, 115, 114, 99]
abbrev nOb : List UInt8 := [111, 98, 106, 101, 99, 116, 45, 115, 114, 99]
abbrev nDe : List UInt8 := [100, 101, 102, 97, 117, 108, 116, 45, 115, 114, 99]

/-- The names that are asked, one behind the other. -/
def chainV (n : List UInt8) : List (List UInt8) :=
  if n = nSe then [nSe, nSc, nDe] else if n = nYe then [nYe, nSt, nDe] else if n = nWk then [nWk, nCh, nSc, nDe] else if n = nFr then [nFr, nCh, nDe]
  else if n = nCo then [nCo, nDe] else if n = nFo then [nFo, nDe] else if n = nIm then [nIm, nDe] else if n = nMe then [nMe, nDe] else if n = nSc then [nSc, nDe] else if n = nSt then [nSt, nDe] else if n = nCh then [nCh, nDe] else if n = nOb then [nOb, nDe] else if n = nDe then [nDe] else []
/-- The name that is about a destination. -/
def forV (d : Int) : List UInt8 := if d = 1 then nCo else if d = 2 then nSe else if d = 3 then nYe else if d = 4 then nIm else if d = 5 then nFo else if d = 6 then nFr else []

def findR (L : List Ru) (n : List UInt8) : Option (List (List UInt8)) := (L.find? fun r => decide (r.name = n)).map (·.vals)
/-- What is permitted for these names: the values, and under which name. -/
def askV (L : List Ru) : List (List UInt8) → Option (List (List UInt8) × List UInt8)
  | [] => none
  | n :: t => match findR L n with
    | some v => some (v, n)
    | none => askV L t
def valsV (L : List Ru) (n : List UInt8) : Option (List (List UInt8) × List UInt8) := askV L (chainV n)

/-- One rule, as it is written. -/
def txR (r : Ru) : List UInt8 := r.name ++ r.vals.flatMap fun v => 32 :: v
def txP : List Ru → List UInt8
  | [] => []
  | r :: t => txR r ++ match t with
    | [] => []
    | _ :: _ => 59 :: 32 :: txP t

/-- The policies of one name's headers. -/
def nmV (s : List UInt8) : List (List Ru) := (pcV 44 s).filterMap fun p => match polV p with
  | [] => none
  | r :: t => some (r :: t)
abbrev nCsp : List UInt8 := [99, 111, 110, 116, 101, 110, 116, 45, 115, 101, 99, 117, 114, 105, 116, 121, 45, 112, 111, 108, 105, 99, 121]
abbrev nCro : List UInt8 := [99, 111, 110, 116, 101, 110, 116, 45, 115, 101, 99, 117, 114, 105, 116, 121, 45, 112, 111, 108, 105, 99, 121, 45, 114, 101, 112, 111, 114, 116, 45, 111, 110, 108, 121]
def ofV (H : List Hd) (n : List UInt8) : List (List Ru) := if getB H n then nmV (getT H n) else []
def fromV (H : List Hd) : List (List Ru × Bool) := (ofV H nCsp).map (·, false) ++ (ofV H nCro).map (·, true)

end Go.Proofs.Ytplabofdcnpcpaa
