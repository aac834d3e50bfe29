/-
  Plain facts: numbers in tens; ranges that are written are read.
-/
import Derived.Test.YtplabofdcnpcpaaDoorZGa
set_option linter.unusedSimpArgs false
set_option linter.unusedVariables false
namespace Go.Proofs.YtplabofdcnpcpaaDoor

theorem xindex_none (l : List UInt8) (c : UInt8) (h : c ∉ l) : Lib.index l [c] = -1 := by
  induction l with
  | nil => rfl
  | cons a l ih =>
    have ha : a ≠ c := fun e => h (by simp [e])
    have hl : c ∉ l := fun e => h (by simp [e])
    unfold Lib.index
    rw [ih hl]
    have : [c].isPrefixOf (a :: l) = false := by simp [List.isPrefixOf]; exact fun e => ha e.symm
    rw [this]; rfl

theorem xindex_some (a r : List UInt8) (c : UInt8) (h : c ∉ a) : Lib.index (a ++ c :: r) [c] = a.length := by
  induction a with
  | nil => unfold Lib.index; simp [List.isPrefixOf]
  | cons x a ih =>
    have hx : x ≠ c := fun e => h (by simp [e])
    have ha : c ∉ a := fun e => h (by simp [e])
    rw [List.cons_append]
    unfold Lib.index
    rw [ih ha]
    have : [c].isPrefixOf (x :: (a ++ c :: r)) = false := by simp [List.isPrefixOf]; exact fun e => hx e.symm
    rw [this]
    have h1 : ((a.length : Int) == -1) = false := by rw [beq_eq_false_iff_ne]; omega
    simp [h1]

theorem xcut_none (l : List UInt8) (c : UInt8) (h : c ∉ l) : Lib.cut l [c] = (l, [], false) := by
  unfold Lib.cut
  rw [xindex_none l c h]; rfl

theorem xcut_some (a r : List UInt8) (c : UInt8) (h : c ∉ a) : Lib.cut (a ++ c :: r) [c] = (a, r, true) := by
  unfold Lib.cut
  rw [xindex_some a r c h]
  simp


/-- T is the number n in tens. -/
def Dec (n : Nat) (T : List UInt8) : Prop := T ≠ [] ∧ T.all digP = true ∧ numI T = (n : Int) ∧ T.length ≤ 40

/-- On the way there: T stands behind the digits of u. -/
def DecI (n f u : Nat) (T : List UInt8) : Prop :=
  u < 10 ^ f ∧ T.length + f = 20 ∧ T.all digP = true ∧ (∀ X : List UInt8, X.all digP = true → numI X = (u : Int) → numI (X ++ T) = (n : Int)) ∧ (u = 0 → T = [] ∨ numI T = (n : Int)) ∧ (T = [] → u = n)

theorem foldl_ten (T : List UInt8) : ∀ X : List UInt8, numI (X ++ T) = T.foldl (fun n c => ten n ((c.toNat : Int) - 48)) (numI X) := by
  intro X; simp [numI, List.foldl_append]

def decC (d : Nat) : UInt8 := UInt8.ofNat (48 + d)

theorem decC_val (d : Nat) (h : d < 10) : ((decC d).toNat : Int) - 48 = (d : Int) ∧ digP (decC d) = true := by
  rcases (show d = 0 ∨ d = 1 ∨ d = 2 ∨ d = 3 ∨ d = 4 ∨ d = 5 ∨ d = 6 ∨ d = 7 ∨ d = 8 ∨ d = 9 from by omega) with
    rfl | rfl | rfl | rfl | rfl | rfl | rfl | rfl | rfl | rfl <;> decide

theorem decI_start (n : Nat) (h : n < 10 ^ 20) : DecI n 20 n [] :=
  ⟨h, rfl, rfl, fun X _ hx => by simpa using hx, fun _ => .inl rfl, fun _ => rfl⟩

theorem decI_step (n f u : Nat) (T : List UInt8) (hn : n ≤ 4294967296) (hu : u ≤ 4294967296) (h : DecI n f u T) (hp : 0 < u ∨ T = []) : ∃ g, f = g + 1 ∧ DecI n g (u / 10) (decC (u % 10) :: T) := by
  obtain ⟨h1, h2, h3, h4, h5, h6⟩ := h
  have hd := decC_val (u % 10) (by omega)
  cases f with
  | zero =>
    simp at h1
    rcases hp with hp | hp
    · omega
    · subst hp; simp at h2
  | succ g =>
    have hone : ∀ X : List UInt8, X.all digP = true → numI X = ((u / 10 : Nat) : Int) → numI (X ++ [decC (u % 10)]) = (u : Int) := by
      intro X hX hx
      rw [numI_snoc, hx, hd.1]
      unfold ten
      rw [if_neg (by omega)]
      omega
    refine ⟨g, rfl, ?_, by simp; omega, by simp [hd.2]; simpa using h3, ?_, ?_, by simp⟩
    · rw [Nat.div_lt_iff_lt_mul (by omega)]; rw [Nat.pow_succ] at h1; exact h1
    · intro X hX hx
      rw [show X ++ decC (u % 10) :: T = (X ++ [decC (u % 10)]) ++ T by simp]
      refine h4 _ ?_ (hone X hX hx)
      rw [List.all_append, hX]; simp [hd.2]
    · intro h0
      right
      have := h4 [decC (u % 10)] (by simp [hd.2]) (by have := hone [] rfl (by rw [h0]; rfl); simpa using this)
      simpa using this

theorem decI_done (n f u : Nat) (T : List UInt8) (h : DecI n f u T) (h0 : u = 0) (hT : T ≠ []) : Dec n T := by
  obtain ⟨h1, h2, h3, h4, h5, h6⟩ := h
  refine ⟨hT, h3, ?_, by omega⟩
  rcases h5 h0 with h | h
  · exact absurd h hT
  · exact h

theorem Dec.no {n : Nat} {T : List UInt8} (h : Dec n T) (c : UInt8) (hc : digP c = false) : c ∉ T := by
  intro hm
  have := List.all_eq_true.1 h.2.1 c hm
  rw [hc] at this
  cases this

theorem Dec.int {n : Nat} {T : List UInt8} (h : Dec n T) : bndV T = n ∧ bndOk T = true := by
  have e : (T.all digP && !T.isEmpty) = true := by
    rw [h.2.1]
    have := h.1
    cases T with
    | nil => exact absurd rfl this
    | cons a b => rfl
  constructor
  · unfold bndV intV
    rw [if_neg h.1, if_pos e, h.2.2.1]
  · unfold bndOk intOk
    rw [e]; simp

theorem bnd_blank (T : List UInt8) : bndOk (T ++ [32]) = false := by
  unfold bndOk intOk
  simp [digP, digitI]

def sBytes : List UInt8 := [98, 121, 116, 101, 115, 61]

theorem rng_parts (A B : List UInt8) (h : 45 ∉ A) : rUnit (sBytes ++ A ++ 45 :: B) = true ∧ rRest (sBytes ++ A ++ 45 :: B) = A ++ 45 :: B ∧ Lib.cut (rRest (sBytes ++ A ++ 45 :: B)) [45] = (A, B, true) := by
  have h1 : rUnit (sBytes ++ A ++ 45 :: B) = true := by
    unfold rUnit Lib.hasPrefix sBytes
    simp [List.isPrefixOf]
  have h2 : rRest (sBytes ++ A ++ 45 :: B) = A ++ 45 :: B := by
    unfold rRest
    rw [if_pos h1]
    simp [sBytes]
  refine ⟨h1, h2, ?_⟩
  rw [h2]
  exact xcut_some A B 45 h

theorem rng_ok (A B : List UInt8) (h : 45 ∉ A) : rOk (sBytes ++ A ++ 45 :: B) = (bndOk A && bndOk B && spansI (bndV A) (bndV B)) := by
  obtain ⟨h1, h2, h3⟩ := rng_parts A B h
  unfold rOk rL rR
  rw [h1, h3]
  simp

theorem rng_from (A B : List UInt8) (h : 45 ∉ A) (hk : rOk (sBytes ++ A ++ 45 :: B) = true) : rFrom (sBytes ++ A ++ 45 :: B) = bndV A ∧ rTo (sBytes ++ A ++ 45 :: B) = bndV B := by
  obtain ⟨h1, h2, h3⟩ := rng_parts A B h
  unfold rFrom rTo rL rR
  rw [if_pos hk, if_pos hk, h3]
  exact ⟨rfl, rfl⟩

theorem bnd_nil : bndV [] = -1 ∧ bndOk [] = true := ⟨rfl, rfl⟩

end Go.Proofs.YtplabofdcnpcpaaDoor
