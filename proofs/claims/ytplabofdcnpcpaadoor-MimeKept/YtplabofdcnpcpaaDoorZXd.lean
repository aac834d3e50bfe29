/-
  Plain facts: texts that are put together of pieces come apart into them.
-/
import Derived.Test.YtplabofdcnpcpaaDoorZXb
set_option linter.unusedSimpArgs false
set_option linter.unusedVariables false
namespace Go.Proofs.YtplabofdcnpcpaaDoor

/-- No comma stands free in X, and no quotes are open at its end. -/
def Closed (X : List UInt8) : Prop := ∀ r, cutQ false (X ++ r) = (cutQ false r).map (· + X.length)

theorem closed_nil : Closed [] := fun r => by cases h : cutQ false r <;> simp [h]

theorem closed_app {X Y : List UInt8} (hx : Closed X) (hy : Closed Y) : Closed (X ++ Y) := fun r => by
  rw [List.append_assoc, hx, hy, map_map_add, List.length_append, Nat.add_comm Y.length]

theorem closed_one (c : UInt8) (h1 : c ≠ 44) (h2 : c ≠ 34) : Closed [c] := fun r => by
  rw [List.singleton_append, cutQ_other c r h1 h2]; rfl

def freeC (c : UInt8) : Bool := c != 44 && c != 34 && c != 92

theorem closed_free (X : List UInt8) (h : X.all freeC = true) : Closed X := by
  induction X with
  | nil => exact closed_nil
  | cons c X ih =>
    simp only [List.all_cons, Bool.and_eq_true] at h
    have hc := h.1
    simp [freeC] at hc
    exact closed_app (closed_one c hc.1.1 hc.1.2) (ih h.2)

theorem cutQ_inside (X : List UInt8) (h : X.all (fun c => c != 34 && c != 92) = true) (r : List UInt8) : cutQ true (X ++ r) = (cutQ true r).map (· + X.length) := by
  induction X with
  | nil => cases h : cutQ true r <;> simp [h]
  | cons c X ih =>
    simp only [List.all_cons, Bool.and_eq_true] at h
    have hc := h.1
    simp at hc
    rw [List.cons_append, cutQ_in c _ hc.1 hc.2, ih h.2, map_map_add]; rfl

theorem closed_quoted (X : List UInt8) (h : X.all (fun c => c != 34 && c != 92) = true) : Closed (34 :: X ++ [34]) := fun r => by
  rw [List.append_assoc, List.cons_append, cutQ_open, cutQ_inside X h, List.singleton_append, cutQ_close, map_map_add, map_map_add]
  simp
  congr 1; funext x; omega

theorem pcs_closed {X : List UInt8} (h : Closed X) : pcs X = [X] := by
  refine pcs_none X ?_
  have := h []
  rw [List.append_nil] at this
  rw [this]; rfl

theorem pcs_comma {X : List UInt8} (h : Closed X) (r : List UInt8) : pcs (X ++ 44 :: r) = X :: pcs r := by
  have h1 : cutQ false (X ++ 44 :: r) = some X.length := by rw [h, cutQ_comma]; simp
  rw [pcs_some _ _ h1]
  congr 1
  · simp
  · rw [List.drop_append, List.drop_of_length_le (by omega)]; simp

def bl2 (c : UInt8) : Bool := [9, 32].contains c

theorem dropWhile_blanks (v r : List UInt8) (hv : v.all bl2 = true) : (v ++ r).dropWhile bl2 = r.dropWhile bl2 := by
  induction v with
  | nil => rfl
  | cons c v ih =>
    simp only [List.all_cons, Bool.and_eq_true] at hv
    rw [List.cons_append, List.dropWhile_cons_of_pos hv.1, ih hv.2]

/-- x has no blank at its ends. -/
def Ends (x : List UInt8) : Prop := x ≠ [] ∧ (∀ c, x.head? = some c → bl2 c = false) ∧ (∀ c, x.getLast? = some c → bl2 c = false)

theorem dropWhile_head (x r : List UInt8) (h0 : x ≠ []) (h : ∀ c, x.head? = some c → bl2 c = false) : (x ++ r).dropWhile bl2 = x ++ r := by
  cases x with
  | nil => exact absurd rfl h0
  | cons c x => rw [List.cons_append, List.dropWhile_cons_of_neg]; rw [h c rfl]; simp

theorem trim_ends (v x u : List UInt8) (hv : v.all bl2 = true) (hu : u.all bl2 = true) (hx : Ends x) : trimB (v ++ x ++ u) = x := by
  unfold trimB Lib.trimS Lib.trimRightS Lib.trimLeftS
  show List.dropWhile bl2 (List.dropWhile bl2 (v ++ x ++ u).reverse).reverse = x
  have h1 : (v ++ x ++ u).reverse = u.reverse ++ (x.reverse ++ v.reverse) := by simp
  rw [h1, dropWhile_blanks u.reverse _ (by simpa using hu), dropWhile_head x.reverse v.reverse (by simpa using hx.1) (by simpa using hx.2.2)]
  have h2 : (x.reverse ++ v.reverse).reverse = v ++ x := by simp
  rw [h2, dropWhile_blanks v _ hv]
  have := dropWhile_head x [] hx.1 hx.2.1
  rw [List.append_nil] at this
  exact this

/-- The text s is put together of the pieces W. -/
def Put (s : List UInt8) (W : List (List UInt8)) : Prop :=
  ∃ (A v x : List UInt8) (Q : List (List UInt8)), s = A ++ (v ++ x) ∧ (∀ r, (pcs (A ++ r)).map trimB = Q ++ (pcs r).map trimB) ∧ Closed (v ++ x) ∧ v.all bl2 = true ∧ Ends x ∧ W = Q ++ [x]

theorem put_one (x : List UInt8) (hc : Closed x) (he : Ends x) : Put x [x] :=
  ⟨[], [], x, [], rfl, fun r => rfl, hc, rfl, he, rfl⟩

theorem bl2_free (u : List UInt8) (h : u.all bl2 = true) : u.all freeC = true := by
  rw [List.all_eq_true] at h ⊢
  intro c hc
  have := h c hc
  simp [bl2] at this
  rcases this with rfl | rfl <;> rfl

theorem put_more {s : List UInt8} {W : List (List UInt8)} (h : Put s W) (u v x : List UInt8) (hu : u.all bl2 = true) (hv : v.all bl2 = true) (hc : Closed x) (he : Ends x) : Put (s ++ (u ++ 44 :: v) ++ x) (W ++ [x]) := by
  obtain ⟨A, v0, x0, Q, rfl, hA, hc0, hv0, he0, rfl⟩ := h
  refine ⟨A ++ (v0 ++ x0) ++ (u ++ [44]), v, x, Q ++ [x0], by simp, fun r => ?_, closed_app (closed_free v (bl2_free v hv)) hc, hv, he, by simp⟩
  have e : A ++ (v0 ++ x0) ++ (u ++ [44]) ++ r = A ++ ((v0 ++ x0 ++ u) ++ 44 :: r) := by simp
  rw [e, hA, pcs_comma (closed_app hc0 (closed_free u (bl2_free u hu))), List.map_cons, trim_ends v0 x0 u hv0 hu he0]
  simp

theorem put_split {s : List UInt8} {W : List (List UInt8)} (h : Put s W) : (pcs s).map trimB = W := by
  obtain ⟨A, v0, x0, Q, rfl, hA, hc0, hv0, he0, rfl⟩ := h
  rw [hA, pcs_closed hc0]
  have := trim_ends v0 x0 [] hv0 rfl he0
  rw [List.append_nil] at this
  simp [this]

/-- Small letters, one at least. -/
def Wrd (x : List UInt8) : Prop := x ≠ [] ∧ x.all (fun c => decide (97 ≤ c.toNat) && decide (c.toNat ≤ 122)) = true

theorem wrd_mem {x : List UInt8} (h : Wrd x) {c : UInt8} (hc : c ∈ x) : 97 ≤ c.toNat ∧ c.toNat ≤ 122 := by
  have := List.all_eq_true.1 h.2 c hc
  simpa using this

theorem wrd_free {x : List UInt8} (h : Wrd x) : x.all freeC = true := by
  rw [List.all_eq_true]
  intro c hc
  have := wrd_mem h hc
  simp [freeC]
  refine ⟨⟨?_, ?_⟩, ?_⟩ <;> (intro e; subst e; simp at this)

theorem letter_bl {c : UInt8} (h : 97 ≤ c.toNat ∧ c.toNat ≤ 122) : bl2 c = false := by
  simp [bl2]
  refine ⟨?_, ?_⟩ <;> (intro e; subst e; simp at h)

theorem wrd_ends {x : List UInt8} (h : Wrd x) : Ends x :=
  ⟨h.1, fun c hc => letter_bl (wrd_mem h (List.mem_of_mem_head? (by rw [hc]; rfl))), fun c hc => letter_bl (wrd_mem h (List.mem_of_getLast? hc))⟩

/-- A word and itself in quotes, parted by a comma. -/
def quoted (x : List UInt8) : List UInt8 := 34 :: (x ++ [44, 32] ++ x) ++ [34]

theorem quoted_closed {x : List UInt8} (h : Wrd x) : Closed (quoted x) := by
  refine closed_quoted _ ?_
  have h1 := wrd_free h
  have h2 : x.all (fun c => c != 34 && c != 92) = true := by
    rw [List.all_eq_true] at h1 ⊢
    intro c hc
    have := h1 c hc
    simp [freeC] at this
    simp [this]
  rw [List.all_append, List.all_append, h2]; rfl

theorem quoted_ends (x : List UInt8) : Ends (quoted x) := by
  refine ⟨by simp [quoted], fun c hc => ?_, fun c hc => ?_⟩
  · simp [quoted] at hc; subst hc; rfl
  · simp [quoted, List.getLast?_cons, List.getLast?_append] at hc; subst hc; rfl

end Go.Proofs.YtplabofdcnpcpaaDoor
