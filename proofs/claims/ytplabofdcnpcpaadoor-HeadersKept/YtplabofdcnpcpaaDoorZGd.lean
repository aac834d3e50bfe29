/-
  Plain facts: numbers in tens; ranges that are written are read.
  Lists of headers and of texts, as they lie in memory.
  Plain facts: texts that are put together of pieces come apart into them.
  The walks of headers' closing and cutPiece.
  The walks of headers' functions on bounds and bytes, and of the laws' small functions.
  The walks of ostiarybook.Same over texts and over headers.
-/
import Derived.Test.YtplabofdcnpcpaaDoorZGa
import Derived.Test.YtplabofdcnpcpaaDoorZGe
import Derived.Laws.OwnMore
import Derived.Below
import Derived.WalkSmall
import Derived.Lib.SmallJoins
import Derived.Deep.QuietTactic
import Derived.BigQuiet
import Derived.Deep.LoopGhost
set_option linter.unusedSimpArgs false
set_option linter.unusedVariables false
namespace Go.Proofs.YtplabofdcnpcpaaDoor

theorem xindex_none (l : List UInt8) (c : UInt8) (h : c ∉ l) : Lib.index l [c] = -1 := by
  induction l with
  | nil => rfl
  | cons a l ih =>
    have ha : a ≠ c := fun e => h (by simp [e])
    have hl : c ∉ l := fun e => h (by simp [e])
    unfold Lib.index
    rw [ih hl]
    have : [c].isPrefixOf (a :: l) = false := by simp [List.isPrefixOf]; exact fun e => ha e.symm
    rw [this]; rfl

theorem xindex_some (a r : List UInt8) (c : UInt8) (h : c ∉ a) : Lib.index (a ++ c :: r) [c] = a.length := by
  induction a with
  | nil => unfold Lib.index; simp [List.isPrefixOf]
  | cons x a ih =>
    have hx : x ≠ c := fun e => h (by simp [e])
    have ha : c ∉ a := fun e => h (by simp [e])
    rw [List.cons_append]
    unfold Lib.index
    rw [ih ha]
    have : [c].isPrefixOf (x :: (a ++ c :: r)) = false := by simp [List.isPrefixOf]; exact fun e => hx e.symm
    rw [this]
    have h1 : ((a.length : Int) == -1) = false := by rw [beq_eq_false_iff_ne]; omega
    simp [h1]

theorem xcut_none (l : List UInt8) (c : UInt8) (h : c ∉ l) : Lib.cut l [c] = (l, [], false) := by
  unfold Lib.cut
  rw [xindex_none l c h]; rfl

theorem xcut_some (a r : List UInt8) (c : UInt8) (h : c ∉ a) : Lib.cut (a ++ c :: r) [c] = (a, r, true) := by
  unfold Lib.cut
  rw [xindex_some a r c h]
  simp


/-- T is the number n in tens. -/
def Dec (n : Nat) (T : List UInt8) : Prop := T ≠ [] ∧ T.all digP = true ∧ numI T = (n : Int) ∧ T.length ≤ 40

/-- On the way there: T stands behind the digits of u. -/
def DecI (n f u : Nat) (T : List UInt8) : Prop :=
  u < 10 ^ f ∧ T.length + f = 20 ∧ T.all digP = true ∧ (∀ X : List UInt8, X.all digP = true → numI X = (u : Int) → numI (X ++ T) = (n : Int)) ∧ (u = 0 → T = [] ∨ numI T = (n : Int)) ∧ (T = [] → u = n)

theorem foldl_ten (T : List UInt8) : ∀ X : List UInt8, numI (X ++ T) = T.foldl (fun n c => ten n ((c.toNat : Int) - 48)) (numI X) := by
  intro X; simp [numI, List.foldl_append]

def decC (d : Nat) : UInt8 := UInt8.ofNat (48 + d)

theorem decC_val (d : Nat) (h : d < 10) : ((decC d).toNat : Int) - 48 = (d : Int) ∧ digP (decC d) = true := by
  rcases (show d = 0 ∨ d = 1 ∨ d = 2 ∨ d = 3 ∨ d = 4 ∨ d = 5 ∨ d = 6 ∨ d = 7 ∨ d = 8 ∨ d = 9 from by omega) with
    rfl | rfl | rfl | rfl | rfl | rfl | rfl | rfl | rfl | rfl <;> decide

theorem decI_start (n : Nat) (h : n < 10 ^ 20) : DecI n 20 n [] :=
  ⟨h, rfl, rfl, fun X _ hx => by simpa using hx, fun _ => .inl rfl, fun _ => rfl⟩

theorem decI_step (n f u : Nat) (T : List UInt8) (hn : n ≤ 4294967296) (hu : u ≤ 4294967296) (h : DecI n f u T) (hp : 0 < u ∨ T = []) : ∃ g, f = g + 1 ∧ DecI n g (u / 10) (decC (u % 10) :: T) := by
  obtain ⟨h1, h2, h3, h4, h5, h6⟩ := h
  have hd := decC_val (u % 10) (by omega)
  cases f with
  | zero =>
    simp at h1
    rcases hp with hp | hp
    · omega
    · subst hp; simp at h2
  | succ g =>
    have hone : ∀ X : List UInt8, X.all digP = true → numI X = ((u / 10 : Nat) : Int) → numI (X ++ [decC (u % 10)]) = (u : Int) := by
      intro X hX hx
      rw [numI_snoc, hx, hd.1]
      unfold ten
      rw [if_neg (by omega)]
      omega
    refine ⟨g, rfl, ?_, by simp; omega, by simp [hd.2]; simpa using h3, ?_, ?_, by simp⟩
    · rw [Nat.div_lt_iff_lt_mul (by omega)]; rw [Nat.pow_succ] at h1; exact h1
    · intro X hX hx
      rw [show X ++ decC (u % 10) :: T = (X ++ [decC (u % 10)]) ++ T by simp]
      refine h4 _ ?_ (hone X hX hx)
      rw [List.all_append, hX]; simp [hd.2]
    · intro h0
      right
      have := h4 [decC (u % 10)] (by simp [hd.2]) (by have := hone [] rfl (by rw [h0]; rfl); simpa using this)
      simpa using this

theorem decI_done (n f u : Nat) (T : List UInt8) (h : DecI n f u T) (h0 : u = 0) (hT : T ≠ []) : Dec n T := by
  obtain ⟨h1, h2, h3, h4, h5, h6⟩ := h
  refine ⟨hT, h3, ?_, by omega⟩
  rcases h5 h0 with h | h
  · exact absurd h hT
  · exact h

theorem Dec.no {n : Nat} {T : List UInt8} (h : Dec n T) (c : UInt8) (hc : digP c = false) : c ∉ T := by
  intro hm
  have := List.all_eq_true.1 h.2.1 c hm
  rw [hc] at this
  cases this

theorem Dec.int {n : Nat} {T : List UInt8} (h : Dec n T) : bndV T = n ∧ bndOk T = true := by
  have e : (T.all digP && !T.isEmpty) = true := by
    rw [h.2.1]
    have := h.1
    cases T with
    | nil => exact absurd rfl this
    | cons a b => rfl
  constructor
  · unfold bndV intV
    rw [if_neg h.1, if_pos e, h.2.2.1]
  · unfold bndOk intOk
    rw [e]; simp

theorem bnd_blank (T : List UInt8) : bndOk (T ++ [32]) = false := by
  unfold bndOk intOk
  simp [digP, digitI]

def sBytes : List UInt8 := [98, 121, 116, 101, 115, 61]

theorem rng_parts (A B : List UInt8) (h : 45 ∉ A) : rUnit (sBytes ++ A ++ 45 :: B) = true ∧ rRest (sBytes ++ A ++ 45 :: B) = A ++ 45 :: B ∧ Lib.cut (rRest (sBytes ++ A ++ 45 :: B)) [45] = (A, B, true) := by
  have h1 : rUnit (sBytes ++ A ++ 45 :: B) = true := by
    unfold rUnit Lib.hasPrefix sBytes
    simp [List.isPrefixOf]
  have h2 : rRest (sBytes ++ A ++ 45 :: B) = A ++ 45 :: B := by
    unfold rRest
    rw [if_pos h1]
    simp [sBytes]
  refine ⟨h1, h2, ?_⟩
  rw [h2]
  exact xcut_some A B 45 h

theorem rng_ok (A B : List UInt8) (h : 45 ∉ A) : rOk (sBytes ++ A ++ 45 :: B) = (bndOk A && bndOk B && spansI (bndV A) (bndV B)) := by
  obtain ⟨h1, h2, h3⟩ := rng_parts A B h
  unfold rOk rL rR
  rw [h1, h3]
  simp

theorem rng_from (A B : List UInt8) (h : 45 ∉ A) (hk : rOk (sBytes ++ A ++ 45 :: B) = true) : rFrom (sBytes ++ A ++ 45 :: B) = bndV A ∧ rTo (sBytes ++ A ++ 45 :: B) = bndV B := by
  obtain ⟨h1, h2, h3⟩ := rng_parts A B h
  unfold rFrom rTo rL rR
  rw [if_pos hk, if_pos hk, h3]
  exact ⟨rfl, rfl⟩

theorem bnd_nil : bndV [] = -1 ∧ bndOk [] = true := ⟨rfl, rfl⟩

end Go.Proofs.YtplabofdcnpcpaaDoor

namespace Go.Proofs.YtplabofdcnpcpaaDoor
open Go.RowKit

def cellsT (L : List (List UInt8)) : List Value := L.map fun x => Value.string ⟨x.toArray⟩

theorem cellsT_app (a b : List (List UInt8)) : cellsT (a ++ b) = cellsT a ++ cellsT b := by simp [cellsT]
theorem cellsT_len (a : List (List UInt8)) : (cellsT a).length = a.length := by simp [cellsT]
theorem cellsT_one (X : ByteArray) : cellsT [X.data.toList] = [.string X] := by
  show [Value.string ⟨X.data.toList.toArray⟩] = _
  rw [Lib.mk_data]
theorem cellsT_l (x : List UInt8) : cellsT [x] = [.string ⟨x.toArray⟩] := rfl

def cellsH (L : List Hd) : List Value := L.flatMap fun h => [.string ⟨h.name.toArray⟩, .string ⟨h.value.toArray⟩]

theorem cellsH_app (a b : List Hd) : cellsH (a ++ b) = cellsH a ++ cellsH b := by simp [cellsH]
theorem cellsH_len (a : List Hd) : (cellsH a).length = a.length * 2 := by
  induction a with
  | nil => rfl
  | cons h a ih => simp [cellsH] at ih ⊢; omega
theorem cellsH_one (h : Hd) : cellsH [h] = [.string ⟨h.name.toArray⟩, .string ⟨h.value.toArray⟩] := rfl

theorem cellsH_at (L : List Hd) : ∀ j (h : j < L.length), (cellsH L)[j * 2]? = some (.string ⟨L[j].name.toArray⟩) ∧ (cellsH L)[j * 2 + 1]? = some (.string ⟨L[j].value.toArray⟩) := by
  induction L with
  | nil => intro j h; simp at h
  | cons a L ih =>
    intro j h
    have e : cellsH (a :: L) = Value.string ⟨a.name.toArray⟩ :: Value.string ⟨a.value.toArray⟩ :: cellsH L := rfl
    cases j with
    | zero => rw [e]; exact ⟨rfl, rfl⟩
    | succ j =>
      have := ih j (by simpa using h)
      rw [e, show (j + 1) * 2 = j * 2 + 1 + 1 by omega]
      simpa using this

/-- The texts L lie in block b, from off on. -/
def TxL (w : World) (b off : Nat) (L : List (List UInt8)) : Prop := ∀ j (h : j < L.length), w.cell? ⟨b, off + j, none⟩ = some (.string ⟨L[j].toArray⟩)

/-- The value v reads as the texts L. -/
def TxAt (w : World) (v : Value) (L : List (List UInt8)) : Prop :=
  ∃ a cap, v = .slice a L.length cap ∧ L.length ≤ cap ∧ cap ≤ maxLen ∧ ∀ j (hj : j < L.length), ∃ b off, a = some ⟨b, off, none⟩ ∧ w.cell? ⟨b, off + j, none⟩ = some (.string ⟨L[j].toArray⟩)

theorem TxAt.view {w : World} {v : Value} {L : List (List UInt8)} (h : TxAt w v L) : ∃ a cap, v = .slice a L.length cap ∧ L.length ≤ cap ∧ cap ≤ maxLen ∧ ∀ j (hj : j < L.length), ∃ b off, a = some ⟨b, off, none⟩ ∧ w.cell? ⟨b, off + j, none⟩ = some (.string ⟨L[j].toArray⟩) := h

theorem tx_of {w : World} {b off cap : Nat} {L : List (List UInt8)} (h1 : L.length ≤ cap) (h2 : cap ≤ maxLen) (h : TxL w b off L) : TxAt w (.slice (some ⟨b, off, none⟩) L.length cap) L :=
  ⟨_, cap, rfl, h1, h2, fun j hj => ⟨b, off, rfl, h j hj⟩⟩

theorem tx_nil (w : World) : TxAt w (.slice none 0 0) [] := ⟨none, 0, rfl, Nat.le_refl _, by decide, fun j hj => by simp at hj⟩

/-- The headers L lie in block b, from off on. -/
def HdS (w : World) (b off : Nat) (L : List Hd) : Prop :=
  ∀ j (h : j < L.length), w.cell? ⟨b, off + j * 2, none⟩ = some (.string ⟨L[j].name.toArray⟩) ∧ w.cell? ⟨b, off + j * 2 + 1, none⟩ = some (.string ⟨L[j].value.toArray⟩)

/-- The value v reads as the headers L. -/
def HdAt (w : World) (v : Value) (L : List Hd) : Prop :=
  ∃ a cap, v = .slice a L.length cap ∧ L.length ≤ cap ∧ cap ≤ maxLen ∧ ∀ j (hj : j < L.length), ∃ b off, a = some ⟨b, off, none⟩ ∧ w.cell? ⟨b, off + j * 2, none⟩ = some (.string ⟨L[j].name.toArray⟩) ∧ w.cell? ⟨b, off + j * 2 + 1, none⟩ = some (.string ⟨L[j].value.toArray⟩)

theorem HdAt.view {w : World} {v : Value} {L : List Hd} (h : HdAt w v L) : ∃ a cap, v = .slice a L.length cap ∧ L.length ≤ cap ∧ cap ≤ maxLen ∧ ∀ j (hj : j < L.length), ∃ b off, a = some ⟨b, off, none⟩ ∧ w.cell? ⟨b, off + j * 2, none⟩ = some (.string ⟨L[j].name.toArray⟩) ∧ w.cell? ⟨b, off + j * 2 + 1, none⟩ = some (.string ⟨L[j].value.toArray⟩) := h

theorem hd_of {w : World} {b off cap : Nat} {L : List Hd} (h1 : L.length ≤ cap) (h2 : cap ≤ maxLen) (h : HdS w b off L) : HdAt w (.slice (some ⟨b, off, none⟩) L.length cap) L :=
  ⟨_, cap, rfl, h1, h2, fun j hj => ⟨b, off, rfl, h j hj⟩⟩

theorem hd_nil (w : World) : HdAt w (.slice none 0 0) [] := ⟨none, 0, rfl, Nat.le_refl _, by decide, fun j hj => by simp at hj⟩

theorem HdS.kept {w w' : World} {b off : Nat} {L : List Hd} (h : HdS w b off L) (hb : Below w.heap.size w w') : HdS w' b off L := fun j hj => by
  have h1 := h j hj
  exact ⟨(hb.cell (World.block_lt_of_cell? w _ h1.1)).trans h1.1, (hb.cell (World.block_lt_of_cell? w _ h1.2)).trans h1.2⟩

theorem TxL.kept {w w' : World} {b off : Nat} {L : List (List UInt8)} (h : TxL w b off L) (hb : Below w.heap.size w w') : TxL w' b off L := fun j hj => by
  have h1 := h j hj
  exact (hb.cell (World.block_lt_of_cell? w _ h1)).trans h1

theorem HdAt.kept {w w' : World} {v : Value} {L : List Hd} (h : HdAt w v L) (hb : Below w.heap.size w w') : HdAt w' v L := by
  obtain ⟨a, cap, h1, h2, h3, h4⟩ := h
  refine ⟨a, cap, h1, h2, h3, fun j hj => ?_⟩
  obtain ⟨b, off, e, c1, c2⟩ := h4 j hj
  exact ⟨b, off, e, (hb.cell (World.block_lt_of_cell? w _ c1)).trans c1, (hb.cell (World.block_lt_of_cell? w _ c2)).trans c2⟩

theorem TxAt.kept {w w' : World} {v : Value} {L : List (List UInt8)} (h : TxAt w v L) (hb : Below w.heap.size w w') : TxAt w' v L := by
  obtain ⟨a, cap, h1, h2, h3, h4⟩ := h
  refine ⟨a, cap, h1, h2, h3, fun j hj => ?_⟩
  obtain ⟨b, off, e, c1⟩ := h4 j hj
  exact ⟨b, off, e, (hb.cell (World.block_lt_of_cell? w _ c1)).trans c1⟩

theorem own_txt' {w : World} {B : Nat} {e : TypeId} {v : Value} {L : List (List UInt8)} (h : w.ownsRow B e 1 v L.length (cellsT L)) : TxAt w v L := by
  have h2 := h.2
  rcases h2 with ⟨hv, hn⟩ | ⟨g, cap, cur, rfl, hg, hrow, hnc, hcm, hcs, htake⟩
  · obtain rfl := List.eq_nil_of_length_eq_zero hn
    rw [hv]; exact tx_nil w
  · refine tx_of hnc hcm fun j hj => ?_
    rw [Nat.zero_add, h.cellAt j (by omega)]
    simp [cellsT, hj]

theorem own_hd {w : World} {B : Nat} {e : TypeId} {v : Value} {L : List Hd} (h : w.ownsRow B e 2 v L.length (cellsH L)) : HdAt w v L := by
  have h2 := h.2
  rcases h2 with ⟨hv, hn⟩ | ⟨g, cap, cur, rfl, hg, hrow, hnc, hcm, hcs, htake⟩
  · obtain rfl := List.eq_nil_of_length_eq_zero hn
    rw [hv]; exact hd_nil w
  · refine hd_of hnc hcm fun j hj => ?_
    rw [Nat.zero_add, h.cellAt _ (by omega), h.cellAt _ (by omega)]
    exact cellsH_at L j hj

theorem own_same {w w' : World} {B : Nat} {e : TypeId} {k : Nat} {v : Value} {n : Nat} {xs : List Value} (h : w.ownsRow B e k v n xs) (hb : Below w.heap.size w w') : w'.ownsRow B e k v n xs := by
  rcases h.2 with h' | ⟨g, cap, cur, hv, hg, hrow, rest⟩
  · exact ⟨h.1, .inl h'⟩
  · exact ⟨h.1, .inr ⟨g, cap, cur, hv, hg, (hb.block g (Array.getElem?_eq_some_iff.1 hrow).1).trans hrow, rest⟩⟩

theorem belowT {a b c : World} (h1 : Below a.heap.size a b) (h2 : Below b.heap.size b c) : Below a.heap.size a c := h1.trans (h2.mono h1.size)

theorem xba {a b : ByteArray} (h : a.data.toList = b.data.toList) : a = b := by
  cases a; cases b; simp at h; simp [h]

theorem xmk (l : List UInt8) : (⟨l.toArray⟩ : ByteArray).data.toList = l := rfl
theorem xself (b : ByteArray) : b = ⟨b.data.toList.toArray⟩ := xba rfl
theorem xsize (l : List UInt8) : (⟨l.toArray⟩ : ByteArray).size = l.length := by simp [ByteArray.size]

end Go.Proofs.YtplabofdcnpcpaaDoor

namespace Go.Proofs.YtplabofdcnpcpaaDoor

/-- No comma stands free in X, and no quotes are open at its end. -/
def Closed (X : List UInt8) : Prop := ∀ r, cutQ false (X ++ r) = (cutQ false r).map (· + X.length)

theorem closed_nil : Closed [] := fun r => by cases h : cutQ false r <;> simp [h]

theorem closed_app {X Y : List UInt8} (hx : Closed X) (hy : Closed Y) : Closed (X ++ Y) := fun r => by
  rw [List.append_assoc, hx, hy, map_map_add, List.length_append, Nat.add_comm Y.length]

theorem closed_one (c : UInt8) (h1 : c ≠ 44) (h2 : c ≠ 34) : Closed [c] := fun r => by
  rw [List.singleton_append, cutQ_other c r h1 h2]; rfl

def freeC (c : UInt8) : Bool := c != 44 && c != 34 && c != 92

theorem closed_free (X : List UInt8) (h : X.all freeC = true) : Closed X := by
  induction X with
  | nil => exact closed_nil
  | cons c X ih =>
    simp only [List.all_cons, Bool.and_eq_true] at h
    have hc := h.1
    simp [freeC] at hc
    exact closed_app (closed_one c hc.1.1 hc.1.2) (ih h.2)

theorem cutQ_inside (X : List UInt8) (h : X.all (fun c => c != 34 && c != 92) = true) (r : List UInt8) : cutQ true (X ++ r) = (cutQ true r).map (· + X.length) := by
  induction X with
  | nil => cases h : cutQ true r <;> simp [h]
  | cons c X ih =>
    simp only [List.all_cons, Bool.and_eq_true] at h
    have hc := h.1
    simp at hc
    rw [List.cons_append, cutQ_in c _ hc.1 hc.2, ih h.2, map_map_add]; rfl

theorem closed_quoted (X : List UInt8) (h : X.all (fun c => c != 34 && c != 92) = true) : Closed (34 :: X ++ [34]) := fun r => by
  rw [List.append_assoc, List.cons_append, cutQ_open, cutQ_inside X h, List.singleton_append, cutQ_close, map_map_add, map_map_add]
  simp
  congr 1; funext x; omega

theorem pcs_closed {X : List UInt8} (h : Closed X) : pcs X = [X] := by
  refine pcs_none X ?_
  have := h []
  rw [List.append_nil] at this
  rw [this]; rfl

theorem pcs_comma {X : List UInt8} (h : Closed X) (r : List UInt8) : pcs (X ++ 44 :: r) = X :: pcs r := by
  have h1 : cutQ false (X ++ 44 :: r) = some X.length := by rw [h, cutQ_comma]; simp
  rw [pcs_some _ _ h1]
  congr 1
  · simp
  · rw [List.drop_append, List.drop_of_length_le (by omega)]; simp

def bl2 (c : UInt8) : Bool := [9, 32].contains c

theorem dropWhile_blanks (v r : List UInt8) (hv : v.all bl2 = true) : (v ++ r).dropWhile bl2 = r.dropWhile bl2 := by
  induction v with
  | nil => rfl
  | cons c v ih =>
    simp only [List.all_cons, Bool.and_eq_true] at hv
    rw [List.cons_append, List.dropWhile_cons_of_pos hv.1, ih hv.2]

/-- x has no blank at its ends. -/
def Ends (x : List UInt8) : Prop := x ≠ [] ∧ (∀ c, x.head? = some c → bl2 c = false) ∧ (∀ c, x.getLast? = some c → bl2 c = false)

theorem dropWhile_head (x r : List UInt8) (h0 : x ≠ []) (h : ∀ c, x.head? = some c → bl2 c = false) : (x ++ r).dropWhile bl2 = x ++ r := by
  cases x with
  | nil => exact absurd rfl h0
  | cons c x => rw [List.cons_append, List.dropWhile_cons_of_neg]; rw [h c rfl]; simp

theorem trim_ends (v x u : List UInt8) (hv : v.all bl2 = true) (hu : u.all bl2 = true) (hx : Ends x) : trimB (v ++ x ++ u) = x := by
  unfold trimB Lib.trimS Lib.trimRightS Lib.trimLeftS
  show List.dropWhile bl2 (List.dropWhile bl2 (v ++ x ++ u).reverse).reverse = x
  have h1 : (v ++ x ++ u).reverse = u.reverse ++ (x.reverse ++ v.reverse) := by simp
  rw [h1, dropWhile_blanks u.reverse _ (by simpa using hu), dropWhile_head x.reverse v.reverse (by simpa using hx.1) (by simpa using hx.2.2)]
  have h2 : (x.reverse ++ v.reverse).reverse = v ++ x := by simp
  rw [h2, dropWhile_blanks v _ hv]
  have := dropWhile_head x [] hx.1 hx.2.1
  rw [List.append_nil] at this
  exact this

/-- The text s is put together of the pieces W. -/
def Put (s : List UInt8) (W : List (List UInt8)) : Prop :=
  ∃ (A v x : List UInt8) (Q : List (List UInt8)), s = A ++ (v ++ x) ∧ (∀ r, (pcs (A ++ r)).map trimB = Q ++ (pcs r).map trimB) ∧ Closed (v ++ x) ∧ v.all bl2 = true ∧ Ends x ∧ W = Q ++ [x]

theorem put_one (x : List UInt8) (hc : Closed x) (he : Ends x) : Put x [x] :=
  ⟨[], [], x, [], rfl, fun r => rfl, hc, rfl, he, rfl⟩

theorem bl2_free (u : List UInt8) (h : u.all bl2 = true) : u.all freeC = true := by
  rw [List.all_eq_true] at h ⊢
  intro c hc
  have := h c hc
  simp [bl2] at this
  rcases this with rfl | rfl <;> rfl

theorem put_more {s : List UInt8} {W : List (List UInt8)} (h : Put s W) (u v x : List UInt8) (hu : u.all bl2 = true) (hv : v.all bl2 = true) (hc : Closed x) (he : Ends x) : Put (s ++ (u ++ 44 :: v) ++ x) (W ++ [x]) := by
  obtain ⟨A, v0, x0, Q, rfl, hA, hc0, hv0, he0, rfl⟩ := h
  refine ⟨A ++ (v0 ++ x0) ++ (u ++ [44]), v, x, Q ++ [x0], by simp, fun r => ?_, closed_app (closed_free v (bl2_free v hv)) hc, hv, he, by simp⟩
  have e : A ++ (v0 ++ x0) ++ (u ++ [44]) ++ r = A ++ ((v0 ++ x0 ++ u) ++ 44 :: r) := by simp
  rw [e, hA, pcs_comma (closed_app hc0 (closed_free u (bl2_free u hu))), List.map_cons, trim_ends v0 x0 u hv0 hu he0]
  simp

theorem put_split {s : List UInt8} {W : List (List UInt8)} (h : Put s W) : (pcs s).map trimB = W := by
  obtain ⟨A, v0, x0, Q, rfl, hA, hc0, hv0, he0, rfl⟩ := h
  rw [hA, pcs_closed hc0]
  have := trim_ends v0 x0 [] hv0 rfl he0
  rw [List.append_nil] at this
  simp [this]

/-- Small letters, one at least. -/
def Wrd (x : List UInt8) : Prop := x ≠ [] ∧ x.all (fun c => decide (97 ≤ c.toNat) && decide (c.toNat ≤ 122)) = true

theorem wrd_mem {x : List UInt8} (h : Wrd x) {c : UInt8} (hc : c ∈ x) : 97 ≤ c.toNat ∧ c.toNat ≤ 122 := by
  have := List.all_eq_true.1 h.2 c hc
  simpa using this

theorem wrd_free {x : List UInt8} (h : Wrd x) : x.all freeC = true := by
  rw [List.all_eq_true]
  intro c hc
  have := wrd_mem h hc
  simp [freeC]
  refine ⟨⟨?_, ?_⟩, ?_⟩ <;> (intro e; subst e; simp at this)

theorem letter_bl {c : UInt8} (h : 97 ≤ c.toNat ∧ c.toNat ≤ 122) : bl2 c = false := by
  simp [bl2]
  refine ⟨?_, ?_⟩ <;> (intro e; subst e; simp at h)

theorem wrd_ends {x : List UInt8} (h : Wrd x) : Ends x :=
  ⟨h.1, fun c hc => letter_bl (wrd_mem h (List.mem_of_mem_head? (by rw [hc]; rfl))), fun c hc => letter_bl (wrd_mem h (List.mem_of_getLast? hc))⟩

/-- A word and itself in quotes, parted by a comma. -/
def quoted (x : List UInt8) : List UInt8 := 34 :: (x ++ [44, 32] ++ x) ++ [34]

theorem quoted_closed {x : List UInt8} (h : Wrd x) : Closed (quoted x) := by
  refine closed_quoted _ ?_
  have h1 := wrd_free h
  have h2 : x.all (fun c => c != 34 && c != 92) = true := by
    rw [List.all_eq_true] at h1 ⊢
    intro c hc
    have := h1 c hc
    simp [freeC] at this
    simp [this]
  rw [List.all_append, List.all_append, h2]; rfl

theorem quoted_ends (x : List UInt8) : Ends (quoted x) := by
  refine ⟨by simp [quoted], fun c hc => ?_, fun c hc => ?_⟩
  · simp [quoted] at hc; subst hc; rfl
  · simp [quoted, List.getLast?_cons, List.getLast?_append] at hc; subst hc; rfl

end Go.Proofs.YtplabofdcnpcpaaDoor

namespace Go.Proofs.YtplabofdcnpcpaaDoor
open Go.RowKit

theorem byteInt (c : UInt8) (n : Nat) (h : n < 256) : ((c.toNat : Int) == (n : Int)) = decide (c = UInt8.ofNat n) := by
  have h1 : (UInt8.ofNat n).toNat = n := by simp [UInt8.toNat_ofNat']; omega
  rw [Bool.eq_iff_iff]
  simp only [beq_iff_eq, decide_eq_true_eq]
  constructor
  · intro e; exact UInt8.toNat_inj.1 (by rw [h1]; omega)
  · intro e; rw [e, h1]

theorem byteNe {c : UInt8} {n : Nat} (h : n < 256) (e : c ≠ UInt8.ofNat n) : ((c.toNat : Int) == (n : Int)) = false := by
  rw [byteInt c n h]; simpa using e

set_option maxHeartbeats 1000000 in
theorem closing_any (s : ByteArray) (i : Nat) (w : World) (hs : s.size ≤ 140737488351232) (hi : i < s.size) :
    Calls Tryd.prog 56 #[.string s, .int .i64 i] w fun e w' => e = .returned (.int .i64 ((i + 1 + clos (s.data.toList.drop (i + 1)) : Nat) : Int)) ∧ w = w' := by
  go_enter Tryd.func56, Tryd.ntmps56
  go_wp2
  go_loop [1] (fun v => ∃ k : Nat, k ≤ s.size + 1 ∧ v = .int .i64 k ∧ k + clos (s.data.toList.drop k) = i + 1 + clos (s.data.toList.drop (i + 1))) (fun v => s.size + 2 - (intOf v).toNat)
  case atStart => exact ⟨i + 1, by omega, by go_num, rfl⟩
  case round =>
    obtain ⟨k, hk, rfl, hc⟩ := hrel
    have HC := hid hc
    clear hc
    by_cases hlt : k < s.size
    · have hlt' : (k : Int) < (s.size : Int) := by omega
      have HD := hid (drop_cons s k hlt)
      by_cases h1 : s[k] = 34
      · have h1' : (s[k].toNat : Int) = 34 := by rw [h1]; rfl
        have HR := hid (show k = i + 1 + clos (s.data.toList.drop (i + 1)) by have := HC.out; rw [HD.out, h1, clos_quote] at this; omega)
        clear h1
        go_wp2
        go_ret
        exact ⟨ret_int (by have := HR.out; omega), rfl⟩
      · have h1' : ((s[k].toNat : Int) == 34) = false := byteNe (n := 34) (by omega) h1
        by_cases h2 : s[k] = 92
        · have h2' : (s[k].toNat : Int) = 92 := by rw [h2]; rfl
          have HR := hid (show k + 2 + clos (s.data.toList.drop (k + 2)) = i + 1 + clos (s.data.toList.drop (i + 1)) by
            have := HC.out; rw [HD.out, h2, clos_back, List.drop_drop] at this
            rw [show k + 1 + 1 = k + 2 by omega] at this; omega)
          clear h1 h2
          go_wp2
          go_round
          case rel =>
            exact ⟨k + 2, by omega, by go_num, HR.out⟩
          case measure => simp [intOf]; omega
        · have h2' : ((s[k].toNat : Int) == 92) = false := byteNe (n := 92) (by omega) h2
          have HR := hid (show k + 1 + clos (s.data.toList.drop (k + 1)) = i + 1 + clos (s.data.toList.drop (i + 1)) by
            have := HC.out; rw [HD.out, clos_other _ _ h1 h2] at this; omega)
          clear h1 h2
          go_wp2
          go_round
          case rel =>
            exact ⟨k + 1, by omega, by go_num, HR.out⟩
          case measure => simp [intOf]; omega
    · have hlt' : decide ((k : Int) < (s.size : Int)) = false := by rw [decide_eq_false_iff_not]; omega
      have HR := hid (show k = i + 1 + clos (s.data.toList.drop (i + 1)) by
        have := HC.out; rw [List.drop_eq_nil_of_le (by simp; omega)] at this; simp [clos] at this; omega)
      go_wp2
      go_ret
      exact ⟨ret_int (by have := HR.out; omega), rfl⟩

theorem clos_le : ∀ (n : Nat) (l : List UInt8), l.length ≤ n → clos l ≤ l.length + 1 := by
  intro n
  induction n with
  | zero =>
    intro l hl
    have : l = [] := List.eq_nil_of_length_eq_zero (by omega)
    subst this; simp [clos]
  | succ n ih =>
    intro l hl
    cases l with
    | nil => simp [clos]
    | cons c r =>
      simp at hl
      by_cases h1 : c = 34
      · subst h1; rw [clos_quote]; simp
      · by_cases h2 : c = 92
        · subst h2
          rw [clos_back]
          have := ih (r.drop 1) (by simp; omega)
          cases r with
          | nil => simp [clos]
          | cons d r => simp at this ⊢; omega
        · rw [clos_other c r h1 h2]
          have := ih r (by omega)
          simp; omega

/-- What cutPiece answers. -/
def cutA (l : List UInt8) : List UInt8 := match cutQ false l with | none => l | some k => l.take k
def cutR (l : List UInt8) : List UInt8 := match cutQ false l with | none => [] | some k => l.drop (k + 1)
def cutB (l : List UInt8) : Bool := (cutQ false l).isSome

theorem xret_ssb {a b c d : ByteArray} {x y : Bool} (h : a = b) (h2 : c = d) (g : x = y) : Ending.returned (.tuple #[.string a, .string c, .bool x]) = .returned (.tuple #[.string b, .string d, .bool y]) := by rw [h, h2, g]

theorem xext {a : ByteArray} {l : List UInt8} (h : a.data.toList = l) : a = ⟨l.toArray⟩ := xba h

set_option maxHeartbeats 1000000 in
theorem cutPiece_any (s : ByteArray) (w : World) (hs : s.size ≤ 140737488351232) :
    Calls Tryd.prog 30 #[.string s] w fun e w' => e = .returned (.tuple #[.string ⟨(cutA s.data.toList).toArray⟩, .string ⟨(cutR s.data.toList).toArray⟩, .bool (cutB s.data.toList)]) ∧ Below w.heap.size w w' := by
  go_enter Tryd.func30, Tryd.ntmps30
  go_wp2
  go_loop [5] (fun v => ∃ k : Nat, k ≤ s.size + 2 ∧ v = .int .i64 k ∧ cutQ false s.data.toList = (cutQ false (s.data.toList.drop k)).map (· + k)) (fun v => s.size + 3 - (intOf v).toNat)
  case atStart => exact ⟨0, by omega, by go_num, by simp⟩
  case round =>
    obtain ⟨k, hk, rfl, hc⟩ := hrel
    have HC := hid hc
    clear hc
    by_cases hlt : k < s.size
    · have hlt' : (k : Int) < (s.size : Int) := by omega
      have HD := hid (drop_cons s k hlt)
      by_cases h1 : s[k] = 44
      · have h1' : (s[k].toNat : Int) = 44 := by rw [h1]; rfl
        have HR := hid (show cutQ false s.data.toList = some k by have := HC.out; rw [HD.out, h1, cutQ_comma] at this; simpa using this)
        have hk0 : (0 : Int) ≤ (k : Int) := by omega
        have hk1 : (k : Int) ≤ (s.size : Int) := by omega
        have hk2 : (k : Int) + 1 ≤ (s.size : Int) := by omega
        clear h1
        go_wp2
        go_quiet (fail)
        go_wp2
        go_ret3
        refine ⟨xret_ssb (xext ?_) (xext ?_) ?_, Go.below_drewN (Below.refl _ _) _⟩
        · rw [cutA, HR.out, Lib.extract_data]; simp
        · rw [cutR, HR.out]; exact extract_drop s (k + 1)
        · rw [cutB, HR.out]; rfl
      · have h1' : ((s[k].toNat : Int) == 44) = false := byteNe (n := 44) (by omega) h1
        by_cases h2 : s[k] = 34
        · have h2' : (s[k].toNat : Int) = 34 := by rw [h2]; rfl
          have hcl : clos (s.data.toList.drop (k + 1)) + (k + 1) ≤ s.size + 1 := by have := clos_le _ (s.data.toList.drop (k + 1)) (Nat.le_refl _); simp at this; omega
          have HR := hid (show cutQ false s.data.toList = (cutQ false (s.data.toList.drop (k + 1 + clos (s.data.toList.drop (k + 1)) + 1))).map (· + (k + 1 + clos (s.data.toList.drop (k + 1)) + 1)) by
            have := HC.out
            rw [HD.out, h2, cutQ_false_open, map_map_add, List.drop_drop] at this
            rw [this, show k + 1 + (clos (s.data.toList.drop (k + 1)) + 1) = k + 1 + clos (s.data.toList.drop (k + 1)) + 1 by omega, show clos (s.data.toList.drop (k + 1)) + 2 + k = k + 1 + clos (s.data.toList.drop (k + 1)) + 1 by omega])
          clear h1 h2
          obtain ⟨q, hq⟩ : ∃ q, q = clos (s.data.toList.drop (k + 1)) := ⟨_, rfl⟩
          rw [← hq] at hcl HR
          have HQ := hid hq
          clear hq
          go_wp2_with (go_at_call 56; refine (closing_any s k _ hs hlt).mono ?_; rintro e w' ⟨rfl, rfl⟩; rw [← HQ.out])
          go_round
          case rel =>
            exact ⟨k + 1 + q + 1, by omega, by go_num, HR.out⟩
          case measure => simp [intOf]; omega
        · have h2' : ((s[k].toNat : Int) == 34) = false := byteNe (n := 34) (by omega) h2
          have HR := hid (show cutQ false s.data.toList = (cutQ false (s.data.toList.drop (k + 1))).map (· + (k + 1)) by
            have := HC.out
            rw [HD.out, cutQ_other _ _ h1 h2, map_map_add] at this
            rw [this, Nat.add_comm 1 k])
          clear h1 h2
          go_wp2
          go_round
          case rel =>
            exact ⟨k + 1, by omega, by go_num, HR.out⟩
          case measure => simp [intOf]; omega
    · have hlt' : ¬ (k : Int) < (s.size : Int) := by omega
      have HR := hid (show cutQ false s.data.toList = none by
        have := HC.out; rw [List.drop_eq_nil_of_le (by simp; omega)] at this; simpa [cutQ] using this)
      go_wp2
      go_ret3
      refine ⟨xret_ssb (xext ?_) (xext ?_) ?_, Below.refl _ _⟩
      · rw [cutA, HR.out]
      · rw [cutR, HR.out]
      · rw [cutB, HR.out]; rfl

end Go.Proofs.YtplabofdcnpcpaaDoor

namespace Go.Proofs.YtplabofdcnpcpaaDoor
open Go.RowKit

set_option maxHeartbeats 400000 in
theorem spans_any (a b : Int) (w : World) :
    Calls Tryd.prog 93 #[.int .i64 a, .int .i64 b] w fun e w' => e = .returned (.bool (spansI a b)) ∧ w = w' := by
  by_cases h : b < 0
  · have HS := hid (show spansI a b = decide (0 ≤ a) by rw [spansI, if_pos h])
    go_enter Tryd.func93, Tryd.ntmps93
    go_wp2
    go_ret
    exact ⟨ret_bool HS.out.symm, rfl⟩
  · have HS := hid (show spansI a b = decide (a ≤ b) by rw [spansI, if_neg h])
    go_enter Tryd.func93, Tryd.ntmps93
    go_wp2
    go_ret
    exact ⟨ret_bool HS.out.symm, rfl⟩

theorem xempty_yes (s : ByteArray) (h : s.data.toList = []) : s.toList.isEmpty = true := by rw [Lib.toList_data, h]; rfl
theorem xempty_no (s : ByteArray) (h : s.data.toList ≠ []) : s.toList.isEmpty = false := by
  rw [Lib.toList_data]
  cases hl : s.data.toList with
  | nil => exact absurd hl h
  | cons a b => rfl

set_option maxHeartbeats 400000 in
theorem bound_any (s : ByteArray) (w : World) (hs : s.size ≤ 140737488351232) :
    Calls Tryd.prog 92 #[.string s] w fun e w' => e = .returned (.tuple #[.int .i64 (bndV s.data.toList), .bool (bndOk s.data.toList)]) ∧ w = w' := by
  by_cases h : s.data.toList = []
  · have he := xempty_yes s h
    have HS := hid (show bndV s.data.toList = -1 ∧ bndOk s.data.toList = true by rw [h]; exact ⟨rfl, rfl⟩)
    clear h
    go_enter Tryd.func92, Tryd.ntmps92
    go_wp2
    go_ret2
    exact ⟨ret_ib HS.out.1.symm HS.out.2.symm, rfl⟩
  · have he := xempty_no s h
    have HS := hid (show bndV s.data.toList = intV s.data.toList ∧ bndOk s.data.toList = intOk s.data.toList by
      refine ⟨by rw [bndV, if_neg h], ?_⟩
      unfold bndOk
      rw [show (s.data.toList == []) = false by simpa using h]
      rfl)
    clear h
    go_enter Tryd.func92, Tryd.ntmps92
    go_wp2_with (go_at_call 111; refine (int_any s _ hs).mono ?_; rintro e w' ⟨rfl, rfl⟩)
    go_ret2
    exact ⟨ret_ib HS.out.1.symm HS.out.2.symm, rfl⟩

def riskI (c : Int) : Bool := c == 34 || (c == 40 || (c == 41 || (c == 58 || (c == 60 || (c == 62 || (c == 63 || (c == 64 || (c == 91 || (c == 92 || (c == 93 || (c == 123 || (c == 125 || (c == 127 || (decide (c < 32) && !(c == 9)))))))))))))))
def langI (c : Int) : Bool := c == 32 || (c == 42 || (c == 44 || (c == 45 || (c == 46 || (c == 59 || (c == 61 || (letterI c || digitI c)))))))
def harmV (l : List UInt8) : Bool := l.all fun c => !riskI c.toNat
def langV (l : List UInt8) : Bool := l.all fun c => langI c.toNat

set_option maxHeartbeats 1000000 in
theorem risky_any (c : Int) (w : World) :
    Calls Tryd.prog 88 #[.int .u8 c] w fun e w' => e = .returned (.bool (riskI c)) ∧ w = w' := by
  go_enter Tryd.func88, Tryd.ntmps88
  go_wp2
  all_goals
    go_ret
    exact ⟨ret_bool (by first | (simp [riskI, *]; done) | (rw [Bool.eq_iff_iff]; simp [riskI, *]; done) | (rw [Bool.eq_iff_iff]; simp [riskI, *]; omega)), rfl⟩

set_option maxHeartbeats 1000000 in
theorem languageByte_any (c : Int) (w : World) :
    Calls Tryd.prog 89 #[.int .u8 c] w fun e w' => e = .returned (.bool (langI c)) ∧ w = w' := by
  go_enter Tryd.func89, Tryd.ntmps89
  go_wp2
  all_goals
    go_ret
    exact ⟨ret_bool (by rw [Bool.eq_iff_iff]; simp [langI, letterI, digitI, *]; try omega), rfl⟩

theorem all_stop (p : UInt8 → Bool) (s : ByteArray) (k : Nat) (h : k < s.size) (hp : p s[k] = false) : s.data.toList.all p = false := by
  rw [List.all_eq_false]
  refine ⟨s[k], ?_, by simp [hp]⟩
  have : s[k] = s.data.toList[k]'(by simpa using h) := rfl
  rw [this]; exact List.getElem_mem _

set_option maxHeartbeats 1000000 in
theorem harmless_any (s : ByteArray) (w : World) (hs : s.size ≤ 140737488351232) :
    Calls Tryd.prog 66 #[.string s] w fun e w' => e = .returned (.bool (harmV s.data.toList)) ∧ w = w' := by
  go_enter Tryd.func66, Tryd.ntmps66
  go_wp2
  go_loop [3, 6] (fun x i => ∃ k : Nat, k ≤ s.size ∧ i = .int .i64 k ∧ harmV (s.data.toList.take k) = true) (fun x i => s.size - (intOf i).toNat)
  case atStart => exact ⟨0, Nat.zero_le _, rfl, rfl⟩
  case round =>
    obtain ⟨k, hk, rfl, hall⟩ := hrel
    have HA := hid hall
    clear hall
    by_cases hlt : k < s.size
    · have HT := hid (take_snoc s k hlt)
      by_cases ht : riskI (s[k].toNat : Int) = false
      · go_wp2_with (go_at_call 88; refine (risky_any _ _).mono ?_; rintro e w' ⟨rfl, rfl⟩)
        go_round
        case rel => exact ⟨k + 1, by omega, by go_num, by unfold harmV; rw [HT.out, List.all_append]; have := HA.out; unfold harmV at this; rw [this]; simp [ht]⟩
        case measure => simp [intOf]; omega
      · have ht' : riskI (s[k].toNat : Int) = true := by simpa using ht
        clear ht
        go_wp2_with (go_at_call 88; refine (risky_any _ _).mono ?_; rintro e w' ⟨rfl, rfl⟩)
        go_ret
        exact ⟨ret_bool (all_stop (fun c => !riskI c.toNat) s k hlt (by simp [ht'])).symm, rfl⟩
    · have ha := HA.out
      rw [take_all s k hlt] at ha
      have HB := hid ha
      clear ha
      go_wp2
      go_ret
      exact ⟨ret_bool HB.out.symm, rfl⟩

set_option maxHeartbeats 1000000 in
theorem languages_any (s : ByteArray) (w : World) (hs : s.size ≤ 140737488351232) :
    Calls Tryd.prog 67 #[.string s] w fun e w' => e = .returned (.bool (langV s.data.toList)) ∧ w = w' := by
  go_enter Tryd.func67, Tryd.ntmps67
  go_wp2
  go_loop [3, 6] (fun x i => ∃ k : Nat, k ≤ s.size ∧ i = .int .i64 k ∧ langV (s.data.toList.take k) = true) (fun x i => s.size - (intOf i).toNat)
  case atStart => exact ⟨0, Nat.zero_le _, rfl, rfl⟩
  case round =>
    obtain ⟨k, hk, rfl, hall⟩ := hrel
    have HA := hid hall
    clear hall
    by_cases hlt : k < s.size
    · have HT := hid (take_snoc s k hlt)
      by_cases ht : langI (s[k].toNat : Int) = true
      · go_wp2_with (go_at_call 89; refine (languageByte_any _ _).mono ?_; rintro e w' ⟨rfl, rfl⟩)
        go_round
        case rel => exact ⟨k + 1, by omega, by go_num, by unfold langV; rw [HT.out, List.all_append]; have := HA.out; unfold langV at this; rw [this]; simp [ht]⟩
        case measure => simp [intOf]; omega
      · have ht' : langI (s[k].toNat : Int) = false := by simpa using ht
        clear ht
        go_wp2_with (go_at_call 89; refine (languageByte_any _ _).mono ?_; rintro e w' ⟨rfl, rfl⟩)
        go_ret
        exact ⟨ret_bool (all_stop (fun c => langI c.toNat) s k hlt (by simp [ht'])).symm, rfl⟩
    · have ha := HA.out
      rw [take_all s k hlt] at ha
      have HB := hid ha
      clear ha
      go_wp2
      go_ret
      exact ⟨ret_bool HB.out.symm, rfl⟩

theorem xtens_app (d : Nat) (h : d < 10) (T : List UInt8) : (⟨#[48, 49, 50, 51, 52, 53, 54, 55, 56, 57]⟩ : ByteArray).extract d (d + 1) ++ ⟨T.toArray⟩ = ⟨(decC d :: T).toArray⟩ := by
  refine xext ?_
  rw [ByteArray.data_append, Array.toList_append]
  have : ((⟨#[48, 49, 50, 51, 52, 53, 54, 55, 56, 57]⟩ : ByteArray).extract d (d + 1)).data.toList = [decC d] := by
    rcases (show d = 0 ∨ d = 1 ∨ d = 2 ∨ d = 3 ∨ d = 4 ∨ d = 5 ∨ d = 6 ∨ d = 7 ∨ d = 8 ∨ d = 9 from by omega) with
      rfl | rfl | rfl | rfl | rfl | rfl | rfl | rfl | rfl | rfl <;> (rw [Lib.extract_data]; rfl)
  rw [this]; rfl

theorem tNe {T : List UInt8} (h : T ≠ []) : (⟨T.toArray⟩ : ByteArray).toList.isEmpty = false := xempty_no _ h

theorem wrd_q : Wrd [113] := ⟨by simp, by decide⟩

theorem word_app (s : ByteArray) (k : Nat) (h : k < s.size) (T : List UInt8) : (⟨T.toArray⟩ : ByteArray) ++ s.extract k (k + 1) = ⟨(T ++ [s[k]]).toArray⟩ := by
  refine xext ?_
  rw [ByteArray.data_append, Array.toList_append, Lib.extract_data, show k + 1 - k = 1 by omega, drop_cons s k h]
  rfl

end Go.Proofs.YtplabofdcnpcpaaDoor

namespace Go.Proofs.YtplabofdcnpcpaaDoor
open Go.RowKit

theorem list_eq_of {α : Type} {A B : List α} (hl : A.length = B.length) (h : ∀ j (h1 : j < A.length) (h2 : j < B.length), A[j] = B[j]) : A = B :=
  List.ext_getElem hl fun j h1 h2 => h j h1 h2

theorem str_beq (x y : List UInt8) : ((⟨x.toArray⟩ : ByteArray).toList == (⟨y.toArray⟩ : ByteArray).toList) = decide (x = y) := by
  rw [Lib.toList_data, Lib.toList_data]
  rw [Bool.eq_iff_iff]; simp

set_option maxHeartbeats 2000000 in
theorem sameT_any (v1 v2 : Value) (L1 L2 : List (List UInt8)) (w : World) (h1 : TxAt w v1 L1) (h2 : TxAt w v2 L2) (hl1 : L1.length ≤ 1000000) (hl2 : L2.length ≤ 1000000) :
    Calls Tryd.prog 38 #[v1, v2] w fun e w' => e = .returned (.bool (decide (L1 = L2))) ∧ Below w.heap.size w w' := by
  obtain ⟨a1, c1, rfl, hc1, hm1, hv1⟩ := h1.view
  obtain ⟨a2, c2, rfl, hc2, hm2, hv2⟩ := h2.view
  have H1 := hid h1
  have H2 := hid h2
  have V1 := hid hv1
  have V2 := hid hv2
  clear h1 h2 hv1 hv2
  by_cases hl : L1.length = L2.length
  · have hl' : ((L1.length : Int) == (L2.length : Int)) = true := by rw [beq_iff_eq]; omega
    go_enter Tryd.func38, Tryd.ntmps38
    go_wp2
    go_loopw [5] (fun i wr => ∃ k : Nat, k ≤ L1.length ∧ i = .int .i64 k ∧ (∀ j (h1 : j < L1.length) (h2 : j < L2.length), j < k → L1[j] = L2[j]) ∧ Below w.heap.size w wr) (fun i _ => L1.length - (intOf i).toNat)
    case atStart => exact ⟨0, Nat.zero_le _, rfl, fun j _ _ h => absurd h (by omega), Below.refl _ _⟩
    case round =>
      obtain ⟨k, hk, rfl, hall, hb⟩ := hrel
      have HA := hid hall
      clear hall
      by_cases hlt : k < L1.length
      · have hlt' : (k : Int) < (L1.length : Int) := by omega
        have hlt2' : (k : Int) < (L2.length : Int) := by omega
        obtain ⟨b1, o1, rfl, e1⟩ := V1.out k hlt
        obtain ⟨b2, o2, rfl, e2⟩ := V2.out k (by omega)
        have f1 : wr.cell? ⟨b1, o1 + k, none⟩ = some (.string ⟨L1[k].toArray⟩) := (hb.cell (World.block_lt_of_cell? w _ e1)).trans e1
        have f2 : wr.cell? ⟨b2, o2 + k, none⟩ = some (.string ⟨(L2[k]'(by omega)).toArray⟩) := (hb.cell (World.block_lt_of_cell? w _ e2)).trans e2
        clear e1 e2
        obtain ⟨x, hx⟩ : ∃ x, x = L1[k] := ⟨_, rfl⟩
        obtain ⟨y, hy⟩ : ∃ y, y = L2[k]'(by omega) := ⟨_, rfl⟩
        rw [← hx] at f1
        rw [← hy] at f2
        have HX := hid hx
        have HY := hid hy
        clear hx hy
        by_cases hxy : x = y
        · subst hxy
          go_wp2
          go_quiet (fail)
          go_wp2
          go_roundw
          case rel =>
            refine ⟨k + 1, by omega, by go_num, fun j h1 h2 hj => ?_, Go.below_drewN hb _⟩
            by_cases he : j = k
            · subst he; rw [← HX.out, ← HY.out]
            · exact HA.out j h1 h2 (by omega)
          case measure => simp [intOf]; omega
        · have hne : (x == y) = false := by simpa using hxy
          have HN := hid (show ¬ L1 = L2 from fun e => hxy (by rw [HX.out, HY.out]; subst e; rfl))
          go_wp2
          go_quiet (fail)
          go_wp2
          go_ret
          exact ⟨ret_bool (by simp [HN.out]), Go.below_drewN hb _⟩
      · have HE := hid (show L1 = L2 from list_eq_of hl fun j h1 h2 => HA.out j h1 h2 (by omega))
        go_wp2
        go_ret
        exact ⟨ret_bool (by simp [HE.out]), hb⟩
  · have hl' : ((L1.length : Int) == (L2.length : Int)) = false := by rw [beq_eq_false_iff_ne]; omega
    have HN := hid (show ¬ L1 = L2 from fun e => hl (by rw [e]))
    go_enter Tryd.func38, Tryd.ntmps38
    go_wp2
    go_ret
    exact ⟨ret_bool (by simp [HN.out]), Below.refl _ _⟩

end Go.Proofs.YtplabofdcnpcpaaDoor
