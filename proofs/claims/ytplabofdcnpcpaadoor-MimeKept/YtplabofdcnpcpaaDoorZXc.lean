/-
  Lists of headers and of texts, as they lie in memory.
-/
import Derived.Test.YtplabofdcnpcpaaDoorZXb
import Derived.Laws.OwnMore
import Derived.Below
import Derived.WalkSmall
import Derived.Lib.SmallJoins
set_option linter.unusedSimpArgs false
set_option linter.unusedVariables false
namespace Go.Proofs.YtplabofdcnpcpaaDoor
open Go.RowKit

def cellsT (L : List (List UInt8)) : List Value := L.map fun x => Value.string ⟨x.toArray⟩

theorem cellsT_app (a b : List (List UInt8)) : cellsT (a ++ b) = cellsT a ++ cellsT b := by simp [cellsT]
theorem cellsT_len (a : List (List UInt8)) : (cellsT a).length = a.length := by simp [cellsT]
theorem cellsT_one (X : ByteArray) : cellsT [X.data.toList] = [.string X] := by
  show [Value.string ⟨X.data.toList.toArray⟩] = _
  rw [Lib.mk_data]
theorem cellsT_l (x : List UInt8) : cellsT [x] = [.string ⟨x.toArray⟩] := rfl

def cellsH (L : List Hd) : List Value := L.flatMap fun h => [.string ⟨h.name.toArray⟩, .string ⟨h.value.toArray⟩]

theorem cellsH_app (a b : List Hd) : cellsH (a ++ b) = cellsH a ++ cellsH b := by simp [cellsH]
theorem cellsH_len (a : List Hd) : (cellsH a).length = a.length * 2 := by
  induction a with
  | nil => rfl
  | cons h a ih => simp [cellsH] at ih ⊢; omega
theorem cellsH_one (h : Hd) : cellsH [h] = [.string ⟨h.name.toArray⟩, .string ⟨h.value.toArray⟩] := rfl

theorem cellsH_at (L : List Hd) : ∀ j (h : j < L.length), (cellsH L)[j * 2]? = some (.string ⟨L[j].name.toArray⟩) ∧ (cellsH L)[j * 2 + 1]? = some (.string ⟨L[j].value.toArray⟩) := by
  induction L with
  | nil => intro j h; simp at h
  | cons a L ih =>
    intro j h
    have e : cellsH (a :: L) = Value.string ⟨a.name.toArray⟩ :: Value.string ⟨a.value.toArray⟩ :: cellsH L := rfl
    cases j with
    | zero => rw [e]; exact ⟨rfl, rfl⟩
    | succ j =>
      have := ih j (by simpa using h)
      rw [e, show (j + 1) * 2 = j * 2 + 1 + 1 by omega]
      simpa using this

/-- The texts L lie in block b, from off on. -/
def TxL (w : World) (b off : Nat) (L : List (List UInt8)) : Prop := ∀ j (h : j < L.length), w.cell? ⟨b, off + j, none⟩ = some (.string ⟨L[j].toArray⟩)

/-- The value v reads as the texts L. -/
def TxAt (w : World) (v : Value) (L : List (List UInt8)) : Prop :=
  ∃ a cap, v = .slice a L.length cap ∧ L.length ≤ cap ∧ cap ≤ maxLen ∧ ∀ j (hj : j < L.length), ∃ b off, a = some ⟨b, off, none⟩ ∧ w.cell? ⟨b, off + j, none⟩ = some (.string ⟨L[j].toArray⟩)

theorem TxAt.view {w : World} {v : Value} {L : List (List UInt8)} (h : TxAt w v L) : ∃ a cap, v = .slice a L.length cap ∧ L.length ≤ cap ∧ cap ≤ maxLen ∧ ∀ j (hj : j < L.length), ∃ b off, a = some ⟨b, off, none⟩ ∧ w.cell? ⟨b, off + j, none⟩ = some (.string ⟨L[j].toArray⟩) := h

theorem tx_of {w : World} {b off cap : Nat} {L : List (List UInt8)} (h1 : L.length ≤ cap) (h2 : cap ≤ maxLen) (h : TxL w b off L) : TxAt w (.slice (some ⟨b, off, none⟩) L.length cap) L :=
  ⟨_, cap, rfl, h1, h2, fun j hj => ⟨b, off, rfl, h j hj⟩⟩

theorem tx_nil (w : World) : TxAt w (.slice none 0 0) [] := ⟨none, 0, rfl, Nat.le_refl _, by decide, fun j hj => by simp at hj⟩

/-- The headers L lie in block b, from off on. -/
def HdS (w : World) (b off : Nat) (L : List Hd) : Prop :=
  ∀ j (h : j < L.length), w.cell? ⟨b, off + j * 2, none⟩ = some (.string ⟨L[j].name.toArray⟩) ∧ w.cell? ⟨b, off + j * 2 + 1, none⟩ = some (.string ⟨L[j].value.toArray⟩)

/-- The value v reads as the headers L. -/
def HdAt (w : World) (v : Value) (L : List Hd) : Prop :=
  ∃ a cap, v = .slice a L.length cap ∧ L.length ≤ cap ∧ cap ≤ maxLen ∧ ∀ j (hj : j < L.length), ∃ b off, a = some ⟨b, off, none⟩ ∧ w.cell? ⟨b, off + j * 2, none⟩ = some (.string ⟨L[j].name.toArray⟩) ∧ w.cell? ⟨b, off + j * 2 + 1, none⟩ = some (.string ⟨L[j].value.toArray⟩)

theorem HdAt.view {w : World} {v : Value} {L : List Hd} (h : HdAt w v L) : ∃ a cap, v = .slice a L.length cap ∧ L.length ≤ cap ∧ cap ≤ maxLen ∧ ∀ j (hj : j < L.length), ∃ b off, a = some ⟨b, off, none⟩ ∧ w.cell? ⟨b, off + j * 2, none⟩ = some (.string ⟨L[j].name.toArray⟩) ∧ w.cell? ⟨b, off + j * 2 + 1, none⟩ = some (.string ⟨L[j].value.toArray⟩) := h

theorem hd_of {w : World} {b off cap : Nat} {L : List Hd} (h1 : L.length ≤ cap) (h2 : cap ≤ maxLen) (h : HdS w b off L) : HdAt w (.slice (some ⟨b, off, none⟩) L.length cap) L :=
  ⟨_, cap, rfl, h1, h2, fun j hj => ⟨b, off, rfl, h j hj⟩⟩

theorem hd_nil (w : World) : HdAt w (.slice none 0 0) [] := ⟨none, 0, rfl, Nat.le_refl _, by decide, fun j hj => by simp at hj⟩

theorem HdS.kept {w w' : World} {b off : Nat} {L : List Hd} (h : HdS w b off L) (hb : Below w.heap.size w w') : HdS w' b off L := fun j hj => by
  have h1 := h j hj
  exact ⟨(hb.cell (World.block_lt_of_cell? w _ h1.1)).trans h1.1, (hb.cell (World.block_lt_of_cell? w _ h1.2)).trans h1.2⟩

theorem TxL.kept {w w' : World} {b off : Nat} {L : List (List UInt8)} (h : TxL w b off L) (hb : Below w.heap.size w w') : TxL w' b off L := fun j hj => by
  have h1 := h j hj
  exact (hb.cell (World.block_lt_of_cell? w _ h1)).trans h1

theorem HdAt.kept {w w' : World} {v : Value} {L : List Hd} (h : HdAt w v L) (hb : Below w.heap.size w w') : HdAt w' v L := by
  obtain ⟨a, cap, h1, h2, h3, h4⟩ := h
  refine ⟨a, cap, h1, h2, h3, fun j hj => ?_⟩
  obtain ⟨b, off, e, c1, c2⟩ := h4 j hj
  exact ⟨b, off, e, (hb.cell (World.block_lt_of_cell? w _ c1)).trans c1, (hb.cell (World.block_lt_of_cell? w _ c2)).trans c2⟩

theorem TxAt.kept {w w' : World} {v : Value} {L : List (List UInt8)} (h : TxAt w v L) (hb : Below w.heap.size w w') : TxAt w' v L := by
  obtain ⟨a, cap, h1, h2, h3, h4⟩ := h
  refine ⟨a, cap, h1, h2, h3, fun j hj => ?_⟩
  obtain ⟨b, off, e, c1⟩ := h4 j hj
  exact ⟨b, off, e, (hb.cell (World.block_lt_of_cell? w _ c1)).trans c1⟩

theorem own_txt' {w : World} {B : Nat} {e : TypeId} {v : Value} {L : List (List UInt8)} (h : w.ownsRow B e 1 v L.length (cellsT L)) : TxAt w v L := by
  have h2 := h.2
  rcases h2 with ⟨hv, hn⟩ | ⟨g, cap, cur, rfl, hg, hrow, hnc, hcm, hcs, htake⟩
  · obtain rfl := List.eq_nil_of_length_eq_zero hn
    rw [hv]; exact tx_nil w
  · refine tx_of hnc hcm fun j hj => ?_
    rw [Nat.zero_add, h.cellAt j (by omega)]
    simp [cellsT, hj]

theorem own_hd {w : World} {B : Nat} {e : TypeId} {v : Value} {L : List Hd} (h : w.ownsRow B e 2 v L.length (cellsH L)) : HdAt w v L := by
  have h2 := h.2
  rcases h2 with ⟨hv, hn⟩ | ⟨g, cap, cur, rfl, hg, hrow, hnc, hcm, hcs, htake⟩
  · obtain rfl := List.eq_nil_of_length_eq_zero hn
    rw [hv]; exact hd_nil w
  · refine hd_of hnc hcm fun j hj => ?_
    rw [Nat.zero_add, h.cellAt _ (by omega), h.cellAt _ (by omega)]
    exact cellsH_at L j hj

theorem own_same {w w' : World} {B : Nat} {e : TypeId} {k : Nat} {v : Value} {n : Nat} {xs : List Value} (h : w.ownsRow B e k v n xs) (hb : Below w.heap.size w w') : w'.ownsRow B e k v n xs := by
  rcases h.2 with h' | ⟨g, cap, cur, hv, hg, hrow, rest⟩
  · exact ⟨h.1, .inl h'⟩
  · exact ⟨h.1, .inr ⟨g, cap, cur, hv, hg, (hb.block g (Array.getElem?_eq_some_iff.1 hrow).1).trans hrow, rest⟩⟩

theorem belowT {a b c : World} (h1 : Below a.heap.size a b) (h2 : Below b.heap.size b c) : Below a.heap.size a c := h1.trans (h2.mono h1.size)

theorem xba {a b : ByteArray} (h : a.data.toList = b.data.toList) : a = b := by
  cases a; cases b; simp at h; simp [h]

theorem xmk (l : List UInt8) : (⟨l.toArray⟩ : ByteArray).data.toList = l := rfl
theorem xself (b : ByteArray) : b = ⟨b.data.toList.toArray⟩ := xba rfl
theorem xsize (l : List UInt8) : (⟨l.toArray⟩ : ByteArray).size = l.length := by simp [ByteArray.size]

end Go.Proofs.YtplabofdcnpcpaaDoor
