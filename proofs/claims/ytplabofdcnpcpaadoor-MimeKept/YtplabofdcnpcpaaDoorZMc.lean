/-
  The walks of mime's reader: pass.
-/
import Derived.Test.YtplabofdcnpcpaaDoorZMd
import Derived.Test.YtplabofdcnpcpaaDoorZXi
import Derived.Test.YtplabofdcnpcpaaDoorZGa
set_option linter.unusedSimpArgs false
set_option linter.unusedVariables false
namespace Go.Proofs.YtplabofdcnpcpaaDoor
open Go.RowKit

/-- The block b is a reader that has R left. -/
def Rdr (w : World) (b : Nat) (R : ByteArray) : Prop := w.heap[b]? = some (.cells #[.string R] 87 (0, 0))

theorem Rdr.lt {w : World} {b : Nat} {R : ByteArray} (h : Rdr w b R) : b < w.heap.size := (Array.getElem?_eq_some_iff.1 h).1
theorem Rdr.cell {w : World} {b : Nat} {R : ByteArray} (h : Rdr w b R) : w.cell? ⟨b, 0, none⟩ = some (.string R) := by rw [Lib.cell_of_heap h]; rfl
theorem Rdr.frozen {w : World} {b : Nat} {R : ByteArray} (h : Rdr w b R) : w.frozen? ⟨b, 0, none⟩ = false := Lib.frozen_of_heap h 0
theorem Rdr.set {w : World} {b : Nat} {R : ByteArray} (h : Rdr w b R) (T : ByteArray) : Rdr (w.setCell ⟨b, 0, none⟩ (.string T)) b T := Lib.heap_setCell_same h (i := 0) (.string T)
theorem Rdr.kept {w w' : World} {b : Nat} {R : ByteArray} (h : Rdr w b R) (hb : Below w.heap.size w w') : Rdr w' b R := (hb.block b h.lt).trans h

/-- Of what was there nothing has turned but block b. -/
def But (b : Nat) (w w' : World) : Prop := Below b w w' ∧ ∀ k, b < k → k < w.heap.size → w'.heap[k]? = w.heap[k]?

theorem But.refl (b : Nat) (w : World) : But b w w := ⟨Below.refl _ _, fun _ _ _ => rfl⟩
theorem But.of {b : Nat} {w w' : World} (h : Below w.heap.size w w') (hb : b ≤ w.heap.size) : But b w w' := ⟨h.mono hb, fun k _ hk => h.block k hk⟩
theorem But.trans {b : Nat} {w w1 w2 : World} (h : But b w w1) (h2 : But b w1 w2) : But b w w2 :=
  ⟨h.1.trans h2.1, fun k hb hk => (h2.2 k hb (by have := h.1.size; omega)).trans (h.2 k hb hk)⟩
theorem But.then {b : Nat} {w w1 w2 : World} (h : But b w w1) (h2 : Below w1.heap.size w1 w2) (hb : b ≤ w1.heap.size) : But b w w2 := h.trans (But.of h2 hb)
theorem But.set {b : Nat} {w w1 : World} (h : But b w w1) (j : Nat) (x : Value) : But b w (w1.setCell ⟨b, j, none⟩ x) :=
  ⟨h.1.setCell (p := ⟨b, j, none⟩) (Nat.le_refl _) _, fun k hb hk => by
    rw [heap_setCell_other _ _ _ _ (show k ≠ b by omega)]; exact h.2 k hb hk⟩
theorem But.size {b : Nat} {w w1 : World} (h : But b w w1) : w.heap.size ≤ w1.heap.size := h.1.size
theorem But.block {b : Nat} {w w1 : World} (h : But b w w1) (k : Nat) (hk : k < w.heap.size) (hne : k ≠ b) : w1.heap[k]? = w.heap[k]? := by
  rcases Nat.lt_or_gt_of_ne hne with h1 | h1
  · exact h.1.block k h1
  · exact h.2 k h1 hk
/-- A world of which the block is new. -/
theorem But.below {b B : Nat} {v w w1 : World} (h0 : Below B v w) (h : But b w w1) (hB : B ≤ b) : Below B v w1 := h0.trans (h.1.mono hB)

theorem But.own {b B n k : Nat} {e : TypeId} {v : Value} {xs : List Value} {w w1 : World} (h : But b w w1) (ho : w.ownsRow B e k v n xs) (hne : v.ownBlock ≠ some b) : w1.ownsRow B e k v n xs := by
  rcases ho.2 with h' | ⟨g, cap, cur, hv, hg, hrow, rest⟩
  · exact ⟨ho.1, .inl h'⟩
  · refine ⟨ho.1, .inr ⟨g, cap, cur, hv, hg, (h.block g (Array.getElem?_eq_some_iff.1 hrow).1 ?_).trans hrow, rest⟩⟩
    rintro rfl
    subst hv
    exact hne rfl

def dr1 (R : ByteArray) : ByteArray := ⟨(R.data.toList.drop 1).toArray⟩
theorem dr1_size (R : ByteArray) : (dr1 R).size = R.size - 1 := by
  unfold dr1; rw [xsize, List.length_drop]; simp
theorem dr1_ext (R : ByteArray) : R.extract 1 R.size = dr1 R := xba (by rw [extract_drop]; rfl)

theorem head_at (R : ByteArray) (h : 0 < R.size) : R.data.toList.head? = some (R[0]'h) := by
  rw [← Lib.data_getElem? R 0 h, List.head?_eq_getElem?]

theorem ret_tf {a b : Bool} (h : a = b) : Ending.returned (.bool a) = .returned (.bool b) := by rw [h]

theorem byte_bne {a b : UInt8} (h : a ≠ b) : ((a.toNat : Int) != (b.toNat : Int)) = true := by
  rw [bne_iff_ne]
  intro e
  exact h (UInt8.toNat_inj.1 (by omega))

set_option maxHeartbeats 1000000 in
set_option maxRecDepth 100000 in
theorem pass_yes (c : UInt8) (b : Nat) (R : ByteArray) (w : World) (hR : Rdr w b R) (hh : R.data.toList.head? = some c) :
    Calls Tryd.prog 73 #[.pointer (some ⟨b, 0, none⟩), .int .u8 (c.toNat : Int)] w fun e w' => e = .returned (.bool true) ∧ Rdr w' b (dr1 R) ∧ But b w w' := by
  have hne : R.data.toList ≠ [] := fun e => by rw [e] at hh; cases hh
  have h0 : 0 < R.size := by
    rw [Lib.size_eq]; exact List.length_pos_iff.2 hne
  have hc : R[0]'h0 = c := by rw [head_at R h0] at hh; exact Option.some.inj hh
  have hc1 := hR.cell
  have hf1 := hR.frozen
  have HE := hid (dr1_ext R)
  have HR := hid hR
  have he := xempty_no R hne
  clear hR hh hne
  subst hc
  go_enter Tryd.func73, Tryd.ntmps73
  go_wp2
  go_ret
  rw [HE.out]
  exact ⟨rfl, HR.out.set _, (But.refl _ _).set _ _⟩

set_option maxHeartbeats 1000000 in
set_option maxRecDepth 100000 in
theorem pass_no (c : UInt8) (b : Nat) (R : ByteArray) (w : World) (hR : Rdr w b R) (hh : R.data.toList.head? ≠ some c) :
    Calls Tryd.prog 73 #[.pointer (some ⟨b, 0, none⟩), .int .u8 (c.toNat : Int)] w fun e w' => e = .returned (.bool false) ∧ w' = w := by
  have hc1 := hR.cell
  clear hR
  by_cases hne : R.data.toList = []
  · have he : R.toList.isEmpty = true := by rw [Lib.toList_data, hne]; rfl
    clear hh hne
    go_enter Tryd.func73, Tryd.ntmps73
    go_wp2
    go_ret
    exact ⟨rfl, rfl⟩
  · have h0 : 0 < R.size := by
      rw [Lib.size_eq]; exact List.length_pos_iff.2 hne
    have he := xempty_no R hne
    have hc : R[0]'h0 ≠ c := fun e => hh (by rw [head_at R h0, e])
    have hc2 := byte_bne hc
    clear hh hne hc
    go_enter Tryd.func73, Tryd.ntmps73
    go_wp2
    go_ret
    exact ⟨rfl, rfl⟩

end Go.Proofs.YtplabofdcnpcpaaDoor
