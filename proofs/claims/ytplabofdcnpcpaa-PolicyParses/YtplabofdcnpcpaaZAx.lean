/-
  A policy under way, of the document's own Parse; lists of words behind their first one.
-/
import Derived.Test.YtplabofdcnpcpaaZAw
set_option linter.unusedSimpArgs false
set_option linter.unusedVariables false
namespace Go.Proofs.Ytplabofdcnpcpaa
open Go.RowKit

theorem infoRuR : (Try.prog.info? 80).map (fun i => (i.zero, i.size, i.bytes)) = some (some (.agg #[.string ByteArray.empty, .slice none 0 0]), 2, 40) := by kernel_rfl

/-- What a policy under way is in memory: blocks b4 (the answer's) and b5 (its own), its row of rules. -/
def PIr (w wr : World) (rp : Bool) (v : Value) (Q : List (ByteArray × Value)) (L : List Ru) : Prop :=
  wr.heap[w.heap.size]? = some (.cells #[.slice none 0 0, .bool false] 41 (0, 0)) ∧ wr.heap[w.heap.size + 1]? = some (.cells #[v, .bool rp] 41 (0, 0)) ∧
  wr.ownsRow (w.heap.size + 2) 80 2 v L.length (cellsR Q) ∧ RdO wr (w.heap.size + 2) Q L ∧ Below w.heap.size w wr

theorem PIr.kept {w wr wr' : World} {rp : Bool} {v : Value} {Q : List (ByteArray × Value)} {L : List Ru} (h : PIr w wr rp v Q L) (hb : Below wr.heap.size wr wr') : PIr w wr' rp v Q L := by
  obtain ⟨h1, h2, h3, h4, h5⟩ := h
  exact ⟨row_kept h1 hb, row_kept h2 hb, own_kept h3 hb, h4.kept hb, below2 h5 hb⟩

theorem PIr.lt {w wr : World} {rp : Bool} {v : Value} {Q : List (ByteArray × Value)} {L : List Ru} (h : PIr w wr rp v Q L) : w.heap.size + 2 ≤ wr.heap.size := (Array.getElem?_eq_some_iff.1 h.2.1).1

theorem PIr.cells {w wr : World} {rp : Bool} {v : Value} {Q : List (ByteArray × Value)} {L : List Ru} (h : PIr w wr rp v Q L) : wr.cell? ⟨w.heap.size + 1, 0, none⟩ = some v ∧ wr.cell? ⟨w.heap.size + 1, 1, none⟩ = some (.bool rp) ∧ wr.frozen? ⟨w.heap.size + 1, 0, none⟩ = false :=
  ⟨by rw [Lib.cell_of_heap h.2.1]; rfl, by rw [Lib.cell_of_heap h.2.1]; rfl, Lib.frozen_of_heap h.2.1 0⟩

/-- A rule more. -/
theorem PIr.snoc {w wr w2 w4 : World} {rp : Bool} {v v' V : Value} {Q : List (ByteArray × Value)} {L : List Ru} {r : Ru} {B : Nat} (h : PIr w wr rp v Q L) (hb : Below wr.heap.size wr w2) (hV : SlV w2 B 9 V (cellsT r.vals)) (hB : wr.heap.size ≤ B)
    (hown : w4.ownsRow (w.heap.size + 2) 80 2 v' (L.length + 1) (cellsR Q ++ [.string ⟨r.name.toArray⟩, V])) (hgrow : w2.grownBy w4 v.ownBlock) :
    PIr w (w4.setCell ⟨w.heap.size + 1, 0, none⟩ v') rp v' (Q ++ [(⟨r.name.toArray⟩, V)]) (L ++ [r]) := by
  have hlt := h.lt
  have hold := h.2.2.2.1.old
  obtain ⟨h1, h2, h3, h4, h5⟩ := h.kept hb
  have hs := hb.size
  have hvk : ∀ k, v.ownBlock = some k → ∃ cur, w2.heap[k]? = some (Obj.cells cur 80 (0, 0)) := fun k hk => ownsRow_kind h3 k hk
  have hkeep : ∀ k cur T fz, w2.heap[k]? = some (Obj.cells cur T fz) → T ≠ 80 → w4.heap[k]? = some (Obj.cells cur T fz) := fun k cur T fz hk hT => by
    refine (hgrow.block k (Array.getElem?_eq_some_iff.1 hk).1 (fun e => ?_)).trans hk
    obtain ⟨c2, hc2⟩ := hvk k e.symm
    rw [hk] at hc2
    injection hc2 with hc2
    injection hc2 with _ hc2 _
    exact hT hc2
  have g1 := hkeep _ _ _ _ h1 (by decide)
  have g2 := hkeep _ _ _ _ h2 (by decide)
  have hv' : ∀ k, v'.ownBlock = some k → k ≠ w.heap.size + 1 := fun k hk => by
    have := (hown.lt k hk).1
    omega
  have hstr : ∀ k : Nat, (∃ cur fz, w2.heap[k]? = some (Obj.cells cur 9 fz)) → (w4.setCell ⟨w.heap.size + 1, 0, none⟩ v').heap[k]? = w2.heap[k]? := by
    rintro k ⟨cur, fz, hk⟩
    have hk4 := hkeep k cur _ fz hk (by decide)
    rw [heap_setCell_other w4 ⟨w.heap.size + 1, 0, none⟩ k v' (kind_nf hk4 g2 (by decide)), hk4, hk]
  refine ⟨?_, ?_, ?_, ?_, ?_⟩
  · rw [heap_setCell_other w4 ⟨w.heap.size + 1, 0, none⟩ w.heap.size v' (by simp)]; exact g1
  · exact heap_setCell_same w4 (w.heap.size + 1) 0 _ _ v' g2
  · rw [cellsR_app, cellsR_one, List.length_append]
    exact ownsRow_same hown fun k hk => heap_setCell_other w4 ⟨w.heap.size + 1, 0, none⟩ k v' (hv' k hk)
  · have hV2 : SlV w2 (w.heap.size + 2) 9 V (cellsT r.vals) := hV.low0 (by omega)
    refine (RdO.keptB (w := w2) ?_ hstr)
    refine h4.snoc hV2 fun q hq => ?_
    by_cases hn : q.2.ownBlock = none
    · exact .inl hn
    · right
      intro e
      cases hk : q.2.ownBlock with
      | none => exact hn hk
      | some k =>
        have a1 := (hold q hq k hk).2
        have a2 := (hV.lt k (by rw [← e, hk])).1
        omega
  · have hle : w.heap.size ≤ w2.heap.size := h5.size
    exact (h5.grown hgrow hle (fun k hk => by have := (h3.lt k hk).1; omega)).setCell (p := ⟨w.heap.size + 1, 0, none⟩) (by simp) _

def RParsePost (l : List UInt8) (rp : Bool) (w : World) (e : Ending) (w' : World) : Prop :=
  ∃ v Q, e = .returned (.agg #[v, .bool rp]) ∧ w'.ownsRow w.heap.size 80 2 v (polV l).length (cellsR Q) ∧ RdO w' w.heap.size Q (polV l) ∧ Below w.heap.size w w'

theorem results_q1 {fn : Func} {p : Tmp} (h : fn.results = #[.cell p 41]) (tmps : Array Value) (w : World) (b : Nat) (a : Option Addr) (n c : Nat) (rp : Bool) (hp : tmps.getD p undef = .pointer (some ⟨b, 0, none⟩)) (hc : w.rangeAt b 0 [.slice a n c, .bool rp]) : (results fn tmps).run Try.prog w = .ok (.agg #[.slice a n c, .bool rp]) w := by
  rw [Array.getD_eq_getD_getElem?] at hp
  simp only [results, h]
  simp [Sem.run_bind, Result.andThen, hp, asAddr, run_loadVar_mid w b 0 41 [.slice a n c, .bool rp] _ hc Try.underlying41 rfl (by kernel_rfl)]

theorem range_q {w : World} {b : Nat} {x y : Value} (h : w.heap[b]? = some (.cells #[x, y] 41 (0, 0))) : w.rangeAt b 0 [x, y] := fun j u hu => by
  rw [Nat.zero_add, Lib.cell_of_heap h]
  match j, hu with
  | 0, hu => simpa using hu
  | 1, hu => simpa using hu
  | j + 2, hu => simp at hu

/-- The end: the policy is copied to the answer's place. -/
theorem PIr.out {w wr : World} {rp : Bool} {a : Option Addr} {n c : Nat} {Q : List (ByteArray × Value)} {L : List Ru} (h : PIr w wr rp (.slice a n c) Q L) {l : List UInt8} (hl : L = polV l) :
    ((wr.setCell ⟨w.heap.size, 0, none⟩ (.slice a n c)).setCell ⟨w.heap.size, 1, none⟩ (.bool rp)).rangeAt w.heap.size 0 [.slice a n c, .bool rp] ∧
    RParsePost l rp w (.returned (.agg #[.slice a n c, .bool rp])) ((wr.setCell ⟨w.heap.size, 0, none⟩ (.slice a n c)).setCell ⟨w.heap.size, 1, none⟩ (.bool rp)) := by
  obtain ⟨h1, h2, h3, h4, h5⟩ := h
  have k1 := Lib.heap_setCell_same h1 (i := 0) (.slice a n c)
  have k2 := Lib.heap_setCell_same k1 (i := 1) (.bool rp)
  refine ⟨range_q k2, .slice a n c, Q, rfl, ?_, ?_, ?_⟩
  · rw [← hl]
    refine own_low10 (ownsRow_same h3 fun k hk => ?_) (by omega : w.heap.size ≤ w.heap.size + 2)
    have hne : k ≠ w.heap.size := by have := (h3.lt k hk).1; omega
    rw [heap_setCell_other _ ⟨w.heap.size, 1, none⟩ k _ hne, heap_setCell_other _ ⟨w.heap.size, 0, none⟩ k _ hne]
  · rw [← hl]
    refine (h4.keptB ?_).low (by omega)
    rintro k ⟨cur, fz, hk⟩
    have hne : k ≠ w.heap.size := kind_nf hk h1 (by decide)
    rw [heap_setCell_other _ ⟨w.heap.size, 1, none⟩ k _ hne, heap_setCell_other _ ⟨w.heap.size, 0, none⟩ k _ hne]
  · exact below_set2 h5 (Nat.le_refl _)


/-- A rule more leaves texts alone. -/
theorem PIr.texts {w w2 w4 : World} {rp : Bool} {v v' : Value} {Q : List (ByteArray × Value)} {L : List Ru} (h : PIr w w2 rp v Q L) (hgrow : w2.grownBy w4 v.ownBlock) : ∀ k : Nat, (∃ cur fz, w2.heap[k]? = some (Obj.cells cur 9 fz)) → (w4.setCell ⟨w.heap.size + 1, 0, none⟩ v').heap[k]? = w2.heap[k]? := by
  obtain ⟨h1, h2, h3, h4, h5⟩ := h
  have hkeep : ∀ k cur T fz, w2.heap[k]? = some (Obj.cells cur T fz) → T ≠ 80 → w4.heap[k]? = some (Obj.cells cur T fz) := fun k cur T fz hk hT => by
    refine (hgrow.block k (Array.getElem?_eq_some_iff.1 hk).1 (fun e => ?_)).trans hk
    obtain ⟨c2, hc2⟩ := ownsRow_kind h3 k e.symm
    rw [hk] at hc2
    injection hc2 with hc2
    injection hc2 with _ hc2 _
    exact hT hc2
  rintro k ⟨cur, fz, hk⟩
  have hk4 := hkeep k cur _ fz hk (by decide)
  rw [heap_setCell_other w4 ⟨w.heap.size + 1, 0, none⟩ k v' (kind_nf hk4 (hkeep _ _ _ _ h2 (by decide)) (by decide)), hk4, hk]

def tlC (A n c : Nat) : Value := .slice (some ⟨A, if c = 1 then 0 else 1, none⟩) (n - 1) (c - 1)

theorem slice_wordsC (A n c : Nat) (w : World) (hn : 1 ≤ n) (hc : n ≤ c) : (Instr.sliceAt 22 (.slice (some ⟨A, 0, none⟩) n c) (some (.int .i64 1)) none none).run Try.prog w = .ok (tlC A n c) w := by
  have und : Try.prog.underlying 22 = some (.slice (Try.prog.elem 22)) := by kernel_rfl
  have sz : (sizeOf (Try.prog.elem 22)).run Try.prog w = .ok 1 w := by kernel_rfl
  rw [run_sliceAt_slice (h := und), run_slice_l (ht := und) (h0 := by omega) (h1 := by omega), sz]
  simp only [Result.andThen, sliced, tlC]
  by_cases h : c = 1
  · simp [h]
  · rw [if_neg (by simp; omega)]
    simp [h, Addr.add_lit]

theorem tlC_slv {w : World} {B A n c : Nat} {x : List UInt8} {t : List (List UInt8)} (h : w.ownsRow B 9 1 (.slice (some ⟨A, 0, none⟩) n c) n (cellsT (x :: t))) (hn : n = t.length + 1) : SlV w B 9 (tlC A n c) (cellsT t) := by
  rcases h.2 with ⟨e, _⟩ | ⟨g, cap, cur, e, hg, hrow, hnc, hcm, hcs, htake⟩
  · cases e
  · injection e with e1 _ e3
    injection e1 with e1
    injection e1 with e4 _
    subst e4 e3
    unfold tlC
    refine .inr ⟨A, if c = 1 then 0 else 1, c - 1, cur, by rw [cellsT_len]; congr 1; omega, hg, hrow, by rw [cellsT_len]; omega, by split <;> omega, by omega, fun j u hu => ?_⟩
    have hj : j < t.length := by have := (List.getElem?_eq_some_iff.1 hu).1; simpa [cellsT] using this
    rw [if_neg (by omega)]
    have h1 := h.cellAt (g := A) (1 + j) (by omega)
    rw [Lib.cell_of_heap hrow] at h1
    rw [h1, show 1 + j = j + 1 by omega]
    exact hu

theorem own_some {w : World} {B : Nat} {e : TypeId} {k : Nat} {v : Value} {n : Nat} {xs : List Value} (h : w.ownsRow B e k v n xs) (hn : 0 < n) : ∃ g cap, v = .slice (some ⟨g, 0, none⟩) n cap ∧ n ≤ cap ∧ cap ≤ maxLen := by
  rcases h.2 with ⟨hv, h0⟩ | ⟨g, cap, cur, rfl, _, _, hnc, hcm, _⟩
  · omega
  · exact ⟨g, cap, rfl, hnc, hcm⟩

end Go.Proofs.Ytplabofdcnpcpaa
