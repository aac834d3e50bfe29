/-
  The walk of policy's Parse.
-/
import Derived.Test.YtplabofdcnpcpaaZAf
import Derived.Test.YtplabofdcnpcpaaZGa
import Derived.Laws.AppendOwn
set_option linter.unusedSimpArgs false
set_option linter.unusedVariables false
namespace Go.Proofs.Ytplabofdcnpcpaa
open Go.RowKit

theorem infoRu : (Try.prog.info? 52).map (fun i => (i.zero, i.size, i.bytes)) = some (some (.agg #[.string ByteArray.empty, .slice none 0 0]), 2, 40) := by kernel_rfl

theorem own_form {w : World} {B : Nat} {e : TypeId} {k : Nat} {v : Value} {n : Nat} {xs : List Value} (h : w.ownsRow B e k v n xs) : ∃ a cap, v = .slice a n cap ∧ n ≤ cap ∧ cap ≤ maxLen := by
  rcases h.2 with ⟨hv, hn⟩ | ⟨g, cap, cur, rfl, _, _, hnc, hcm, _⟩
  · subst hn; exact ⟨none, 0, hv, Nat.le_refl _, by decide⟩
  · exact ⟨_, cap, rfl, hnc, hcm⟩

/-- What a policy under way is in memory: blocks b4 (the answer's) and b5 (its own), its row of rules. -/
def PI (w wr : World) (rp : Bool) (v : Value) (Q : List (ByteArray × Value)) (L : List Ru) : Prop :=
  wr.heap[w.heap.size]? = some (.cells #[.slice none 0 0, .bool false] 33 (0, 0)) ∧ wr.heap[w.heap.size + 1]? = some (.cells #[v, .bool rp] 33 (0, 0)) ∧
  wr.ownsRow (w.heap.size + 2) 52 2 v L.length (cellsR Q) ∧ RdO wr (w.heap.size + 2) Q L ∧ Below w.heap.size w wr

theorem PI.kept {w wr wr' : World} {rp : Bool} {v : Value} {Q : List (ByteArray × Value)} {L : List Ru} (h : PI w wr rp v Q L) (hb : Below wr.heap.size wr wr') : PI w wr' rp v Q L := by
  obtain ⟨h1, h2, h3, h4, h5⟩ := h
  exact ⟨row_kept h1 hb, row_kept h2 hb, own_kept h3 hb, h4.kept hb, below2 h5 hb⟩

theorem PI.lt {w wr : World} {rp : Bool} {v : Value} {Q : List (ByteArray × Value)} {L : List Ru} (h : PI w wr rp v Q L) : w.heap.size + 2 ≤ wr.heap.size := (Array.getElem?_eq_some_iff.1 h.2.1).1

theorem PI.cells {w wr : World} {rp : Bool} {v : Value} {Q : List (ByteArray × Value)} {L : List Ru} (h : PI w wr rp v Q L) : wr.cell? ⟨w.heap.size + 1, 0, none⟩ = some v ∧ wr.cell? ⟨w.heap.size + 1, 1, none⟩ = some (.bool rp) ∧ wr.frozen? ⟨w.heap.size + 1, 0, none⟩ = false :=
  ⟨by rw [Lib.cell_of_heap h.2.1]; rfl, by rw [Lib.cell_of_heap h.2.1]; rfl, Lib.frozen_of_heap h.2.1 0⟩

/-- A rule more. -/
theorem PI.snoc {w wr w2 w4 : World} {rp : Bool} {v v' V : Value} {Q : List (ByteArray × Value)} {L : List Ru} {r : Ru} {B : Nat} (h : PI w wr rp v Q L) (hb : Below wr.heap.size wr w2) (hV : SlV w2 B 9 V (cellsT r.vals)) (hB : wr.heap.size ≤ B)
    (hown : w4.ownsRow (w.heap.size + 2) 52 2 v' (L.length + 1) (cellsR Q ++ [.string ⟨r.name.toArray⟩, V])) (hgrow : w2.grownBy w4 v.ownBlock) :
    PI w (w4.setCell ⟨w.heap.size + 1, 0, none⟩ v') rp v' (Q ++ [(⟨r.name.toArray⟩, V)]) (L ++ [r]) := by
  have hlt := h.lt
  have hold := h.2.2.2.1.old
  obtain ⟨h1, h2, h3, h4, h5⟩ := h.kept hb
  have hs := hb.size
  have hvk : ∀ k, v.ownBlock = some k → ∃ cur, w2.heap[k]? = some (Obj.cells cur 52 (0, 0)) := fun k hk => ownsRow_kind h3 k hk
  have hkeep : ∀ k cur T fz, w2.heap[k]? = some (Obj.cells cur T fz) → T ≠ 52 → w4.heap[k]? = some (Obj.cells cur T fz) := fun k cur T fz hk hT => by
    refine (hgrow.block k (Array.getElem?_eq_some_iff.1 hk).1 (fun e => ?_)).trans hk
    obtain ⟨c2, hc2⟩ := hvk k e.symm
    rw [hk] at hc2
    injection hc2 with hc2
    injection hc2 with _ hc2 _
    exact hT hc2
  have g1 := hkeep _ _ _ _ h1 (by decide)
  have g2 := hkeep _ _ _ _ h2 (by decide)
  have hv' : ∀ k, v'.ownBlock = some k → k ≠ w.heap.size + 1 := fun k hk => by
    have := (hown.lt k hk).1
    omega
  have hstr : ∀ k : Nat, (∃ cur fz, w2.heap[k]? = some (Obj.cells cur 9 fz)) → (w4.setCell ⟨w.heap.size + 1, 0, none⟩ v').heap[k]? = w2.heap[k]? := by
    rintro k ⟨cur, fz, hk⟩
    have hk4 := hkeep k cur _ fz hk (by decide)
    rw [heap_setCell_other w4 ⟨w.heap.size + 1, 0, none⟩ k v' (kind_nf hk4 g2 (by decide)), hk4, hk]
  refine ⟨?_, ?_, ?_, ?_, ?_⟩
  · rw [heap_setCell_other w4 ⟨w.heap.size + 1, 0, none⟩ w.heap.size v' (by simp)]; exact g1
  · exact heap_setCell_same w4 (w.heap.size + 1) 0 _ _ v' g2
  · rw [cellsR_app, cellsR_one, List.length_append]
    exact ownsRow_same hown fun k hk => heap_setCell_other w4 ⟨w.heap.size + 1, 0, none⟩ k v' (hv' k hk)
  · have hV2 : SlV w2 (w.heap.size + 2) 9 V (cellsT r.vals) := hV.low0 (by omega)
    refine (RdO.keptB (w := w2) ?_ hstr)
    refine h4.snoc hV2 fun q hq => ?_
    by_cases hn : q.2.ownBlock = none
    · exact .inl hn
    · right
      intro e
      cases hk : q.2.ownBlock with
      | none => exact hn hk
      | some k =>
        have a1 := (hold q hq k hk).2
        have a2 := (hV.lt k (by rw [← e, hk])).1
        omega
  · have hle : w.heap.size ≤ w2.heap.size := h5.size
    exact (h5.grown hgrow hle (fun k hk => by have := (h3.lt k hk).1; omega)).setCell (p := ⟨w.heap.size + 1, 0, none⟩) (by simp) _

def pst (mo : Bool) (l : List UInt8) : List (List UInt8) := if mo then pcV 59 l else []

theorem pol_step (l : List UInt8) (L : List Ru) (h : L.length < 32) : polF (pst true l) L = polF (pst (part 59 l).2.2 (part 59 l).2.1) (addR L (part 59 l).1) := by
  show polF (pcV 59 l) L = _
  rw [pcV_part]
  unfold pst
  cases (part 59 l).2.2
  · show (if 32 ≤ L.length then L else polF [] _) = polF [] _
    rw [if_neg (by omega)]
  · show (if 32 ≤ L.length then L else polF (pcV 59 _) _) = polF (pcV 59 _) _
    rw [if_neg (by omega)]

theorem part_rest10 (c : UInt8) (l : List UInt8) : (part c l).2.1.length + (if (part c l).2.2 then 1 else 0) ≤ l.length := by
  rcases first_split c l with h1 | ⟨a, r, h1, rfl⟩
  · rw [part_none c l h1]; simp
  · rw [part_some c a r h1]; simp <;> omega

/-- What is yet to do, and what is done. -/
def PJ (l : List UInt8) (mo : Bool) (S : ByteArray) (L : List Ru) : Prop := polF (pst mo S.data.toList) L = polV l ∧ L.length ≤ 32 ∧ S.size ≤ l.length

def ParsePost10 (l : List UInt8) (rp : Bool) (w : World) (e : Ending) (w' : World) : Prop :=
  ∃ v Q, e = .returned (.agg #[v, .bool rp]) ∧ w'.ownsRow w.heap.size 52 2 v (polV l).length (cellsR Q) ∧ RdO w' w.heap.size Q (polV l) ∧ Below w.heap.size w w'

theorem RdO.low {w : World} {B B' : Nat} {Q : List (ByteArray × Value)} {L : List Ru} (h : RdO w B Q L) (hb : B' ≤ B) : RdO w B' Q L :=
  ⟨h.1, fun j a b => ⟨(h.2.1 j a b).1, (h.2.1 j a b).2.low0 hb⟩, h.2.2⟩
theorem own_low10 {w : World} {B B' : Nat} {e : TypeId} {k : Nat} {v : Value} {n : Nat} {xs : List Value} (h : w.ownsRow B e k v n xs) (hb : B' ≤ B) : w.ownsRow B' e k v n xs := by
  refine ⟨h.1, ?_⟩
  rcases h.2 with h | ⟨g, cap, cur, hv, h1, h2⟩
  · exact .inl h
  · exact .inr ⟨g, cap, cur, hv, Nat.le_trans hb h1, h2⟩

theorem results_p1 {fn : Func} {p : Tmp} (h : fn.results = #[.cell p 33]) (tmps : Array Value) (w : World) (b : Nat) (a : Option Addr) (n c : Nat) (rp : Bool) (hp : tmps.getD p undef = .pointer (some ⟨b, 0, none⟩)) (hc : w.rangeAt b 0 [.slice a n c, .bool rp]) : (results fn tmps).run Try.prog w = .ok (.agg #[.slice a n c, .bool rp]) w := by
  rw [Array.getD_eq_getD_getElem?] at hp
  simp only [results, h]
  simp [Sem.run_bind, Result.andThen, hp, asAddr, run_loadVar_mid w b 0 33 [.slice a n c, .bool rp] _ hc Try.underlying33 rfl (by kernel_rfl)]

theorem range_p {w : World} {b : Nat} {x y : Value} (h : w.heap[b]? = some (.cells #[x, y] 33 (0, 0))) : w.rangeAt b 0 [x, y] := fun j u hu => by
  rw [Nat.zero_add, Lib.cell_of_heap h]
  match j, hu with
  | 0, hu => simpa using hu
  | 1, hu => simpa using hu
  | j + 2, hu => simp at hu

/-- The end: the policy is copied to the answer's place. -/
theorem PI.out {w wr : World} {rp : Bool} {a : Option Addr} {n c : Nat} {Q : List (ByteArray × Value)} {L : List Ru} (h : PI w wr rp (.slice a n c) Q L) {l : List UInt8} (hl : L = polV l) :
    ((wr.setCell ⟨w.heap.size, 0, none⟩ (.slice a n c)).setCell ⟨w.heap.size, 1, none⟩ (.bool rp)).rangeAt w.heap.size 0 [.slice a n c, .bool rp] ∧
    ParsePost10 l rp w (.returned (.agg #[.slice a n c, .bool rp])) ((wr.setCell ⟨w.heap.size, 0, none⟩ (.slice a n c)).setCell ⟨w.heap.size, 1, none⟩ (.bool rp)) := by
  obtain ⟨h1, h2, h3, h4, h5⟩ := h
  have k1 := Lib.heap_setCell_same h1 (i := 0) (.slice a n c)
  have k2 := Lib.heap_setCell_same k1 (i := 1) (.bool rp)
  refine ⟨range_p k2, .slice a n c, Q, rfl, ?_, ?_, ?_⟩
  · rw [← hl]
    refine own_low10 (ownsRow_same h3 fun k hk => ?_) (by omega : w.heap.size ≤ w.heap.size + 2)
    have hne : k ≠ w.heap.size := by have := (h3.lt k hk).1; omega
    rw [heap_setCell_other _ ⟨w.heap.size, 1, none⟩ k _ hne, heap_setCell_other _ ⟨w.heap.size, 0, none⟩ k _ hne]
  · rw [← hl]
    refine (h4.keptB ?_).low (by omega)
    rintro k ⟨cur, fz, hk⟩
    have hne : k ≠ w.heap.size := kind_nf hk h1 (by decide)
    rw [heap_setCell_other _ ⟨w.heap.size, 1, none⟩ k _ hne, heap_setCell_other _ ⟨w.heap.size, 0, none⟩ k _ hne]
  · exact below_set2 h5 (Nat.le_refl _)

end Go.Proofs.Ytplabofdcnpcpaa
