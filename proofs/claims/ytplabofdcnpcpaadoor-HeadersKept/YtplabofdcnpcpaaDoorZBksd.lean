/-
  What a list more makes of a book.
-/
import Derived.Test.YtplabofdcnpcpaaDoorZBksc
set_option linter.unusedSimpArgs false
set_option linter.unusedVariables false
namespace Go.Proofs.YtplabofdcnpcpaaDoor
open Go.RowKit

/-- The list stands behind the others in the book's first row. -/
theorem add1s {w w2 : World} {B p : Nat} {h : Int} {A Y X AA : Value} {xs ys : List Value} {o : Obj} (hb : Bks w B p h A Y xs ys) (hBw : B ≤ w.heap.size) (hAA : SlV w2 B 33 AA (xs ++ [X])) (hgrow : (w.alloc o).grownBy w2 A.ownBlock)
    (hwh : AA.ownBlock = A.ownBlock ∨ ∃ k, AA.ownBlock = some k ∧ w.heap.size ≤ k) :
    w2.heap[p]? = some (Obj.cells #[A, Y, .int .i64 h, .bool false] 29 (0, 0)) ∧
    (w2.setCell ⟨p, 0, none⟩ AA).heap[p]? = some (Obj.cells #[AA, Y, .int .i64 h, .bool false] 29 (0, 0)) ∧ SlV (w2.setCell ⟨p, 0, none⟩ AA) B 33 AA (xs ++ [X]) ∧ SlV (w2.setCell ⟨p, 0, none⟩ AA) B 33 Y ys ∧ AptV AA Y ∧
    (∀ v n cs, KpL 1 9 w B v n cs → KpL 1 9 (w2.setCell ⟨p, 0, none⟩ AA) B v n cs) ∧ Bt 33 p B w (w2.setCell ⟨p, 0, none⟩ AA) := by
  obtain ⟨hBp, hyl, hp, hA, hY, hAY, hpr, hpw⟩ := hb
  have hlt : p < w.heap.size := (Array.getElem?_eq_some_iff.1 hp).1
  have hpA := hA.other hp (by decide)
  have hpY := hY.other hp (by decide)
  have hb2 : w2.heap[p]? = some (Obj.cells #[A, Y, .int .i64 h, .bool false] 29 (0, 0)) := (hgrow.block p (by simp; omega) (fun e => hpA e.symm)).trans ((Lib.alloc_old w o p hlt).trans hp)
  have hpA' := hAA.other hb2 (by decide)
  have hold : ∀ k, k < w.heap.size → some k ≠ A.ownBlock → k ≠ p → (w2.setCell ⟨p, 0, none⟩ AA).heap[k]? = w.heap[k]? := fun k hk hkA hkp => by
    rw [heap_setCell_other w2 ⟨p, 0, none⟩ k AA hkp, hgrow.block k (by simp; omega) hkA, Lib.alloc_old w o k hk]
  refine ⟨hb2, heap_setCell_same w2 p 0 _ _ AA hb2, hAA.same fun k hk => heap_setCell_other w2 ⟨p, 0, none⟩ k AA (fun e => hpA' (by rw [hk]; exact congrArg some e)), hY.same fun k hk => hold k (hY.lt k hk).2 (fun e => ?_) (fun e => hpY (by rw [hk]; exact congrArg some e)), ?_, fun v n cs hv => hv.same fun k hk => ?_, ?_, fun k hk hkp hn => hold k hk (fun e => ?_) hkp⟩
  · rcases hAY with h1 | h1
    · rw [h1] at e; cases e
    · exact h1 (by rw [hk]; exact e.symm)
  · rcases hwh with e | ⟨k, e, hk⟩
    · rcases hAY with h1 | h1
      · exact .inl (e.trans h1)
      · exact .inr (by rw [e]; exact h1)
    · refine .inr fun e2 => ?_
      have := (hY.lt k (by rw [← e2, e])).2
      omega
  · obtain ⟨cur, hcur⟩ := hv.kind k hk
    refine hold k (hv.lt k hk).2 (fun e => hA.other hcur (by decide) e.symm) (kind_nf hcur hp (by decide))
  · exact (((Below.refl B w).alloc hBw o).grown hgrow (by simp; omega) (fun k hk => (hA.lt k hk).1)).setCell (p := ⟨p, 0, none⟩) hBp _
  · obtain ⟨cur, hc⟩ := hA.kind k e.symm
    exact hn _ _ hc

/-- Its copy stands behind the others in the book's second row. -/
theorem add2s {w3 w4 w5 : World} {B p : Nat} {h : Int} {AA Y YY y : Value} {us ys : List Value} {cs : List ByteArray} {n : Nat} {o : Obj} (hBp : B ≤ p) (hp3 : w3.heap[p]? = some (Obj.cells #[AA, Y, .int .i64 h, .bool false] 29 (0, 0))) (hA3 : SlV w3 B 33 AA us) (hY3 : SlV w3 B 33 Y ys) (hAY : AptV AA Y) (hBw : B ≤ w3.heap.size)
    (hg4 : w3.grownBy w4 none) (hy4 : KpL 1 9 w4 B y n cs) (hYY : SlV w5 B 33 YY (ys ++ [y])) (hg5 : (w4.alloc o).grownBy w5 Y.ownBlock) (hwh : YY.ownBlock = Y.ownBlock ∨ ∃ k, YY.ownBlock = some k ∧ w4.heap.size ≤ k) :
    w5.heap[p]? = some (Obj.cells #[AA, Y, .int .i64 h, .bool false] 29 (0, 0)) ∧
    (w5.setCell ⟨p, 1, none⟩ YY).heap[p]? = some (Obj.cells #[AA, YY, .int .i64 h, .bool false] 29 (0, 0)) ∧ SlV (w5.setCell ⟨p, 1, none⟩ YY) B 33 AA us ∧ SlV (w5.setCell ⟨p, 1, none⟩ YY) B 33 YY (ys ++ [y]) ∧ AptV AA YY ∧
    (∀ v n cs, KpL 1 9 w3 B v n cs → KpL 1 9 (w5.setCell ⟨p, 1, none⟩ YY) B v n cs) ∧ KpL 1 9 (w5.setCell ⟨p, 1, none⟩ YY) B y n cs ∧ Bt 33 p B w3 (w5.setCell ⟨p, 1, none⟩ YY) := by
  have hlt : p < w3.heap.size := (Array.getElem?_eq_some_iff.1 hp3).1
  have hs4 := hg4.size
  have hpA := hA3.other hp3 (by decide)
  have hpY := hY3.other hp3 (by decide)
  have hY4 : SlV w4 B 33 Y ys := hY3.same fun k hk => hg4.block k (hY3.lt k hk).2 (by simp)
  have hp4 := (hg4.block p hlt (by simp)).trans hp3
  have hp5 := (hg5.block p (by simp; omega) (fun e => hpY e.symm)).trans ((Lib.alloc_old w4 o p (by omega)).trans hp4)
  have hpYY := hYY.other hp5 (by decide)
  have hold4 : ∀ k, k < w4.heap.size → some k ≠ Y.ownBlock → k ≠ p → (w5.setCell ⟨p, 1, none⟩ YY).heap[k]? = w4.heap[k]? := fun k hk hkY hkp => by
    rw [heap_setCell_other w5 ⟨p, 1, none⟩ k YY hkp, hg5.block k (by simp; omega) hkY, Lib.alloc_old w4 o k hk]
  have hold : ∀ k, k < w3.heap.size → some k ≠ Y.ownBlock → k ≠ p → (w5.setCell ⟨p, 1, none⟩ YY).heap[k]? = w3.heap[k]? := fun k hk hkY hkp => (hold4 k (by omega) hkY hkp).trans (hg4.block k hk (by simp))
  refine ⟨hp5, heap_setCell_same w5 p 1 _ _ YY hp5, hA3.same fun k hk => hold k (hA3.lt k hk).2 (fun e => ?_) (fun e => hpA (by rw [hk]; exact congrArg some e)), hYY.same fun k hk => heap_setCell_other w5 ⟨p, 1, none⟩ k YY (fun e => hpYY (by rw [hk]; exact congrArg some e)), ?_, fun v n cs hv => hv.same fun k hk => ?_, hy4.same fun k hk => ?_, ?_, fun k hk hkp hn => hold k hk (fun e => ?_) hkp⟩
  · rcases hAY with h1 | h1
    · rw [h1] at hk; cases hk
    · exact h1 (by rw [hk]; exact e)
  · rcases hwh with e | ⟨k, e, hk⟩
    · rcases hAY with h1 | h1
      · exact .inl h1
      · exact .inr (by rw [e]; exact h1)
    · by_cases hn : AA.ownBlock = none
      · exact .inl hn
      · refine .inr fun e2 => ?_
        have := (hA3.lt k (by rw [e2, e])).2
        omega
  · obtain ⟨cur, hcur⟩ := hv.kind k hk
    exact hold k (hv.lt k hk).2 (fun e => hY3.other hcur (by decide) e.symm) (kind_nf hcur hp3 (by decide))
  · obtain ⟨cur, hcur⟩ := hy4.kind k hk
    exact hold4 k (hy4.lt k hk).2 (fun e => hY4.other hcur (by decide) e.symm) (kind_nf hcur hp4 (by decide))
  · have h4 : Below B w3 w4 := (Below.refl B w3).grown hg4 hBw (fun k hk => by simp at hk)
    exact ((h4.alloc (by omega) o).grown hg5 (by simp; omega) (fun k hk => (hY3.lt k hk).1)).setCell (p := ⟨p, 1, none⟩) hBp _
  · obtain ⟨cur, hc⟩ := hY3.kind k e.symm
    exact hn _ _ hc

/-- The book with the list. -/
theorem add3s {w w3 w6 : World} {B p n : Nat} {h : Int} {A Y AA YY X y : Value} {xs ys : List Value} {L : List ByteArray} (hb : Bks w B p h A Y xs ys) (hX : KpL 1 9 w B X n L) (hL : n ≤ 1000) (hap : ∀ a ∈ xs, AptV a X)
    (hr3 : ∀ v n cs, KpL 1 9 w B v n cs → KpL 1 9 w3 B v n cs) (hr6 : ∀ v n cs, KpL 1 9 w3 B v n cs → KpL 1 9 w6 B v n cs) (hy : KpL 1 9 w6 B y n L)
    (hp6 : w6.heap[p]? = some (Obj.cells #[AA, YY, .int .i64 h, .bool false] 29 (0, 0))) (hA6 : SlV w6 B 33 AA (xs ++ [X])) (hY6 : SlV w6 B 33 YY (ys ++ [y])) (hAY : AptV AA YY) :
    Bks w6 B p h AA YY (xs ++ [X]) (ys ++ [y]) := by
  obtain ⟨hBp, hyl, hp, hA, hY, _, hpr, hpw⟩ := hb
  refine ⟨hBp, by simp [hyl], hp6, hA6, hY6, hAY, fun i a b ha hb => ?_, ?_⟩
  · by_cases hi : i < xs.length
    · rw [List.getElem?_append_left hi] at ha
      rw [List.getElem?_append_left (by omega)] at hb
      obtain ⟨m, M, hM, h1, h2⟩ := hpr i a b ha hb
      exact ⟨m, M, hM, hr6 _ _ _ (hr3 _ _ _ h1), hr6 _ _ _ (hr3 _ _ _ h2)⟩
    · have hi2 : i = xs.length := by
        have := (List.getElem?_eq_some_iff.1 ha).1
        simp at this
        omega
      subst hi2
      rw [List.getElem?_append_right (Nat.le_refl _), Nat.sub_self] at ha
      rw [List.getElem?_append_right (by omega), hyl, Nat.sub_self] at hb
      simp at ha hb
      subst ha hb
      exact ⟨n, L, hL, hr6 _ _ _ (hr3 _ _ _ hX), hy⟩
  · rw [List.pairwise_append]
    refine ⟨hpw, List.pairwise_singleton _ _, fun a ha b hb => ?_⟩
    rw [List.mem_singleton.1 hb]
    exact hap a ha

end Go.Proofs.YtplabofdcnpcpaaDoor
