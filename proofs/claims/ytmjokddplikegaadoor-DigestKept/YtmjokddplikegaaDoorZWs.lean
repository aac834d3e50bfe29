/-
  The walk of ostiarybook's Keep at bytes.
-/
import Derived.Test.YtmjokddplikegaaDoorZ0
set_option linter.unusedSimpArgs false
set_option linter.unusedVariables false
namespace Go.Proofs.YtmjokddplikegaaDoor
open Go.RowKit

set_option maxHeartbeats 2000000 in
set_option maxRecDepth 100000 in
theorem keep_any (B p h : Nat) (xs ys : List Value) (l : List UInt8) (g cap : Nat) (w : World) (hbk : Bk w B p h xs ys l) (hx : w.ownsRow B 5 1 (.slice (some ⟨g, 0, none⟩) l.length cap) l.length (Lib.byteCells l))
    (hne : ∀ x ∈ xs, x.ownBlock ≠ some g) (hh : h + cap + 1 ≤ 1000000) (hn : xs.length ≤ 3000) (hBw : B ≤ w.heap.size) :
    Calls Tryd.prog 17 #[.pointer (some ⟨p, 0, none⟩), .slice (some ⟨g, 0, none⟩) l.length cap] w fun e w' => e = .returned (.tuple #[]) ∧ (∃ y, Bk w' B p (h + cap + 1) (xs ++ [.slice (some ⟨g, 0, none⟩) l.length cap]) (ys ++ [y]) l) ∧ Below B w w' := by
  obtain ⟨i0, hi, hz0, hz1, hz2⟩ := info_parts infoBytes
  obtain ⟨j0, ji, jz0, jz1, jz2⟩ := info_parts infoByte
  obtain ⟨hBp, hyl, ⟨A, Y, hp, hA, hY, hAY⟩, hxs, hys, hpw⟩ := hbk
  have c0 : w.cell? ⟨p, 0, none⟩ = some A := by rw [Lib.cell_of_heap hp]; rfl
  have hlt : p < w.heap.size := by
    rcases Nat.lt_or_ge p w.heap.size with h' | h'
    · exact h'
    · simp [Array.getElem?_eq_none h'] at hp
  go_enter Tryd.func17, Tryd.ntmps17
  go_wp2_with (at_builtin; refine wpList_append_where _ rfl _ _ 40 rfl B 22 i0 (.slice none 0 0) 1 24 Tryd.underlying40 hi hz0 hz1 hz2 rfl (by decide) A xs.length xs rfl (hA.alloc _) ⟨w.heap.size, 0, none⟩ 1 1 [.slice (some ⟨g, 0, none⟩) l.length cap] rfl rfl ?c1 ?c2 ?c3 ?c4 ?c5 (by decide) ?_)
  case c1 =>
    intro j u hj
    match j, hj with
    | 0, hj => simp at hj; subst hj; simp [Addr.add]
  case c2 => intro u hu; simp at hu; subst hu; rfl
  case c3 => unfold maxLen; omega
  case c4 => omega
  case c5 => simp; omega
  intro AA w2 hAA hgrow hwhere
  obtain ⟨g1, k1, rfl, hw1⟩ := hwhere
  have hpA : A.ownBlock ≠ some p := ownsRow_other hA hp (by decide)
  have hb2 : w2.heap[p]? = some (.cells #[A, Y, .int .i64 h, .bool false] 42 (0, 0)) := by
    rw [hgrow.block p (by simp; omega) (fun e => hpA e.symm), Lib.alloc_old w _ p hlt]
    exact hp
  have d0 : w2.cell? ⟨p, 0, none⟩ = some A := by rw [Lib.cell_of_heap hb2]; rfl
  have f0 : w2.frozen? ⟨p, 0, none⟩ = false := Lib.frozen_of_heap hb2 0
  have hpA' : (Value.slice (some ⟨g1, 0, none⟩) (xs.length + 1) k1).ownBlock ≠ some p := ownsRow_other hAA hb2 (by decide)
  -- the world behind the first statement
  have hold : ∀ k, k < w.heap.size → some k ≠ A.ownBlock → k ≠ p → (w2.setCell ⟨p, 0, none⟩ (.slice (some ⟨g1, 0, none⟩) (xs.length + 1) k1)).heap[k]? = w.heap[k]? := by
    intro k hk hkA hkp
    rw [heap_setCell_other w2 ⟨p, 0, none⟩ k (.slice (some ⟨g1, 0, none⟩) (xs.length + 1) k1) hkp, hgrow.block k (by simp; omega) hkA, Lib.alloc_old w _ k hk]
  have hb3 : Below B w (w2.setCell ⟨p, 0, none⟩ (.slice (some ⟨g1, 0, none⟩) (xs.length + 1) k1)) := (((Below.refl B w).alloc hBw _).grown hgrow (by simp; omega) (fun k hk => (hA.lt k hk).1)).setCell (p := ⟨p, 0, none⟩) hBp _
  have hp3 : (w2.setCell ⟨p, 0, none⟩ (.slice (some ⟨g1, 0, none⟩) (xs.length + 1) k1)).heap[p]? = some (.cells #[(.slice (some ⟨g1, 0, none⟩) (xs.length + 1) k1), Y, .int .i64 h, .bool false] 42 (0, 0)) := heap_setCell_same w2 p 0 _ _ (.slice (some ⟨g1, 0, none⟩) (xs.length + 1) k1) hb2
  have hA3 : (w2.setCell ⟨p, 0, none⟩ (.slice (some ⟨g1, 0, none⟩) (xs.length + 1) k1)).ownsRow B 22 1 (.slice (some ⟨g1, 0, none⟩) (xs.length + 1) k1) (xs.length + 1) (xs ++ [.slice (some ⟨g, 0, none⟩) l.length cap]) := ownsRow_same hAA fun k hk => heap_setCell_other w2 ⟨p, 0, none⟩ k (.slice (some ⟨g1, 0, none⟩) (xs.length + 1) k1) (fun e => hpA' (by rw [hk]; exact congrArg some e))
  have hYp : Y.ownBlock ≠ some p := ownsRow_other hY hp (by decide)
  have hY3 : (w2.setCell ⟨p, 0, none⟩ (.slice (some ⟨g1, 0, none⟩) (xs.length + 1) k1)).ownsRow B 22 1 Y xs.length ys := ownsRow_same hY fun k hk => hold k (hY.lt k hk).2 (fun e => by rcases hAY with h1 | h1; (rw [h1] at e; cases e); exact h1 (by rw [hk]; exact e.symm)) (fun e => hYp (by rw [hk]; exact congrArg some e))
  have hbytes : ∀ v, w.ownsRow B 5 1 v l.length (Lib.byteCells l) → (w2.setCell ⟨p, 0, none⟩ (.slice (some ⟨g1, 0, none⟩) (xs.length + 1) k1)).ownsRow B 5 1 v l.length (Lib.byteCells l) := fun v hv => ownsRow_same hv fun k hk => by
    obtain ⟨cur, hcur⟩ := ownsRow_kind hv k hk
    refine hold k (hv.lt k hk).2 (fun e => ownsRow_other hA hcur (by decide) e.symm) (fun e => ownsRow_other hv hp (by decide) (by rw [hk]; exact congrArg some e))
  have hA'Y : (Value.slice (some ⟨g1, 0, none⟩) (xs.length + 1) k1).ownBlock ≠ Y.ownBlock := by
    intro e
    have e' : Y.ownBlock = some g1 := e.symm
    rcases hw1 with hw | hw
    · rcases hAY with h1 | h1
      · rw [h1] at hw; cases hw
      · exact h1 (by rw [hw, e'])
    · have := (hY.lt g1 e').2
      simp at hw
      omega
  go_wp2
  obtain ⟨w3, hw3⟩ : ∃ w3, w3 = w2.setCell ⟨p, 0, none⟩ (.slice (some ⟨g1, 0, none⟩) (xs.length + 1) k1) := ⟨_, rfl⟩
  rw [← hw3] at hold hb3 hp3 hA3 hY3 hbytes ⊢
  clear hw3 hold hw1 hgrow d0 f0 hb2 hAA c0 hpA
  have hxs3 := fun x hx => hbytes x (hxs x hx)
  have hys3 := fun x hx => hbytes x (hys x hx)
  have hx3 := hbytes _ hx
  clear hbytes hxs hys hx hY hA hAY
  have c1 : w3.cell? ⟨p, 1, none⟩ = some Y := by rw [Lib.cell_of_heap hp3]; rfl
  have hbs := hb3.size
  have hll : l.length ≤ cap := by
    rcases hx3.2 with ⟨e, _⟩ | ⟨g', cap', cur, e, _, _, h1, _⟩
    · simp at e
    · obtain ⟨_, _, rfl⟩ := Value.slice.inj e
      exact h1
  have hlt3 : p < w3.heap.size := by omega
  have hY3p : Y.ownBlock ≠ some p := hYp
  go_region_law (first | (refine step_append_own0 rfl (.const (.slice none 0 0)) (.tmp 19) 22 rfl B 5 j0 (.int .u8 0) 1 1 Tryd.underlying22 ji jz0 jz1 jz2 rfl (by decide) (.slice none 0 0) 0 [] rfl (World.ownsRow_nil _ _ _ _) ⟨g, 0, none⟩ l.length cap (Lib.byteCells l) rfl (by simp [Lib.byteCells]) (by exact hx3.cells (g := g) rfl) (by exact bytes_oneC l) (by unfold maxLen; omega) (by omega) (by simp; omega) ?_; intro y w4 hy4 hgrow4 hnil4; obtain ⟨yo, yn, yc, rfl⟩ := ownsRow_slice hy4; have hY4 := ownsRow_same hY3 (fun k hk => hgrow4.block k (hY3.lt k hk).2 (by simp [Value.ownBlock])); have hp4 := (hgrow4.block p hlt3 (by simp [Value.ownBlock])).trans hp3; have hs4 := hgrow4.size; have e4 := cell_of_heapE hp4 1 Y rfl; have e4b : (w4.alloc (.cells #[.slice yo yn yc] 22)).cell? ⟨p, 1, none⟩ = some Y := cell_of_heapE ((Lib.alloc_old w4 _ p (by simp at hs4; omega)).trans hp4) 1 Y rfl) | (refine step_append_where rfl (.tmp 18) (.tmp 21) 40 rfl B 22 i0 (.slice none 0 0) 1 24 Tryd.underlying40 hi hz0 hz1 hz2 rfl (by decide) Y xs.length ys rfl (by exact hY4.alloc _) ⟨w4.heap.size, 0, none⟩ 1 1 [.slice yo yn yc] rfl rfl (by intro j u hj; match j, hj with | 0, hj => simp at hj; subst hj; simp [Addr.add]) (by intro u hu; simp at hu; subst hu; rfl) (by unfold maxLen; omega) (by omega) (by simp at hs4 ⊢; omega) (by decide) ?_; intro YY w5 hY5 hgrow5 hwh; obtain ⟨g2, k2, rfl, hw2⟩ := hwh; have hp5 := (hgrow5.block p (by simp at hs4 ⊢; omega) (fun e => hY3p e.symm)).trans ((Lib.alloc_old w4 _ p (by simp at hs4; omega)).trans hp4); have e1 := cell_of_heapE hp5 1 Y rfl; have f1 := Lib.frozen_of_heap hp5 1))
  all_goals
    have hb5 : Below B w w5 := ((hb3.drew.grown hgrow4 (by simp; omega) (by simp [Value.ownBlock])).alloc (by simp at hs4; omega) _).grown hgrow5 (by simp at hs4 ⊢; omega) (fun k hk => (hY3.lt k hk).1)
    have hYYp : (Value.slice (some ⟨g2, 0, none⟩) (xs.length + 1) k2).ownBlock ≠ some p := ownsRow_other hY5 hp5 (by decide)
    have hends : ∀ k, k < w3.heap.size → some k ≠ Y.ownBlock → w5.heap[k]? = w3.heap[k]? := (fun k hk hkY => by rw [hgrow5.block k (by simp at hs4 ⊢; omega) hkY, Lib.alloc_old w4 _ k (by simp at hs4; omega), hgrow4.block k hk (by simp [Value.ownBlock])]; rfl)
    obtain ⟨w6, hw6⟩ : ∃ w6, w6 = w5.setCell ⟨p, 1, none⟩ (.slice (some ⟨g2, 0, none⟩) (xs.length + 1) k2) := ⟨_, rfl⟩
    have hp6 : w6.heap[p]? = some (.cells #[.slice (some ⟨g1, 0, none⟩) (xs.length + 1) k1, .slice (some ⟨g2, 0, none⟩) (xs.length + 1) k2, .int .i64 h, .bool false] 42 (0, 0)) := by rw [hw6]; exact heap_setCell_same w5 p 1 _ _ _ hp5
    have c2 := cell_of_heapE hp6 2 _ rfl
    have f2 := Lib.frozen_of_heap hp6 2
    rw [← hw6]
    have HW6 := hid0 hw6
    clear hw6
    have hkk : (((h + cap + 1 : Nat)) : Int) = (h : Int) + cap + 1 := by omega
    have HK := hid0 hkk
    clear hkk
    go_wp2
    obtain ⟨w7, hw7⟩ : ∃ w7, w7 = w6.setCell ⟨p, 2, none⟩ (.int .i64 ((h : Int) + cap + 1)) := ⟨_, rfl⟩
    have hp7 : w7.heap[p]? = some (.cells #[.slice (some ⟨g1, 0, none⟩) (xs.length + 1) k1, .slice (some ⟨g2, 0, none⟩) (xs.length + 1) k2, .int .i64 ((h : Int) + cap + 1), .bool false] 42 (0, 0)) := by rw [hw7]; exact heap_setCell_same w6 p 2 _ _ _ hp6
    rw [← hw7]
    have HW7 := hid0 hw7
    clear hw7 c2 f2 e4 e4b e1 f1 c1
    have s0 := cell_of_heapE hp7 0 _ rfl
    have s2 := cell_of_heapE hp7 2 _ rfl
    have hoff : ∀ k, k ≠ p → w7.heap[k]? = w5.heap[k]? := fun k hk => by rw [HW7.out, heap_setCell_other w6 ⟨p, 2, none⟩ k _ hk, HW6.out, heap_setCell_other w5 ⟨p, 1, none⟩ k _ hk]
    have hold3 : ∀ v, w3.ownsRow B 5 1 v l.length (Lib.byteCells l) → w7.ownsRow B 5 1 v l.length (Lib.byteCells l) := fun v hv => ownsRow_same hv fun k hk => by
      obtain ⟨cur, hcur⟩ := ownsRow_kind hv k hk
      rw [hoff k (fun e => ownsRow_other hv hp3 (by decide) (by rw [hk]; exact congrArg some e))]
      exact hends k (hv.lt k hk).2 (fun e => ownsRow_other hY3 hcur (by decide) e.symm)
    have hy7 : w7.ownsRow B 5 1 (.slice yo yn yc) l.length (Lib.byteCells l) := by
      have hy4' : w4.ownsRow B 5 1 (.slice yo yn yc) l.length (Lib.byteCells l) := by simpa using hy4
      refine ownsRow_same hy4' fun k hk => ?_
      obtain ⟨cur, hcur⟩ := ownsRow_kind hy4' k hk
      have hklt := (hy4'.lt k hk).2
      rw [hoff k (fun e => ownsRow_other hy4' hp4 (by decide) (by rw [hk]; exact congrArg some e)), hgrow5.block k (by simp; omega) (fun e => ownsRow_other hY4 hcur (by decide) e.symm), Lib.alloc_old w4 _ k hklt]
    have hA7 : w7.ownsRow B 22 1 (.slice (some ⟨g1, 0, none⟩) (xs.length + 1) k1) (xs.length + 1) (xs ++ [.slice (some ⟨g, 0, none⟩) l.length cap]) := ownsRow_same hA3 fun k hk => by
      rw [hoff k (fun e => hpA' (by rw [hk]; exact congrArg some e))]
      exact hends k (hA3.lt k hk).2 (fun e => hA'Y (by rw [hk]; exact e))
    have hY7 : w7.ownsRow B 22 1 (.slice (some ⟨g2, 0, none⟩) (xs.length + 1) k2) (xs.length + 1) (ys ++ [.slice yo yn yc]) := ownsRow_same hY5 fun k hk => hoff k (fun e => hYYp (by rw [hk]; exact congrArg some e))
    have hgg : (Value.slice (some ⟨g1, 0, none⟩) (xs.length + 1) k1).ownBlock ≠ (Value.slice (some ⟨g2, 0, none⟩) (xs.length + 1) k2).ownBlock := by
      rcases hw2 with e | e
      · rw [e] at hA'Y; exact hA'Y
      · intro e'
        have h1 := (hA3.lt g1 rfl).2
        have h2 : g1 = g2 := by simpa [Value.ownBlock] using e'
        simp at e hs4
        omega
    have HE := hid0 (show (∃ y, Bk w7 B p (h + cap + 1) (xs ++ [.slice (some ⟨g, 0, none⟩) l.length cap]) (ys ++ [y]) l) ∧ Below B w w7 from by
      refine ⟨⟨.slice yo yn yc, hBp, by simp [hyl], ⟨_, _, ?_, ?_, ?_, .inr hgg⟩, ?_, ?_, ?_⟩, ?_⟩
      · rw [HK.out]; exact hp7
      · simpa using hA7
      · simpa using hY7
      · intro x hxm
        rcases List.mem_append.1 hxm with hm | hm
        · exact hold3 x (hxs3 x hm)
        · rw [List.mem_singleton.1 hm]; exact hold3 _ hx3
      · intro y hym
        rcases List.mem_append.1 hym with hm | hm
        · exact hold3 y (hys3 y hm)
        · rw [List.mem_singleton.1 hm]; exact hy7
      · rw [List.pairwise_append]
        refine ⟨hpw, List.pairwise_singleton _ _, fun a ha b hb => ?_⟩
        rw [List.mem_singleton.1 hb]
        exact hne a ha
      · rw [HW7.out, HW6.out]
        exact (hb5.setCell (p := ⟨p, 1, none⟩) hBp _).setCell (p := ⟨p, 2, none⟩) hBp _)
    clear hoff hold3 hy7 hA7 hY7 hgg
    go_loopw [36] (fun _ wr => wr = w7) (fun _ _ => 0)
    case atStart => rfl
    case round =>
      obtain rfl := hrel
      by_cases hn0 : xs.length = 0
      · have t1 : decide ((1 : Int) < (xs.length : Int) + 1) = false := by simp; omega
        go_wp2
        go_end0
        exact ⟨rfl, HE.out⟩
      · have t1 : (1 : Int) < (xs.length : Int) + 1 := by omega
        have t2 : decide ((1000000 : Int) < (h : Int) + cap + 1) = false := by simp; omega
        have t3 : decide ((4000 : Int) < (xs.length : Int) + 1) = false := by simp; omega
        go_wp2
        go_end0
        exact ⟨rfl, HE.out⟩

end Go.Proofs.YtmjokddplikegaaDoor
