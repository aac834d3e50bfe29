/-
  The walk of ostiarybook's Stays at bytes.
-/
import Derived.Test.YtmjokddplikegaaDoorZ0
import Derived.Deep.RegionHeld
set_option linter.unusedSimpArgs false
set_option linter.unusedVariables false
namespace Go.Proofs.YtmjokddplikegaaDoor
open Go.RowKit

theorem Bk.below {w w' : World} {B p h : Nat} {xs ys : List Value} {l : List UInt8} (hbk : Bk w B p h xs ys l) (hb : Below w.heap.size w w') : Bk w' B p h xs ys l := by
  obtain ⟨hBp, hyl, ⟨A, Y, hp, hA, hY, hAY⟩, hxs, hys, hpw⟩ := hbk
  have hlt : p < w.heap.size := by
    rcases Nat.lt_or_ge p w.heap.size with h' | h'
    · exact h'
    · simp [Array.getElem?_eq_none h'] at hp
  refine ⟨hBp, hyl, ⟨A, Y, (hb.block p hlt).trans hp, ownsRow_same hA fun k hk => hb.block k (hA.lt k hk).2, ownsRow_same hY fun k hk => hb.block k (hY.lt k hk).2, hAY⟩, fun x hx => ?_, fun y hy => ?_, hpw⟩
  · exact ownsRow_same (hxs x hx) fun k hk => hb.block k ((hxs x hx).lt k hk).2
  · exact ownsRow_same (hys y hy) fun k hk => hb.block k ((hys y hy).lt k hk).2

theorem setCell_idle {w : World} {p i : Nat} {cs : Array Value} {T : TypeId} {v : Value} (hp : w.heap[p]? = some (.cells cs T (0, 0))) (h : cs.setIfInBounds i v = cs) (q : Addr) : (w.setCell ⟨p, i, none⟩ v).cell? q = w.cell? q := by
  refine World.cell?_of_block ?_
  by_cases hq : q.block = p
  · rw [hq, heap_setCell_same w p i cs T v hp, h, hp]
  · exact heap_setCell_other w ⟨p, i, none⟩ q.block v hq

/-- The book's own bad is written anew as it was: nothing turns. -/
theorem Bk.same {w : World} {B p h : Nat} {xs ys : List Value} {l : List UInt8} (hbk : Bk w B p h xs ys l) : Bk (w.setCell ⟨p, 3, none⟩ (.bool false)) B p h xs ys l := by
  obtain ⟨hBp, hyl, ⟨A, Y, hp, hA, hY, hAY⟩, hxs, hys, hpw⟩ := hbk
  have hk : ∀ {e : TypeId} {size : Nat} {v : Value} {n : Nat} {us : List Value}, w.ownsRow B e size v n us → 42 ≠ e → (w.setCell ⟨p, 3, none⟩ (.bool false)).ownsRow B e size v n us := fun hv hne => ownsRow_same hv fun k hk => heap_setCell_other w ⟨p, 3, none⟩ k _ (fun e => ownsRow_other hv hp hne (by rw [hk]; exact congrArg some e))
  exact ⟨hBp, hyl, ⟨A, Y, heap_setCell_same w p 3 _ _ _ hp, hk hA (by decide), hk hY (by decide), hAY⟩, fun x hx => hk (hxs x hx) (by decide), fun y hy => hk (hys y hy) (by decide), hpw⟩

set_option maxHeartbeats 2000000 in
set_option maxRecDepth 100000 in
theorem stays_any (B p h : Nat) (xs ys : List Value) (l : List UInt8) (w : World) (hbk : Bk w B p h xs ys l) (hn : xs.length ≤ 3000) (hl : l.length ≤ 1000000) (hBw : B ≤ w.heap.size) :
    Calls Tryd.prog 29 #[.pointer (some ⟨p, 0, none⟩)] w fun e w' => e = .returned (.bool true) ∧ Bk w' B p h xs ys l ∧ Below B w w' := by
  go_enter Tryd.func29, Tryd.ntmps29
  go_wp2
  go_loopw [3] (fun i wr => ∃ k : Nat, k ≤ xs.length ∧ i = .int .i64 k ∧ Bk wr B p h xs ys l ∧ Below B w wr) (fun i _ => xs.length - (intOf i).toNat)
  case atStart => exact ⟨0, Nat.zero_le _, rfl, hbk, Below.refl _ _⟩
  case round =>
    obtain ⟨k, hk, rfl, hbr, hbw⟩ := hrel
    have HBR := hid hbr
    obtain ⟨hBp, hyl, ⟨A, Y, hp, hA, hY, hAY⟩, hxs, hys, hpw⟩ := hbr
    have c3 := cell_of_heapE hp 3 _ rfl
    have c0 := cell_of_heapE hp 0 _ rfl
    have c1 := cell_of_heapE hp 1 _ rfl
    by_cases hlt : k < xs.length
    · have hltI : (k : Int) < (xs.length : Int) := by omega
      -- the two rows and the two lists at k
      obtain ⟨gA, cA, rfl, hcA⟩ : ∃ gA cA, A = .slice (some ⟨gA, 0, none⟩) xs.length cA ∧ ∀ j u, xs[j]? = some u → wr.cell? ((⟨gA, 0, none⟩ : Addr).add j) = some u := by
        rcases hA.2 with ⟨_, h0⟩ | ⟨g', cap', cur, e, _⟩
        · omega
        · subst e; exact ⟨g', cap', rfl, hA.cells (g := g') rfl⟩
      obtain ⟨gY, cY, rfl, hcY⟩ : ∃ gY cY, Y = .slice (some ⟨gY, 0, none⟩) xs.length cY ∧ ∀ j u, ys[j]? = some u → wr.cell? ((⟨gY, 0, none⟩ : Addr).add j) = some u := by
        rcases hY.2 with ⟨_, h0⟩ | ⟨g', cap', cur, e, _⟩
        · omega
        · subst e; exact ⟨g', cap', rfl, hY.cells (g := g') rfl⟩
      have hx := hxs xs[k] (List.getElem_mem hlt)
      have hy := hys (ys[k]'(by omega)) (List.getElem_mem _)
      have k1 := hcA k xs[k] (by simp [hlt])
      have k2 := hcY k (ys[k]'(by omega)) (by simp)
      rw [Addr.add_lit, Nat.zero_add] at k1 k2
      generalize xs[k] = X at k1 hx
      generalize (ys[k]'(by omega)) = Z at k2 hy
      obtain ⟨xa, xn, xc, rfl⟩ := ownsRow_slice hx
      obtain ⟨ya, yn, yc, rfl⟩ := ownsRow_slice hy
      have hxS : SlB wr.drew (.slice xa xn xc) l := SlB.own hx
      have hyS : SlB wr.drew (.slice ya yn yc) l := SlB.own hy
      have hplt : p < wr.heap.size := by
        rcases Nat.lt_or_ge p wr.heap.size with h' | h'
        · exact h'
        · simp [Array.getElem?_eq_none h'] at hp
      clear hx hy hcA hcY hxs hys hA hY hAY hpw
      go_wp2
      go_region_held (fun wx => wx.cell? ⟨p, 0, none⟩ = some (.slice (some ⟨gA, 0, none⟩) xs.length cA) ∧ wx.cell? ⟨p, 1, none⟩ = some (.slice (some ⟨gY, 0, none⟩) xs.length cY) ∧ wx.cell? ⟨p, 3, none⟩ = some (.bool false) ∧ wx.cell? ⟨gA, k, none⟩ = some (.slice xa xn xc) ∧ wx.cell? ⟨gY, k, none⟩ = some (.slice ya yn yc)) (first | (refine ⟨(setCell_idle hp2 rfl _).trans d0, (setCell_idle hp2 rfl _).trans d1, (setCell_idle hp2 rfl _).trans d3, (setCell_idle hp2 rfl _).trans d4, (setCell_idle hp2 rfl _).trans d5⟩) | go_keep) (first | (go_at_call 28; refine (same_any _ _ _ _ _ _ l l wr.drew hxS hyS (by omega) (by omega)).mono ?_; rintro e w2 ⟨rfl, hb2x⟩; have hb2 : Below wr.heap.size wr w2 := (Below.refl _ wr).drew.trans hb2x; have hp2 := (hb2.block p hplt).trans hp; have f3 := Lib.frozen_of_heap ((hb2.block p hplt).trans hp) 3; have d3 := cell_of_heapE ((hb2.block p hplt).trans hp) 3 _ rfl; have d0 := cell_of_heapE ((hb2.block p hplt).trans hp) 0 _ rfl; have d1 := cell_of_heapE ((hb2.block p hplt).trans hp) 1 _ rfl; have d4 := (hb2.cell (World.block_lt_of_cell? wr _ k1)).trans k1; have d5 := (hb2.cell (World.block_lt_of_cell? wr _ k2)).trans k2))
      all_goals
        go_wp2
        go_roundw
        case rel =>
          exact ⟨k + 1, by omega, by go_num, (HBR.out.below hb2).same, (hbw.trans (hb2.mono (by have := hbw.size; omega))).setCell (p := ⟨p, 3, none⟩) hBp _⟩
        case measure => simp [intOf]; omega
    · have hltI : decide ((k : Int) < (xs.length : Int)) = false := by simp; omega
      obtain ⟨a, kn, ac, rfl⟩ := ownsRow_slice hA
      obtain rfl : kn = xs.length := by
        rcases hA.2 with ⟨e, h0⟩ | ⟨g', cap', cur, e, _⟩
        · obtain ⟨_, rfl, _⟩ := Value.slice.inj e; omega
        · obtain ⟨_, rfl, _⟩ := Value.slice.inj e; rfl
      go_wp2
      go_ret
      exact ⟨rfl, HBR.out, hbw⟩

end Go.Proofs.YtmjokddplikegaaDoor
