/-
  The walks of headers' lowered and together.
-/
import Derived.Test.YtplabofdcnpcpaaDoorZBc
import Derived.Deep.RegionHeldLaw
set_option linter.unusedSimpArgs false
set_option linter.unusedVariables false
namespace Go.Proofs.YtplabofdcnpcpaaDoor
open Go.RowKit

def lowHd (h : Hd) : Hd := ⟨low h.name, h.value⟩
/-- The headers, their names lowered. -/
def lowH (L : List Hd) : List Hd := L.map lowHd
/-- The first k of them are. -/
def lowTo5 (L : List Hd) (k : Nat) : List Hd := lowH (L.take k) ++ List.replicate (L.length - k) ⟨[], []⟩

theorem lowTo5_len (L : List Hd) (k : Nat) (h : k ≤ L.length) : (lowTo5 L k).length = L.length := by simp only [lowTo5, lowH, List.length_append, List.length_map, List.length_take, List.length_replicate]; omega
theorem lowTo5_zero (L : List Hd) : lowTo5 L 0 = List.replicate L.length ⟨[], []⟩ := by simp [lowTo5, lowH]
theorem lowTo5_end (L : List Hd) : lowTo5 L L.length = lowH L := by simp [lowTo5]
theorem lowTo5_set (L : List Hd) (k : Nat) (h : k < L.length) : (lowTo5 L k).set k (lowHd L[k]) = lowTo5 L (k + 1) := by
  unfold lowTo5
  have hl : (lowH (L.take k)).length = k := by simp [lowH]; omega
  rw [List.set_append, if_neg (by omega), hl, Nat.sub_self, show L.length - k = (L.length - (k + 1)) + 1 by omega, List.replicate_succ, List.set_cons_zero]
  rw [List.take_add_one, List.getElem?_eq_getElem h]
  unfold lowH
  rw [List.map_append, List.append_assoc]
  rfl

set_option maxHeartbeats 2000000 in
set_option maxRecDepth 100000 in
theorem lowered_any (v : Value) (L : List Hd) (w : World) (h : HdAt w v L) (hl : L.length ≤ 100000) (hz : Szd 140737488351232 L) :
    Calls Tryd.prog 34 #[v] w fun e w' => ∃ g, e = .returned (.slice (some ⟨g, 0, none⟩) L.length L.length) ∧ RowH w' g (lowH L) ∧ w.heap.size ≤ g ∧ Below w.heap.size w w' := by
  obtain ⟨i0, hi, hz0, hz1, hz2⟩ := info3 infoHd
  obtain ⟨a1, c1, rfl, hc1, hm1, hv1⟩ := h.view
  have V1 := hid hv1
  have HZ := hid hz
  clear h hv1 hz
  have hmk := run_make (P := Tryd.prog) w 22 38 i0 _ Tryd.underlying22 hi hz0 .i64 .i64 (L.length : Int) (L.length : Int) (by omega) (by omega) (by rw [hz2]; omega) (by omega)
  rw [hz1, show ((L.length : Int)).toNat = L.length by omega, show (Value.agg #[Value.string ByteArray.empty, .string ByteArray.empty]).cells = #[.string ByteArray.empty, .string ByteArray.empty] from rfl, made_zero] at hmk
  obtain ⟨W1, hW1⟩ : ∃ W1, W1 = w.alloc (.cells (cellsH (List.replicate L.length (⟨[], []⟩ : Hd))).toArray 38) := ⟨_, rfl⟩
  rw [← hW1] at hmk
  have HR0 := hid (show RowH W1 w.heap.size (lowTo5 L 0) by rw [lowTo5_zero, hW1]; exact heap_alloc_new _ _)
  have HB0 := hid (show Below w.heap.size w W1 by rw [hW1]; exact belowA (Below.refl _ _) _)
  clear hW1
  go_enter Tryd.func34, Tryd.ntmps34
  go_wp2
  clear hmk
  go_loopw [4, 5, 11] (fun y x i wr => ∃ k : Nat, k ≤ L.length ∧ i = .int .i64 k ∧ RowH wr w.heap.size (lowTo5 L k) ∧ Below w.heap.size w wr)
    (fun _ _ i _ => L.length - (intOf i).toNat)
  case atStart => exact ⟨0, Nat.zero_le _, rfl, HR0.out, HB0.out⟩
  case round =>
    obtain ⟨k, hk, rfl, hr, hbw⟩ := hrel
    have HR := hid hr
    have hgr := hr.lt
    have hwr := hbw.size
    by_cases hlt : k < L.length
    · have hlt' : (k : Int) < (L.length : Int) := by omega
      obtain ⟨b1, o1, rfl, e1, e2⟩ := V1.out k hlt
      have f1 : wr.cell? ⟨b1, o1 + k * 2, none⟩ = some (.string ⟨L[k].name.toArray⟩) := (hbw.cell (World.block_lt_of_cell? w _ e1)).trans e1
      have f2 : wr.cell? ⟨b1, o1 + k * 2 + 1, none⟩ = some (.string ⟨L[k].value.toArray⟩) := (hbw.cell (World.block_lt_of_cell? w _ e2)).trans e2
      clear e1 e2
      obtain ⟨nm, hnm⟩ : ∃ x : ByteArray, x = ⟨L[k].name.toArray⟩ := ⟨_, rfl⟩
      obtain ⟨vl, hvl⟩ : ∃ x : ByteArray, x = ⟨L[k].value.toArray⟩ := ⟨_, rfl⟩
      rw [← hnm] at f1
      rw [← hvl] at f2
      have hsz : nm.size ≤ 140737488351232 := by rw [hnm, xsize]; exact (HZ.out _ (List.getElem_mem hlt)).1
      obtain ⟨lo, hlo⟩ : ∃ x : ByteArray, x = ⟨(low nm.data.toList).toArray⟩ := ⟨_, rfl⟩
      have HLo := hid hlo
      have HS := hid (show (lowTo5 L k).set k ⟨lo.data.toList, vl.data.toList⟩ = lowTo5 L (k + 1) by rw [← lowTo5_set L k hlt, hlo, hnm, hvl]; rfl)
      have hkl : k < (lowTo5 L k).length := by rw [lowTo5_len L k hk]; exact hlt
      have HLw : Hid (∀ X : World, Calls Tryd.prog 33 #[.string nm] X fun e w' => e = .returned (.string lo) ∧ Below X.heap.size X w') := hid (fun X => by rw [hlo]; exact lower_any nm X hsz)
      have hne : w.heap.size ≠ wr.heap.size := by omega
      have HY : Hid (∀ Y : World, Below (wr.heap.size + 1) (wr.alloc (.cells #[.string nm, .string vl] 38)).drew Y → (Y.cell? ⟨wr.heap.size, 0, none⟩ = some (.string nm) ∧ Y.cell? ⟨wr.heap.size, 1, none⟩ = some (.string vl)) ∧ RowH Y w.heap.size (lowTo5 L k) ∧ Below w.heap.size w Y) := hid (fun Y hY => by
        have hb2 : Below wr.heap.size wr (wr.alloc (.cells #[.string nm, .string vl] 38)).drew := (belowA (Below.refl _ _) _).drew
        have hb3 := hb2.trans (hY.mono (by omega))
        refine ⟨⟨?_, ?_⟩, HR.out.kept hb3, hbw.trans (hb3.mono (by omega))⟩
        · rw [hY.cell (by show wr.heap.size < _; omega)]
          rw [Lib.cell_of_heap (show (wr.alloc (.cells #[.string nm, .string vl] 38)).drew.heap[wr.heap.size]? = some (.cells #[.string nm, .string vl] 38) from heap_alloc_new wr _)]
          rfl
        · rw [hY.cell (by show wr.heap.size < _; omega)]
          rw [Lib.cell_of_heap (show (wr.alloc (.cells #[.string nm, .string vl] 38)).drew.heap[wr.heap.size]? = some (.cells #[.string nm, .string vl] 38) from heap_alloc_new wr _)]
          rfl)
      clear hnm hvl hlo hr
      go_wp2
      go_region_held_law (fun wx => wx.cell? ⟨wr.heap.size, 0, none⟩ = some (.string nm) ∧ wx.cell? ⟨wr.heap.size, 1, none⟩ = some (.string vl))
        (first | exact (HY.out _ (Below.refl _ _)).1 | exact (HY.out _ (by assumption)).1 | (refine ⟨?_, ?_⟩ <;> (rw [World.cell?_setCell_far _ _ _ _ hne, World.cell?_setCell_far _ _ _ _ hne]; first | exact s0 | exact s1)))
        (first | (go_at_call 33; refine (HLw.out _).mono ?_; rintro e wy ⟨rfl, hby⟩; have hby2 : Below (wr.heap.size + 1) (wr.alloc (.cells #[.string nm, .string vl] 38)).drew wy := (by first | exact hby | simpa using hby); obtain ⟨⟨s0, s1⟩, hry, hbY⟩ := HY.out wy hby2; have y0 := (hry.cells k hkl).1; have y1 := (hry.cells k hkl).2; have f0 : wy.frozen? ⟨w.heap.size, k * 2, none⟩ = false := Lib.frozen_of_heap hry _; have f1 : wy.frozen? ⟨w.heap.size, k * 2 + 1, none⟩ = false := Lib.frozen_of_heap hry _))
      all_goals
        (try dsimp only at *)
        go_wp2
        go_roundw
        case rel =>
          refine ⟨k + 1, by omega, by go_num, ?_, ?_⟩
          · rw [← HS.out]
            exact hry.set k lo vl
          · exact (hbY.setCell (p := ⟨w.heap.size, k * 2, none⟩) (Nat.le_refl _) _).setCell (p := ⟨w.heap.size, k * 2 + 1, none⟩) (Nat.le_refl _) _
        case measure => simp [intOf]; omega
    · have hke : k = L.length := by omega
      subst hke
      have HRe := hid (show RowH wr w.heap.size (lowH L) by rw [← lowTo5_end]; exact HR.out)
      clear hr
      go_wp2
      go_ret
      exact ⟨_, rfl, HRe.out, Nat.le_refl _, hbw⟩

end Go.Proofs.YtplabofdcnpcpaaDoor
