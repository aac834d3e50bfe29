/-
  The walk of ostiarybook's Intact over headers.
-/
import Derived.Test.YtknlmifjadolpaaDoorZj
set_option linter.unusedSimpArgs false
set_option linter.unusedVariables false
namespace Go.Proofs.YtknlmifjadolpaaDoor
open Go.RowKit

theorem markL_len (mk : Hd) : (markL mk).length = 80 := by simp [markL]
theorem markL_at (mk : Hd) (j : Nat) (h : j < (markL mk).length) : (markL mk)[j] = mk := List.eq_of_mem_replicate (show (markL mk)[j] ∈ List.replicate 80 mk from List.getElem_mem h)

set_option maxHeartbeats 2000000 in
set_option maxRecDepth 100000 in
theorem intact_any (vf vw : Value) (L : List Hd) (nm vl : ByteArray) (w : World) (hf : HdAt w vf (L ++ markL ⟨nm.data.toList, vl.data.toList⟩)) (hw : HdAt w vw L) (hl : L.length ≤ 100000) :
    Calls Tryd.prog 27 #[vf, vw, hdVal nm vl] w fun e w' => e = .returned (.bool true) ∧ Below w.heap.size w w' := by
  obtain ⟨F, hF⟩ : ∃ F, F = L ++ markL ⟨nm.data.toList, vl.data.toList⟩ := ⟨_, rfl⟩
  rw [← hF] at hf
  have hFl : F.length = L.length + 80 := by rw [hF, List.length_append, markL_len]
  obtain ⟨a1, c1, rfl, hc1, hm1, hv1⟩ := hf.view
  obtain ⟨a2, c2, rfl, hc2, hm2, hv2⟩ := hw.view
  have htk : F.take L.length = L := by rw [hF]; simp
  have ht := hd_take hf L.length (by omega)
  rw [htk] at ht
  have HT := hid ht
  have HW := hid hw
  have V1 := hid hv1
  have HAt := hid (show ∀ j (hj : j < F.length), L.length ≤ j → F[j] = ⟨nm.data.toList, vl.data.toList⟩ by
    intro j hj hjl
    have : F[j] = (L ++ markL ⟨nm.data.toList, vl.data.toList⟩)[j]'(by rw [← hF]; exact hj) := by congr 1
    rw [this, List.getElem_append_right hjl, markL_at])
  clear hf hw hv1 hv2 ht htk hF
  obtain ⟨p, hp⟩ : ∃ p, p = F.length := ⟨_, rfl⟩
  have hlen : ((p : Int) == (L.length : Int) + 80) = true := by rw [beq_iff_eq]; omega
  have hle : (L.length : Int) ≤ (c1 : Int) := by omega
  have hps : p ≤ 1000000 := by omega
  have HPl := hid (show p = L.length + 80 by omega)
  rw [← hp]
  have HP := hid hp
  rw [← hp] at hc1
  clear hp hFl
  have hbx : Below w.heap.size w (w.alloc (.cells #[.string nm, .string vl] 28)) := belowA (Below.refl _ _) _
  have HBx := hid hbx
  have hsm := sameH_any _ _ L L _ (HT.out.kept hbx) (HW.out.kept hbx) (by omega) (by omega)
  rw [show decide (L = L) = true by simp] at hsm
  have HSame := hid hsm
  clear hsm
  clear hbx
  unfold hdVal
  go_enter Tryd.func27, Tryd.ntmps27
  go_wp2_with fail
  refine HSame.out.mono ?_
  rintro e w1 ⟨rfl, hb1⟩
  have hbw1 := belowT HBx.out hb1
  have g0 : w1.cell? ⟨w.heap.size, 0, none⟩ = some (.string nm) := (hb1.cell (p := ⟨w.heap.size, 0, none⟩) (by simp)).trans (by simp [go_sem])
  have g1 : w1.cell? ⟨w.heap.size, 1, none⟩ = some (.string vl) := (hb1.cell (p := ⟨w.heap.size, 1, none⟩) (by simp)).trans (by simp [go_sem])
  have hlt1 : w.heap.size < w1.heap.size := World.block_lt_of_cell? w1 _ g0
  have HB1 := hid hbw1
  have HG0 := hid g0
  have HG1 := hid g1
  clear hb1 hbw1 g0 g1
  go_wp2
  rotate_left
  · exfalso
    have := HPl.out
    omega
  go_loopw [7] (fun i wr => ∃ k : Nat, L.length ≤ k ∧ k ≤ p ∧ i = .int .i64 k ∧ Below w1.heap.size w1 wr) (fun i _ => p - (intOf i).toNat)
  case atStart => exact ⟨L.length, Nat.le_refl _, by have := HPl.out; omega, rfl, Below.refl _ _⟩
  case round =>
    obtain ⟨k, hkl, hkp, rfl, hb⟩ := hrel
    by_cases hlt : k < p
    · have hlt' : (k : Int) < (p : Int) := by omega
      obtain ⟨b1, o1, rfl, e1, e2⟩ := V1.out k (by have := HP.out; omega)
      have hbw := HB1.out.trans (hb.mono HB1.out.size)
      have hat := HAt.out k (by have := HP.out; omega) hkl
      have f1 : wr.cell? ⟨b1, o1 + k * 2, none⟩ = some (.string nm) := by
        rw [hbw.cell (World.block_lt_of_cell? w _ e1), e1, hat, ← xself nm]
      have f2 : wr.cell? ⟨b1, o1 + k * 2 + 1, none⟩ = some (.string vl) := by
        rw [hbw.cell (World.block_lt_of_cell? w _ e2), e2, hat, ← xself vl]
      have g0 : wr.cell? ⟨w.heap.size, 0, none⟩ = some (.string nm) := (hb.cell hlt1).trans HG0.out
      have g1 : wr.cell? ⟨w.heap.size, 1, none⟩ = some (.string vl) := (hb.cell hlt1).trans HG1.out
      clear e1 e2 hat
      go_wp2
      go_quiet (fail)
      go_wp2
      go_roundw
      case rel => exact ⟨k + 1, by omega, by omega, by go_num, below_drewN hb _⟩
      case measure => simp [intOf]; omega
    · go_wp2
      go_ret
      exact ⟨rfl, HB1.out.trans (hb.mono HB1.out.size)⟩

/-- The list that Add answers. -/
def addL (L : List Hd) (n v : List UInt8) : List Hd := if addE L n v = 0 then L ++ [⟨n, valT v⟩] else []
def setL (L : List Hd) (n v : List UInt8) : List Hd := if setE L n v = 0 then setV L n v else []

theorem AddPost.uni {L : List Hd} {n v : List UInt8} {w w' : World} {e : Ending} (h : AddPost L n v w e w') : ∃ vv, e = .returned (.tuple #[vv, .int .i64 (addE L n v : Int)]) ∧ HdAt w' vv (addL L n v) ∧ Below w.heap.size w w' := by
  obtain ⟨hb, ⟨h1, rfl⟩ | ⟨h1, vv, rfl, ho⟩⟩ := h
  · exact ⟨_, rfl, by unfold addL; rw [if_neg h1]; exact hd_nil _, hb⟩
  · refine ⟨vv, by rw [h1]; rfl, ?_, hb⟩
    unfold addL; rw [if_pos h1]
    exact own_hd (by rw [List.length_append]; exact ho)

theorem SetPost.uni {L : List Hd} {n v : List UInt8} {w w' : World} {e : Ending} (h : SetPost L n v w e w') : ∃ vv, e = .returned (.tuple #[vv, .int .i64 (setE L n v : Int)]) ∧ HdAt w' vv (setL L n v) ∧ Below w.heap.size w w' := by
  obtain ⟨hb, ⟨h1, rfl⟩ | ⟨h1, vv, rfl, ho⟩⟩ := h
  · exact ⟨_, rfl, by unfold setL; rw [if_neg h1]; exact hd_nil _, hb⟩
  · refine ⟨vv, by rw [h1]; rfl, ?_, hb⟩
    unfold setL; rw [if_pos h1]
    exact own_hd ho

theorem addL_len (L : List Hd) (n v : List UInt8) : (addL L n v).length ≤ L.length + 1 := by unfold addL; split <;> simp
theorem setL_len (L : List Hd) (n v : List UInt8) : (setL L n v).length ≤ L.length + 1 := by
  unfold setL; split
  · exact set_len L n v
  · simp

end Go.Proofs.YtknlmifjadolpaaDoor
