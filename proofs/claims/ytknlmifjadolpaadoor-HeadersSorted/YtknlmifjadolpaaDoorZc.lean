/-
  The walk of ostiarykeep.FewHeaders.
-/
import Derived.Test.YtknlmifjadolpaaDoorZa
import Derived.Test.YtknlmifjadolpaaDoorXq
set_option linter.unusedSimpArgs false
set_option linter.unusedVariables false
namespace Go.Proofs.YtknlmifjadolpaaDoor
open Go.RowKit

def fewHd (m : Nat) (h : Hd) : Hd := ⟨h.name.take m, h.value.take m⟩
/-- The first n headers, each text cut at m bytes. -/
def fewH (L : List Hd) (n m : Nat) : List Hd := (L.take n).map (fewHd m)

theorem fewH_len (L : List Hd) (n m : Nat) : (fewH L n m).length ≤ n := by simp [fewH]; omega

theorem fewH_szd (L : List Hd) (n m : Nat) : Szd m (fewH L n m) := fun h hh => by
  unfold fewH at hh
  obtain ⟨a, _, rfl⟩ := List.mem_map.1 hh
  simp [fewHd]; omega

theorem Szd.mono {a b : Nat} {L : List Hd} (h : Szd a L) (hab : a ≤ b) : Szd b L := fun x hx => ⟨Nat.le_trans (h x hx).1 hab, Nat.le_trans (h x hx).2 hab⟩

theorem Szd.bulk {a : Nat} {L : List Hd} (h : Szd a L) : bulkV L ≤ (a + 2) * L.length := by
  unfold bulkV
  induction L with
  | nil => simp
  | cons x L ih =>
    have h1 := (h x (by simp)).2
    have := ih (fun y hy => h y (by simp [hy]))
    simp only [List.map_cons, List.sum_cons, List.length_cons]
    rw [Nat.mul_add]
    omega

set_option maxHeartbeats 2000000 in
set_option maxRecDepth 100000 in
theorem fewHeaders_any (v : Value) (L : List Hd) (n m : Nat) (w : World) (h : HdAt w v L) (hz : Szd maxLen L) (hn : n ≤ 1000) (hm : m ≤ 1000) :
    Calls Tryd.prog 28 #[v, .int .i64 n, .int .i64 m] w (HdPost (fewH L n m) w) := by
  obtain ⟨i0, hi, hz0, hz1, hz2⟩ := info3 infoHd
  obtain ⟨a1, c1, rfl, hc1, hm1, hv1⟩ := h.view
  have V1 := hid hv1
  have HZ := hid hz
  clear h hv1 hz
  go_enter Tryd.func28, Tryd.ntmps28
  go_wp2
  go_loopw [7, 8] (fun vv i wr => ∃ k : Nat, k ≤ L.length ∧ k ≤ n ∧ i = .int .i64 k ∧ wr.ownsRow w.heap.size 28 2 vv k (cellsH (fewH L k m)) ∧ Below w.heap.size w wr)
    (fun _ i _ => L.length - (intOf i).toNat)
  case atStart => exact ⟨0, Nat.zero_le _, Nat.zero_le _, rfl, World.ownsRow_nil _ _ _ _, Below.refl _ _⟩
  case round =>
    obtain ⟨k, hk, hkn, rfl, hown, hbw⟩ := hrel
    have HO := hid hown
    have hwr := hbw.size
    clear hown
    by_cases hlt : k < L.length
    · have hlt' : (k : Int) < (L.length : Int) := by omega
      by_cases hltn : k < n
      · have hltn' : (k : Int) < (n : Int) := by omega
        obtain ⟨b1, o1, rfl, e1, e2⟩ := V1.out k hlt
        have f1 : wr.cell? ⟨b1, o1 + k * 2, none⟩ = some (.string ⟨L[k].name.toArray⟩) := (hbw.cell (World.block_lt_of_cell? w _ e1)).trans e1
        have f2 : wr.cell? ⟨b1, o1 + k * 2 + 1, none⟩ = some (.string ⟨L[k].value.toArray⟩) := (hbw.cell (World.block_lt_of_cell? w _ e2)).trans e2
        obtain ⟨nm, hnm⟩ : ∃ x : ByteArray, x = ⟨L[k].name.toArray⟩ := ⟨_, rfl⟩
        obtain ⟨vl, hvl⟩ : ∃ x : ByteArray, x = ⟨L[k].value.toArray⟩ := ⟨_, rfl⟩
        rw [← hnm] at f1 e1
        rw [← hvl] at f2 e2
        have hs1 : nm.size ≤ 9223372036854775807 := by rw [hnm, xsize]; exact (HZ.out _ (List.getElem_mem hlt)).1
        have hs2 : vl.size ≤ 9223372036854775807 := by rw [hvl, xsize]; exact (HZ.out _ (List.getElem_mem hlt)).2
        obtain ⟨nm', hnm'⟩ : ∃ x : ByteArray, x = ⟨(nm.data.toList.take m).toArray⟩ := ⟨_, rfl⟩
        obtain ⟨vl', hvl'⟩ : ∃ x : ByteArray, x = ⟨(vl.data.toList.take m).toArray⟩ := ⟨_, rfl⟩
        have HF1 := hid hnm'
        have HF2 := hid hvl'
        have HS := hid (show cellsH (fewH L (k + 1) m) = cellsH (fewH L k m) ++ [.string nm', .string vl'] by
          unfold fewH
          rw [List.take_add_one, List.getElem?_eq_getElem hlt, List.map_append, cellsH_app]
          congr 1
          rw [hnm', hvl', hnm, hvl]; rfl)
        have hblk2 : b1 < w.heap.size := World.block_lt_of_cell? w _ e1
        have HK := hid (fun (X : World) (hX : Below w.heap.size w X) => (⟨hX, (hX.cell hblk2).trans e1, (hX.cell hblk2).trans e2⟩ : Below w.heap.size w X ∧ X.cell? ⟨b1, o1 + k * 2, none⟩ = some (.string nm) ∧ X.cell? ⟨b1, o1 + k * 2 + 1, none⟩ = some (.string vl)))
        have hbD : Below w.heap.size w wr.drew := hbw.drew
        clear e1 e2 hblk2
        clear hnm hvl hnm' hvl'
        go_wp2
        go_region_held_law (fun wx => Below w.heap.size w wx ∧ wx.cell? ⟨b1, o1 + k * 2, none⟩ = some (.string nm) ∧ wx.cell? ⟨b1, o1 + k * 2 + 1, none⟩ = some (.string vl))
          (first | exact HK.out _ hbD | exact HK.out _ (by assumption) | (go_split_ands; exact HK.out _ (by assumption)) | (go_split_ands; exact HK.out _ (belowA (by assumption) _)))
          (first
            | (go_at_call 58; refine (xfew_any _ m _ (by omega) (by assumption)).mono ?_; rintro e w' ⟨rfl, rfl⟩; first | rw [← HF1.out] | rw [← HF2.out])
            | (refine xstep_append_own rfl (.tmp 20) (.tmp 36) 22 rfl w.heap.size 28 i0 _ 2 32 Tryd.underlying22 hi hz0 hz1 hz2 rfl (by decide) u7 k (cellsH (fewH L k m)) rfl (by exact HO.out.alloc _) ⟨wr.heap.size, 0, none⟩ 1 1 [.string nm', .string vl'] rfl rfl (by intro j u hj; match j, hj with | 0, hj => (simp at hj; subst hj; simp [Addr.add]) | 1, hj => (simp at hj; subst hj; simp [Addr.add])) (by intro u hu; simp at hu; rcases hu with rfl | rfl <;> rfl) (by unfold maxLen; omega) (by omega) (by simp; omega) ?_; intro v6 w6 hown6 hgrow6 hnil6; have hbW6 : Below w.heap.size w w6 := (belowA hbD _).grown hgrow6 (by simp; omega) (fun g hg => (HO.out.lt g hg).1)))
        all_goals
          (try dsimp only at *)
          go_wp2
          go_roundw
          case rel =>
            refine ⟨k + 1, by omega, by omega, by go_num, ?_, hbW6⟩
            rw [HS.out]
            first | exact hown6 | simpa using hown6
          case measure => simp [intOf]; omega
      · have hltn' : decide ((k : Int) < (n : Int)) = false := by rw [decide_eq_false_iff_not]; omega
        have hke : k = n := by omega
        subst hke
        have hlen : (fewH L k m).length = k := by simp [fewH]; omega
        have HR := hid (show wr.ownsRow w.heap.size 28 2 u7 (fewH L k m).length (cellsH (fewH L k m)) by rw [hlen]; exact HO.out)
        clear hlen
        go_wp2
        go_ret
        exact ⟨_, rfl, HR.out, hbw⟩
    · have hke : k = L.length := by omega
      subst hke
      have hlt' : decide ((L.length : Int) < (L.length : Int)) = false := by rw [decide_eq_false_iff_not]; omega
      have hef : fewH L L.length m = fewH L n m := by
        unfold fewH
        rw [List.take_length, List.take_of_length_le hkn]
      have hlen : (fewH L n m).length = L.length := by rw [← hef]; simp [fewH]
      have HR := hid (show wr.ownsRow w.heap.size 28 2 u7 (fewH L n m).length (cellsH (fewH L n m)) by rw [hlen, ← hef]; exact HO.out)
      clear hlen hef
      go_wp2
      go_ret
      exact ⟨_, rfl, HR.out, hbw⟩

end Go.Proofs.YtknlmifjadolpaaDoor
