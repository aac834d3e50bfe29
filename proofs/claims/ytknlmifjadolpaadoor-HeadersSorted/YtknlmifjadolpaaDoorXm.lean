/-
  The walk of ostiarylaw5.known.
-/
import Derived.Test.YtknlmifjadolpaaDoorXl
import Derived.Laws.Rows
set_option linter.unusedSimpArgs false
set_option linter.unusedVariables false
namespace Go.Proofs.YtknlmifjadolpaaDoor
open Go.RowKit

def knA : List Hd := [⟨[65], [49]⟩, ⟨[98], [50]⟩, ⟨[97], [51]⟩]
def knB : List Hd := [⟨[97], [120, 44, 32, 34, 121, 44, 32, 122, 34, 32, 44, 32, 119]⟩]
def knC : List (List UInt8) := [[120], [34, 121, 44, 32, 122, 34], [119]]

theorem knA_get : getT knA [97] = [49, 44, 32, 51] ∧ getB knA [97] = true := by decide
theorem knB_split : splitV knB [65] = knC ∧ getB knB [65] = true := by decide
theorem kn_safe : safeV [67, 111, 110, 116, 101, 110, 116, 45, 84, 121, 112, 101] [116, 101, 120, 116, 47, 112, 108, 97, 105, 110, 59, 113] = true := by decide +kernel

theorem xheap_new (w : World) (o : Obj) : (w.alloc o).heap[w.heap.size]? = some o := heap_alloc_new w o

/-- A new block of headers. -/
theorem hd_new (w : World) (L : List Hd) (t : TypeId) (hl : L.length ≤ 1000) : HdAt (w.alloc (.cells (cellsH L).toArray t)) (.slice (some ⟨w.heap.size, 0, none⟩) L.length L.length) L := by
  refine hd_of (Nat.le_refl _) (by unfold maxLen; omega) fun j hj => ?_
  have h := cellsH_at L j hj
  have hc : ∀ i, (w.alloc (.cells (cellsH L).toArray t)).cell? ⟨w.heap.size, i, none⟩ = (cellsH L)[i]? := fun i => by
    rw [Lib.cell_of_heap (xheap_new w _)]; simp
  rw [Nat.zero_add, hc, hc]
  exact h

theorem tx_new (w : World) (L : List (List UInt8)) (t : TypeId) (hl : L.length ≤ 1000) : TxAt (w.alloc (.cells (cellsT L).toArray t)) (.slice (some ⟨w.heap.size, 0, none⟩) L.length L.length) L := by
  refine tx_of (Nat.le_refl _) (by unfold maxLen; omega) fun j hj => ?_
  have hc : ∀ i, (w.alloc (.cells (cellsT L).toArray t)).cell? ⟨w.heap.size, i, none⟩ = (cellsT L)[i]? := fun i => by
    rw [Lib.cell_of_heap (xheap_new w _)]; simp
  rw [Nat.zero_add, hc]
  simp [cellsT, hj]

theorem belowA {w w' : World} (h : Below w.heap.size w w') (o : Obj) : Below w.heap.size w (w'.alloc o) := h.alloc h.size o

set_option maxHeartbeats 2000000 in
set_option maxRecDepth 100000 in
theorem known_any (w : World) (hg : G5 w) : Calls Tryd.prog 21 #[] w fun e w' => e = .returned (.bool true) ∧ Below w.heap.size w w' := by
  have HG := hid hg
  clear hg
  go_enter Tryd.func21, Tryd.ntmps21
  go_wp2_with fail
  refine (h_any _ _ _).mono ?_
  rintro e w1 ⟨rfl, hb1⟩
  unfold hdVal
  go_wp2_with fail
  refine (h_any _ _ _).mono ?_
  rintro e w2 ⟨rfl, hb2⟩
  unfold hdVal
  go_wp2_with fail
  refine (h_any _ _ _).mono ?_
  rintro e w3 ⟨rfl, hb3⟩
  unfold hdVal
  have hbw3 := belowT (belowT hb1 hb2) hb3
  clear hb1 hb2 hb3
  go_wp2_with fail
  have hh1 := hd_new w3 knA 28 (by decide)
  refine (get_any _ knA ⟨#[97]⟩ _ hh1 (by decide) (fun h hh => by simp [knA] at hh; rcases hh with rfl | rfl | rfl <;> decide) (by decide) (by decide)).mono ?_
  rintro e w4 ⟨rfl, hb4⟩
  rw [show (⟨#[97]⟩ : ByteArray).data.toList = [97] from rfl, knA_get.1, knA_get.2]
  have hbw4 := belowT (belowA hbw3 _) hb4
  clear hh1 hb4 hbw3
  go_wp2_with fail
  refine (h_any _ _ _).mono ?_
  rintro e w5 ⟨rfl, hb5⟩
  unfold hdVal
  have hbw5 := belowT hbw4 hb5
  clear hb5 hbw4
  go_wp2_with fail
  have hh2 := hd_new w5 knB 28 (by decide)
  refine (split_any _ knB ⟨#[65]⟩ _ hh2 (by decide) (fun h hh => by simp [knB] at hh; rcases hh with rfl; decide) (by decide) (by decide) knB_split.2).mono ?_
  rintro e w6 ⟨v6, rfl, hown6, hb6⟩
  rw [show (⟨#[65]⟩ : ByteArray).data.toList = [65] from rfl, knB_split.1] at hown6
  have ht6 := own_txt' hown6
  have HBW6 := hid (belowT (belowA hbw5 _) hb6)
  have HT6 := hid ht6
  clear hh2 hb6 hbw5 hown6 ht6
  go_wp2_with fail
  have hbn := belowA (Below.refl w6.heap.size w6) (.cells (cellsT knC).toArray 9)
  refine (sameT_any _ _ knC knC _ (HT6.out.kept hbn) (tx_new w6 knC 9 (by decide)) (by decide) (by decide)).mono ?_
  rintro e w7 ⟨rfl, hb7⟩
  have HBW7 := hid (belowT (belowT HBW6.out hbn) hb7)
  clear hbn hb7
  rw [show decide (knC = knC) = true by simp]
  go_wp2_with fail
  refine (safe_any _ _ _ (HG.out.kept HBW7.out) (by decide) (by decide)).mono ?_
  rintro e w8 ⟨rfl, hb8⟩
  rw [show (⟨#[67, 111, 110, 116, 101, 110, 116, 45, 84, 121, 112, 101]⟩ : ByteArray).data.toList = [67, 111, 110, 116, 101, 110, 116, 45, 84, 121, 112, 101] from rfl, show (⟨#[116, 101, 120, 116, 47, 112, 108, 97, 105, 110, 59, 113]⟩ : ByteArray).data.toList = [116, 101, 120, 116, 47, 112, 108, 97, 105, 110, 59, 113] from rfl, kn_safe]
  go_wp2
  go_ret
  exact ⟨rfl, belowT HBW7.out hb8⟩

end Go.Proofs.YtknlmifjadolpaaDoor
