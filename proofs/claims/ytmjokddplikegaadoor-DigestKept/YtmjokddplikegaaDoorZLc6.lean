/-
  The walks of digest's small and great, at 64 bits.
-/
import Derived.Test.YtmjokddplikegaaDoorZ0
import Derived.Deep.RegionHeld
set_option linter.unusedSimpArgs false
set_option linter.unusedVariables false
namespace Go.Proofs.YtmjokddplikegaaDoor
open Go.RowKit

set_option maxHeartbeats 1000000 in
theorem small64 (x a b c : Nat) (w : World) (hx : x < 18446744073709551616) (ha : a < 64) (hb : b < 64) (hc : c < 64) :
    Calls Tryd.prog 61 #[.int .u64 (x : Int), .agg #[.int .u64 (a : Int), .int .u64 (b : Int), .int .u64 (c : Int)], .int .u64 64] w fun e w' => e = .returned (.int .u64 ((smV 64 a b c x : Nat) : Int)) ∧ Below w.heap.size w w' := by
  have hA : (w.alloc (.cells #[.int .u64 (a : Int), .int .u64 (b : Int), .int .u64 (c : Int)] 51)).heap[w.heap.size]? = some (.cells #[.int .u64 (a : Int), .int .u64 (b : Int), .int .u64 (c : Int)] 51 (0, 0)) := heap_alloc_new w _
  have hbl : Below w.heap.size w (w.alloc (.cells #[.int .u64 (a : Int), .int .u64 (b : Int), .int .u64 (c : Int)] 51)) := (Below.refl _ w).alloc (Nat.le_refl _) _
  obtain ⟨W, hW⟩ : ∃ W, W = w.alloc (.cells #[.int .u64 (a : Int), .int .u64 (b : Int), .int .u64 (c : Int)] 51) := ⟨_, rfl⟩
  rw [← hW] at hA hbl
  have HW := hid hW.symm
  have c0 : W.cell? ⟨w.heap.size, 0, none⟩ = some (.int .u64 (a : Int)) := Lib.cell_of_heap hA 0
  have c1 : W.cell? ⟨w.heap.size, 1, none⟩ = some (.int .u64 (b : Int)) := Lib.cell_of_heap hA 1
  have c2 : W.cell? ⟨w.heap.size, 2, none⟩ = some (.int .u64 (c : Int)) := Lib.cell_of_heap hA 2
  have HB := hid hbl
  clear hW hA hbl
  go_enter Tryd.func61, Tryd.ntmps61
  go_wp2
  rw [HW.out]
  go_region_held (fun wx => wx.cell? ⟨w.heap.size, 0, none⟩ = some (.int .u64 (a : Int)) ∧ wx.cell? ⟨w.heap.size, 1, none⟩ = some (.int .u64 (b : Int)) ∧ wx.cell? ⟨w.heap.size, 2, none⟩ = some (.int .u64 (c : Int))) (go_keep) (first | (go_at_call 62; refine (turned64 _ _ _ (by assumption) (by assumption)).mono ?_; rintro e w' ⟨rfl, rfl⟩))
  all_goals
    go_wp2
    go_ret
    exact ⟨ret6 (sm6 x a b c hx), HB.out.drew⟩

set_option maxHeartbeats 1000000 in
theorem great64 (x a b c : Nat) (w : World) (hx : x < 18446744073709551616) (ha : a < 64) (hb : b < 64) (hc : c < 64) :
    Calls Tryd.prog 54 #[.int .u64 (x : Int), .agg #[.int .u64 (a : Int), .int .u64 (b : Int), .int .u64 (c : Int)], .int .u64 64] w fun e w' => e = .returned (.int .u64 ((grV 64 a b c x : Nat) : Int)) ∧ Below w.heap.size w w' := by
  have hA : (w.alloc (.cells #[.int .u64 (a : Int), .int .u64 (b : Int), .int .u64 (c : Int)] 51)).heap[w.heap.size]? = some (.cells #[.int .u64 (a : Int), .int .u64 (b : Int), .int .u64 (c : Int)] 51 (0, 0)) := heap_alloc_new w _
  have hbl : Below w.heap.size w (w.alloc (.cells #[.int .u64 (a : Int), .int .u64 (b : Int), .int .u64 (c : Int)] 51)) := (Below.refl _ w).alloc (Nat.le_refl _) _
  obtain ⟨W, hW⟩ : ∃ W, W = w.alloc (.cells #[.int .u64 (a : Int), .int .u64 (b : Int), .int .u64 (c : Int)] 51) := ⟨_, rfl⟩
  rw [← hW] at hA hbl
  have HW := hid hW.symm
  have c0 : W.cell? ⟨w.heap.size, 0, none⟩ = some (.int .u64 (a : Int)) := Lib.cell_of_heap hA 0
  have c1 : W.cell? ⟨w.heap.size, 1, none⟩ = some (.int .u64 (b : Int)) := Lib.cell_of_heap hA 1
  have c2 : W.cell? ⟨w.heap.size, 2, none⟩ = some (.int .u64 (c : Int)) := Lib.cell_of_heap hA 2
  have HB := hid hbl
  clear hW hA hbl
  go_enter Tryd.func54, Tryd.ntmps54
  go_wp2
  rw [HW.out]
  go_region_held (fun wx => wx.cell? ⟨w.heap.size, 0, none⟩ = some (.int .u64 (a : Int)) ∧ wx.cell? ⟨w.heap.size, 1, none⟩ = some (.int .u64 (b : Int)) ∧ wx.cell? ⟨w.heap.size, 2, none⟩ = some (.int .u64 (c : Int))) (go_keep) (first | (go_at_call 62; refine (turned64 _ _ _ (by assumption) (by assumption)).mono ?_; rintro e w' ⟨rfl, rfl⟩))
  all_goals
    go_wp2
    go_ret
    exact ⟨ret6 (gr6 x a b c hx), HB.out.drew⟩

end Go.Proofs.YtmjokddplikegaaDoor
