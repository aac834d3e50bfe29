/-
  The walks of digest's small and great, at 32 bits.
-/
import Derived.Test.YtmjokddplikegaaDoorZ0
import Derived.Deep.RegionHeld
set_option linter.unusedSimpArgs false
set_option linter.unusedVariables false
namespace Go.Proofs.YtmjokddplikegaaDoor
open Go.RowKit

set_option maxHeartbeats 1000000 in
theorem small32 (x a b c : Nat) (w : World) (hx : x < 4294967296) (ha : a < 32) (hb : b < 32) (hc : c < 32) :
    Calls Tryd.prog 58 #[.int .u32 (x : Int), .agg #[.int .u64 (a : Int), .int .u64 (b : Int), .int .u64 (c : Int)], .int .u64 32] w fun e w' => e = .returned (.int .u32 ((smV 32 a b c x : Nat) : Int)) ∧ Below w.heap.size w w' := by
  have hA : (w.alloc (.cells #[.int .u64 (a : Int), .int .u64 (b : Int), .int .u64 (c : Int)] 51)).heap[w.heap.size]? = some (.cells #[.int .u64 (a : Int), .int .u64 (b : Int), .int .u64 (c : Int)] 51 (0, 0)) := heap_alloc_new w _
  have hbl : Below w.heap.size w (w.alloc (.cells #[.int .u64 (a : Int), .int .u64 (b : Int), .int .u64 (c : Int)] 51)) := (Below.refl _ w).alloc (Nat.le_refl _) _
  obtain ⟨W, hW⟩ : ∃ W, W = w.alloc (.cells #[.int .u64 (a : Int), .int .u64 (b : Int), .int .u64 (c : Int)] 51) := ⟨_, rfl⟩
  rw [← hW] at hA hbl
  have HW := hid hW.symm
  have c0 : W.cell? ⟨w.heap.size, 0, none⟩ = some (.int .u64 (a : Int)) := Lib.cell_of_heap hA 0
  have c1 : W.cell? ⟨w.heap.size, 1, none⟩ = some (.int .u64 (b : Int)) := Lib.cell_of_heap hA 1
  have c2 : W.cell? ⟨w.heap.size, 2, none⟩ = some (.int .u64 (c : Int)) := Lib.cell_of_heap hA 2
  have HB := hid hbl
  clear hW hA hbl
  go_enter Tryd.func58, Tryd.ntmps58
  go_wp2
  rw [HW.out]
  go_region_held (fun wx => wx.cell? ⟨w.heap.size, 0, none⟩ = some (.int .u64 (a : Int)) ∧ wx.cell? ⟨w.heap.size, 1, none⟩ = some (.int .u64 (b : Int)) ∧ wx.cell? ⟨w.heap.size, 2, none⟩ = some (.int .u64 (c : Int))) (go_keep) (first | (go_at_call 59; refine (turned32 _ _ _ (by assumption) (by assumption)).mono ?_; rintro e w' ⟨rfl, rfl⟩))
  all_goals
    go_wp2
    go_ret
    exact ⟨ret3 (sm3 x a b c hx), HB.out.drew⟩

set_option maxHeartbeats 1000000 in
theorem great32 (x a b c : Nat) (w : World) (hx : x < 4294967296) (ha : a < 32) (hb : b < 32) (hc : c < 32) :
    Calls Tryd.prog 50 #[.int .u32 (x : Int), .agg #[.int .u64 (a : Int), .int .u64 (b : Int), .int .u64 (c : Int)], .int .u64 32] w fun e w' => e = .returned (.int .u32 ((grV 32 a b c x : Nat) : Int)) ∧ Below w.heap.size w w' := by
  have hA : (w.alloc (.cells #[.int .u64 (a : Int), .int .u64 (b : Int), .int .u64 (c : Int)] 51)).heap[w.heap.size]? = some (.cells #[.int .u64 (a : Int), .int .u64 (b : Int), .int .u64 (c : Int)] 51 (0, 0)) := heap_alloc_new w _
  have hbl : Below w.heap.size w (w.alloc (.cells #[.int .u64 (a : Int), .int .u64 (b : Int), .int .u64 (c : Int)] 51)) := (Below.refl _ w).alloc (Nat.le_refl _) _
  obtain ⟨W, hW⟩ : ∃ W, W = w.alloc (.cells #[.int .u64 (a : Int), .int .u64 (b : Int), .int .u64 (c : Int)] 51) := ⟨_, rfl⟩
  rw [← hW] at hA hbl
  have HW := hid hW.symm
  have c0 : W.cell? ⟨w.heap.size, 0, none⟩ = some (.int .u64 (a : Int)) := Lib.cell_of_heap hA 0
  have c1 : W.cell? ⟨w.heap.size, 1, none⟩ = some (.int .u64 (b : Int)) := Lib.cell_of_heap hA 1
  have c2 : W.cell? ⟨w.heap.size, 2, none⟩ = some (.int .u64 (c : Int)) := Lib.cell_of_heap hA 2
  have HB := hid hbl
  clear hW hA hbl
  go_enter Tryd.func50, Tryd.ntmps50
  go_wp2
  rw [HW.out]
  go_region_held (fun wx => wx.cell? ⟨w.heap.size, 0, none⟩ = some (.int .u64 (a : Int)) ∧ wx.cell? ⟨w.heap.size, 1, none⟩ = some (.int .u64 (b : Int)) ∧ wx.cell? ⟨w.heap.size, 2, none⟩ = some (.int .u64 (c : Int))) (go_keep) (first | (go_at_call 59; refine (turned32 _ _ _ (by assumption) (by assumption)).mono ?_; rintro e w' ⟨rfl, rfl⟩))
  all_goals
    go_wp2
    go_ret
    exact ⟨ret3 (gr3 x a b c hx), HB.out.drew⟩

end Go.Proofs.YtmjokddplikegaaDoor
