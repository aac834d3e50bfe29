/-
  Contracts at known values; the walk of the law HostNumbers.
-/
import Derived.Test.YtdpihilikhbamaaDoorVp
set_option linter.unusedSimpArgs false
set_option linter.unusedVariables false
namespace Go.Proofs.YtdpihilikhbamaaDoor
open Go.RowKit

theorem four_at (s : ByteArray) (w : World) (n : Nat) (x : Int) (hg : Gd w) (hs : s.size ≤ 4000000000) (h : (fourV s.data.toList).getD 0 = n ∧ er (fourV s.data.toList) = x) :
    Calls Tryd.prog 9 #[.string s] w fun e w' => e = .returned (.tuple #[.int .u32 n, .int .i64 x]) ∧ Below w.heap.size w w' := by
  rw [← h.1, ← h.2]; exact four_any s w hg hs

theorem six_at (s : ByteArray) (w : World) (l : List Nat) (x : Int) (hg : Gd w) (hs : s.size ≤ 4000000000) (h : (sixV s.data.toList).getD zero8 = l ∧ er (sixV s.data.toList) = x) :
    Calls Tryd.prog 10 #[.string s] w fun e w' => e = .returned (.tuple #[agg8 l, .int .i64 x]) ∧ Below w.heap.size w w' := by
  rw [← h.1, ← h.2]; exact six_any s w hg hs

theorem numbered_at (s : ByteArray) (w : World) (b : Bool) (hs : s.size ≤ 4000000000) (h : numberedV s.data.toList = b) :
    Calls Tryd.prog 14 #[.string s] w fun e w' => e = .returned (.bool b) ∧ w = w' := by
  rw [← h]; exact numbered_any s w hs

theorem text4_at (n : Nat) (w : World) (l : List UInt8) (hg : Gd w) (h : n < 4294967296) (ht : text4 n = l) :
    Calls Tryd.prog 12 #[.int .u32 n] w fun e w' => e = .returned (.string ⟨l.toArray⟩) ∧ Below w.heap.size w w' := by
  rw [← ht]; exact text4_any n w hg h

theorem text6_at (x : List Nat) (w : World) (l : List UInt8) (hg : Gd w) (h8 : x.length = 8) (h16 : ∀ n ∈ x, n < 65536) (ht : text6 x = l) :
    Calls Tryd.prog 13 #[agg8 x] w fun e w' => e = .returned (.string ⟨l.toArray⟩) ∧ Below w.heap.size w w' := by
  rw [← ht]; exact text6_any x w hg h8 h16

theorem row_cell_alloc {w : World} {g : Nat} {cs : Array Value} {t : TypeId} {f : Nat × Nat} (h : w.heap[g]? = some (.cells cs t f)) (o : Obj) (j : Nat) (v : Value) (hj : cs[j]? = some v) : (w.alloc o).cell? ⟨g, j, none⟩ = some v := by
  rw [cell_of_row (w.alloc o) g j cs t f (row_kept h ((Below.refl _ w).alloc (Nat.le_refl _) o))]
  exact hj

set_option maxHeartbeats 4000000 in
set_option maxRecDepth 100000 in
theorem hostNumbers_walk (w : World) (hg : Gd w) :
    Calls Tryd.prog 3 #[] w fun e w' => e = .returned (.bool true) ∧ Below w.heap.size w w' := by
  have HG := hid hg
  clear hg
  go_enter Tryd.func3, Tryd.ntmps3
  go_wp2_with fail
  refine (four_at _ _ 256 0 HG.out (by decide) (by decide +kernel)).mono ?_
  rintro e w1 ⟨rfl, hb⟩
  go_wp2_with fail
  refine (four_at _ _ 0 10 (HG.out.kept hb) (by decide) (by decide +kernel)).mono ?_
  rintro e w2 ⟨rfl, hb'⟩
  have hb := below2 hb hb'
  clear hb'
  go_wp2_with fail
  refine (four_at _ _ 0 10 (HG.out.kept hb) (by decide) (by decide +kernel)).mono ?_
  rintro e w3 ⟨rfl, hb'⟩
  have hb := below2 hb hb'
  clear hb'
  go_wp2_with fail
  refine (four_at _ _ 0 10 (HG.out.kept hb) (by decide) (by decide +kernel)).mono ?_
  rintro e w4 ⟨rfl, hb'⟩
  have hb := below2 hb hb'
  clear hb'
  go_wp2_with fail
  refine (six_at _ _ [1, 2, 3, 4, 5, 6, 7, 0] 0 (HG.out.kept hb) (by decide) (by decide +kernel)).mono ?_
  rintro e w5 ⟨rfl, hb'⟩
  have hb := below2 hb hb'
  clear hb'
  rw [show agg8 [1, 2, 3, 4, 5, 6, 7, 0] = .agg #[.int .u16 1, .int .u16 2, .int .u16 3, .int .u16 4, .int .u16 5, .int .u16 6, .int .u16 7, .int .u16 0] from rfl]
  go_wp2_with fail
  have hbA := (Below.refl w5.heap.size w5).alloc (Nat.le_refl _) (.cells #[.int .u16 1, .int .u16 2, .int .u16 3, .int .u16 4, .int .u16 5, .int .u16 6, .int .u16 7, .int .u16 0] 27 (0, 0))
  refine (six_at _ _ zero8 10 (HG.out.kept (below2 hb hbA)) (by decide) (by decide +kernel)).mono ?_
  rintro e w6 ⟨rfl, hb'⟩
  have HR := hid (row_kept (heap_alloc_new w5 (.cells #[.int .u16 1, .int .u16 2, .int .u16 3, .int .u16 4, .int .u16 5, .int .u16 6, .int .u16 7, .int .u16 0] 27 (0, 0))) hb')
  have hb := below2 (below2 hb hbA) hb'
  clear hb' hbA
  rw [show agg8 zero8 = .agg #[.int .u16 0, .int .u16 0, .int .u16 0, .int .u16 0, .int .u16 0, .int .u16 0, .int .u16 0, .int .u16 0] from rfl]
  have hc0 := fun (o : Obj) => row_cell_alloc HR.out o 0 (.int .u16 1) rfl
  have hc1 := fun (o : Obj) => row_cell_alloc HR.out o 1 (.int .u16 2) rfl
  have hc2 := fun (o : Obj) => row_cell_alloc HR.out o 2 (.int .u16 3) rfl
  have hc3 := fun (o : Obj) => row_cell_alloc HR.out o 3 (.int .u16 4) rfl
  have hc4 := fun (o : Obj) => row_cell_alloc HR.out o 4 (.int .u16 5) rfl
  have hc5 := fun (o : Obj) => row_cell_alloc HR.out o 5 (.int .u16 6) rfl
  have hc6 := fun (o : Obj) => row_cell_alloc HR.out o 6 (.int .u16 7) rfl
  have hc7 := fun (o : Obj) => row_cell_alloc HR.out o 7 (.int .u16 0) rfl
  have heq : ∀ w, (Op.equalIn 10000 27 (.agg #[.int .u16 1, .int .u16 2, .int .u16 3, .int .u16 4, .int .u16 5, .int .u16 6, .int .u16 7, .int .u16 0]) (.agg #[.int .u16 1, .int .u16 2, .int .u16 3, .int .u16 4, .int .u16 5, .int .u16 6, .int .u16 7, .int .u16 0])).run Tryd.prog w = .ok true w := fun w => run_equal8 [1, 2, 3, 4, 5, 6, 7, 0] rfl w
  have hbB := (Below.refl w6.heap.size w6).alloc (Nat.le_refl _) (.cells #[.int .u16 0, .int .u16 0, .int .u16 0, .int .u16 0, .int .u16 0, .int .u16 0, .int .u16 0, .int .u16 0] 27 (0, 0))
  have hb := below2 hb hbB
  clear hbB
  go_wp2_with fail
  refine (is_some _ _ _ _ (HG.out.kept hb) (by decide) (by decide) (by decide +kernel)).mono ?_
  rintro e w7 ⟨rfl, hb'⟩
  have hb := below2 hb hb'
  clear hb'
  clear hc0 hc1 hc2 hc3 hc4 hc5 hc6 hc7 heq HR
  go_wp2_with fail
  refine (is_none _ _ (HG.out.kept hb) (by decide) (by decide +kernel)).mono ?_
  rintro e w8 ⟨rfl, hb'⟩
  have hb := below2 hb hb'
  clear hb'
  go_wp2_with fail
  refine (is_none _ _ (HG.out.kept hb) (by decide) (by decide +kernel)).mono ?_
  rintro e w9 ⟨rfl, hb'⟩
  have hb := below2 hb hb'
  clear hb'
  go_wp2_with fail
  refine (is_none _ _ (HG.out.kept hb) (by decide) (by decide +kernel)).mono ?_
  rintro e w10 ⟨rfl, hb'⟩
  have hb := below2 hb hb'
  clear hb'
  go_wp2_with fail
  refine (is_none _ _ (HG.out.kept hb) (by decide) (by decide +kernel)).mono ?_
  rintro e w11 ⟨rfl, hb'⟩
  have hb := below2 hb hb'
  clear hb'
  go_wp2_with fail
  refine (is_some _ _ _ _ (HG.out.kept hb) (by decide) (by decide) (by decide +kernel)).mono ?_
  rintro e w12 ⟨rfl, hb'⟩
  have hb := below2 hb hb'
  clear hb'
  go_wp2_with fail
  refine (is_some _ _ _ _ (HG.out.kept hb) (by decide) (by decide) (by decide +kernel)).mono ?_
  rintro e w13 ⟨rfl, hb'⟩
  have hb := below2 hb hb'
  clear hb'
  go_wp2_with fail
  refine (is_none _ _ (HG.out.kept hb) (by decide) (by decide +kernel)).mono ?_
  rintro e w14 ⟨rfl, hb'⟩
  have hb := below2 hb hb'
  clear hb'
  go_wp2_with fail
  refine (is_some _ _ _ _ (HG.out.kept hb) (by decide) (by decide) (by decide +kernel)).mono ?_
  rintro e w15 ⟨rfl, hb'⟩
  have hb := below2 hb hb'
  clear hb'
  go_wp2_with fail
  refine (text4_at 4294967295 _ [50, 53, 53, 46, 50, 53, 53, 46, 50, 53, 53, 46, 50, 53, 53] (HG.out.kept hb) (by decide) (by decide +kernel)).mono ?_
  rintro e w16 ⟨rfl, hb'⟩
  have hb := below2 hb hb'
  clear hb'
  go_wp2_with fail
  refine (text6_at [0, 0, 1, 0, 0, 0, 0, 0] _ [48, 58, 48, 58, 49, 58, 58] (HG.out.kept hb) rfl (by decide) (by decide +kernel)).mono ?_
  rintro e w17 ⟨rfl, hb'⟩
  have hb := below2 hb hb'
  clear hb'
  go_wp2_with fail
  refine (text6_at [1, 0, 2, 3, 4, 5, 6, 7] _ [49, 58, 48, 58, 50, 58, 51, 58, 52, 58, 53, 58, 54, 58, 55] (HG.out.kept hb) rfl (by decide) (by decide +kernel)).mono ?_
  rintro e w18 ⟨rfl, hb'⟩
  have hb := below2 hb hb'
  clear hb'
  go_wp2_with fail
  refine (numbered_at _ _ true (by decide) (by decide +kernel)).mono ?_
  rintro e w' ⟨rfl, rfl⟩
  go_wp2_with fail
  refine (numbered_at _ _ false (by decide) (by decide +kernel)).mono ?_
  rintro e w' ⟨rfl, rfl⟩
  go_wp2_with fail
  refine (known_any _ (HG.out.kept hb)).mono ?_
  rintro e w19 ⟨rfl, hb'⟩
  have hb := below2 hb hb'
  clear hb'
  go_wp2
  go_ret
  exact ⟨rfl, hb⟩

end Go.Proofs.YtdpihilikhbamaaDoor
