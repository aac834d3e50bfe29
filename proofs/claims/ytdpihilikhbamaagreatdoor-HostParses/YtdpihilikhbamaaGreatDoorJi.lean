/-
  The walk of the law HostParses.
-/
import Derived.Test.YtdpihilikhbamaaGreatDoorSs
import Derived.Test.YtdpihilikhbamaaGreatDoorVp
import Derived.Test.YtdpihilikhbamaaGreatDoorVq
set_option linter.unusedSimpArgs false
set_option linter.unusedVariables false
namespace Go.Proofs.YtdpihilikhbamaaGreatDoor
open Go.RowKit

set_option maxHeartbeats 400000 in
theorem told_yes (w : World) : Calls Tryz.prog 11 #[.int .i64 0, .bool true] w fun e w' => e = .returned (.bool true) ∧ w = w' := by
  go_enter Tryz.func11, Tryz.ntmps11
  go_wp2
  go_ret
  exact ⟨rfl, rfl⟩

set_option maxHeartbeats 400000 in
theorem told_no (w : World) : Calls Tryz.prog 11 #[.int .i64 10, .bool false] w fun e w' => e = .returned (.bool true) ∧ w = w' := by
  go_enter Tryz.func11, Tryz.ntmps11
  go_wp2
  go_ret
  exact ⟨rfl, rfl⟩

theorem told_er {α : Type} (o : Option α) (w : World) : Calls Tryz.prog 11 #[.int .i64 (er o), .bool o.isSome] w fun e w' => e = .returned (.bool true) ∧ w = w' := by
  cases o with
  | none => exact told_no w
  | some a => exact told_yes w

set_option maxHeartbeats 4000000 in
set_option maxRecDepth 100000 in
theorem hostParses_walk (s : ByteArray) (special : Bool) (w : World) (hs : s.size ≤ maxLen) (hg : Gd w) :
    Calls Tryz.prog 3 #[.string s, .bool special] w fun e w' => e = .returned (.bool true) ∧ Below w.heap.size w w' := by
  unfold maxLen at hs
  have HG := hid hg
  clear hg
  have HFew := hid (fun W => few_any s 500 W (by omega) hs)
  have hfl : (s.data.toList.take 500).length ≤ 500 := List.length_take_le _ _
  generalize s.data.toList.take 500 = f at HFew hfl
  obtain ⟨F, hF⟩ : ∃ F : ByteArray, F = ⟨f.toArray⟩ := ⟨_, rfl⟩
  have hFs : F.size ≤ 500 := by rw [hF]; show f.toArray.size ≤ _; simpa using hfl
  have HFd := hid (show F.data.toList = f by rw [hF])
  rw [← hF] at HFew
  clear hF hfl
  have HP := hid (fun (W : World) (h : Gd W) => parse_any F special W h (by omega))
  have HRP := hid (fun (W : World) => show Calls Tryz.prog 6 #[.string F, .bool special] W (fun e w' => e = .returned (.tuple #[.string ⟨((parseV F.data.toList special).getD []).toArray⟩, .bool (parseV F.data.toList special).isSome]) ∧ Below W.heap.size W w') from rparse_any F special W (by omega))
  have HTP := hid (fun W => told_er (parseV F.data.toList special) W)
  have HNb := hid (fun W => numbered_any F W (by omega))
  have HRN := hid (fun W => rnumbered_any F W (by omega))
  have hF4 := fun (W : World) (h : Gd W) => four_any F W h (by omega)
  have hR4 := fun (W : World) => show Calls Tryz.prog 8 #[.string F] W (fun e w' => e = .returned (.tuple #[.int .u32 ((fourV F.data.toList).getD 0 : Nat), .bool (fourV F.data.toList).isSome]) ∧ Below W.heap.size W w') from rfour_any F W (by omega)
  have hS6 := fun (W : World) (h : Gd W) => six_any F W h (by omega)
  have hR6 := fun (W : World) => show Calls Tryz.prog 10 #[.string F] W (fun e w' => e = .returned (.tuple #[agg8 ((sixV F.data.toList).getD zero8), .bool (sixV F.data.toList).isSome]) ∧ Below W.heap.size W w') from rsix_any F W (by omega)
  generalize (⟨((parseV F.data.toList special).getD []).toArray⟩ : ByteArray) = A at HP HRP
  generalize er (parseV F.data.toList special) = pe at HP HTP
  generalize (parseV F.data.toList special).isSome = po at HRP HTP
  generalize numberedV F.data.toList = nb at HNb HRN
  cases hf : fourV F.data.toList with
  | none =>
    rw [hf] at hF4 hR4
    have HF := hid (fun (W : World) (h : Gd W) => show Calls Tryz.prog 7 #[.string F] W (fun e w' => e = .returned (.tuple #[.int .u32 0, .int .i64 10]) ∧ Below W.heap.size W w') from hF4 W h)
    have HRF := hid (fun (W : World) => show Calls Tryz.prog 8 #[.string F] W (fun e w' => e = .returned (.tuple #[.int .u32 0, .bool false]) ∧ Below W.heap.size W w') from hR4 W)
    clear hf hF4 hR4
    cases hx : sixV F.data.toList with
    | none =>
      rw [hx] at hS6 hR6
      have HS := hid (fun (W : World) (h : Gd W) => show Calls Tryz.prog 9 #[.string F] W (fun e w' => e = .returned (.tuple #[.agg #[.int .u16 0, .int .u16 0, .int .u16 0, .int .u16 0, .int .u16 0, .int .u16 0, .int .u16 0, .int .u16 0], .int .i64 10]) ∧ Below W.heap.size W w') from hS6 W h)
      have HRS := hid (fun (W : World) => show Calls Tryz.prog 10 #[.string F] W (fun e w' => e = .returned (.tuple #[.agg #[.int .u16 0, .int .u16 0, .int .u16 0, .int .u16 0, .int .u16 0, .int .u16 0, .int .u16 0, .int .u16 0], .bool false]) ∧ Below W.heap.size W w') from hR6 W)
      have heq := fun W => (show (Op.equalIn 10000 34 (.agg #[.int .u16 0, .int .u16 0, .int .u16 0, .int .u16 0, .int .u16 0, .int .u16 0, .int .u16 0, .int .u16 0]) (.agg #[.int .u16 0, .int .u16 0, .int .u16 0, .int .u16 0, .int .u16 0, .int .u16 0, .int .u16 0, .int .u16 0])).run Tryz.prog W = .ok true W from run_equal8 zero8 rfl W)
      clear hx hS6 hR6
      go_enter Tryz.func3, Tryz.ntmps3
      go_wp2_with fail
      refine (HFew.out w).mono ?_
      rintro e w' ⟨rfl, rfl⟩
      go_wp2_with fail
      refine (HP.out _ HG.out).mono ?_
      rintro e w1 ⟨rfl, hb⟩
      go_wp2_with fail
      refine (HRP.out _).mono ?_
      rintro e w2 ⟨rfl, hb'⟩
      have hb := below2 hb hb'
      clear hb'
      go_wp2_with fail
      refine (HF.out _ (HG.out.kept hb)).mono ?_
      rintro e w3 ⟨rfl, hb'⟩
      have hb := below2 hb hb'
      clear hb'
      go_wp2_with fail
      refine (HRF.out _).mono ?_
      rintro e w4 ⟨rfl, hb'⟩
      have hb := below2 hb hb'
      clear hb'
      go_wp2_with fail
      refine (HS.out _ (HG.out.kept hb)).mono ?_
      rintro e w5 ⟨rfl, hb'⟩
      have hb := below2 hb hb'
      clear hb'
      go_wp2_with fail
      have hbA := (Below.refl w5.heap.size w5).alloc (Nat.le_refl _) (.cells #[.int .u16 0, .int .u16 0, .int .u16 0, .int .u16 0, .int .u16 0, .int .u16 0, .int .u16 0, .int .u16 0] 34 (0, 0))
      have hb := below2 hb hbA
      clear hbA
      refine (HRS.out _).mono ?_
      rintro e w6 ⟨rfl, hb'⟩
      have hr1 := row_kept (heap_alloc_new w5 (.cells #[.int .u16 0, .int .u16 0, .int .u16 0, .int .u16 0, .int .u16 0, .int .u16 0, .int .u16 0, .int .u16 0] 34 (0, 0))) hb'
      have hb := below2 hb hb'
      clear hb'
      obtain ⟨W7, hW7⟩ : ∃ W7 : World, W7 = w6.alloc (.cells #[.int .u16 0, .int .u16 0, .int .u16 0, .int .u16 0, .int .u16 0, .int .u16 0, .int .u16 0, .int .u16 0] 34 (0, 0)) := ⟨_, rfl⟩
      have hbA := (Below.refl w6.heap.size w6).alloc (Nat.le_refl _) (.cells #[.int .u16 0, .int .u16 0, .int .u16 0, .int .u16 0, .int .u16 0, .int .u16 0, .int .u16 0, .int .u16 0] 34 (0, 0))
      have hr2 := heap_alloc_new w6 (.cells #[.int .u16 0, .int .u16 0, .int .u16 0, .int .u16 0, .int .u16 0, .int .u16 0, .int .u16 0, .int .u16 0] 34 (0, 0))
      have hr1 := row_kept hr1 hbA
      have hb := below2 hb hbA
      rw [← hW7] at hr1 hr2 hb
      have HR1 := hid hr1
      have HR2 := hid hr2
      have HW7 := hid hW7
      clear hbA hr1 hr2 hW7
      go_wp2_with fail
      rw [← HW7.out]
      clear HW7
      refine (HTP.out _).mono ?_
      rintro e w' ⟨rfl, rfl⟩
      go_wp2_with fail
      refine (told_no _).mono ?_
      rintro e w' ⟨rfl, rfl⟩
      have hc0 := (cell_of_row W7 w5.heap.size 0 _ _ _ HR1.out).trans (show _ = some (Value.int .u16 0) from rfl)
      have hc1 := (cell_of_row W7 w5.heap.size 1 _ _ _ HR1.out).trans (show _ = some (Value.int .u16 0) from rfl)
      have hc2 := (cell_of_row W7 w5.heap.size 2 _ _ _ HR1.out).trans (show _ = some (Value.int .u16 0) from rfl)
      have hc3 := (cell_of_row W7 w5.heap.size 3 _ _ _ HR1.out).trans (show _ = some (Value.int .u16 0) from rfl)
      have hc4 := (cell_of_row W7 w5.heap.size 4 _ _ _ HR1.out).trans (show _ = some (Value.int .u16 0) from rfl)
      have hc5 := (cell_of_row W7 w5.heap.size 5 _ _ _ HR1.out).trans (show _ = some (Value.int .u16 0) from rfl)
      have hc6 := (cell_of_row W7 w5.heap.size 6 _ _ _ HR1.out).trans (show _ = some (Value.int .u16 0) from rfl)
      have hc7 := (cell_of_row W7 w5.heap.size 7 _ _ _ HR1.out).trans (show _ = some (Value.int .u16 0) from rfl)
      have hd0 := (cell_of_row W7 w6.heap.size 0 _ _ _ HR2.out).trans (show _ = some (Value.int .u16 0) from rfl)
      have hd1 := (cell_of_row W7 w6.heap.size 1 _ _ _ HR2.out).trans (show _ = some (Value.int .u16 0) from rfl)
      have hd2 := (cell_of_row W7 w6.heap.size 2 _ _ _ HR2.out).trans (show _ = some (Value.int .u16 0) from rfl)
      have hd3 := (cell_of_row W7 w6.heap.size 3 _ _ _ HR2.out).trans (show _ = some (Value.int .u16 0) from rfl)
      have hd4 := (cell_of_row W7 w6.heap.size 4 _ _ _ HR2.out).trans (show _ = some (Value.int .u16 0) from rfl)
      have hd5 := (cell_of_row W7 w6.heap.size 5 _ _ _ HR2.out).trans (show _ = some (Value.int .u16 0) from rfl)
      have hd6 := (cell_of_row W7 w6.heap.size 6 _ _ _ HR2.out).trans (show _ = some (Value.int .u16 0) from rfl)
      have hd7 := (cell_of_row W7 w6.heap.size 7 _ _ _ HR2.out).trans (show _ = some (Value.int .u16 0) from rfl)
      go_wp2_with fail
      clear hc0 hc1 hc2 hc3 hc4 hc5 hc6 hc7 hd0 hd1 hd2 hd3 hd4 hd5 hd6 hd7 heq
      refine (told_no _).mono ?_
      rintro e w' ⟨rfl, rfl⟩
      go_wp2_with fail
      refine (HNb.out _).mono ?_
      rintro e w' ⟨rfl, rfl⟩
      go_wp2_with fail
      refine (HRN.out _).mono ?_
      rintro e w8 ⟨rfl, hb'⟩
      have hb := below2 hb hb'
      clear hb'
      go_wp2_with fail
      refine (known_any _ (HG.out.kept hb)).mono ?_
      rintro e w9 ⟨rfl, hb'⟩
      have hb := below2 hb hb'
      clear hb'
      go_wp2_with fail
      go_ret
      exact ⟨rfl, hb⟩
    | some x =>
      rw [hx] at hS6 hR6
      obtain ⟨hx8, _⟩ := sixV_ok hx
      clear hx
      obtain ⟨x0, x1, x2, x3, x4, x5, x6, x7, rfl⟩ := eight_lst x hx8
      have HS := hid (fun (W : World) (h : Gd W) => show Calls Tryz.prog 9 #[.string F] W (fun e w' => e = .returned (.tuple #[.agg #[.int .u16 (x0 : Int), .int .u16 (x1 : Int), .int .u16 (x2 : Int), .int .u16 (x3 : Int), .int .u16 (x4 : Int), .int .u16 (x5 : Int), .int .u16 (x6 : Int), .int .u16 (x7 : Int)], .int .i64 0]) ∧ Below W.heap.size W w') from hS6 W h)
      have HRS := hid (fun (W : World) => show Calls Tryz.prog 10 #[.string F] W (fun e w' => e = .returned (.tuple #[.agg #[.int .u16 (x0 : Int), .int .u16 (x1 : Int), .int .u16 (x2 : Int), .int .u16 (x3 : Int), .int .u16 (x4 : Int), .int .u16 (x5 : Int), .int .u16 (x6 : Int), .int .u16 (x7 : Int)], .bool true]) ∧ Below W.heap.size W w') from hR6 W)
      have heq := fun W => (show (Op.equalIn 10000 34 (.agg #[.int .u16 (x0 : Int), .int .u16 (x1 : Int), .int .u16 (x2 : Int), .int .u16 (x3 : Int), .int .u16 (x4 : Int), .int .u16 (x5 : Int), .int .u16 (x6 : Int), .int .u16 (x7 : Int)]) (.agg #[.int .u16 (x0 : Int), .int .u16 (x1 : Int), .int .u16 (x2 : Int), .int .u16 (x3 : Int), .int .u16 (x4 : Int), .int .u16 (x5 : Int), .int .u16 (x6 : Int), .int .u16 (x7 : Int)])).run Tryz.prog W = .ok true W from run_equal8 [x0, x1, x2, x3, x4, x5, x6, x7] rfl W)
      clear hx8 hS6 hR6
      go_enter Tryz.func3, Tryz.ntmps3
      go_wp2_with fail
      refine (HFew.out w).mono ?_
      rintro e w' ⟨rfl, rfl⟩
      go_wp2_with fail
      refine (HP.out _ HG.out).mono ?_
      rintro e w1 ⟨rfl, hb⟩
      go_wp2_with fail
      refine (HRP.out _).mono ?_
      rintro e w2 ⟨rfl, hb'⟩
      have hb := below2 hb hb'
      clear hb'
      go_wp2_with fail
      refine (HF.out _ (HG.out.kept hb)).mono ?_
      rintro e w3 ⟨rfl, hb'⟩
      have hb := below2 hb hb'
      clear hb'
      go_wp2_with fail
      refine (HRF.out _).mono ?_
      rintro e w4 ⟨rfl, hb'⟩
      have hb := below2 hb hb'
      clear hb'
      go_wp2_with fail
      refine (HS.out _ (HG.out.kept hb)).mono ?_
      rintro e w5 ⟨rfl, hb'⟩
      have hb := below2 hb hb'
      clear hb'
      go_wp2_with fail
      have hbA := (Below.refl w5.heap.size w5).alloc (Nat.le_refl _) (.cells #[.int .u16 (x0 : Int), .int .u16 (x1 : Int), .int .u16 (x2 : Int), .int .u16 (x3 : Int), .int .u16 (x4 : Int), .int .u16 (x5 : Int), .int .u16 (x6 : Int), .int .u16 (x7 : Int)] 34 (0, 0))
      have hb := below2 hb hbA
      clear hbA
      refine (HRS.out _).mono ?_
      rintro e w6 ⟨rfl, hb'⟩
      have hr1 := row_kept (heap_alloc_new w5 (.cells #[.int .u16 (x0 : Int), .int .u16 (x1 : Int), .int .u16 (x2 : Int), .int .u16 (x3 : Int), .int .u16 (x4 : Int), .int .u16 (x5 : Int), .int .u16 (x6 : Int), .int .u16 (x7 : Int)] 34 (0, 0))) hb'
      have hb := below2 hb hb'
      clear hb'
      obtain ⟨W7, hW7⟩ : ∃ W7 : World, W7 = w6.alloc (.cells #[.int .u16 (x0 : Int), .int .u16 (x1 : Int), .int .u16 (x2 : Int), .int .u16 (x3 : Int), .int .u16 (x4 : Int), .int .u16 (x5 : Int), .int .u16 (x6 : Int), .int .u16 (x7 : Int)] 34 (0, 0)) := ⟨_, rfl⟩
      have hbA := (Below.refl w6.heap.size w6).alloc (Nat.le_refl _) (.cells #[.int .u16 (x0 : Int), .int .u16 (x1 : Int), .int .u16 (x2 : Int), .int .u16 (x3 : Int), .int .u16 (x4 : Int), .int .u16 (x5 : Int), .int .u16 (x6 : Int), .int .u16 (x7 : Int)] 34 (0, 0))
      have hr2 := heap_alloc_new w6 (.cells #[.int .u16 (x0 : Int), .int .u16 (x1 : Int), .int .u16 (x2 : Int), .int .u16 (x3 : Int), .int .u16 (x4 : Int), .int .u16 (x5 : Int), .int .u16 (x6 : Int), .int .u16 (x7 : Int)] 34 (0, 0))
      have hr1 := row_kept hr1 hbA
      have hb := below2 hb hbA
      rw [← hW7] at hr1 hr2 hb
      have HR1 := hid hr1
      have HR2 := hid hr2
      have HW7 := hid hW7
      clear hbA hr1 hr2 hW7
      go_wp2_with fail
      rw [← HW7.out]
      clear HW7
      refine (HTP.out _).mono ?_
      rintro e w' ⟨rfl, rfl⟩
      go_wp2_with fail
      refine (told_no _).mono ?_
      rintro e w' ⟨rfl, rfl⟩
      have hc0 := (cell_of_row W7 w5.heap.size 0 _ _ _ HR1.out).trans (show _ = some (Value.int .u16 (x0 : Int)) from rfl)
      have hc1 := (cell_of_row W7 w5.heap.size 1 _ _ _ HR1.out).trans (show _ = some (Value.int .u16 (x1 : Int)) from rfl)
      have hc2 := (cell_of_row W7 w5.heap.size 2 _ _ _ HR1.out).trans (show _ = some (Value.int .u16 (x2 : Int)) from rfl)
      have hc3 := (cell_of_row W7 w5.heap.size 3 _ _ _ HR1.out).trans (show _ = some (Value.int .u16 (x3 : Int)) from rfl)
      have hc4 := (cell_of_row W7 w5.heap.size 4 _ _ _ HR1.out).trans (show _ = some (Value.int .u16 (x4 : Int)) from rfl)
      have hc5 := (cell_of_row W7 w5.heap.size 5 _ _ _ HR1.out).trans (show _ = some (Value.int .u16 (x5 : Int)) from rfl)
      have hc6 := (cell_of_row W7 w5.heap.size 6 _ _ _ HR1.out).trans (show _ = some (Value.int .u16 (x6 : Int)) from rfl)
      have hc7 := (cell_of_row W7 w5.heap.size 7 _ _ _ HR1.out).trans (show _ = some (Value.int .u16 (x7 : Int)) from rfl)
      have hd0 := (cell_of_row W7 w6.heap.size 0 _ _ _ HR2.out).trans (show _ = some (Value.int .u16 (x0 : Int)) from rfl)
      have hd1 := (cell_of_row W7 w6.heap.size 1 _ _ _ HR2.out).trans (show _ = some (Value.int .u16 (x1 : Int)) from rfl)
      have hd2 := (cell_of_row W7 w6.heap.size 2 _ _ _ HR2.out).trans (show _ = some (Value.int .u16 (x2 : Int)) from rfl)
      have hd3 := (cell_of_row W7 w6.heap.size 3 _ _ _ HR2.out).trans (show _ = some (Value.int .u16 (x3 : Int)) from rfl)
      have hd4 := (cell_of_row W7 w6.heap.size 4 _ _ _ HR2.out).trans (show _ = some (Value.int .u16 (x4 : Int)) from rfl)
      have hd5 := (cell_of_row W7 w6.heap.size 5 _ _ _ HR2.out).trans (show _ = some (Value.int .u16 (x5 : Int)) from rfl)
      have hd6 := (cell_of_row W7 w6.heap.size 6 _ _ _ HR2.out).trans (show _ = some (Value.int .u16 (x6 : Int)) from rfl)
      have hd7 := (cell_of_row W7 w6.heap.size 7 _ _ _ HR2.out).trans (show _ = some (Value.int .u16 (x7 : Int)) from rfl)
      go_wp2_with fail
      clear hc0 hc1 hc2 hc3 hc4 hc5 hc6 hc7 hd0 hd1 hd2 hd3 hd4 hd5 hd6 hd7 heq
      refine (told_yes _).mono ?_
      rintro e w' ⟨rfl, rfl⟩
      go_wp2_with fail
      refine (HNb.out _).mono ?_
      rintro e w' ⟨rfl, rfl⟩
      go_wp2_with fail
      refine (HRN.out _).mono ?_
      rintro e w8 ⟨rfl, hb'⟩
      have hb := below2 hb hb'
      clear hb'
      go_wp2_with fail
      refine (known_any _ (HG.out.kept hb)).mono ?_
      rintro e w9 ⟨rfl, hb'⟩
      have hb := below2 hb hb'
      clear hb'
      go_wp2_with fail
      go_ret
      exact ⟨rfl, hb⟩
  | some n =>
    rw [hf] at hF4 hR4
    have HF := hid (fun (W : World) (h : Gd W) => show Calls Tryz.prog 7 #[.string F] W (fun e w' => e = .returned (.tuple #[.int .u32 n, .int .i64 0]) ∧ Below W.heap.size W w') from hF4 W h)
    have HRF := hid (fun (W : World) => show Calls Tryz.prog 8 #[.string F] W (fun e w' => e = .returned (.tuple #[.int .u32 n, .bool true]) ∧ Below W.heap.size W w') from hR4 W)
    clear hf hF4 hR4
    cases hx : sixV F.data.toList with
    | none =>
      rw [hx] at hS6 hR6
      have HS := hid (fun (W : World) (h : Gd W) => show Calls Tryz.prog 9 #[.string F] W (fun e w' => e = .returned (.tuple #[.agg #[.int .u16 0, .int .u16 0, .int .u16 0, .int .u16 0, .int .u16 0, .int .u16 0, .int .u16 0, .int .u16 0], .int .i64 10]) ∧ Below W.heap.size W w') from hS6 W h)
      have HRS := hid (fun (W : World) => show Calls Tryz.prog 10 #[.string F] W (fun e w' => e = .returned (.tuple #[.agg #[.int .u16 0, .int .u16 0, .int .u16 0, .int .u16 0, .int .u16 0, .int .u16 0, .int .u16 0, .int .u16 0], .bool false]) ∧ Below W.heap.size W w') from hR6 W)
      have heq := fun W => (show (Op.equalIn 10000 34 (.agg #[.int .u16 0, .int .u16 0, .int .u16 0, .int .u16 0, .int .u16 0, .int .u16 0, .int .u16 0, .int .u16 0]) (.agg #[.int .u16 0, .int .u16 0, .int .u16 0, .int .u16 0, .int .u16 0, .int .u16 0, .int .u16 0, .int .u16 0])).run Tryz.prog W = .ok true W from run_equal8 zero8 rfl W)
      clear hx hS6 hR6
      go_enter Tryz.func3, Tryz.ntmps3
      go_wp2_with fail
      refine (HFew.out w).mono ?_
      rintro e w' ⟨rfl, rfl⟩
      go_wp2_with fail
      refine (HP.out _ HG.out).mono ?_
      rintro e w1 ⟨rfl, hb⟩
      go_wp2_with fail
      refine (HRP.out _).mono ?_
      rintro e w2 ⟨rfl, hb'⟩
      have hb := below2 hb hb'
      clear hb'
      go_wp2_with fail
      refine (HF.out _ (HG.out.kept hb)).mono ?_
      rintro e w3 ⟨rfl, hb'⟩
      have hb := below2 hb hb'
      clear hb'
      go_wp2_with fail
      refine (HRF.out _).mono ?_
      rintro e w4 ⟨rfl, hb'⟩
      have hb := below2 hb hb'
      clear hb'
      go_wp2_with fail
      refine (HS.out _ (HG.out.kept hb)).mono ?_
      rintro e w5 ⟨rfl, hb'⟩
      have hb := below2 hb hb'
      clear hb'
      go_wp2_with fail
      have hbA := (Below.refl w5.heap.size w5).alloc (Nat.le_refl _) (.cells #[.int .u16 0, .int .u16 0, .int .u16 0, .int .u16 0, .int .u16 0, .int .u16 0, .int .u16 0, .int .u16 0] 34 (0, 0))
      have hb := below2 hb hbA
      clear hbA
      refine (HRS.out _).mono ?_
      rintro e w6 ⟨rfl, hb'⟩
      have hr1 := row_kept (heap_alloc_new w5 (.cells #[.int .u16 0, .int .u16 0, .int .u16 0, .int .u16 0, .int .u16 0, .int .u16 0, .int .u16 0, .int .u16 0] 34 (0, 0))) hb'
      have hb := below2 hb hb'
      clear hb'
      obtain ⟨W7, hW7⟩ : ∃ W7 : World, W7 = w6.alloc (.cells #[.int .u16 0, .int .u16 0, .int .u16 0, .int .u16 0, .int .u16 0, .int .u16 0, .int .u16 0, .int .u16 0] 34 (0, 0)) := ⟨_, rfl⟩
      have hbA := (Below.refl w6.heap.size w6).alloc (Nat.le_refl _) (.cells #[.int .u16 0, .int .u16 0, .int .u16 0, .int .u16 0, .int .u16 0, .int .u16 0, .int .u16 0, .int .u16 0] 34 (0, 0))
      have hr2 := heap_alloc_new w6 (.cells #[.int .u16 0, .int .u16 0, .int .u16 0, .int .u16 0, .int .u16 0, .int .u16 0, .int .u16 0, .int .u16 0] 34 (0, 0))
      have hr1 := row_kept hr1 hbA
      have hb := below2 hb hbA
      rw [← hW7] at hr1 hr2 hb
      have HR1 := hid hr1
      have HR2 := hid hr2
      have HW7 := hid hW7
      clear hbA hr1 hr2 hW7
      go_wp2_with fail
      rw [← HW7.out]
      clear HW7
      refine (HTP.out _).mono ?_
      rintro e w' ⟨rfl, rfl⟩
      go_wp2_with fail
      refine (told_yes _).mono ?_
      rintro e w' ⟨rfl, rfl⟩
      have hc0 := (cell_of_row W7 w5.heap.size 0 _ _ _ HR1.out).trans (show _ = some (Value.int .u16 0) from rfl)
      have hc1 := (cell_of_row W7 w5.heap.size 1 _ _ _ HR1.out).trans (show _ = some (Value.int .u16 0) from rfl)
      have hc2 := (cell_of_row W7 w5.heap.size 2 _ _ _ HR1.out).trans (show _ = some (Value.int .u16 0) from rfl)
      have hc3 := (cell_of_row W7 w5.heap.size 3 _ _ _ HR1.out).trans (show _ = some (Value.int .u16 0) from rfl)
      have hc4 := (cell_of_row W7 w5.heap.size 4 _ _ _ HR1.out).trans (show _ = some (Value.int .u16 0) from rfl)
      have hc5 := (cell_of_row W7 w5.heap.size 5 _ _ _ HR1.out).trans (show _ = some (Value.int .u16 0) from rfl)
      have hc6 := (cell_of_row W7 w5.heap.size 6 _ _ _ HR1.out).trans (show _ = some (Value.int .u16 0) from rfl)
      have hc7 := (cell_of_row W7 w5.heap.size 7 _ _ _ HR1.out).trans (show _ = some (Value.int .u16 0) from rfl)
      have hd0 := (cell_of_row W7 w6.heap.size 0 _ _ _ HR2.out).trans (show _ = some (Value.int .u16 0) from rfl)
      have hd1 := (cell_of_row W7 w6.heap.size 1 _ _ _ HR2.out).trans (show _ = some (Value.int .u16 0) from rfl)
      have hd2 := (cell_of_row W7 w6.heap.size 2 _ _ _ HR2.out).trans (show _ = some (Value.int .u16 0) from rfl)
      have hd3 := (cell_of_row W7 w6.heap.size 3 _ _ _ HR2.out).trans (show _ = some (Value.int .u16 0) from rfl)
      have hd4 := (cell_of_row W7 w6.heap.size 4 _ _ _ HR2.out).trans (show _ = some (Value.int .u16 0) from rfl)
      have hd5 := (cell_of_row W7 w6.heap.size 5 _ _ _ HR2.out).trans (show _ = some (Value.int .u16 0) from rfl)
      have hd6 := (cell_of_row W7 w6.heap.size 6 _ _ _ HR2.out).trans (show _ = some (Value.int .u16 0) from rfl)
      have hd7 := (cell_of_row W7 w6.heap.size 7 _ _ _ HR2.out).trans (show _ = some (Value.int .u16 0) from rfl)
      go_wp2_with fail
      clear hc0 hc1 hc2 hc3 hc4 hc5 hc6 hc7 hd0 hd1 hd2 hd3 hd4 hd5 hd6 hd7 heq
      refine (told_no _).mono ?_
      rintro e w' ⟨rfl, rfl⟩
      go_wp2_with fail
      refine (HNb.out _).mono ?_
      rintro e w' ⟨rfl, rfl⟩
      go_wp2_with fail
      refine (HRN.out _).mono ?_
      rintro e w8 ⟨rfl, hb'⟩
      have hb := below2 hb hb'
      clear hb'
      go_wp2_with fail
      refine (known_any _ (HG.out.kept hb)).mono ?_
      rintro e w9 ⟨rfl, hb'⟩
      have hb := below2 hb hb'
      clear hb'
      go_wp2_with fail
      go_ret
      exact ⟨rfl, hb⟩
    | some x =>
      rw [hx] at hS6 hR6
      obtain ⟨hx8, _⟩ := sixV_ok hx
      clear hx
      obtain ⟨x0, x1, x2, x3, x4, x5, x6, x7, rfl⟩ := eight_lst x hx8
      have HS := hid (fun (W : World) (h : Gd W) => show Calls Tryz.prog 9 #[.string F] W (fun e w' => e = .returned (.tuple #[.agg #[.int .u16 (x0 : Int), .int .u16 (x1 : Int), .int .u16 (x2 : Int), .int .u16 (x3 : Int), .int .u16 (x4 : Int), .int .u16 (x5 : Int), .int .u16 (x6 : Int), .int .u16 (x7 : Int)], .int .i64 0]) ∧ Below W.heap.size W w') from hS6 W h)
      have HRS := hid (fun (W : World) => show Calls Tryz.prog 10 #[.string F] W (fun e w' => e = .returned (.tuple #[.agg #[.int .u16 (x0 : Int), .int .u16 (x1 : Int), .int .u16 (x2 : Int), .int .u16 (x3 : Int), .int .u16 (x4 : Int), .int .u16 (x5 : Int), .int .u16 (x6 : Int), .int .u16 (x7 : Int)], .bool true]) ∧ Below W.heap.size W w') from hR6 W)
      have heq := fun W => (show (Op.equalIn 10000 34 (.agg #[.int .u16 (x0 : Int), .int .u16 (x1 : Int), .int .u16 (x2 : Int), .int .u16 (x3 : Int), .int .u16 (x4 : Int), .int .u16 (x5 : Int), .int .u16 (x6 : Int), .int .u16 (x7 : Int)]) (.agg #[.int .u16 (x0 : Int), .int .u16 (x1 : Int), .int .u16 (x2 : Int), .int .u16 (x3 : Int), .int .u16 (x4 : Int), .int .u16 (x5 : Int), .int .u16 (x6 : Int), .int .u16 (x7 : Int)])).run Tryz.prog W = .ok true W from run_equal8 [x0, x1, x2, x3, x4, x5, x6, x7] rfl W)
      clear hx8 hS6 hR6
      go_enter Tryz.func3, Tryz.ntmps3
      go_wp2_with fail
      refine (HFew.out w).mono ?_
      rintro e w' ⟨rfl, rfl⟩
      go_wp2_with fail
      refine (HP.out _ HG.out).mono ?_
      rintro e w1 ⟨rfl, hb⟩
      go_wp2_with fail
      refine (HRP.out _).mono ?_
      rintro e w2 ⟨rfl, hb'⟩
      have hb := below2 hb hb'
      clear hb'
      go_wp2_with fail
      refine (HF.out _ (HG.out.kept hb)).mono ?_
      rintro e w3 ⟨rfl, hb'⟩
      have hb := below2 hb hb'
      clear hb'
      go_wp2_with fail
      refine (HRF.out _).mono ?_
      rintro e w4 ⟨rfl, hb'⟩
      have hb := below2 hb hb'
      clear hb'
      go_wp2_with fail
      refine (HS.out _ (HG.out.kept hb)).mono ?_
      rintro e w5 ⟨rfl, hb'⟩
      have hb := below2 hb hb'
      clear hb'
      go_wp2_with fail
      have hbA := (Below.refl w5.heap.size w5).alloc (Nat.le_refl _) (.cells #[.int .u16 (x0 : Int), .int .u16 (x1 : Int), .int .u16 (x2 : Int), .int .u16 (x3 : Int), .int .u16 (x4 : Int), .int .u16 (x5 : Int), .int .u16 (x6 : Int), .int .u16 (x7 : Int)] 34 (0, 0))
      have hb := below2 hb hbA
      clear hbA
      refine (HRS.out _).mono ?_
      rintro e w6 ⟨rfl, hb'⟩
      have hr1 := row_kept (heap_alloc_new w5 (.cells #[.int .u16 (x0 : Int), .int .u16 (x1 : Int), .int .u16 (x2 : Int), .int .u16 (x3 : Int), .int .u16 (x4 : Int), .int .u16 (x5 : Int), .int .u16 (x6 : Int), .int .u16 (x7 : Int)] 34 (0, 0))) hb'
      have hb := below2 hb hb'
      clear hb'
      obtain ⟨W7, hW7⟩ : ∃ W7 : World, W7 = w6.alloc (.cells #[.int .u16 (x0 : Int), .int .u16 (x1 : Int), .int .u16 (x2 : Int), .int .u16 (x3 : Int), .int .u16 (x4 : Int), .int .u16 (x5 : Int), .int .u16 (x6 : Int), .int .u16 (x7 : Int)] 34 (0, 0)) := ⟨_, rfl⟩
      have hbA := (Below.refl w6.heap.size w6).alloc (Nat.le_refl _) (.cells #[.int .u16 (x0 : Int), .int .u16 (x1 : Int), .int .u16 (x2 : Int), .int .u16 (x3 : Int), .int .u16 (x4 : Int), .int .u16 (x5 : Int), .int .u16 (x6 : Int), .int .u16 (x7 : Int)] 34 (0, 0))
      have hr2 := heap_alloc_new w6 (.cells #[.int .u16 (x0 : Int), .int .u16 (x1 : Int), .int .u16 (x2 : Int), .int .u16 (x3 : Int), .int .u16 (x4 : Int), .int .u16 (x5 : Int), .int .u16 (x6 : Int), .int .u16 (x7 : Int)] 34 (0, 0))
      have hr1 := row_kept hr1 hbA
      have hb := below2 hb hbA
      rw [← hW7] at hr1 hr2 hb
      have HR1 := hid hr1
      have HR2 := hid hr2
      have HW7 := hid hW7
      clear hbA hr1 hr2 hW7
      go_wp2_with fail
      rw [← HW7.out]
      clear HW7
      refine (HTP.out _).mono ?_
      rintro e w' ⟨rfl, rfl⟩
      go_wp2_with fail
      refine (told_yes _).mono ?_
      rintro e w' ⟨rfl, rfl⟩
      have hc0 := (cell_of_row W7 w5.heap.size 0 _ _ _ HR1.out).trans (show _ = some (Value.int .u16 (x0 : Int)) from rfl)
      have hc1 := (cell_of_row W7 w5.heap.size 1 _ _ _ HR1.out).trans (show _ = some (Value.int .u16 (x1 : Int)) from rfl)
      have hc2 := (cell_of_row W7 w5.heap.size 2 _ _ _ HR1.out).trans (show _ = some (Value.int .u16 (x2 : Int)) from rfl)
      have hc3 := (cell_of_row W7 w5.heap.size 3 _ _ _ HR1.out).trans (show _ = some (Value.int .u16 (x3 : Int)) from rfl)
      have hc4 := (cell_of_row W7 w5.heap.size 4 _ _ _ HR1.out).trans (show _ = some (Value.int .u16 (x4 : Int)) from rfl)
      have hc5 := (cell_of_row W7 w5.heap.size 5 _ _ _ HR1.out).trans (show _ = some (Value.int .u16 (x5 : Int)) from rfl)
      have hc6 := (cell_of_row W7 w5.heap.size 6 _ _ _ HR1.out).trans (show _ = some (Value.int .u16 (x6 : Int)) from rfl)
      have hc7 := (cell_of_row W7 w5.heap.size 7 _ _ _ HR1.out).trans (show _ = some (Value.int .u16 (x7 : Int)) from rfl)
      have hd0 := (cell_of_row W7 w6.heap.size 0 _ _ _ HR2.out).trans (show _ = some (Value.int .u16 (x0 : Int)) from rfl)
      have hd1 := (cell_of_row W7 w6.heap.size 1 _ _ _ HR2.out).trans (show _ = some (Value.int .u16 (x1 : Int)) from rfl)
      have hd2 := (cell_of_row W7 w6.heap.size 2 _ _ _ HR2.out).trans (show _ = some (Value.int .u16 (x2 : Int)) from rfl)
      have hd3 := (cell_of_row W7 w6.heap.size 3 _ _ _ HR2.out).trans (show _ = some (Value.int .u16 (x3 : Int)) from rfl)
      have hd4 := (cell_of_row W7 w6.heap.size 4 _ _ _ HR2.out).trans (show _ = some (Value.int .u16 (x4 : Int)) from rfl)
      have hd5 := (cell_of_row W7 w6.heap.size 5 _ _ _ HR2.out).trans (show _ = some (Value.int .u16 (x5 : Int)) from rfl)
      have hd6 := (cell_of_row W7 w6.heap.size 6 _ _ _ HR2.out).trans (show _ = some (Value.int .u16 (x6 : Int)) from rfl)
      have hd7 := (cell_of_row W7 w6.heap.size 7 _ _ _ HR2.out).trans (show _ = some (Value.int .u16 (x7 : Int)) from rfl)
      go_wp2_with fail
      clear hc0 hc1 hc2 hc3 hc4 hc5 hc6 hc7 hd0 hd1 hd2 hd3 hd4 hd5 hd6 hd7 heq
      refine (told_yes _).mono ?_
      rintro e w' ⟨rfl, rfl⟩
      go_wp2_with fail
      refine (HNb.out _).mono ?_
      rintro e w' ⟨rfl, rfl⟩
      go_wp2_with fail
      refine (HRN.out _).mono ?_
      rintro e w8 ⟨rfl, hb'⟩
      have hb := below2 hb hb'
      clear hb'
      go_wp2_with fail
      refine (known_any _ (HG.out.kept hb)).mono ?_
      rintro e w9 ⟨rfl, hb'⟩
      have hb := below2 hb hb'
      clear hb'
      go_wp2_with fail
      go_ret
      exact ⟨rfl, hb⟩

end Go.Proofs.YtdpihilikhbamaaGreatDoor
