/-
  The walks of digest's small and great, at 32 bits.
  The walks of digest's kinds, at 32 bits.
  The walk of digest's start, at 32 bits.
-/
import Derived.Test.YtbdlicomkpnalaaDoorZa
import Derived.Deep.RegionHeld
set_option linter.unusedSimpArgs false
set_option linter.unusedVariables false
namespace Go.Proofs.YtbdlicomkpnalaaDoor
open Go.RowKit

set_option maxHeartbeats 1000000 in
theorem small32 (x a b c : Nat) (w : World) (hx : x < 4294967296) (ha : a < 32) (hb : b < 32) (hc : c < 32) :
    Calls Tryd.prog 111 #[.int .u32 (x : Int), .agg #[.int .u64 (a : Int), .int .u64 (b : Int), .int .u64 (c : Int)], .int .u64 32] w fun e w' => e = .returned (.int .u32 ((smV 32 a b c x : Nat) : Int)) ∧ Below w.heap.size w w' := by
  have hA : (w.alloc (.cells #[.int .u64 (a : Int), .int .u64 (b : Int), .int .u64 (c : Int)] 71)).heap[w.heap.size]? = some (.cells #[.int .u64 (a : Int), .int .u64 (b : Int), .int .u64 (c : Int)] 71 (0, 0)) := heap_alloc_new w _
  have hbl : Below w.heap.size w (w.alloc (.cells #[.int .u64 (a : Int), .int .u64 (b : Int), .int .u64 (c : Int)] 71)) := (Below.refl _ w).alloc (Nat.le_refl _) _
  obtain ⟨W, hW⟩ : ∃ W, W = w.alloc (.cells #[.int .u64 (a : Int), .int .u64 (b : Int), .int .u64 (c : Int)] 71) := ⟨_, rfl⟩
  rw [← hW] at hA hbl
  have HW := hid hW.symm
  have c0 : W.cell? ⟨w.heap.size, 0, none⟩ = some (.int .u64 (a : Int)) := Lib.cell_of_heap hA 0
  have c1 : W.cell? ⟨w.heap.size, 1, none⟩ = some (.int .u64 (b : Int)) := Lib.cell_of_heap hA 1
  have c2 : W.cell? ⟨w.heap.size, 2, none⟩ = some (.int .u64 (c : Int)) := Lib.cell_of_heap hA 2
  have HB := hid hbl
  clear hW hA hbl
  go_enter Tryd.func111, Tryd.ntmps111
  go_wp2
  rw [HW.out]
  go_region_held (fun wx => wx.cell? ⟨w.heap.size, 0, none⟩ = some (.int .u64 (a : Int)) ∧ wx.cell? ⟨w.heap.size, 1, none⟩ = some (.int .u64 (b : Int)) ∧ wx.cell? ⟨w.heap.size, 2, none⟩ = some (.int .u64 (c : Int))) (go_keep) (first | (go_at_call 112; refine (turned32 _ _ _ (by assumption) (by assumption)).mono ?_; rintro e w' ⟨rfl, rfl⟩))
  all_goals
    go_wp2
    go_ret
    exact ⟨ret3 (sm3 x a b c hx), HB.out.drew⟩

set_option maxHeartbeats 1000000 in
theorem great32 (x a b c : Nat) (w : World) (hx : x < 4294967296) (ha : a < 32) (hb : b < 32) (hc : c < 32) :
    Calls Tryd.prog 96 #[.int .u32 (x : Int), .agg #[.int .u64 (a : Int), .int .u64 (b : Int), .int .u64 (c : Int)], .int .u64 32] w fun e w' => e = .returned (.int .u32 ((grV 32 a b c x : Nat) : Int)) ∧ Below w.heap.size w w' := by
  have hA : (w.alloc (.cells #[.int .u64 (a : Int), .int .u64 (b : Int), .int .u64 (c : Int)] 71)).heap[w.heap.size]? = some (.cells #[.int .u64 (a : Int), .int .u64 (b : Int), .int .u64 (c : Int)] 71 (0, 0)) := heap_alloc_new w _
  have hbl : Below w.heap.size w (w.alloc (.cells #[.int .u64 (a : Int), .int .u64 (b : Int), .int .u64 (c : Int)] 71)) := (Below.refl _ w).alloc (Nat.le_refl _) _
  obtain ⟨W, hW⟩ : ∃ W, W = w.alloc (.cells #[.int .u64 (a : Int), .int .u64 (b : Int), .int .u64 (c : Int)] 71) := ⟨_, rfl⟩
  rw [← hW] at hA hbl
  have HW := hid hW.symm
  have c0 : W.cell? ⟨w.heap.size, 0, none⟩ = some (.int .u64 (a : Int)) := Lib.cell_of_heap hA 0
  have c1 : W.cell? ⟨w.heap.size, 1, none⟩ = some (.int .u64 (b : Int)) := Lib.cell_of_heap hA 1
  have c2 : W.cell? ⟨w.heap.size, 2, none⟩ = some (.int .u64 (c : Int)) := Lib.cell_of_heap hA 2
  have HB := hid hbl
  clear hW hA hbl
  go_enter Tryd.func96, Tryd.ntmps96
  go_wp2
  rw [HW.out]
  go_region_held (fun wx => wx.cell? ⟨w.heap.size, 0, none⟩ = some (.int .u64 (a : Int)) ∧ wx.cell? ⟨w.heap.size, 1, none⟩ = some (.int .u64 (b : Int)) ∧ wx.cell? ⟨w.heap.size, 2, none⟩ = some (.int .u64 (c : Int))) (go_keep) (first | (go_at_call 112; refine (turned32 _ _ _ (by assumption) (by assumption)).mono ?_; rintro e w' ⟨rfl, rfl⟩))
  all_goals
    go_wp2
    go_ret
    exact ⟨ret3 (gr3 x a b c hx), HB.out.drew⟩

end Go.Proofs.YtbdlicomkpnalaaDoor

namespace Go.Proofs.YtbdlicomkpnalaaDoor
open Go.RowKit

set_option maxHeartbeats 1000000 in
theorem narrow_any (w : World) :
    Calls Tryd.prog 32 #[] w fun e w' => e = .returned (.agg #[.int .u64 32, .int .i64 64, .int .u64 7, .int .u64 18, .int .u64 3, .int .u64 17, .int .u64 19, .int .u64 10, .int .u64 2, .int .u64 13, .int .u64 22, .int .u64 6, .int .u64 11, .int .u64 25]) ∧ Below w.heap.size w w' := by
  go_enter Tryd.func32, Tryd.ntmps32
  go_wp2
  refine bodyPost_ret (v := .agg #[.int .u64 32, .int .i64 64, .int .u64 7, .int .u64 18, .int .u64 3, .int .u64 17, .int .u64 19, .int .u64 10, .int .u64 2, .int .u64 13, .int .u64 22, .int .u64 6, .int .u64 11, .int .u64 25]) (by simp [results, Tryd.results32, go_sem]) rfl ⟨rfl, (Below.refl _ w).alloc (Nat.le_refl _) _⟩

set_option maxHeartbeats 1000000 in
theorem wordBytes32 (w : World) :
    Calls Tryd.prog 84 #[.agg #[.int .u64 32, .int .i64 64, .int .u64 7, .int .u64 18, .int .u64 3, .int .u64 17, .int .u64 19, .int .u64 10, .int .u64 2, .int .u64 13, .int .u64 22, .int .u64 6, .int .u64 11, .int .u64 25]] w fun e w' => e = .returned (.int .i64 4) ∧ Below w.heap.size w w' := by
  go_enter Tryd.func84, Tryd.ntmps84
  go_wp2
  go_ret
  exact ⟨rfl, (Below.refl _ w).alloc (Nat.le_refl _) _⟩

set_option maxHeartbeats 1000000 in
theorem blockBytes32 (w : World) :
    Calls Tryd.prog 81 #[.agg #[.int .u64 32, .int .i64 64, .int .u64 7, .int .u64 18, .int .u64 3, .int .u64 17, .int .u64 19, .int .u64 10, .int .u64 2, .int .u64 13, .int .u64 22, .int .u64 6, .int .u64 11, .int .u64 25]] w fun e w' => e = .returned (.int .i64 64) ∧ Below w.heap.size w w' := by
  go_enter Tryd.func81, Tryd.ntmps81
  go_wp2_with (go_at_call 84; refine (wordBytes32 _).mono ?_; rintro e w1 ⟨rfl, hb1⟩)
  go_ret
  exact ⟨rfl, below2 ((Below.refl _ w).alloc (Nat.le_refl _) _) (by assumption)⟩

set_option maxHeartbeats 1000000 in
theorem lengthBytes32 (w : World) :
    Calls Tryd.prog 83 #[.agg #[.int .u64 32, .int .i64 64, .int .u64 7, .int .u64 18, .int .u64 3, .int .u64 17, .int .u64 19, .int .u64 10, .int .u64 2, .int .u64 13, .int .u64 22, .int .u64 6, .int .u64 11, .int .u64 25]] w fun e w' => e = .returned (.int .i64 (2 * 4)) ∧ Below w.heap.size w w' := by
  go_enter Tryd.func83, Tryd.ntmps83
  go_wp2_with (go_at_call 84; refine (wordBytes32 _).mono ?_; rintro e w1 ⟨rfl, hb1⟩)
  go_ret
  exact ⟨rfl, below2 ((Below.refl _ w).alloc (Nat.le_refl _) _) (by assumption)⟩

end Go.Proofs.YtbdlicomkpnalaaDoor

namespace Go.Proofs.YtbdlicomkpnalaaDoor
open Go.RowKit

theorem size8_3 (l : List Nat) (hl : l.length = 8) : (Tryd.prog.info? 100).map (·.size) = some (cW .u32 l).length := by rw [cW_len, hl]; kernel_rfl
theorem size8a_3 (l : List Nat) (hl : l.length = 8) : (Tryd.prog.info? 100).map (·.size) = some (cW .u32 l).toArray.size := by rw [List.size_toArray]; exact size8_3 l hl

theorem start_get3 (f k : Nat) (hk : k < 8) : (startV nar sqr f).list.getD k 0 = sqr.getD (f + k) 0 / 2 ^ (64 - 32) := by
  rcases (show k = 0 ∨ k = 1 ∨ k = 2 ∨ k = 3 ∨ k = 4 ∨ k = 5 ∨ k = 6 ∨ k = 7 by omega) with rfl | rfl | rfl | rfl | rfl | rfl | rfl | rfl <;> rfl

set_option maxHeartbeats 2000000 in
set_option maxRecDepth 100000 in
theorem start32 (f : Nat) (w : World) (hf : f ≤ 8) (hg : Gt w) :
    Calls Tryd.prog 56 #[.agg #[.int .u64 32, .int .i64 64, .int .u64 7, .int .u64 18, .int .u64 3, .int .u64 17, .int .u64 19, .int .u64 10, .int .u64 2, .int .u64 13, .int .u64 22, .int .u64 6, .int .u64 11, .int .u64 25], .int .i64 (f : Int)] w fun e w' => e = .returned (.agg (cW .u32 (startV nar sqr f).list).toArray) ∧ Below w.heap.size w w' := by
  have HG := hid hg
  obtain ⟨L, hL⟩ : ∃ L, L = (startV nar sqr f).list := ⟨_, rfl⟩
  have HL8 := hid (show L.length = 8 by rw [hL]; rfl)
  have HL := hid hL
  rw [← hL]
  clear hL hg
  go_enter Tryd.func56, Tryd.ntmps56
  go_wp2
  go_loopw [7] (fun v7 wr => ∃ k : Nat, k ≤ 8 ∧ v7 = .int .i64 k ∧ wr.heap[w.heap.size]? = some (.cells #[.int .u64 32, .int .i64 64, .int .u64 7, .int .u64 18, .int .u64 3, .int .u64 17, .int .u64 19, .int .u64 10, .int .u64 2, .int .u64 13, .int .u64 22, .int .u64 6, .int .u64 11, .int .u64 25] 73 (0, 0)) ∧ Rw wr (w.heap.size + 1) .u32 100 (List.replicate 8 0) ∧ Rw wr (w.heap.size + 1 + 1) .u32 100 (fillV L k 8) ∧ Below w.heap.size w wr) (fun v7 _ => 8 - (intOf v7).toNat)
  case atStart =>
    refine ⟨0, by omega, rfl, ?_, ?_, ?_, ?_⟩
    · exact row_kept (row_kept (heap_alloc_new w _) ((Below.refl _ _).alloc (Nat.le_refl _) _)) ((Below.refl _ _).alloc (Nat.le_refl _) _)
    · exact (Rw.laid (l := List.replicate 8 0) (World.size_alloc _ _).symm (by rfl)).more _
    · exact Rw.laid (by simp) (by rw [fill_zero]; rfl)
    · exact (((Below.refl _ w).alloc (Nat.le_refl _) _).alloc (by simp) _).alloc (by simp; omega) _
  case round =>
    obtain ⟨k, hk, rfl, hA, hR, hS, hb⟩ := hrel
    by_cases hlt : k < 8
    · have c0 : wr.cell? ⟨w.heap.size, 0, none⟩ = some (.int .u64 32) := Lib.cell_of_heap hA 0
      have cg := (HG.out.kept hb).1 (f + k) (by omega)
      have hx := sqr_lt (f + k)
      have HN := hid (show L.getD k 0 = sqr.getD (f + k) 0 / 2 ^ (64 - 32) by rw [HL.out]; exact start_get3 f k hlt)
      obtain ⟨X, hX⟩ : ∃ X, X = sqr.getD (f + k) 0 := ⟨_, rfl⟩
      rw [← hX] at cg hx HN
      obtain ⟨Y, hY⟩ : ∃ Y, Y = X / 2 ^ (64 - 32) := ⟨_, rfl⟩
      have HY := hid hY
      have HN2 := hid (HN.out.trans hY.symm)
      clear hY HN
      have cs := hS.cell k (by rw [fill_len _ _ _ (by omega) HL8.out]; exact hlt)
      have cf := hS.free k
      have HA := hid hA
      have HR := hid hR
      have HS := hid hS
      have HB := hid hb
      clear hA hR hS hb hX
      obtain ⟨y, hy⟩ : ∃ y, y = (fillV L k 8).getD k 0 := ⟨_, rfl⟩
      rw [← hy] at cs
      clear hy
      obtain ⟨m, hm⟩ : ∃ m, m = f + k := ⟨_, rfl⟩
      rw [← hm] at cg
      have hwr : IntKind.i64.wrap ((f : Int) + (k : Int)) = (m : Int) := by rw [hm, wrap_i64_id _ (by omega) (by omega)]; omega
      have hi1 : (m : Int) < 16 := by omega
      have hi2 : (k : Int) < 8 := by omega
      clear hm
      have HF := hid (fun v : Value => (And.intro (far_cell cg (b := w.heap.size + 1 + 1) (j := k) (x := v) (by simp)) (far_cell c0 (b := w.heap.size + 1 + 1) (j := k) (x := v) (by simp; omega)) : (wr.setCell ⟨w.heap.size + 1 + 1, k, none⟩ v).drew.cell? ⟨0, m, none⟩ = some (.int .u64 (X : Int)) ∧ (wr.setCell ⟨w.heap.size + 1 + 1, k, none⟩ v).drew.cell? ⟨w.heap.size, 0, none⟩ = some (.int .u64 32)))
      go_wp2
      go_region_held (fun wx => wx.cell? ⟨0, m, none⟩ = some (.int .u64 (X : Int)) ∧ wx.cell? ⟨w.heap.size, 0, none⟩ = some (.int .u64 32)) (first | exact HF.out _ | go_keep) (first | (go_at_call 80; refine (upper_l32 X Y _ hx HY.out).mono ?_; rintro e w' ⟨rfl, rfl⟩))
      all_goals
        go_wp2
        go_roundw
        case rel =>
          refine ⟨k + 1, by omega, by go_num, ?_, (HR.out.far (by omega)).drew, ?_, (HB.out.setCell (p := ⟨w.heap.size + 1 + 1, k, none⟩) (by show w.heap.size ≤ w.heap.size + 1 + 1; omega) _).drew⟩
          · exact (Below.heap_setCell wr ⟨w.heap.size + 1 + 1, k, none⟩ _ w.heap.size (by show w.heap.size ≠ w.heap.size + 1 + 1; omega)).trans HA.out
          · rw [← fill_step L k 8 hlt HL8.out Y HN2.out]
            exact (HS.out.set k Y).drew
        case measure => simp [intOf]; omega
    · have HA := hid hA
      have HR := hid hR
      have HS := hid hS
      have HB := hid hb
      clear hA hR hS hb
      obtain rfl : k = 8 := by omega
      have hS : Rw wr (w.heap.size + 1 + 1) .u32 100 L := by have := HS.out; rwa [fill_all _ _ HL8.out] at this
      have HT := hid (HR.out.put L (by rw [HL8.out]; rfl))
      have HBT := hid (below_setCells (b := w.heap.size + 1) (by omega) (cW .u32 L) 0 wr HB.out)
      have hth := HR.out.there (cW .u32 L).toArray.size (by rw [List.size_toArray, cW_len, HL8.out]; rfl)
      have HRG := hid hS.range
      have hone := all_oneCell_toArray (cW_one .u32 L)
      have hi8 := size8_3 L HL8.out
      have hi8' := size8a_3 L HL8.out
      clear hS
      go_wp2_with (first | refine wpList_load_mid rfl 100 (.tmp 5) rfl (w.heap.size + 1 + 1) 0 rfl (cW .u32 L) _ HRG.out Tryd.underlying100 rfl hi8 ?_ | refine wpList_store_mid rfl 100 (.tmp 4) (.tmp 21) rfl (w.heap.size + 1) 0 (cW .u32 L).toArray rfl rfl hth hi8' hone ?_)
      exact bodyPost_ret (Rw.result rfl _ _ (w.heap.size + 1) .u32 100 L rfl HT.out Tryd.underlying100 rfl hi8) rfl ⟨rfl, HBT.out⟩

end Go.Proofs.YtbdlicomkpnalaaDoor
