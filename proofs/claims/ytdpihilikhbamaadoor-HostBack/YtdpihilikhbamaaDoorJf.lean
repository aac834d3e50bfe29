/-
  The walk of the law HostTexts.
-/
import Derived.Test.YtdpihilikhbamaaDoorRo
import Derived.Test.YtdpihilikhbamaaDoorRn
import Derived.Deep.RegionHeld
set_option linter.unusedSimpArgs false
set_option linter.unusedVariables false
namespace Go.Proofs.YtdpihilikhbamaaDoor
open Go.RowKit

theorem cell_kept {w w' : World} {a : Addr} {v : Value} (h : w.cell? a = some v) (hb : Below w.heap.size w w') : w'.cell? a = some v := by
  rw [hb.cell (World.block_lt_of_cell? w a h)]; exact h

/-- The eight numbers lie there, and nothing older has changed. -/
def Eight (w1 : World) (b x0 x1 x2 x3 x4 x5 x6 x7 : Nat) (w : World) : Prop :=
  Below w1.heap.size w1 w ∧ w.cell? ⟨b, 0, none⟩ = some (.int .u16 (x0 : Int)) ∧ w.cell? ⟨b, 1, none⟩ = some (.int .u16 (x1 : Int)) ∧ w.cell? ⟨b, 2, none⟩ = some (.int .u16 (x2 : Int)) ∧ w.cell? ⟨b, 3, none⟩ = some (.int .u16 (x3 : Int)) ∧ w.cell? ⟨b, 4, none⟩ = some (.int .u16 (x4 : Int)) ∧ w.cell? ⟨b, 5, none⟩ = some (.int .u16 (x5 : Int)) ∧ w.cell? ⟨b, 6, none⟩ = some (.int .u16 (x6 : Int)) ∧ w.cell? ⟨b, 7, none⟩ = some (.int .u16 (x7 : Int))

theorem Eight.kept {w1 : World} {b x0 x1 x2 x3 x4 x5 x6 x7 : Nat} {w w' : World} (h : Eight w1 b x0 x1 x2 x3 x4 x5 x6 x7 w) (hb : Below w.heap.size w w') : Eight w1 b x0 x1 x2 x3 x4 x5 x6 x7 w' := by
  obtain ⟨h1, c0, c1, c2, c3, c4, c5, c6, c7⟩ := h
  exact ⟨below2 h1 hb, cell_kept c0 hb, cell_kept c1 hb, cell_kept c2 hb, cell_kept c3 hb, cell_kept c4 hb, cell_kept c5 hb, cell_kept c6 hb, cell_kept c7 hb⟩

theorem eight_of (x : List Nat) (h : x.length = 8) : ∃ x0 x1 x2 x3 x4 x5 x6 x7, x = [x0, x1, x2, x3, x4, x5, x6, x7] := by
  match x, h with
  | [x0, x1, x2, x3, x4, x5, x6, x7], _ => exact ⟨x0, x1, x2, x3, x4, x5, x6, x7, rfl⟩

set_option maxHeartbeats 4000000 in
set_option maxRecDepth 100000 in
theorem hostTexts_walk (n0 : Int) (x : List Nat) (w : World) (hn0 : (Lit.int .u32 n0).wf = true) (hx : x.length = 8 ∧ ∀ k ∈ x, k < 65536) (hg : Gd w) :
    Calls Tryd.prog 4 #[.int .u32 n0, agg8 x] w fun e w' => e = .returned (.bool true) ∧ Below w.heap.size w w' := by
  have hb0 := bounds_u32 hn0
  clear hn0
  obtain ⟨n, rfl⟩ := Int.eq_ofNat_of_zero_le hb0.1
  have hn : n < 4294967296 := by omega
  clear hb0
  have HT1 := hid (fun (W : World) (h : Gd W) => text4_any n W h hn)
  have HT2 := hid (fun (W : World) => rtext4_any n W hn)
  have HT3 := hid (fun (W : World) (h : Gd W) => text6_any x W h hx.1 hx.2)
  have HT4 := hid (fun (W : World) => rtext6_any x W hx.1 hx.2)
  generalize text4 n = A at HT1 HT2
  generalize text6 x = B at HT3 HT4
  obtain ⟨x0, x1, x2, x3, x4, x5, x6, x7, rfl⟩ := eight_of x hx.1
  clear hx
  have ea : agg8 [x0, x1, x2, x3, x4, x5, x6, x7] = .agg #[.int .u16 (x0 : Int), .int .u16 (x1 : Int), .int .u16 (x2 : Int), .int .u16 (x3 : Int), .int .u16 (x4 : Int), .int .u16 (x5 : Int), .int .u16 (x6 : Int), .int .u16 (x7 : Int)] := rfl
  rw [ea] at HT3 HT4 ⊢
  clear ea
  obtain ⟨W1, hW1⟩ : ∃ W1 : World, W1 = w.alloc (.cells #[.int .u16 (x0 : Int), .int .u16 (x1 : Int), .int .u16 (x2 : Int), .int .u16 (x3 : Int), .int .u16 (x4 : Int), .int .u16 (x5 : Int), .int .u16 (x6 : Int), .int .u16 (x7 : Int)] 27 (0, 0)) := ⟨_, rfl⟩
  have hb1 : Below w.heap.size w W1 := by rw [hW1]; exact (Below.refl _ w).alloc (Nat.le_refl _) _
  have h8 : Eight W1 w.heap.size x0 x1 x2 x3 x4 x5 x6 x7 W1 := by
    have hr : W1.heap[w.heap.size]? = some (.cells #[.int .u16 (x0 : Int), .int .u16 (x1 : Int), .int .u16 (x2 : Int), .int .u16 (x3 : Int), .int .u16 (x4 : Int), .int .u16 (x5 : Int), .int .u16 (x6 : Int), .int .u16 (x7 : Int)] 27 (0, 0)) := by rw [hW1]; exact heap_alloc_new w _
    refine ⟨Below.refl _ _, ?_, ?_, ?_, ?_, ?_, ?_, ?_, ?_⟩ <;> (rw [cell_of_row W1 _ _ _ _ _ hr]; rfl)
  have HG := hid (hg.kept hb1)
  have HB := hid hb1
  clear hg hb1
  have HK := hid (fun (W W' : World) (h : Eight W1 w.heap.size x0 x1 x2 x3 x4 x5 x6 x7 W) (hb : Below W.heap.size W W') => h.kept hb)
  go_enter Tryd.func4, Tryd.ntmps4
  go_wp2
  rw [← hW1]
  clear hW1
  unfold Eight at h8 HK
  go_region_held (fun wx => Below W1.heap.size W1 wx ∧ wx.cell? ⟨w.heap.size, 0, none⟩ = some (.int .u16 (x0 : Int)) ∧ wx.cell? ⟨w.heap.size, 1, none⟩ = some (.int .u16 (x1 : Int)) ∧ wx.cell? ⟨w.heap.size, 2, none⟩ = some (.int .u16 (x2 : Int)) ∧ wx.cell? ⟨w.heap.size, 3, none⟩ = some (.int .u16 (x3 : Int)) ∧ wx.cell? ⟨w.heap.size, 4, none⟩ = some (.int .u16 (x4 : Int)) ∧ wx.cell? ⟨w.heap.size, 5, none⟩ = some (.int .u16 (x5 : Int)) ∧ wx.cell? ⟨w.heap.size, 6, none⟩ = some (.int .u16 (x6 : Int)) ∧ wx.cell? ⟨w.heap.size, 7, none⟩ = some (.int .u16 (x7 : Int)))
    (first | exact HK.out _ _ h8 (Below.refl _ W1).drew | exact HK.out _ _ (by assumption) (by assumption) | exact HK.out _ _ (by go_split_ands; exact ⟨by assumption, by assumption, by assumption, by assumption, by assumption, by assumption, by assumption, by assumption, by assumption⟩) (by assumption))
    (first
      | (go_at_call 12; refine (HT1.out _ (HG.out.kept (by (try dsimp only at *); go_split_ands; assumption))).mono ?_; rintro e wa ⟨rfl, hba⟩)
      | (go_at_call 16; refine (HT2.out _).mono ?_; rintro e wb ⟨rfl, hbb⟩)
      | (go_at_call 13; refine (HT3.out _ (HG.out.kept (by (try dsimp only at *); go_split_ands; assumption))).mono ?_; rintro e wc ⟨rfl, hbc⟩)
      | (go_at_call 17; refine (HT4.out _).mono ?_; rintro e wd ⟨rfl, hbd⟩)
      | (go_at_call 15; refine (known_any _ (HG.out.kept (by (try dsimp only at *); go_split_ands; assumption))).mono ?_; rintro e we ⟨rfl, hbe⟩))
  all_goals
    go_wp2
    go_ret
    refine ⟨rfl, below2 HB.out ?_⟩
    (try dsimp only at *)
    go_split_ands
    assumption

end Go.Proofs.YtdpihilikhbamaaDoor
