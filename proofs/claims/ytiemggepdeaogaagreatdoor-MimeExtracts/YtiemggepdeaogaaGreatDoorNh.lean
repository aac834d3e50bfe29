/-
  The walk of ostiarylaw6.same.
  The walk of the law MimeParses.
-/
import Derived.Test.YtiemggepdeaogaaGreatDoorNf
import Derived.Test.YtiemggepdeaogaaGreatDoorXq
import Derived.Deep.RegionHeld
set_option linter.unusedSimpArgs false
set_option linter.unusedVariables false
namespace Go.Proofs.YtiemggepdeaogaaGreatDoor
open Go.RowKit

set_option maxHeartbeats 4000000 in
set_option maxRecDepth 100000 in
theorem lsame_any (A M : ByteArray) (v1 v2 : Value) (ps : List Hd) (w : World) (h1 : HdAt w v1 ps) (h2 : HdAt w v2 ps) (hl : ps.length ≤ 1000000) :
    Calls Tryz.prog 7 #[.agg #[.string A, .string M, v1], .agg #[.string A, .string M, v2]] w fun e w' => e = .returned (.bool true) ∧ Below w.heap.size w w' := by
  obtain ⟨a1, c1, rfl, hc1, hm1, hv1⟩ := h1.view
  obtain ⟨a2, c2, rfl, hc2, hm2, hv2⟩ := h2.view
  have V1 := hid hv1
  have V2 := hid hv2
  clear h1 h2 hv1 hv2
  obtain ⟨W, hW⟩ : ∃ W, (w.alloc (.cells #[.string A, .string M, .slice a1 ps.length c1] 26)).alloc (.cells #[.string A, .string M, .slice a2 ps.length c2] 31) = W := ⟨_, rfl⟩
  have HB := hid (show Below w.heap.size w W by rw [← hW]; exact ((Below.refl _ w).alloc (Nat.le_refl _) _).alloc (by simp) _)
  have HT1 := hid (show Tri W w.heap.size A M (.slice a1 ps.length c1) by
    rw [← hW]
    exact (show Tri (w.alloc (.cells #[.string A, .string M, .slice a1 ps.length c1] 26)) w.heap.size A M (.slice a1 ps.length c1) from heap_alloc_new _ _).kept ((Below.refl _ _).alloc (Nat.le_refl _) _))
  have HT2 := hid (show TriR W (w.heap.size + 1) A M (.slice a2 ps.length c2) by
    rw [← hW]
    have := heap_alloc_new (w.alloc (.cells #[.string A, .string M, .slice a1 ps.length c1] 26)) (.cells #[.string A, .string M, .slice a2 ps.length c2] 31)
    rw [World.size_alloc] at this
    exact this)
  have HWe := hid hW
  clear hW
  go_enter Tryz.func7, Tryz.ntmps7
  go_wp2
  rw [HWe.out]
  go_loopw [5] (fun i wr => ∃ k : Nat, k ≤ ps.length ∧ i = .int .i64 k ∧ Below W.heap.size W wr) (fun i _ => ps.length - (intOf i).toNat)
  case atStart => exact ⟨0, Nat.zero_le _, rfl, Below.refl _ _⟩
  case round =>
    obtain ⟨k, hk, rfl, hb⟩ := hrel
    have HBk := hid hb
    obtain ⟨x0, x1, x2⟩ := (HT1.out.kept hb).cells
    obtain ⟨y0, y1, y2⟩ := (HT2.out.kept hb).cells
    clear hb
    by_cases hlt : k < ps.length
    · have hlt' : (k : Int) < (ps.length : Int) := by omega
      obtain ⟨b1, o1, rfl, e1, e1'⟩ := V1.out k hlt
      obtain ⟨b2, o2, rfl, e2, e2'⟩ := V2.out k hlt
      have hbw := belowT HB.out HBk.out
      have f1 := (hbw.cell (World.block_lt_of_cell? w _ e1)).trans e1
      have f1' := (hbw.cell (World.block_lt_of_cell? w _ e1')).trans e1'
      have f2 := (hbw.cell (World.block_lt_of_cell? w _ e2)).trans e2
      have f2' := (hbw.cell (World.block_lt_of_cell? w _ e2')).trans e2'
      clear e1 e2 e1' e2' hbw
      obtain ⟨X, hX⟩ : ∃ x : ByteArray, (⟨ps[k].name.toArray⟩ : ByteArray) = x := ⟨_, rfl⟩
      obtain ⟨Y, hY⟩ : ∃ x : ByteArray, (⟨ps[k].value.toArray⟩ : ByteArray) = x := ⟨_, rfl⟩
      rw [hX] at f1 f2
      rw [hY] at f1' f2'
      clear hX hY
      go_wp2
      go_quiet (fail)
      go_wp2
      go_roundw
      case rel => exact ⟨k + 1, by omega, by go_num, below_drewN HBk.out _⟩
      case measure => simp [intOf]; omega
    · go_wp2
      go_ret
      exact ⟨rfl, belowT HB.out HBk.out⟩

end Go.Proofs.YtiemggepdeaogaaGreatDoor

namespace Go.Proofs.YtiemggepdeaogaaGreatDoor
open Go.RowKit

end Go.Proofs.YtiemggepdeaogaaGreatDoor
