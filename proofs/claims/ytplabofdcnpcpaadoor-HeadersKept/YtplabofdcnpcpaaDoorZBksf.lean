/-
  The walk of ostiarybook's Stays.
-/
import Derived.Test.YtplabofdcnpcpaaDoorZBksl
set_option linter.unusedSimpArgs false
set_option linter.unusedVariables false
namespace Go.Proofs.YtplabofdcnpcpaaDoor
open Go.RowKit

set_option maxHeartbeats 4000000 in
set_option maxRecDepth 100000 in
theorem stayss (B p : Nat) (h : Int) (A Y : Value) (xs ys : List Value) (w : World) (hbk : Bks w B p h A Y xs ys) (hn : xs.length ≤ 201) :
    Calls Tryd.prog 41 #[.pointer (some ⟨p, 0, none⟩)] w fun e w' => e = .returned (.bool true) ∧ Bks w' B p h A Y xs ys ∧ Bt 9 p B w w' := by
  have HBP := hid hbk.1
  have HB0 := hid hbk
  obtain ⟨aA, cA, rfl, hcA⟩ := hbk.2.2.2.1.form
  obtain ⟨aY, cY, rfl, hcY⟩ := hbk.2.2.2.2.1.form
  obtain ⟨n, hne⟩ : ∃ n, n = xs.length := ⟨_, rfl⟩
  have HNE := hid hne
  have hyl := hbk.2.1
  rw [← hne] at hn hyl hcA HB0
  rw [hyl] at hcY HB0
  have HYL := hid hyl
  have HG := hid (show Bks w B p h (.slice aA n cA) (.slice aY n cY) xs ys ↔ Bks w B p h (.slice aA xs.length cA) (.slice aY ys.length cY) xs ys by rw [hyl, ← hne])
  have HGO := hid (show ∀ X, Bks X B p h (.slice aA n cA) (.slice aY n cY) xs ys → Bks X B p h (.slice aA xs.length cA) (.slice aY ys.length cY) xs ys from fun X hX => by rw [hyl, ← hne]; exact hX)
  clear hbk hne hyl HG
  go_enter Tryd.func41, Tryd.ntmps41
  go_wp2_with fail
  go_loopw [3] (fun v3 wr => ∃ k : Nat, k ≤ n ∧ v3 = .int .i64 k ∧ Hid (Bks wr B p h (.slice aA n cA) (.slice aY n cY) xs ys ∧ Bt 9 p B w wr)) (fun v3 _ => n - (intOf v3).toNat)
  case atStart => exact ⟨0, Nat.zero_le _, rfl, HB0.out, Bt.refl _ _ _ _⟩
  case round =>
    clear HB0
    obtain ⟨k, hk, rfl, HR⟩ := hrel
    have HP7 := hid HR.out.1.2.2.1
    have c3 := cell_of_heapE HP7.out 3 _ rfl
    have c0 := cell_of_heapE HP7.out 0 _ rfl
    have c1 := cell_of_heapE HP7.out 1 _ rfl
    by_cases hlt : k < n
    · have hin : (k : Int) < (n : Int) := by omega
      have hkx : k < xs.length := by have := HNE.out; omega
      have hky : k < ys.length := by have := HYL.out; omega
      obtain ⟨gA, oA, cA', eA, _, qA⟩ := HR.out.1.2.2.2.1.cell k hkx
      obtain ⟨gY, oY, cY', eY, _, qY⟩ := HR.out.1.2.2.2.2.1.cell k hky
      obtain ⟨mn, M, hM, hMx, hMy⟩ := HR.out.1.2.2.2.2.2.2.1 k xs[k] ys[k] (by simp [hkx]) (by simp [hky])
      injection eA with eA1 _ _
      injection eY with eY1 _ _
      subst eA1 eY1
      generalize xs[k] = X at qA hMx
      generalize ys[k] = Z at qY hMy
      obtain ⟨xa, xc, rfl, _, _⟩ := hMx.slice
      obtain ⟨ya, yc, rfl, _, _⟩ := hMy.slice
      have HSAME := hid (fun (Z : World) (hZ : Below wr.heap.size wr Z) => bsames (.slice xa mn xc) (.slice ya mn yc) mn M B Z (hMx.below hZ) (hMy.below hZ) (by omega))
      have hplt := HR.out.1.lt
      clear hMx hMy hkx hky
      go_wp2_with fail
      go_region_held (fun wx => wx.cell? ⟨p, 0, none⟩ = some (.slice (some ⟨gA, oA, none⟩) n cA) ∧ wx.cell? ⟨p, 1, none⟩ = some (.slice (some ⟨gY, oY, none⟩) n cY) ∧ wx.cell? ⟨p, 3, none⟩ = some (.bool false) ∧ wx.cell? ⟨gA, oA + k, none⟩ = some (.slice xa mn xc) ∧ wx.cell? ⟨gY, oY + k, none⟩ = some (.slice ya mn yc)) (first | (refine ⟨(setCell_idle hp2 rfl _).trans d0, (setCell_idle hp2 rfl _).trans d1, (setCell_idle hp2 rfl _).trans d3, (setCell_idle hp2 rfl _).trans d4, (setCell_idle hp2 rfl _).trans d5⟩) | go_keep) (first | (go_at_call 38; refine (HSAME.out wr.drew ((Below.refl _ wr).drew)).mono ?_; rintro e w8 ⟨rfl, hb2x⟩; have hb2 : Below wr.heap.size wr w8 := (Below.refl _ wr).drew.trans hb2x; have hp2 := (hb2.block p hplt).trans HP7.out; have f3 := Lib.frozen_of_heap ((hb2.block p hplt).trans HP7.out) 3; have d3 := cell_of_heapE ((hb2.block p hplt).trans HP7.out) 3 _ rfl; have d0 := cell_of_heapE ((hb2.block p hplt).trans HP7.out) 0 _ rfl; have d1 := cell_of_heapE ((hb2.block p hplt).trans HP7.out) 1 _ rfl; have d4 := kept_cell qA hb2; have d5 := kept_cell qY hb2))
      all_goals
        have HV9 := hid ((HR.out.1.below hb2).turn (heap_setCell_same w8 p 3 _ _ (.bool false) hp2) fun k _ hne => heap_setCell_other w8 ⟨p, 3, none⟩ k (.bool false) hne)
        have HB9 := hid ((HR.out.2.step (by have := HBP.out; omega) hb2).set HBP.out 3 (.bool false))
        clear d0 d1 d3 d4 d5 f3 hp2 hb2 hb2x c0 c1 c3 qA qY HSAME
        go_wp2_with fail
        go_roundw
        case rel => first | exact ⟨k + 1, by omega, by go_num, HV9.out, HB9.out⟩ | ((repeat apply Exists.intro); refine ⟨?_, rfl⟩; exact ⟨k + 1, by omega, by go_num, HV9.out, HB9.out⟩)
        case measure => simp [intOf]; omega
    · obtain rfl : k = n := by omega
      have hng : ¬ ((k : Int) < (k : Int)) := by omega
      clear hk hlt
      go_wp2_with fail
      go_ret
      exact ⟨rfl, HGO.out _ HR.out.1, HR.out.2⟩

end Go.Proofs.YtplabofdcnpcpaaDoor
