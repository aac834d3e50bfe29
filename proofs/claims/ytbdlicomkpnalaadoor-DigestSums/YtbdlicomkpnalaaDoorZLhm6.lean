/-
  The sums at the end of digest's folded, at 64 bits.
-/
import Derived.Test.YtbdlicomkpnalaaDoorZ0
import Derived.Test.YtbdlicomkpnalaaDoorZLf6
set_option linter.unusedSimpArgs false
set_option linter.unusedVariables false
namespace Go.Proofs.YtbdlicomkpnalaaDoor
open Go.RowKit

noncomputable def loop2_6 : Code := ((Tryd.f86.body.map loopsOf).getD []).getD 1 .skip

set_option maxHeartbeats 4000000 in
set_option maxRecDepth 100000 in
theorem adds6 (ra rb rc rd re rf rg rh : Nat) (SL Z : List Nat) (w W : World) (K : Act → World → Prop) (t0 t1 t2 t3 t5 t6 t7 t8 t9 t10 t11 t12 t13 t14 t15 t16 t17 t18 t19 t20 t21 t22 t23 t24 t25 t26 t27 t28 t29 t30 t31 t32 t33 t34 t35 t36 t37 t38 t39 t40 t41 t42 t43 t44 t45 t46 t47 t48 t49 t50 t51 t52 t53 t54 t55 t56 t57 t58 t59 t60 t61 t62 t63 t64 t65 t66 t67 t68 t69 t70 t71 t72 t73 t74 t75 t76 t77 t78 t79 t80 t81 t82 t83 t84 t85 t86 t87 t88 t89 t90 t91 t92 t93 t94 t95 t96 t97 t98 t99 t100 t103 t104 t105 t106 t107 t108 t109 t110 t111 t112 t113 : Value)
    (HM0 : Hid (Rw W (w.heap.size + 1) .u64 77 SL ∧ Rw W (w.heap.size + 1 + 1) .u64 77 (List.replicate 8 0) ∧ Below w.heap.size w W)) (HS8 : Hid (SL.length = 8)) (HZ8 : Hid (Z.length = 8))
    (HZ : Hid (∀ j, j < 8 → Z.getD j 0 = (SL.getD j 0 + [ra, rb, rc, rd, re, rf, rg, rh].getD j 0) % 18446744073709551616))
    (HK : Hid (∀ (u19 u20 u102 u103 u104 u105 u106 u107 u108 u109 u110 u111 u112 : Value) (w2 : World), Rw w2 (w.heap.size + 1) .u64 77 Z ∧ Rw w2 (w.heap.size + 1 + 1) .u64 77 (List.replicate 8 0) ∧ Below w.heap.size w w2 → K ⟨#[t0, t1, t2, t3, .pointer (some ⟨w.heap.size + 1, 0, none⟩), t5, t6, t7, t8, t9, t10, t11, t12, t13, t14, t15, t16, t17, t18, u19, u20, t21, t22, t23, t24, t25, t26, t27, t28, t29, t30, t31, t32, t33, t34, t35, t36, t37, t38, t39, t40, t41, t42, t43, t44, t45, t46, t47, t48, t49, t50, t51, t52, t53, t54, t55, t56, t57, t58, t59, t60, t61, t62, t63, t64, t65, t66, t67, t68, t69, t70, t71, t72, t73, t74, t75, t76, t77, t78, t79, t80, t81, t82, t83, t84, t85, t86, t87, t88, t89, t90, t91, t92, t93, t94, t95, t96, t97, t98, t99, t100, .agg #[.int .u64 (ra : Int), .int .u64 (rb : Int), .int .u64 (rc : Int), .int .u64 (rd : Int), .int .u64 (re : Int), .int .u64 (rf : Int), .int .u64 (rg : Int), .int .u64 (rh : Int)], u102, u103, u104, u105, u106, u107, u108, u109, u110, u111, u112, t113], []⟩ w2)) :
    Code.wp Tryd.prog (.loop loop2_6) (exit2 K) ⟨#[t0, t1, t2, t3, .pointer (some ⟨w.heap.size + 1, 0, none⟩), t5, t6, t7, t8, t9, t10, t11, t12, t13, t14, t15, t16, t17, t18, t19, t20, t21, t22, t23, t24, t25, t26, t27, t28, t29, t30, t31, t32, t33, t34, t35, t36, t37, t38, t39, t40, t41, t42, t43, t44, t45, t46, t47, t48, t49, t50, t51, t52, t53, t54, t55, t56, t57, t58, t59, t60, t61, t62, t63, t64, t65, t66, t67, t68, t69, t70, t71, t72, t73, t74, t75, t76, t77, t78, t79, t80, t81, t82, t83, t84, t85, t86, t87, t88, t89, t90, t91, t92, t93, t94, t95, t96, t97, t98, t99, t100, .agg #[.int .u64 (ra : Int), .int .u64 (rb : Int), .int .u64 (rc : Int), .int .u64 (rd : Int), .int .u64 (re : Int), .int .u64 (rf : Int), .int .u64 (rg : Int), .int .u64 (rh : Int)], .int .i64 0, t103, t104, t105, t106, t107, t108, t109, t110, t111, t112, t113], []⟩ W := by
  have HIX := hid (show ∀ (j : Nat) (wx : World), j < 8 → (Instr.index 77 (.agg #[.int .u64 (ra : Int), .int .u64 (rb : Int), .int .u64 (rc : Int), .int .u64 (rd : Int), .int .u64 (re : Int), .int .u64 (rf : Int), .int .u64 (rg : Int), .int .u64 (rh : Int)]) (.int .i64 (j : Int))).run Tryd.prog wx = .ok (.int .u64 ([ra, rb, rc, rd, re, rf, rg, rh].getD j 0 : Nat)) wx by
    intro j wx hj
    rcases (show j = 0 ∨ j = 1 ∨ j = 2 ∨ j = 3 ∨ j = 4 ∨ j = 5 ∨ j = 6 ∨ j = 7 by omega) with rfl | rfl | rfl | rfl | rfl | rfl | rfl | rfl <;> kernel_rfl)
  conv => arg 2; whnf
  conv => arg 2; arg 1; whnf
  conv => arg 4; dsimp only
  go_loopw [102] (fun v102 wr => ∃ j : Nat, j ≤ 8 ∧ v102 = .int .i64 j ∧ Hid (Rw wr (w.heap.size + 1) .u64 77 (mixV Z SL j) ∧ Rw wr (w.heap.size + 1 + 1) .u64 77 (List.replicate 8 0) ∧ Below w.heap.size w wr)) (fun v102 _ => 8 - (intOf v102).toNat)
  case atStart => exact ⟨0, by omega, rfl, by rw [mix_zero]; exact HM0.out⟩
  case round =>
    clear HM0
    obtain ⟨j, hj, rfl, HM⟩ := hrel
    by_cases hlt : j < 8
    · obtain ⟨SJ, hSJ⟩ : ∃ x, x = SL.getD j 0 := ⟨_, rfl⟩
      obtain ⟨VJ, hVJ⟩ : ∃ x, x = [ra, rb, rc, rd, re, rf, rg, rh].getD j 0 := ⟨_, rfl⟩
      obtain ⟨ZJ, hZJ⟩ : ∃ x, x = (SJ + VJ) % 18446744073709551616 := ⟨_, rfl⟩
      have hix : ∀ wx : World, (Instr.index 77 (.agg #[.int .u64 (ra : Int), .int .u64 (rb : Int), .int .u64 (rc : Int), .int .u64 (rd : Int), .int .u64 (re : Int), .int .u64 (rf : Int), .int .u64 (rg : Int), .int .u64 (rh : Int)]) (.int .i64 (j : Int))).run Tryd.prog wx = .ok (.int .u64 (VJ : Int)) wx := by intro wx; rw [hVJ]; exact HIX.out j wx hlt
      have cs : wr.cell? ⟨w.heap.size + 1, j, none⟩ = some (.int .u64 (SJ : Int)) := by
        rw [hSJ, ← mix_at Z SL j 8 HZ8.out HS8.out hlt]
        exact HM.out.1.cell j (by rw [mix_len Z SL j 8 HZ8.out HS8.out (by omega)]; exact hlt)
      have cf := HM.out.1.free j
      have HZJ := hid (show Z.getD j 0 = ZJ by rw [HZ.out j hlt, ← hSJ, ← hVJ, hZJ])
      have f1 : IntKind.wrap .u64 ((SJ : Int) + (VJ : Int)) = (ZJ : Int) := by rw [wrapW6, hZJ]; omega
      have f2 : ((SJ : Int) + (VJ : Int)) % 18446744073709551616 = (ZJ : Int) := by rw [hZJ]; omega
      have hjj : (j : Int) < 8 := by omega
      clear hSJ hVJ hZJ
      go_wp2_with fail
      go_roundw
      case rel =>
        have e1 := HM.out.1.set j ZJ
        rw [mix_step Z SL j 8 ZJ HZ8.out HS8.out hlt HZJ.out] at e1
        have e2 := HM.out.2.1.far (b := w.heap.size + 1) (j := j) (x := .int .u64 (ZJ : Int)) (by omega)
        have e3 := HM.out.2.2.setCell (p := ⟨w.heap.size + 1, j, none⟩) (by show w.heap.size ≤ w.heap.size + 1; omega) (.int .u64 (ZJ : Int))
        first
          | exact ⟨j + 1, by omega, by go_num, e1, e2, e3⟩
          | ((repeat apply Exists.intro); refine ⟨?_, rfl⟩; exact ⟨j + 1, by omega, by go_num, e1, e2, e3⟩)
      case measure => simp [intOf]; omega
    · obtain rfl : j = 8 := by omega
      have hM := HM.out
      rw [mix_all Z SL 8 HZ8.out HS8.out] at hM
      have HM2 := hid hM
      clear hM hj hlt HM
      go_wp2_with fail
      exact HK.out _ _ _ _ _ _ _ _ _ _ _ _ _ _ HM2.out

end Go.Proofs.YtbdlicomkpnalaaDoor
