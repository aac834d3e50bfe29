/-
  The test in the second loop of ostiarybook's Apart.
-/
import Derived.Test.YtplabofdcnpcpaaDoorZBksg
import Derived.BigRegion
set_option linter.unusedSimpArgs false
set_option linter.unusedVariables false
namespace Go.Proofs.YtplabofdcnpcpaaDoor
open Go.RowKit

noncomputable def aregs : Code := (Tryd.f15.body.bind (regionOf 18)).getD .skip

set_option maxHeartbeats 4000000 in
set_option maxRecDepth 100000 in
theorem atests (G O C i m : Nat) (M0 : ByteArray) (wr : World) (K : Act → World → Prop) (t0 t2 t3 t4 t5 t6 t7 t11 t12 t13 t14 t15 t16 t17 t18 t19 t20 t21 t22 t23 t24 t25 t26 t27 t28 t29 t30 t31 t32 t33 t34 t35 t36 t37 t38 t39 t40 t41 t42 t43 t44 t45 t46 t47 t48 t49 t50 t51 t52 t53 t54 t55 t56 t57 t58 t59 t60 t61 t62 t63 t64 t65 t66 t67 t68 t69 t70 t71 t72 t73 t74 t75 t76 t77 t78 t79 t80 t81 t82 t83 t84 t85 t86 t87 t88 t89 t90 t91 t92 t93 t94 t95 t96 t97 t98 t99 t100 : Value) (hmI : (m : Int) < (C : Int)) (hC63 : C ≤ 9223372036854775807)
    (d0 : wr.cell? ⟨G, O + m, none⟩ = some (.string M0))
    (HMK : Hid (∀ X, Calls Tryd.prog 16 #[.int .i64 (i : Int), .int .i64 (m : Int)] X fun e w' => e = .returned (.string M0) ∧ Below X.heap.size X w'))
    (HK : Hid (∀ (u83 u84 u85 u86 u87 u88 u89 u90 : Value) (w2 : World), Below wr.heap.size wr w2 → K ⟨#[t0, .func (.func 16) #[] #[], t2, t3, t4, t5, t6, t7, .int .i64 (i : Int), .slice (some ⟨G, O, none⟩) C C, .int .i64 (m : Int), t11, t12, t13, t14, t15, t16, t17, t18, t19, t20, t21, t22, t23, t24, t25, t26, t27, t28, t29, t30, t31, t32, t33, t34, t35, t36, t37, t38, t39, t40, t41, t42, t43, t44, t45, t46, t47, t48, t49, t50, t51, t52, t53, t54, t55, t56, t57, t58, t59, t60, t61, t62, t63, t64, t65, t66, t67, t68, t69, t70, t71, t72, t73, t74, t75, t76, t77, t78, t79, t80, t81, t82, u83, u84, u85, u86, u87, u88, u89, u90, .bool false, t92, t93, t94, t95, t96, t97, t98, t99, t100], []⟩ w2)) :
    Code.wp Tryd.prog aregs (Exit.then K fun _ _ _ => False) ⟨#[t0, .func (.func 16) #[] #[], t2, t3, t4, t5, t6, t7, .int .i64 (i : Int), .slice (some ⟨G, O, none⟩) C C, .int .i64 (m : Int), t11, t12, t13, t14, t15, t16, t17, t18, t19, t20, t21, t22, t23, t24, t25, t26, t27, t28, t29, t30, t31, t32, t33, t34, t35, t36, t37, t38, t39, t40, t41, t42, t43, t44, t45, t46, t47, t48, t49, t50, t51, t52, t53, t54, t55, t56, t57, t58, t59, t60, t61, t62, t63, t64, t65, t66, t67, t68, t69, t70, t71, t72, t73, t74, t75, t76, t77, t78, t79, t80, t81, t82, t83, t84, t85, t86, t87, t88, t89, t90, t91, t92, t93, t94, t95, t96, t97, t98, t99, t100], []⟩ wr := by
  have HK1 := hid (fun (X Y : World) (hb : Below X.heap.size X Y) (h0 : Below wr.heap.size wr X) => (show (fun wx : World => Below wr.heap.size wr wx ∧ wx.cell? ⟨G, O + m, none⟩ = some (.string M0)) Y from let h := h0.trans (hb.mono h0.size); ⟨h, kept_cell d0 h⟩))
  have HK0 := hid (show (fun wx : World => Below wr.heap.size wr wx ∧ wx.cell? ⟨G, O + m, none⟩ = some (.string M0)) wr.drew from let h := (Below.refl _ wr).drew; ⟨h, kept_cell d0 h⟩)
  conv => arg 2; whnf
  go_region_held (fun wx : World => Below wr.heap.size wr wx ∧ wx.cell? ⟨G, O + m, none⟩ = some (.string M0))
    (first | exact HK0.out | exact HK1.out _ _ (by assumption) (by (try dsimp only at *); go_split_ands; assumption) | (go_split_ands; exact ⟨by assumption, by assumption⟩))
    (first | (go_at_call 16; refine (HMK.out _).mono ?_; rintro e wa ⟨rfl, hba⟩))
  all_goals
    (try dsimp only at *)
    go_split_ands
    exact HK.out _ _ _ _ _ _ _ _ _ (by assumption)

end Go.Proofs.YtplabofdcnpcpaaDoor
