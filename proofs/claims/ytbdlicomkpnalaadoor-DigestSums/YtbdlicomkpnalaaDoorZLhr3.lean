/-
  A round of digest's folded: the statement that makes its first sum, at 32 bits.
-/
import Derived.Test.YtbdlicomkpnalaaDoorZLf3
import Derived.Test.YtbdlicomkpnalaaDoorZ0
set_option linter.unusedSimpArgs false
set_option linter.unusedVariables false
namespace Go.Proofs.YtbdlicomkpnalaaDoor
open Go.RowKit

noncomputable def reg7_3 : Code := (Tryd.f82.body.bind (regionOf 7)).getD .skip

set_option maxHeartbeats 4000000 in
set_option maxRecDepth 100000 in
theorem round7_3 (n0 q k ra rb rc rd re rf rg rh KX WX Y G1 CH A1 A2 A3 T1 : Nat) (wr : World) (K : Act → World → Prop) (t0 t1 t2 t4 t5 t6 t17 t18 t19 t20 t21 t22 t23 t24 t25 t26 t27 t28 t29 t30 t31 t32 t33 t34 t35 t36 t37 t38 t39 t40 t41 t42 t43 t44 t45 t46 t47 t48 t49 t50 t51 t52 t53 t54 t55 t56 t57 t58 t59 t60 t61 t62 t63 t64 t65 t66 t67 t68 t69 t70 t71 t72 t73 t74 t75 t76 t77 t78 t79 t80 t81 t82 t83 t84 t85 t86 t87 t88 t89 t90 t91 t92 t93 t94 t95 t96 t97 t98 t99 t100 t101 t102 t103 t104 t105 t106 t107 t108 t109 t110 t111 t112 t113 : Value)
    (c0 : wr.cell? ⟨n0, 0, none⟩ = some (.int .u64 32))
    (c11 : wr.cell? ⟨n0, 11, none⟩ = some (.int .u64 6))
    (c12 : wr.cell? ⟨n0, 12, none⟩ = some (.int .u64 11))
    (c13 : wr.cell? ⟨n0, 13, none⟩ = some (.int .u64 25))
    (cg : wr.cell? ⟨1, k, none⟩ = some (.int .u64 (KX : Int))) (cw : wr.cell? ⟨q, k, none⟩ = some (.int .u32 (WX : Int)))
    (be : re < 4294967296) (bf : rf < 4294967296) (bg : rg < 4294967296) (bh : rh < 4294967296) (bK : KX < 18446744073709551616) (bW : WX < 4294967296) (HY : Hid (Y = KX / 2 ^ (64 - 32))) (bY : Y < 4294967296) (hkk : (k : Int) < 80)
    (hG1 : grV 32 6 11 25 re = G1) (hCH : chV 32 re rf rg = CH) (bG1 : G1 < 4294967296) (bCH : CH < 4294967296)
    (HA1 : Hid (A1 = (rh + G1) % 4294967296))
    (HA2 : Hid (A2 = (A1 + CH) % 4294967296))
    (HA3 : Hid (A3 = (A2 + Y) % 4294967296))
    (HT1 : Hid (T1 = (A3 + WX) % 4294967296))
    (HK : Hid (∀ (u45 u46 u47 u48 u49 u50 u51 u52 u53 u54 u55 u56 u57 u58 u59 u60 u61 u62 u63 u64 u65 u66 u67 u68 : Value) (w2 : World), Below wr.heap.size wr w2 → K ⟨#[t0, t1, t2, .pointer (some ⟨n0, 0, none⟩), t4, t5, t6, .pointer (some ⟨q, 0, none⟩), .int .u32 (ra : Int), .int .u32 (rb : Int), .int .u32 (rc : Int), .int .u32 (rd : Int), .int .u32 (re : Int), .int .u32 (rf : Int), .int .u32 (rg : Int), .int .u32 (rh : Int), .int .i64 (k : Int), .int .u32 (T1 : Int), t18, t19, t20, t21, t22, t23, t24, t25, t26, t27, t28, t29, t30, t31, t32, t33, t34, t35, t36, t37, t38, t39, t40, t41, t42, t43, t44, u45, u46, u47, u48, u49, u50, u51, u52, u53, u54, u55, u56, u57, u58, u59, u60, u61, u62, u63, u64, u65, u66, u67, u68, t69, t70, t71, t72, t73, t74, t75, t76, t77, t78, t79, t80, t81, t82, t83, t84, t85, t86, t87, t88, t89, t90, t91, t92, t93, t94, t95, t96, t97, t98, t99, t100, t101, t102, t103, t104, t105, t106, t107, t108, t109, t110, t111, t112, t113], []⟩ w2)) :
    Code.wp Tryd.prog reg7_3 (Exit.then K fun _ _ _ => False) ⟨#[t0, t1, t2, .pointer (some ⟨n0, 0, none⟩), t4, t5, t6, .pointer (some ⟨q, 0, none⟩), .int .u32 (ra : Int), .int .u32 (rb : Int), .int .u32 (rc : Int), .int .u32 (rd : Int), .int .u32 (re : Int), .int .u32 (rf : Int), .int .u32 (rg : Int), .int .u32 (rh : Int), .int .i64 (k : Int), t17, t18, t19, t20, t21, t22, t23, t24, t25, t26, t27, t28, t29, t30, t31, t32, t33, t34, t35, t36, t37, t38, t39, t40, t41, t42, t43, t44, t45, t46, t47, t48, t49, t50, t51, t52, t53, t54, t55, t56, t57, t58, t59, t60, t61, t62, t63, t64, t65, t66, t67, t68, t69, t70, t71, t72, t73, t74, t75, t76, t77, t78, t79, t80, t81, t82, t83, t84, t85, t86, t87, t88, t89, t90, t91, t92, t93, t94, t95, t96, t97, t98, t99, t100, t101, t102, t103, t104, t105, t106, t107, t108, t109, t110, t111, t112, t113], []⟩ wr := by
  have f0 : IntKind.wrap .u32 ((rh : Int) + (G1 : Int)) = (A1 : Int) := by rw [wrapW3, HA1.out]; omega
  have g0 : ((rh : Int) + (G1 : Int)) % 4294967296 = (A1 : Int) := by rw [HA1.out]; omega
  have f1 : IntKind.wrap .u32 ((A1 : Int) + (CH : Int)) = (A2 : Int) := by rw [wrapW3, HA2.out]; omega
  have g1 : ((A1 : Int) + (CH : Int)) % 4294967296 = (A2 : Int) := by rw [HA2.out]; omega
  have f2 : IntKind.wrap .u32 ((A2 : Int) + (Y : Int)) = (A3 : Int) := by rw [wrapW3, HA3.out]; omega
  have g2 : ((A2 : Int) + (Y : Int)) % 4294967296 = (A3 : Int) := by rw [HA3.out]; omega
  have f3 : IntKind.wrap .u32 ((A3 : Int) + (WX : Int)) = (T1 : Int) := by rw [wrapW3, HT1.out]; omega
  have g3 : ((A3 : Int) + (WX : Int)) % 4294967296 = (T1 : Int) := by rw [HT1.out]; omega
  have HK1 := hid (fun (X Y : World) (hb : Below X.heap.size X Y) (h0 : Below wr.heap.size wr X) => (show (fun wx : World => Below wr.heap.size wr wx ∧ wx.cell? ⟨n0, 0, none⟩ = some (.int .u64 32) ∧ wx.cell? ⟨n0, 11, none⟩ = some (.int .u64 6) ∧ wx.cell? ⟨n0, 12, none⟩ = some (.int .u64 11) ∧ wx.cell? ⟨n0, 13, none⟩ = some (.int .u64 25) ∧ wx.cell? ⟨1, k, none⟩ = some (.int .u64 (KX : Int)) ∧ wx.cell? ⟨q, k, none⟩ = some (.int .u32 (WX : Int))) Y from let h := h0.trans (hb.mono h0.size); ⟨h, kept_cell c0 h, kept_cell c11 h, kept_cell c12 h, kept_cell c13 h, kept_cell cg h, kept_cell cw h⟩))
  have HK0 := hid (show (fun wx : World => Below wr.heap.size wr wx ∧ wx.cell? ⟨n0, 0, none⟩ = some (.int .u64 32) ∧ wx.cell? ⟨n0, 11, none⟩ = some (.int .u64 6) ∧ wx.cell? ⟨n0, 12, none⟩ = some (.int .u64 11) ∧ wx.cell? ⟨n0, 13, none⟩ = some (.int .u64 25) ∧ wx.cell? ⟨1, k, none⟩ = some (.int .u64 (KX : Int)) ∧ wx.cell? ⟨q, k, none⟩ = some (.int .u32 (WX : Int))) wr.drew from let h := (Below.refl _ wr).drew; ⟨h, kept_cell c0 h, kept_cell c11 h, kept_cell c12 h, kept_cell c13 h, kept_cell cg h, kept_cell cw h⟩)
  clear HA1 HA2 HA3 HT1
  conv => arg 2; whnf
  go_region_held (fun wx : World => Below wr.heap.size wr wx ∧ wx.cell? ⟨n0, 0, none⟩ = some (.int .u64 32) ∧ wx.cell? ⟨n0, 11, none⟩ = some (.int .u64 6) ∧ wx.cell? ⟨n0, 12, none⟩ = some (.int .u64 11) ∧ wx.cell? ⟨n0, 13, none⟩ = some (.int .u64 25) ∧ wx.cell? ⟨1, k, none⟩ = some (.int .u64 (KX : Int)) ∧ wx.cell? ⟨q, k, none⟩ = some (.int .u32 (WX : Int)))
    (first | exact HK0.out | exact HK1.out _ _ (by assumption) (by (try dsimp only at *); go_split_ands; assumption) | (go_split_ands; exact ⟨by assumption, by assumption, by assumption, by assumption, by assumption, by assumption, by assumption⟩))
    (first | (go_at_call 96; refine (great32 _ _ _ _ _ (by assumption) (by decide) (by decide) (by decide)).mono ?_; rintro e wa ⟨rfl, hba⟩) | (go_at_call 97; refine (choice32 _ _ _ _ (by assumption) (by assumption) (by assumption)).mono ?_; rintro e wb ⟨rfl, rfl⟩) | (go_at_call 80; refine (upper_l32 KX Y _ bK HY.out).mono ?_; rintro e wc ⟨rfl, rfl⟩))
  all_goals
    (try dsimp only at *)
    go_split_ands
    exact HK.out _ _ _ _ _ _ _ _ _ _ _ _ _ _ _ _ _ _ _ _ _ _ _ _ _ (by assumption)

end Go.Proofs.YtbdlicomkpnalaaDoor
