/-
  A round of digest's folded: the statement that makes its first sum, at 64 bits.
-/
import Derived.Test.YtbdlicomkpnalaaDoorZLf6
import Derived.Test.YtbdlicomkpnalaaDoorZ0
set_option linter.unusedSimpArgs false
set_option linter.unusedVariables false
namespace Go.Proofs.YtbdlicomkpnalaaDoor
open Go.RowKit

noncomputable def reg7_6 : Code := (Tryd.f86.body.bind (regionOf 7)).getD .skip

set_option maxHeartbeats 4000000 in
set_option maxRecDepth 100000 in
theorem round7_6 (n0 q k ra rb rc rd re rf rg rh KX WX Y G1 CH A1 A2 A3 T1 : Nat) (wr : World) (K : Act → World → Prop) (t0 t1 t2 t4 t5 t6 t17 t18 t19 t20 t21 t22 t23 t24 t25 t26 t27 t28 t29 t30 t31 t32 t33 t34 t35 t36 t37 t38 t39 t40 t41 t42 t43 t44 t45 t46 t47 t48 t49 t50 t51 t52 t53 t54 t55 t56 t57 t58 t59 t60 t61 t62 t63 t64 t65 t66 t67 t68 t69 t70 t71 t72 t73 t74 t75 t76 t77 t78 t79 t80 t81 t82 t83 t84 t85 t86 t87 t88 t89 t90 t91 t92 t93 t94 t95 t96 t97 t98 t99 t100 t101 t102 t103 t104 t105 t106 t107 t108 t109 t110 t111 t112 t113 : Value)
    (c0 : wr.cell? ⟨n0, 0, none⟩ = some (.int .u64 64))
    (c11 : wr.cell? ⟨n0, 11, none⟩ = some (.int .u64 14))
    (c12 : wr.cell? ⟨n0, 12, none⟩ = some (.int .u64 18))
    (c13 : wr.cell? ⟨n0, 13, none⟩ = some (.int .u64 41))
    (cg : wr.cell? ⟨1, k, none⟩ = some (.int .u64 (KX : Int))) (cw : wr.cell? ⟨q, k, none⟩ = some (.int .u64 (WX : Int)))
    (be : re < 18446744073709551616) (bf : rf < 18446744073709551616) (bg : rg < 18446744073709551616) (bh : rh < 18446744073709551616) (bK : KX < 18446744073709551616) (bW : WX < 18446744073709551616) (HY : Hid (Y = KX / 2 ^ (64 - 64))) (bY : Y < 18446744073709551616) (hkk : (k : Int) < 80)
    (hG1 : grV 64 14 18 41 re = G1) (hCH : chV 64 re rf rg = CH) (bG1 : G1 < 18446744073709551616) (bCH : CH < 18446744073709551616)
    (HA1 : Hid (A1 = (rh + G1) % 18446744073709551616))
    (HA2 : Hid (A2 = (A1 + CH) % 18446744073709551616))
    (HA3 : Hid (A3 = (A2 + Y) % 18446744073709551616))
    (HT1 : Hid (T1 = (A3 + WX) % 18446744073709551616))
    (HK : Hid (∀ (u45 u46 u47 u48 u49 u50 u51 u52 u53 u54 u55 u56 u57 u58 u59 u60 u61 u62 u63 u64 u65 u66 u67 u68 : Value) (w2 : World), Below wr.heap.size wr w2 → K ⟨#[t0, t1, t2, .pointer (some ⟨n0, 0, none⟩), t4, t5, t6, .pointer (some ⟨q, 0, none⟩), .int .u64 (ra : Int), .int .u64 (rb : Int), .int .u64 (rc : Int), .int .u64 (rd : Int), .int .u64 (re : Int), .int .u64 (rf : Int), .int .u64 (rg : Int), .int .u64 (rh : Int), .int .i64 (k : Int), .int .u64 (T1 : Int), t18, t19, t20, t21, t22, t23, t24, t25, t26, t27, t28, t29, t30, t31, t32, t33, t34, t35, t36, t37, t38, t39, t40, t41, t42, t43, t44, u45, u46, u47, u48, u49, u50, u51, u52, u53, u54, u55, u56, u57, u58, u59, u60, u61, u62, u63, u64, u65, u66, u67, u68, t69, t70, t71, t72, t73, t74, t75, t76, t77, t78, t79, t80, t81, t82, t83, t84, t85, t86, t87, t88, t89, t90, t91, t92, t93, t94, t95, t96, t97, t98, t99, t100, t101, t102, t103, t104, t105, t106, t107, t108, t109, t110, t111, t112, t113], []⟩ w2)) :
    Code.wp Tryd.prog reg7_6 (Exit.then K fun _ _ _ => False) ⟨#[t0, t1, t2, .pointer (some ⟨n0, 0, none⟩), t4, t5, t6, .pointer (some ⟨q, 0, none⟩), .int .u64 (ra : Int), .int .u64 (rb : Int), .int .u64 (rc : Int), .int .u64 (rd : Int), .int .u64 (re : Int), .int .u64 (rf : Int), .int .u64 (rg : Int), .int .u64 (rh : Int), .int .i64 (k : Int), t17, t18, t19, t20, t21, t22, t23, t24, t25, t26, t27, t28, t29, t30, t31, t32, t33, t34, t35, t36, t37, t38, t39, t40, t41, t42, t43, t44, t45, t46, t47, t48, t49, t50, t51, t52, t53, t54, t55, t56, t57, t58, t59, t60, t61, t62, t63, t64, t65, t66, t67, t68, t69, t70, t71, t72, t73, t74, t75, t76, t77, t78, t79, t80, t81, t82, t83, t84, t85, t86, t87, t88, t89, t90, t91, t92, t93, t94, t95, t96, t97, t98, t99, t100, t101, t102, t103, t104, t105, t106, t107, t108, t109, t110, t111, t112, t113], []⟩ wr := by
  have f0 : IntKind.wrap .u64 ((rh : Int) + (G1 : Int)) = (A1 : Int) := by rw [wrapW6, HA1.out]; omega
  have g0 : ((rh : Int) + (G1 : Int)) % 18446744073709551616 = (A1 : Int) := by rw [HA1.out]; omega
  have f1 : IntKind.wrap .u64 ((A1 : Int) + (CH : Int)) = (A2 : Int) := by rw [wrapW6, HA2.out]; omega
  have g1 : ((A1 : Int) + (CH : Int)) % 18446744073709551616 = (A2 : Int) := by rw [HA2.out]; omega
  have f2 : IntKind.wrap .u64 ((A2 : Int) + (Y : Int)) = (A3 : Int) := by rw [wrapW6, HA3.out]; omega
  have g2 : ((A2 : Int) + (Y : Int)) % 18446744073709551616 = (A3 : Int) := by rw [HA3.out]; omega
  have f3 : IntKind.wrap .u64 ((A3 : Int) + (WX : Int)) = (T1 : Int) := by rw [wrapW6, HT1.out]; omega
  have g3 : ((A3 : Int) + (WX : Int)) % 18446744073709551616 = (T1 : Int) := by rw [HT1.out]; omega
  have HK1 := hid (fun (X Y : World) (hb : Below X.heap.size X Y) (h0 : Below wr.heap.size wr X) => (show (fun wx : World => Below wr.heap.size wr wx ∧ wx.cell? ⟨n0, 0, none⟩ = some (.int .u64 64) ∧ wx.cell? ⟨n0, 11, none⟩ = some (.int .u64 14) ∧ wx.cell? ⟨n0, 12, none⟩ = some (.int .u64 18) ∧ wx.cell? ⟨n0, 13, none⟩ = some (.int .u64 41) ∧ wx.cell? ⟨1, k, none⟩ = some (.int .u64 (KX : Int)) ∧ wx.cell? ⟨q, k, none⟩ = some (.int .u64 (WX : Int))) Y from let h := h0.trans (hb.mono h0.size); ⟨h, kept_cell c0 h, kept_cell c11 h, kept_cell c12 h, kept_cell c13 h, kept_cell cg h, kept_cell cw h⟩))
  have HK0 := hid (show (fun wx : World => Below wr.heap.size wr wx ∧ wx.cell? ⟨n0, 0, none⟩ = some (.int .u64 64) ∧ wx.cell? ⟨n0, 11, none⟩ = some (.int .u64 14) ∧ wx.cell? ⟨n0, 12, none⟩ = some (.int .u64 18) ∧ wx.cell? ⟨n0, 13, none⟩ = some (.int .u64 41) ∧ wx.cell? ⟨1, k, none⟩ = some (.int .u64 (KX : Int)) ∧ wx.cell? ⟨q, k, none⟩ = some (.int .u64 (WX : Int))) wr.drew from let h := (Below.refl _ wr).drew; ⟨h, kept_cell c0 h, kept_cell c11 h, kept_cell c12 h, kept_cell c13 h, kept_cell cg h, kept_cell cw h⟩)
  clear HA1 HA2 HA3 HT1
  conv => arg 2; whnf
  go_region_held (fun wx : World => Below wr.heap.size wr wx ∧ wx.cell? ⟨n0, 0, none⟩ = some (.int .u64 64) ∧ wx.cell? ⟨n0, 11, none⟩ = some (.int .u64 14) ∧ wx.cell? ⟨n0, 12, none⟩ = some (.int .u64 18) ∧ wx.cell? ⟨n0, 13, none⟩ = some (.int .u64 41) ∧ wx.cell? ⟨1, k, none⟩ = some (.int .u64 (KX : Int)) ∧ wx.cell? ⟨q, k, none⟩ = some (.int .u64 (WX : Int)))
    (first | exact HK0.out | exact HK1.out _ _ (by assumption) (by (try dsimp only at *); go_split_ands; assumption) | (go_split_ands; exact ⟨by assumption, by assumption, by assumption, by assumption, by assumption, by assumption, by assumption⟩))
    (first | (go_at_call 100; refine (great64 _ _ _ _ _ (by assumption) (by decide) (by decide) (by decide)).mono ?_; rintro e wa ⟨rfl, hba⟩) | (go_at_call 101; refine (choice64 _ _ _ _ (by assumption) (by assumption) (by assumption)).mono ?_; rintro e wb ⟨rfl, rfl⟩) | (go_at_call 85; refine (upper_l64 KX Y _ bK HY.out).mono ?_; rintro e wc ⟨rfl, rfl⟩))
  all_goals
    (try dsimp only at *)
    go_split_ands
    exact HK.out _ _ _ _ _ _ _ _ _ _ _ _ _ _ _ _ _ _ _ _ _ _ _ _ _ (by assumption)

end Go.Proofs.YtbdlicomkpnalaaDoor
