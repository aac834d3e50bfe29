/-
  A round of digest's folded: the statement that makes its first sum, at 64 bits.
  The rounds of digest's folded, at 64 bits.
  The walk of digest's folded, at 64 bits.
  The walk of digest's worked, at 64 bits.
-/
import Derived.Test.YtbdlicomkpnalaaDoorZe
import Derived.Test.YtbdlicomkpnalaaDoorZa
import Derived.Test.YtbdlicomkpnalaaDoorZc
import Derived.BigQuiet
import Derived.Deep.QuietTactic
import Derived.Deep.RegionWith
set_option linter.unusedSimpArgs false
set_option linter.unusedVariables false
namespace Go.Proofs.YtbdlicomkpnalaaDoor
open Go.RowKit

noncomputable def reg7_6 : Code := (Tryd.f86.body.bind (regionOf 7)).getD .skip

set_option maxHeartbeats 4000000 in
set_option maxRecDepth 100000 in
theorem round7_6 (n0 q k ra rb rc rd re rf rg rh KX WX Y G1 CH A1 A2 A3 T1 : Nat) (wr : World) (K : Act → World → Prop) (t0 t1 t2 t4 t5 t6 t17 t18 t19 t20 t21 t22 t23 t24 t25 t26 t27 t28 t29 t30 t31 t32 t33 t34 t35 t36 t37 t38 t39 t40 t41 t42 t43 t44 t45 t46 t47 t48 t49 t50 t51 t52 t53 t54 t55 t56 t57 t58 t59 t60 t61 t62 t63 t64 t65 t66 t67 t68 t69 t70 t71 t72 t73 t74 t75 t76 t77 t78 t79 t80 t81 t82 t83 t84 t85 t86 t87 t88 t89 t90 t91 t92 t93 t94 t95 t96 t97 t98 t99 t100 t101 t102 t103 t104 t105 t106 t107 t108 t109 t110 t111 t112 t113 : Value)
    (c0 : wr.cell? ⟨n0, 0, none⟩ = some (.int .u64 64))
    (c11 : wr.cell? ⟨n0, 11, none⟩ = some (.int .u64 14))
    (c12 : wr.cell? ⟨n0, 12, none⟩ = some (.int .u64 18))
    (c13 : wr.cell? ⟨n0, 13, none⟩ = some (.int .u64 41))
    (cg : wr.cell? ⟨1, k, none⟩ = some (.int .u64 (KX : Int))) (cw : wr.cell? ⟨q, k, none⟩ = some (.int .u64 (WX : Int)))
    (be : re < 18446744073709551616) (bf : rf < 18446744073709551616) (bg : rg < 18446744073709551616) (bh : rh < 18446744073709551616) (bK : KX < 18446744073709551616) (bW : WX < 18446744073709551616) (HY : Hid (Y = KX / 2 ^ (64 - 64))) (bY : Y < 18446744073709551616) (hkk : (k : Int) < 80)
    (hG1 : grV 64 14 18 41 re = G1) (hCH : chV 64 re rf rg = CH) (bG1 : G1 < 18446744073709551616) (bCH : CH < 18446744073709551616)
    (HA1 : Hid (A1 = (rh + G1) % 18446744073709551616))
    (HA2 : Hid (A2 = (A1 + CH) % 18446744073709551616))
    (HA3 : Hid (A3 = (A2 + Y) % 18446744073709551616))
    (HT1 : Hid (T1 = (A3 + WX) % 18446744073709551616))
    (HK : Hid (∀ (u45 u46 u47 u48 u49 u50 u51 u52 u53 u54 u55 u56 u57 u58 u59 u60 u61 u62 u63 u64 u65 u66 u67 u68 : Value) (w2 : World), Below wr.heap.size wr w2 → K ⟨#[t0, t1, t2, .pointer (some ⟨n0, 0, none⟩), t4, t5, t6, .pointer (some ⟨q, 0, none⟩), .int .u64 (ra : Int), .int .u64 (rb : Int), .int .u64 (rc : Int), .int .u64 (rd : Int), .int .u64 (re : Int), .int .u64 (rf : Int), .int .u64 (rg : Int), .int .u64 (rh : Int), .int .i64 (k : Int), .int .u64 (T1 : Int), t18, t19, t20, t21, t22, t23, t24, t25, t26, t27, t28, t29, t30, t31, t32, t33, t34, t35, t36, t37, t38, t39, t40, t41, t42, t43, t44, u45, u46, u47, u48, u49, u50, u51, u52, u53, u54, u55, u56, u57, u58, u59, u60, u61, u62, u63, u64, u65, u66, u67, u68, t69, t70, t71, t72, t73, t74, t75, t76, t77, t78, t79, t80, t81, t82, t83, t84, t85, t86, t87, t88, t89, t90, t91, t92, t93, t94, t95, t96, t97, t98, t99, t100, t101, t102, t103, t104, t105, t106, t107, t108, t109, t110, t111, t112, t113], []⟩ w2)) :
    Code.wp Tryd.prog reg7_6 (Exit.then K fun _ _ _ => False) ⟨#[t0, t1, t2, .pointer (some ⟨n0, 0, none⟩), t4, t5, t6, .pointer (some ⟨q, 0, none⟩), .int .u64 (ra : Int), .int .u64 (rb : Int), .int .u64 (rc : Int), .int .u64 (rd : Int), .int .u64 (re : Int), .int .u64 (rf : Int), .int .u64 (rg : Int), .int .u64 (rh : Int), .int .i64 (k : Int), t17, t18, t19, t20, t21, t22, t23, t24, t25, t26, t27, t28, t29, t30, t31, t32, t33, t34, t35, t36, t37, t38, t39, t40, t41, t42, t43, t44, t45, t46, t47, t48, t49, t50, t51, t52, t53, t54, t55, t56, t57, t58, t59, t60, t61, t62, t63, t64, t65, t66, t67, t68, t69, t70, t71, t72, t73, t74, t75, t76, t77, t78, t79, t80, t81, t82, t83, t84, t85, t86, t87, t88, t89, t90, t91, t92, t93, t94, t95, t96, t97, t98, t99, t100, t101, t102, t103, t104, t105, t106, t107, t108, t109, t110, t111, t112, t113], []⟩ wr := by
  have f0 : IntKind.wrap .u64 ((rh : Int) + (G1 : Int)) = (A1 : Int) := by rw [wrapW6, HA1.out]; omega
  have g0 : ((rh : Int) + (G1 : Int)) % 18446744073709551616 = (A1 : Int) := by rw [HA1.out]; omega
  have f1 : IntKind.wrap .u64 ((A1 : Int) + (CH : Int)) = (A2 : Int) := by rw [wrapW6, HA2.out]; omega
  have g1 : ((A1 : Int) + (CH : Int)) % 18446744073709551616 = (A2 : Int) := by rw [HA2.out]; omega
  have f2 : IntKind.wrap .u64 ((A2 : Int) + (Y : Int)) = (A3 : Int) := by rw [wrapW6, HA3.out]; omega
  have g2 : ((A2 : Int) + (Y : Int)) % 18446744073709551616 = (A3 : Int) := by rw [HA3.out]; omega
  have f3 : IntKind.wrap .u64 ((A3 : Int) + (WX : Int)) = (T1 : Int) := by rw [wrapW6, HT1.out]; omega
  have g3 : ((A3 : Int) + (WX : Int)) % 18446744073709551616 = (T1 : Int) := by rw [HT1.out]; omega
  have HK1 := hid (fun (X Y : World) (hb : Below X.heap.size X Y) (h0 : Below wr.heap.size wr X) => (show (fun wx : World => Below wr.heap.size wr wx ∧ wx.cell? ⟨n0, 0, none⟩ = some (.int .u64 64) ∧ wx.cell? ⟨n0, 11, none⟩ = some (.int .u64 14) ∧ wx.cell? ⟨n0, 12, none⟩ = some (.int .u64 18) ∧ wx.cell? ⟨n0, 13, none⟩ = some (.int .u64 41) ∧ wx.cell? ⟨1, k, none⟩ = some (.int .u64 (KX : Int)) ∧ wx.cell? ⟨q, k, none⟩ = some (.int .u64 (WX : Int))) Y from let h := h0.trans (hb.mono h0.size); ⟨h, kept_cell c0 h, kept_cell c11 h, kept_cell c12 h, kept_cell c13 h, kept_cell cg h, kept_cell cw h⟩))
  have HK0 := hid (show (fun wx : World => Below wr.heap.size wr wx ∧ wx.cell? ⟨n0, 0, none⟩ = some (.int .u64 64) ∧ wx.cell? ⟨n0, 11, none⟩ = some (.int .u64 14) ∧ wx.cell? ⟨n0, 12, none⟩ = some (.int .u64 18) ∧ wx.cell? ⟨n0, 13, none⟩ = some (.int .u64 41) ∧ wx.cell? ⟨1, k, none⟩ = some (.int .u64 (KX : Int)) ∧ wx.cell? ⟨q, k, none⟩ = some (.int .u64 (WX : Int))) wr.drew from let h := (Below.refl _ wr).drew; ⟨h, kept_cell c0 h, kept_cell c11 h, kept_cell c12 h, kept_cell c13 h, kept_cell cg h, kept_cell cw h⟩)
  clear HA1 HA2 HA3 HT1
  conv => arg 2; whnf
  go_region_held (fun wx : World => Below wr.heap.size wr wx ∧ wx.cell? ⟨n0, 0, none⟩ = some (.int .u64 64) ∧ wx.cell? ⟨n0, 11, none⟩ = some (.int .u64 14) ∧ wx.cell? ⟨n0, 12, none⟩ = some (.int .u64 18) ∧ wx.cell? ⟨n0, 13, none⟩ = some (.int .u64 41) ∧ wx.cell? ⟨1, k, none⟩ = some (.int .u64 (KX : Int)) ∧ wx.cell? ⟨q, k, none⟩ = some (.int .u64 (WX : Int)))
    (first | exact HK0.out | exact HK1.out _ _ (by assumption) (by (try dsimp only at *); go_split_ands; assumption) | (go_split_ands; exact ⟨by assumption, by assumption, by assumption, by assumption, by assumption, by assumption, by assumption⟩))
    (first | (go_at_call 100; refine (great64 _ _ _ _ _ (by assumption) (by decide) (by decide) (by decide)).mono ?_; rintro e wa ⟨rfl, hba⟩) | (go_at_call 101; refine (choice64 _ _ _ _ (by assumption) (by assumption) (by assumption)).mono ?_; rintro e wb ⟨rfl, rfl⟩) | (go_at_call 85; refine (upper_l64 KX Y _ bK HY.out).mono ?_; rintro e wc ⟨rfl, rfl⟩))
  all_goals
    (try dsimp only at *)
    go_split_ands
    exact HK.out _ _ _ _ _ _ _ _ _ _ _ _ _ _ _ _ _ _ _ _ _ _ _ _ _ (by assumption)

end Go.Proofs.YtbdlicomkpnalaaDoor

namespace Go.Proofs.YtbdlicomkpnalaaDoor
open Go.RowKit

noncomputable def loop1_6 : Code := ((Tryd.f86.body.map loopsOf).getD []).getD 0 .skip

set_option maxHeartbeats 4000000 in
set_option maxRecDepth 100000 in
theorem rounds6 (n0 q a b c d e f g h : Nat) (Ls : List Nat) (F : St) (W : World) (K : Act → World → Prop) (t0 t1 t2 t4 t5 t6 t16 t17 t18 t19 t20 t21 t22 t23 t24 t25 t26 t27 t28 t29 t30 t31 t32 t33 t34 t35 t36 t37 t38 t39 t40 t43 t44 t45 t46 t47 t48 t49 t50 t51 t52 t53 t54 t55 t56 t57 t58 t59 t60 t61 t62 t63 t64 t65 t66 t67 t68 t69 t70 t71 t72 t73 t74 t75 t76 t77 t78 t79 t80 t81 t82 t83 t84 t85 t86 t87 t88 t89 t90 t91 t92 t93 t94 t95 t96 t97 t98 t99 t100 t101 t102 t103 t104 t105 t106 t107 t108 t109 t110 t111 t112 t113 : Value)
    (HA : Hid (W.heap[n0]? = some (.cells #[.int .u64 64, .int .i64 80, .int .u64 1, .int .u64 8, .int .u64 7, .int .u64 19, .int .u64 61, .int .u64 6, .int .u64 28, .int .u64 34, .int .u64 39, .int .u64 14, .int .u64 18, .int .u64 41] 73 (0, 0)))) (HW : Hid (Rw W q .u64 61 Ls)) (HG : Hid (Gt W)) (HL80 : Hid (Ls.length = 80)) (HLB : Hid (∀ i, Ls.getD i 0 < 2 ^ 64))
    (HBD : Hid (BdS (2 ^ 64) ⟨a, b, c, d, e, f, g, h⟩)) (HF : Hid (F = rdsV wid (cbr.take 80) Ls ⟨a, b, c, d, e, f, g, h⟩))
    (HK : Hid (∀ (u16 u17 u18 u42 u43 u44 u45 u46 u47 u48 u49 u50 u51 u52 u53 u54 u55 u56 u57 u58 u59 u60 u61 u62 u63 u64 u65 u66 u67 u68 u69 u70 u71 u72 u73 u74 u75 u76 u77 u78 u79 u80 u81 u82 u83 u84 u85 u86 u87 u88 u89 u90 u91 u92 : Value) (w2 : World), Below W.heap.size W w2 → K ⟨#[t0, t1, t2, .pointer (some ⟨n0, 0, none⟩), t4, t5, t6, .pointer (some ⟨q, 0, none⟩), .int .u64 (F.a : Int), .int .u64 (F.b : Int), .int .u64 (F.c : Int), .int .u64 (F.d : Int), .int .u64 (F.e : Int), .int .u64 (F.f : Int), .int .u64 (F.g : Int), .int .u64 (F.h : Int), u16, u17, u18, t19, t20, t21, t22, t23, t24, t25, t26, t27, t28, t29, t30, t31, t32, t33, t34, t35, t36, t37, t38, t39, t40, .int .i64 80, u42, u43, u44, u45, u46, u47, u48, u49, u50, u51, u52, u53, u54, u55, u56, u57, u58, u59, u60, u61, u62, u63, u64, u65, u66, u67, u68, u69, u70, u71, u72, u73, u74, u75, u76, u77, u78, u79, u80, u81, u82, u83, u84, u85, u86, u87, u88, u89, u90, u91, u92, t93, t94, t95, t96, t97, t98, t99, t100, t101, t102, t103, t104, t105, t106, t107, t108, t109, t110, t111, t112, t113], []⟩ w2)) :
    Code.wp Tryd.prog (.loop loop1_6) (exit0 K) ⟨#[t0, t1, t2, .pointer (some ⟨n0, 0, none⟩), t4, t5, t6, .pointer (some ⟨q, 0, none⟩), .int .u64 (a : Int), .int .u64 (b : Int), .int .u64 (c : Int), .int .u64 (d : Int), .int .u64 (e : Int), .int .u64 (f : Int), .int .u64 (g : Int), .int .u64 (h : Int), t16, t17, t18, t19, t20, t21, t22, t23, t24, t25, t26, t27, t28, t29, t30, t31, t32, t33, t34, t35, t36, t37, t38, t39, t40, .int .i64 80, .int .i64 0, t43, t44, t45, t46, t47, t48, t49, t50, t51, t52, t53, t54, t55, t56, t57, t58, t59, t60, t61, t62, t63, t64, t65, t66, t67, t68, t69, t70, t71, t72, t73, t74, t75, t76, t77, t78, t79, t80, t81, t82, t83, t84, t85, t86, t87, t88, t89, t90, t91, t92, t93, t94, t95, t96, t97, t98, t99, t100, t101, t102, t103, t104, t105, t106, t107, t108, t109, t110, t111, t112, t113], []⟩ W := by
  conv => arg 2; whnf
  conv => arg 2; arg 1; whnf
  conv => arg 4; dsimp only
  go_loopw [8, 9, 10, 11, 12, 13, 14, 15, 42] (fun v8 v9 v10 v11 v12 v13 v14 v15 v42 wr => ∃ k ra rb rc rd re rf rg rh : Nat, k ≤ 80 ∧ v42 = .int .i64 k ∧ v8 = .int .u64 (ra : Int) ∧ v9 = .int .u64 (rb : Int) ∧ v10 = .int .u64 (rc : Int) ∧ v11 = .int .u64 (rd : Int) ∧ v12 = .int .u64 (re : Int) ∧ v13 = .int .u64 (rf : Int) ∧ v14 = .int .u64 (rg : Int) ∧ v15 = .int .u64 (rh : Int) ∧ Hid (BdS (2 ^ 64) ⟨ra, rb, rc, rd, re, rf, rg, rh⟩) ∧ Hid (rdsV wid ((cbr.take 80).drop k) (Ls.drop k) ⟨ra, rb, rc, rd, re, rf, rg, rh⟩ = F) ∧ Hid (Below W.heap.size W wr)) (fun _ _ _ _ _ _ _ _ v42 _ => 80 - (intOf v42).toNat)
  case atStart => exact ⟨0, a, b, c, d, e, f, g, h, by omega, rfl, rfl, rfl, rfl, rfl, rfl, rfl, rfl, rfl, HBD.out, HF.out.symm, Below.refl _ _⟩
  case round =>
    clear HF HBD
    obtain ⟨k, ra, rb, rc, rd, re, rf, rg, rh, hk, rfl, rfl, rfl, rfl, rfl, rfl, rfl, rfl, rfl, HBD, HRD, HB⟩ := hrel
    by_cases hlt : k < 80
    · obtain ⟨ba, bb, bc, bd, be, bf, bg, bh⟩ := HBD.out
      dsimp only at ba bb bc bd be bf bg bh
      have c0 : wr.cell? ⟨n0, 0, none⟩ = some (.int .u64 64) := kept_cell (Lib.cell_of_heap HA.out 0) HB.out
      have c8 : wr.cell? ⟨n0, 8, none⟩ = some (.int .u64 28) := kept_cell (Lib.cell_of_heap HA.out 8) HB.out
      have c9 : wr.cell? ⟨n0, 9, none⟩ = some (.int .u64 34) := kept_cell (Lib.cell_of_heap HA.out 9) HB.out
      have c10 : wr.cell? ⟨n0, 10, none⟩ = some (.int .u64 39) := kept_cell (Lib.cell_of_heap HA.out 10) HB.out
      have c11 : wr.cell? ⟨n0, 11, none⟩ = some (.int .u64 14) := kept_cell (Lib.cell_of_heap HA.out 11) HB.out
      have c12 : wr.cell? ⟨n0, 12, none⟩ = some (.int .u64 18) := kept_cell (Lib.cell_of_heap HA.out 12) HB.out
      have c13 : wr.cell? ⟨n0, 13, none⟩ = some (.int .u64 41) := kept_cell (Lib.cell_of_heap HA.out 13) HB.out
      obtain ⟨KX, hKX⟩ : ∃ x, x = cbr.getD k 0 := ⟨_, rfl⟩
      obtain ⟨WX, hWX⟩ : ∃ x, x = Ls.getD k 0 := ⟨_, rfl⟩
      have cg : wr.cell? ⟨1, k, none⟩ = some (.int .u64 (KX : Int)) := by rw [hKX]; exact (HG.out.kept HB.out).2 k (by omega)
      have cw : wr.cell? ⟨q, k, none⟩ = some (.int .u64 (WX : Int)) := by rw [hWX]; exact (HW.out.kept HB.out).cell k (by rw [HL80.out]; omega)
      have bK : KX < 18446744073709551616 := by rw [hKX]; exact cbr_lt k
      have bW : WX < 18446744073709551616 := by rw [hWX]; exact HLB.out k
      obtain ⟨Y, hY⟩ : ∃ Y, Y = KX / 2 ^ (64 - 64) := ⟨_, rfl⟩
      have bY : Y < 18446744073709551616 := by rw [hY]; omega
      obtain ⟨G1, hG1⟩ : ∃ s, grV 64 14 18 41 re = s := ⟨_, rfl⟩
      obtain ⟨G0, hG0⟩ : ∃ s, grV 64 28 34 39 ra = s := ⟨_, rfl⟩
      obtain ⟨CH, hCH⟩ : ∃ s, chV 64 re rf rg = s := ⟨_, rfl⟩
      obtain ⟨MJ, hMJ⟩ : ∃ s, mjV ra rb rc = s := ⟨_, rfl⟩
      have bG1 : G1 < 18446744073709551616 := by rw [← hG1]; exact gr_lt (W := 64) be
      have bG0 : G0 < 18446744073709551616 := by rw [← hG0]; exact gr_lt (W := 64) ba
      have bCH : CH < 18446744073709551616 := by rw [← hCH]; exact ch_lt (W := 64) be
      have bMJ : MJ < 18446744073709551616 := by rw [← hMJ]; exact mj_lt (W := 64) ba bb
      obtain ⟨A1, hA1⟩ : ∃ a, a = (rh + G1) % 18446744073709551616 := ⟨_, rfl⟩
      obtain ⟨A2, hA2⟩ : ∃ a, a = (A1 + CH) % 18446744073709551616 := ⟨_, rfl⟩
      obtain ⟨A3, hA3⟩ : ∃ a, a = (A2 + Y) % 18446744073709551616 := ⟨_, rfl⟩
      obtain ⟨T1, hT1⟩ : ∃ a, a = (A3 + WX) % 18446744073709551616 := ⟨_, rfl⟩
      obtain ⟨T2, hT2⟩ : ∃ a, a = (G0 + MJ) % 18446744073709551616 := ⟨_, rfl⟩
      obtain ⟨EE, hEE⟩ : ∃ a, a = (rd + T1) % 18446744073709551616 := ⟨_, rfl⟩
      obtain ⟨AA, hAA⟩ : ∃ a, a = (T1 + T2) % 18446744073709551616 := ⟨_, rfl⟩
      have HNX := hid (show rdsV wid ((cbr.take 80).drop (k + 1)) (Ls.drop (k + 1)) ⟨AA, ra, rb, rc, EE, re, rf, rg⟩ = F by
        rw [← HRD.out, rds_step wid (cbr.take 80) Ls k _ (by simp [cbr]; omega) (by rw [HL80.out]; omega), rnd_eq]
        have e0 : (cbr.take 80).getD k 0 = KX := by rw [hKX]; simp [List.getD, hlt]
        rw [e0, ← hWX]
        have e1 : t1V wid ⟨ra, rb, rc, rd, re, rf, rg, rh⟩ (KX / 2 ^ (64 - (wid).W)) WX = T1 := by
          show (rh + grV 64 14 18 41 re + chV 64 re rf rg + KX / 2 ^ (64 - 64) + WX) % 2 ^ 64 = T1
          rw [hG1, hCH, ← hY, hT1, hA3, hA2, hA1]
          omega
        have e2 : t2V wid ⟨ra, rb, rc, rd, re, rf, rg, rh⟩ = T2 := by
          show (grV 64 28 34 39 ra + mjV ra rb rc) % 2 ^ 64 = T2
          rw [hG0, hMJ, hT2]
        rw [e1, e2, hEE, hAA]
        rfl)
      have HBN := hid (show BdS (2 ^ 64) ⟨AA, ra, rb, rc, EE, re, rf, rg⟩ from ⟨by rw [hAA]; exact Nat.mod_lt _ (by decide), ba, bb, bc, by rw [hEE]; exact Nat.mod_lt _ (by decide), be, bf, bg⟩)
      have f0 : IntKind.wrap .u64 ((rh : Int) + (G1 : Int)) = (A1 : Int) := by rw [wrapW6, hA1]; omega
      have g0 : ((rh : Int) + (G1 : Int)) % 18446744073709551616 = (A1 : Int) := by rw [hA1]; omega
      have f1 : IntKind.wrap .u64 ((A1 : Int) + (CH : Int)) = (A2 : Int) := by rw [wrapW6, hA2]; omega
      have g1 : ((A1 : Int) + (CH : Int)) % 18446744073709551616 = (A2 : Int) := by rw [hA2]; omega
      have f2 : IntKind.wrap .u64 ((A2 : Int) + (Y : Int)) = (A3 : Int) := by rw [wrapW6, hA3]; omega
      have g2 : ((A2 : Int) + (Y : Int)) % 18446744073709551616 = (A3 : Int) := by rw [hA3]; omega
      have f3 : IntKind.wrap .u64 ((A3 : Int) + (WX : Int)) = (T1 : Int) := by rw [wrapW6, hT1]; omega
      have g3 : ((A3 : Int) + (WX : Int)) % 18446744073709551616 = (T1 : Int) := by rw [hT1]; omega
      have f4 : IntKind.wrap .u64 ((G0 : Int) + (MJ : Int)) = (T2 : Int) := by rw [wrapW6, hT2]; omega
      have g4 : ((G0 : Int) + (MJ : Int)) % 18446744073709551616 = (T2 : Int) := by rw [hT2]; omega
      have f5 : IntKind.wrap .u64 ((rd : Int) + (T1 : Int)) = (EE : Int) := by rw [wrapW6, hEE]; omega
      have g5 : ((rd : Int) + (T1 : Int)) % 18446744073709551616 = (EE : Int) := by rw [hEE]; omega
      have f6 : IntKind.wrap .u64 ((T1 : Int) + (T2 : Int)) = (AA : Int) := by rw [wrapW6, hAA]; omega
      have g6 : ((T1 : Int) + (T2 : Int)) % 18446744073709551616 = (AA : Int) := by rw [hAA]; omega
      have hkk : (k : Int) < 80 := by omega
      have hkr : (k : Int) < 80 := by omega
      have HY := hid hY
      have HKF := hid (fun (X Y : World) (h2 : Below X.heap.size X Y) (h1 : Below wr.heap.size wr X) => (h1.trans (h2.mono h1.size) : Below wr.heap.size wr Y))
      have HHA1 := hid hA1
      have HHA2 := hid hA2
      have HHA3 := hid hA3
      have HHT1 := hid hT1
      clear hKX hWX hY hA1 hA2 hA3 hT1 hT2 hEE hAA hk f0 f1 f2 f3 g0 g1 g2 g3
      go_wp2_with fail
      refine wp_cut (round7_6 n0 q k ra rb rc rd re rf rg rh KX WX Y G1 CH A1 A2 A3 T1 wr _ _ _ _ _ _ _ _ _ _ _ _ _ _ _ _ _ _ _ _ _ _ _ _ _ _ _ _ _ _ _ _ _ _ _ _ _ _ _ _ _ _ _ _ _ _ _ _ _ _ _ _ _ _ _ _ _ _ _ _ _ _ _ _ _ _ _ _ _ _ _ _ _ _ _ _ _ _ _ _ _ _ _ _ _ _ _ _ _ _ _ _ _ _ _ _ _ _ _ _ _ _ _ _ c0 c11 c12 c13 cg cw be bf bg bh bK bW HY bY hkk hG1 hCH bG1 bCH HHA1 HHA2 HHA3 HHT1 ?_)
      intro y45 y46 y47 y48 y49 y50 y51 y52 y53 y54 y55 y56 y57 y58 y59 y60 y61 y62 y63 y64 y65 y66 y67 y68 wa hba
      have d0 := kept_cell c0 hba
      have d8 := kept_cell c8 hba
      have d9 := kept_cell c9 hba
      have d10 := kept_cell c10 hba
      clear c0 c8 c9 c10 c11 c12 c13 cg cw
      go_wp2_with (first | (go_at_call 100; refine (great64 _ _ _ _ _ (by assumption) (by decide) (by decide) (by decide)).mono ?_; rintro e wd ⟨rfl, hbd⟩) | (go_at_call 102; refine (majority64 _ _ _ _ (by assumption) (by assumption) (by assumption)).mono ?_; rintro e we ⟨rfl, rfl⟩))
      go_roundw
      case rel =>
        have hq := HKF.out _ _ hbd hba
        have e1 := HB.out.trans (hq.mono HB.out.size)
        first
          | exact ⟨k + 1, AA, ra, rb, rc, EE, re, rf, rg, by omega, by go_num, rfl, rfl, rfl, rfl, rfl, rfl, rfl, rfl, HBN.out, HNX.out, e1⟩
          | ((repeat apply Exists.intro); refine ⟨?_, rfl⟩; exact ⟨k + 1, AA, ra, rb, rc, EE, re, rf, rg, by omega, by go_num, rfl, rfl, rfl, rfl, rfl, rfl, rfl, rfl, HBN.out, HNX.out, e1⟩)
      case measure => simp [intOf]; omega
    · obtain rfl : k = 80 := by omega
      obtain rfl : F = ⟨ra, rb, rc, rd, re, rf, rg, rh⟩ := by
        rw [← HRD.out, List.drop_eq_nil_of_le (by simp [cbr])]; rfl
      clear HRD HBD hk hlt
      go_wp2_with fail
      exact HK.out _ _ _ _ _ _ _ _ _ _ _ _ _ _ _ _ _ _ _ _ _ _ _ _ _ _ _ _ _ _ _ _ _ _ _ _ _ _ _ _ _ _ _ _ _ _ _ _ _ _ _ _ _ _ _ HB.out

end Go.Proofs.YtbdlicomkpnalaaDoor

namespace Go.Proofs.YtbdlicomkpnalaaDoor
open Go.RowKit

/-- What the rounds leave beside the words: the kind, the state, room for the answer, the schedule, the roots. -/
def Fld6 (w wr : World) (q : Nat) (S L : List Nat) : Prop :=
  wr.heap[w.heap.size]? = some (.cells #[.int .u64 64, .int .i64 80, .int .u64 1, .int .u64 8, .int .u64 7, .int .u64 19, .int .u64 61, .int .u64 6, .int .u64 28, .int .u64 34, .int .u64 39, .int .u64 14, .int .u64 18, .int .u64 41] 73 (0, 0)) ∧ Rw wr (w.heap.size + 1) .u64 77 S ∧ Rw wr (w.heap.size + 1 + 1) .u64 77 (List.replicate 8 0) ∧ Rw wr q .u64 61 L ∧ Gt wr ∧ Below w.heap.size w wr

theorem Fld6.kept {w wr X : World} {q : Nat} {S L : List Nat} (h : Fld6 w wr q S L) (hb : Below wr.heap.size wr X) : Fld6 w X q S L := by
  obtain ⟨h1, h2, h3, h4, h5, h6⟩ := h
  exact ⟨row_kept h1 hb, h2.kept hb, h3.kept hb, h4.kept hb, h5.kept hb, h6.trans (hb.mono h6.size)⟩

set_option maxHeartbeats 4000000 in
set_option maxRecDepth 100000 in
theorem folded64 (a b c d e f g h : Nat) (x : Addr) (cap : Nat) (l : List UInt8) (w : World) (hg : Gt w) (hc : ∀ j (h : j < l.length), w.cell? (x.add j) = some (.int .u8 (l[j].toNat : Int))) (hl : l.length = 128) (hcap : 128 ≤ cap)
    (hbd : BdS (2 ^ 64) ⟨a, b, c, d, e, f, g, h⟩) :
    Calls Tryd.prog 86 #[.agg #[.int .u64 64, .int .i64 80, .int .u64 1, .int .u64 8, .int .u64 7, .int .u64 19, .int .u64 61, .int .u64 6, .int .u64 28, .int .u64 34, .int .u64 39, .int .u64 14, .int .u64 18, .int .u64 41], .agg #[.int .u64 (a : Int), .int .u64 (b : Int), .int .u64 (c : Int), .int .u64 (d : Int), .int .u64 (e : Int), .int .u64 (f : Int), .int .u64 (g : Int), .int .u64 (h : Int)], .slice (some x) 128 cap] w fun e' w' => e' = .returned (.agg (cW .u64 (foldV wid cbr ⟨a, b, c, d, e, f, g, h⟩ l).list).toArray) ∧ Below w.heap.size w w' := by
  obtain ⟨L, hL⟩ : ∃ L, L = w80V wid l := ⟨_, rfl⟩
  have HL80 := hid (show L.length = 80 by rw [hL]; exact w80_len _ _ (by decide) (by decide))
  have HLB := hid (show ∀ i, L.getD i 0 < 2 ^ 64 by intro i; rw [hL]; exact w80_lt wid l i (by decide) (by decide) (by decide))
  have HL := hid hL
  obtain ⟨F, hF⟩ : ∃ F, F = rdsV wid (cbr.take 80) L ⟨a, b, c, d, e, f, g, h⟩ := ⟨_, rfl⟩
  have HF := hid hF
  have HFO := hid (show foldV wid cbr ⟨a, b, c, d, e, f, g, h⟩ l = addV wid ⟨a, b, c, d, e, f, g, h⟩ F by
    rw [hF, hL]
    exact (congrArg (addV wid _) (rds_w80 wid cbr l _ (by decide))).symm)
  obtain ⟨Z, hZ⟩ : ∃ Z, Z = (addV wid ⟨a, b, c, d, e, f, g, h⟩ F).list := ⟨_, rfl⟩
  have HZE := hid hZ
  rw [HFO.out, ← hZ]
  clear hZ
  have HBD := hid hbd
  have HG := hid hg
  have HC := hid hc
  have HLL := hid hl
  clear hL hF hc hl hbd hg
  go_enter Tryd.func86, Tryd.ntmps86
  go_wp2_with fail
  refine (schedule64 x cap l _ ?_ HLL.out hcap).mono ?_
  · intro j hj
    have := HC.out j hj
    exact kept_cell this ((((Below.refl _ w).alloc (Nat.le_refl _) _).alloc (by simp) _).alloc (by simp; omega) _)
  rintro e1 w1 ⟨rfl, hb1⟩
  rw [← HL.out]
  have HB1 := hid (below2 ((((Below.refl _ w).alloc (Nat.le_refl _) _).alloc (by simp) _).alloc (by simp; omega) _) hb1)
  have HA := hid (row_kept (row_kept (row_kept (heap_alloc_new w _) ((Below.refl _ _).alloc (Nat.le_refl _) _)) ((Below.refl _ _).alloc (Nat.le_refl _) _)) hb1)
  have HR := hid (((Rw.laid (l := [a, b, c, d, e, f, g, h]) (K := .u64) (World.size_alloc _ _).symm (by rfl)).more _).kept hb1)
  have HS := hid ((Rw.laid (g := w.heap.size + 1 + 1) (l := List.replicate 8 0) (K := .u64) (by simp) (by rfl)).kept hb1)
  clear hb1
  have hone := all_oneCell_toArray (cW_one .u64 L)
  have hi8 := size80a_6 L HL80.out
  have HZ := hid (Rw.new w1 .u64 61 (List.replicate 80 0))
  have HH := hid (HZ.out.there (cW .u64 L).toArray.size (by rw [List.size_toArray, cW_len, HL80.out]; rfl))
  go_wp2_with (refine wpList_store_mid rfl 61 (.tmp 7) (.tmp 23) rfl w1.heap.size 0 (cW .u64 L).toArray rfl rfl HH.out hi8 hone ?_)
  generalize hW2 : (w1.alloc _).setCells w1.heap.size 0 (cW .u64 L) = W2
  have hBW : Below w1.heap.size w1 W2 := by rw [← hW2]; exact below_setCells (Nat.le_refl _) _ _ _ ((Below.refl _ _).alloc (Nat.le_refl _) _)
  have hQ : Rw W2 w1.heap.size .u64 61 L := by rw [← hW2]; exact HZ.out.put L (by rw [HL80.out]; rfl)
  have HFL : Hid (Fld6 w W2 w1.heap.size [a, b, c, d, e, f, g, h] L) := ⟨row_kept HA.out hBW, HR.out.kept hBW, HS.out.kept hBW, hQ, (HG.out.kept HB1.out).kept hBW, below2 HB1.out hBW⟩
  obtain ⟨q, hq⟩ : ∃ q, q = w1.heap.size := ⟨_, rfl⟩
  rw [← hq] at HFL ⊢
  clear hQ hBW hW2 HZ HH HA HR HS HB1 HG hone hi8 hq
  have s0 : W2.cell? ⟨w.heap.size + 1, 0, none⟩ = some (.int .u64 (a : Int)) := HFL.out.2.1.cell 0 (by simp)
  have s1 : W2.cell? ⟨w.heap.size + 1, 1, none⟩ = some (.int .u64 (b : Int)) := HFL.out.2.1.cell 1 (by simp)
  have s2 : W2.cell? ⟨w.heap.size + 1, 2, none⟩ = some (.int .u64 (c : Int)) := HFL.out.2.1.cell 2 (by simp)
  have s3 : W2.cell? ⟨w.heap.size + 1, 3, none⟩ = some (.int .u64 (d : Int)) := HFL.out.2.1.cell 3 (by simp)
  have s4 : W2.cell? ⟨w.heap.size + 1, 4, none⟩ = some (.int .u64 (e : Int)) := HFL.out.2.1.cell 4 (by simp)
  have s5 : W2.cell? ⟨w.heap.size + 1, 5, none⟩ = some (.int .u64 (f : Int)) := HFL.out.2.1.cell 5 (by simp)
  have s6 : W2.cell? ⟨w.heap.size + 1, 6, none⟩ = some (.int .u64 (g : Int)) := HFL.out.2.1.cell 6 (by simp)
  have s7 : W2.cell? ⟨w.heap.size + 1, 7, none⟩ = some (.int .u64 (h : Int)) := HFL.out.2.1.cell 7 (by simp)
  have r1 : W2.cell? ⟨w.heap.size, 1, none⟩ = some (.int .i64 80) := Lib.cell_of_heap HFL.out.1 1
  simp only [Act.put]
  go_region
  go_wp2_with fail
  go_region
  go_wp2_with fail
  have HB2 := hid (show Below W2.heap.size W2 W2.drew.drew from ((Below.refl _ W2).drew).drew)
  refine wp_cut0 (rounds6 w.heap.size q a b c d e f g h L F W2.drew.drew _ _ _ _ _ _ _ _ _ _ _ _ _ _ _ _ _ _ _ _ _ _ _ _ _ _ _ _ _ _ _ _ _ _ _ _ _ _ _ _ _ _ _ _ _ _ _ _ _ _ _ _ _ _ _ _ _ _ _ _ _ _ _ _ _ _ _ _ _ _ _ _ _ _ _ _ _ _ _ _ _ _ _ _ _ _ _ _ _ _ _ _ _ _ _ _ _ _ _ _ _ _ _ (HFL.out.kept HB2.out).1 (HFL.out.kept HB2.out).2.2.2.1 (HFL.out.kept HB2.out).2.2.2.2.1 HL80 HLB HBD HF ?_)
  intro u16 u17 u18 u42 u43 u44 u45 u46 u47 u48 u49 u50 u51 u52 u53 u54 u55 u56 u57 u58 u59 u60 u61 u62 u63 u64 u65 u66 u67 u68 u69 u70 u71 u72 u73 u74 u75 u76 u77 u78 u79 u80 u81 u82 u83 u84 u85 u86 u87 u88 u89 u90 u91 u92 W3 hb3
  have HZ8 := hid (show Z.length = 8 by rw [HZE.out]; rfl)
  have HFL3 := hid ((HFL.out.kept HB2.out).kept hb3)
  have HZ := hid (show ∀ j, j < 8 → Z.getD j 0 = ([a, b, c, d, e, f, g, h].getD j 0 + [F.a, F.b, F.c, F.d, F.e, F.f, F.g, F.h].getD j 0) % 18446744073709551616 by
    intro j hj
    rw [HZE.out, add_eq]
    rcases (show j = 0 ∨ j = 1 ∨ j = 2 ∨ j = 3 ∨ j = 4 ∨ j = 5 ∨ j = 6 ∨ j = 7 by omega) with rfl | rfl | rfl | rfl | rfl | rfl | rfl | rfl <;> rfl)
  clear s0 s1 s2 s3 s4 s5 s6 s7 r1 hb3 HFL HB2
  go_wp2_with fail
  refine wp_cut2 (adds6 F.a F.b F.c F.d F.e F.f F.g F.h [a, b, c, d, e, f, g, h] Z w W3 _ _ _ _ _ _ _ _ _ _ _ _ _ _ _ _ _ _ _ _ _ _ _ _ _ _ _ _ _ _ _ _ _ _ _ _ _ _ _ _ _ _ _ _ _ _ _ _ _ _ _ _ _ _ _ _ _ _ _ _ _ _ _ _ _ _ _ _ _ _ _ _ _ _ _ _ _ _ _ _ _ _ _ _ _ _ _ _ _ _ _ _ _ _ _ _ _ _ _ _ _ _ _ _ _ _ _ _ _ _ _ _ ⟨HFL3.out.2.1, HFL3.out.2.2.1, HFL3.out.2.2.2.2.2⟩ rfl HZ8 HZ ?_)
  intro x19 x20 x102 x103 x104 x105 x106 x107 x108 x109 x110 x111 x112 W4 hM
  have hR := hM.2.1
  have HT := hid (hR.put Z (by rw [HZ8.out]; rfl))
  have HBT := hid (below_setCells (b := w.heap.size + 1 + 1) (by omega) (cW .u64 Z) 0 W4 hM.2.2)
  have HH := hid (hR.there (cW .u64 Z).toArray.size (by rw [List.size_toArray, cW_len, HZ8.out]; rfl))
  have HRG := hid hM.1.range
  have hone := all_oneCell_toArray (cW_one .u64 Z)
  have hi8 := size8_6 Z HZ8.out
  have hi8' := size8a_6 Z HZ8.out
  clear hR hM
  go_wp2_with (first | refine wpList_load_mid rfl 77 (.tmp 4) rfl (w.heap.size + 1) 0 rfl (cW .u64 Z) _ HRG.out Tryd.underlying77 rfl hi8 ?_ | refine wpList_store_mid rfl 77 (.tmp 6) (.tmp 113) rfl (w.heap.size + 1 + 1) 0 (cW .u64 Z).toArray rfl rfl HH.out hi8' hone ?_)
  exact bodyPost_ret (Rw.result rfl _ _ (w.heap.size + 1 + 1) .u64 77 Z rfl HT.out Tryd.underlying77 rfl hi8) rfl ⟨rfl, HBT.out⟩

end Go.Proofs.YtbdlicomkpnalaaDoor

namespace Go.Proofs.YtbdlicomkpnalaaDoor
open Go.RowKit

theorem folded_l64 (a b c d e f g h a2 b2 c2 d2 e2 f2 g2 h2 : Nat) (x : Addr) (cap : Nat) (l : List UInt8) (w : World) (hg : Gt w) (hc : ∀ j (h : j < l.length), w.cell? (x.add j) = some (.int .u8 (l[j].toNat : Int))) (hl : l.length = 128) (hcap : 128 ≤ cap)
    (hbd : BdS (2 ^ 64) ⟨a, b, c, d, e, f, g, h⟩) (hF : foldV wid cbr ⟨a, b, c, d, e, f, g, h⟩ l = ⟨a2, b2, c2, d2, e2, f2, g2, h2⟩) :
    Calls Tryd.prog 86 #[.agg #[.int .u64 64, .int .i64 80, .int .u64 1, .int .u64 8, .int .u64 7, .int .u64 19, .int .u64 61, .int .u64 6, .int .u64 28, .int .u64 34, .int .u64 39, .int .u64 14, .int .u64 18, .int .u64 41], .agg #[.int .u64 (a : Int), .int .u64 (b : Int), .int .u64 (c : Int), .int .u64 (d : Int), .int .u64 (e : Int), .int .u64 (f : Int), .int .u64 (g : Int), .int .u64 (h : Int)], .slice (some x) 128 cap] w fun e' w' => e' = .returned (.agg #[.int .u64 (a2 : Int), .int .u64 (b2 : Int), .int .u64 (c2 : Int), .int .u64 (d2 : Int), .int .u64 (e2 : Int), .int .u64 (f2 : Int), .int .u64 (g2 : Int), .int .u64 (h2 : Int)]) ∧ Below w.heap.size w w' := by
  have := folded64 a b c d e f g h x cap l w hg hc hl hcap hbd
  rw [hF] at this
  exact this

def sliceN8_6 : Value → Nat
  | .slice _ n _ => n
  | _ => 0

theorem work_next_6 (k : Kd) (Ks : List Nat) (n m : Nat) (s : St) (l : List UInt8) (hn : 0 < n) (h : n ≤ l.length) (hm : l.length / n ≤ m) : workV k Ks n m s l = workV k Ks n (m - 1) (foldV k Ks s (l.take n)) (l.drop n) ∧ (l.drop n).length / n ≤ m - 1 := by
  have h1 : 0 < l.length / n := Nat.div_pos h hn
  obtain ⟨m', rfl⟩ : ∃ m', m = m' + 1 := ⟨m - 1, by omega⟩
  refine ⟨by rw [workV, if_pos h]; rfl, ?_⟩
  have h2 : l.length / n = (l.length - n) / n + 1 := by
    conv => lhs; rw [show l.length = l.length - n + n by omega]
    exact Nat.add_div_right _ hn
  rw [List.length_drop]
  omega

theorem work_stop_6 (k : Kd) (Ks : List Nat) (n m : Nat) (s : St) (l : List UInt8) (h : ¬ n ≤ l.length) : workV k Ks n m s l = s := by
  cases m with
  | zero => rfl
  | succ m => rw [workV, if_neg h]

theorem slb_drop_6 (w : World) (y : Addr) (c k n : Nat) (r : List UInt8) (hk0 : 0 < k) (hn : n = r.length) (hnc : n ≤ c) (hkn : k ≤ n)
    (hcell : ∀ j (hj : j < r.length), w.cell? (y.add j) = some (.int .u8 (r[j].toNat : Int))) : SlB w (.slice (if c = k then some y else some (y.add k)) (n - k) (c - k)) (r.drop k) := by
  have hl : n - k = (r.drop k).length := by rw [List.length_drop]; omega
  by_cases hck : c = k
  · have hr : r.drop k = [] := List.eq_nil_of_length_eq_zero (by omega)
    rw [if_pos hck, hl, hr]
    exact .inr ⟨y, c - k, rfl, fun j hj => by simp at hj⟩
  · rw [if_neg hck, hl]
    refine .inr ⟨_, c - k, rfl, fun j hj => ?_⟩
    have hj' : k + j < r.length := by rw [List.length_drop] at hj; omega
    rw [Addr.add_add, hcell (k + j) hj']
    simp

set_option maxHeartbeats 4000000 in
set_option maxRecDepth 100000 in
theorem worked64 (a b c d e f g h : Nat) (a0 : Option Addr) (len cap m0 : Nat) (l : List UInt8) (w : World) (hg : Gt w) (hv : SlB w (.slice a0 len cap) l) (hlc : len ≤ cap) (hcm : cap ≤ maxLen) (hm0 : l.length / 128 ≤ m0)
    (hbd : BdS (2 ^ 64) ⟨a, b, c, d, e, f, g, h⟩) :
    Calls Tryd.prog 61 #[.agg #[.int .u64 64, .int .i64 80, .int .u64 1, .int .u64 8, .int .u64 7, .int .u64 19, .int .u64 61, .int .u64 6, .int .u64 28, .int .u64 34, .int .u64 39, .int .u64 14, .int .u64 18, .int .u64 41], .agg #[.int .u64 (a : Int), .int .u64 (b : Int), .int .u64 (c : Int), .int .u64 (d : Int), .int .u64 (e : Int), .int .u64 (f : Int), .int .u64 (g : Int), .int .u64 (h : Int)], .slice a0 len cap] w fun e' w' => e' = .returned (.agg (cW .u64 (workV wid cbr 128 m0 ⟨a, b, c, d, e, f, g, h⟩ l).list).toArray) ∧ BdS (2 ^ 64) (workV wid cbr 128 m0 ⟨a, b, c, d, e, f, g, h⟩ l) ∧ Below w.heap.size w w' := by
  have hll : len = l.length := by
    rcases hv with ⟨c, e, rfl⟩ | ⟨x, c, e, hc⟩
    · obtain ⟨_, rfl, _⟩ := Value.slice.inj e
      rfl
    · obtain ⟨_, rfl, _⟩ := Value.slice.inj e
      rfl
  unfold maxLen at hcm
  obtain ⟨T, hT⟩ : ∃ T, T = workV wid cbr 128 m0 ⟨a, b, c, d, e, f, g, h⟩ l := ⟨_, rfl⟩
  have HT := hid hT
  have HG := hid hg
  have HV := hid hv
  have HBD := hid hbd
  have HLL := hid hll
  have HM0 := hid hm0
  rw [← hT]
  clear hT hg hv hbd hll hm0
  go_enter Tryd.func61, Tryd.ntmps61
  go_wp2_with fail
  refine (blockBytes64 _).mono ?_
  rintro e1 w1 ⟨rfl, hb1⟩
  have HA := hid (row_kept (row_kept (row_kept (heap_alloc_new w _) ((Below.refl _ _).alloc (Nat.le_refl _) _)) ((Below.refl _ _).alloc (Nat.le_refl _) _)) hb1)
  have HR := hid (((Rw.laid (l := [a, b, c, d, e, f, g, h]) (K := .u64) (World.size_alloc _ _).symm (by rfl)).more _).kept hb1)
  have HS := hid ((Rw.laid (g := w.heap.size + 1 + 1) (l := List.replicate 8 0) (K := .u64) (by simp) (by rfl)).kept hb1)
  have HB := hid (below2 ((((Below.refl _ w).alloc (Nat.le_refl _) _).alloc (by simp) _).alloc (by simp; omega) _) hb1)
  clear hb1
  go_wp2_with fail
  go_loopw [2] (fun v2 wr => ∃ (x : Option Addr) (n c m : Nat) (r : List UInt8) (ra rb rc rd re rf rg rh : Nat), v2 = .slice x n c ∧ n = r.length ∧ n ≤ c ∧ c ≤ cap ∧ Hid (SlB w (.slice x n c) r) ∧ Hid (BdS (2 ^ 64) ⟨ra, rb, rc, rd, re, rf, rg, rh⟩) ∧ Hid (workV wid cbr 128 m ⟨ra, rb, rc, rd, re, rf, rg, rh⟩ r = T) ∧ Hid (r.length / 128 ≤ m) ∧
      Hid (wr.heap[w.heap.size]? = some (.cells #[.int .u64 64, .int .i64 80, .int .u64 1, .int .u64 8, .int .u64 7, .int .u64 19, .int .u64 61, .int .u64 6, .int .u64 28, .int .u64 34, .int .u64 39, .int .u64 14, .int .u64 18, .int .u64 41] 73 (0, 0)) ∧ Rw wr (w.heap.size + 1) .u64 77 [ra, rb, rc, rd, re, rf, rg, rh] ∧ Rw wr (w.heap.size + 1 + 1) .u64 77 (List.replicate 8 0) ∧ Below w.heap.size w wr)) (fun v2 _ => sliceN8_6 v2)
  case atStart => exact ⟨a0, len, cap, m0, l, a, b, c, d, e, f, g, h, rfl, HLL.out, hlc, Nat.le_refl _, HV.out, HBD.out, HT.out.symm, HM0.out, HA.out, HR.out, HS.out, HB.out⟩
  case round =>
    clear HA HR HS HB HT HV HBD HLL HM0
    obtain ⟨x, n, c, m, r, ra, rb, rc, rd, re, rf, rg, rh, rfl, hn, hnc, hcc, HV, HBD, HT, HM, HX⟩ := hrel
    by_cases hge : 128 ≤ n
    · obtain ⟨y, rfl, hcell⟩ : ∃ y, x = some y ∧ ∀ j (hj : j < r.length), w.cell? (y.add j) = some (.int .u8 (r[j].toNat : Int)) := by
        rcases HV.out with ⟨c', e, h0⟩ | ⟨y, c', e, hc⟩
        · subst h0; simp at hn; omega
        · obtain ⟨rfl, _, _⟩ := Value.slice.inj e
          exact ⟨y, rfl, hc⟩
      have HC := hid (fun (X : World) (hb : Below w.heap.size w X) j (hj : j < (r.take 128).length) => (show X.cell? (y.add j) = some (.int .u8 ((r.take 128)[j].toNat : Int)) by
        have hj' : j < r.length := by simp at hj; omega
        rw [hb.cell (World.block_lt_of_cell? w _ (hcell j hj')), hcell j hj']
        simp))
      obtain ⟨qa, qb, qc, qd, qe, qf, qg, qh, hF⟩ : ∃ qa qb qc qd qe qf qg qh : Nat, foldV wid cbr ⟨ra, rb, rc, rd, re, rf, rg, rh⟩ (r.take 128) = ⟨qa, qb, qc, qd, qe, qf, qg, qh⟩ := ⟨_, _, _, _, _, _, _, _, rfl⟩
      have HBQ := hid (show BdS (2 ^ 64) ⟨qa, qb, qc, qd, qe, qf, qg, qh⟩ by rw [← hF]; exact add_bd wid _ _)
      have hnx := work_next_6 wid cbr 128 m ⟨ra, rb, rc, rd, re, rf, rg, rh⟩ r (by decide) (by omega) HM.out
      rw [hF] at hnx
      have HTN := hid (hnx.1.symm.trans HT.out)
      have HMN := hid hnx.2
      have HF := hid hF
      have HN := hid hn
      have HCL := hid hcell
      clear hnx hF hn hcell
      have c0 : wr.cell? ⟨w.heap.size, 0, none⟩ = some (.int .u64 64) := Lib.cell_of_heap HX.out.1 0
      have c1 : wr.cell? ⟨w.heap.size, 1, none⟩ = some (.int .i64 80) := Lib.cell_of_heap HX.out.1 1
      have c2 : wr.cell? ⟨w.heap.size, 2, none⟩ = some (.int .u64 1) := Lib.cell_of_heap HX.out.1 2
      have c3 : wr.cell? ⟨w.heap.size, 3, none⟩ = some (.int .u64 8) := Lib.cell_of_heap HX.out.1 3
      have c4 : wr.cell? ⟨w.heap.size, 4, none⟩ = some (.int .u64 7) := Lib.cell_of_heap HX.out.1 4
      have c5 : wr.cell? ⟨w.heap.size, 5, none⟩ = some (.int .u64 19) := Lib.cell_of_heap HX.out.1 5
      have c6 : wr.cell? ⟨w.heap.size, 6, none⟩ = some (.int .u64 61) := Lib.cell_of_heap HX.out.1 6
      have c7 : wr.cell? ⟨w.heap.size, 7, none⟩ = some (.int .u64 6) := Lib.cell_of_heap HX.out.1 7
      have c8 : wr.cell? ⟨w.heap.size, 8, none⟩ = some (.int .u64 28) := Lib.cell_of_heap HX.out.1 8
      have c9 : wr.cell? ⟨w.heap.size, 9, none⟩ = some (.int .u64 34) := Lib.cell_of_heap HX.out.1 9
      have c10 : wr.cell? ⟨w.heap.size, 10, none⟩ = some (.int .u64 39) := Lib.cell_of_heap HX.out.1 10
      have c11 : wr.cell? ⟨w.heap.size, 11, none⟩ = some (.int .u64 14) := Lib.cell_of_heap HX.out.1 11
      have c12 : wr.cell? ⟨w.heap.size, 12, none⟩ = some (.int .u64 18) := Lib.cell_of_heap HX.out.1 12
      have c13 : wr.cell? ⟨w.heap.size, 13, none⟩ = some (.int .u64 41) := Lib.cell_of_heap HX.out.1 13
      have s0 : wr.cell? ⟨w.heap.size + 1, 0, none⟩ = some (.int .u64 (ra : Int)) := HX.out.2.1.cell 0 (by simp)
      have t0 : wr.frozen? ⟨w.heap.size + 1, 0, none⟩ = false := HX.out.2.1.free 0
      have s1 : wr.cell? ⟨w.heap.size + 1, 1, none⟩ = some (.int .u64 (rb : Int)) := HX.out.2.1.cell 1 (by simp)
      have t1 : wr.frozen? ⟨w.heap.size + 1, 1, none⟩ = false := HX.out.2.1.free 1
      have s2 : wr.cell? ⟨w.heap.size + 1, 2, none⟩ = some (.int .u64 (rc : Int)) := HX.out.2.1.cell 2 (by simp)
      have t2 : wr.frozen? ⟨w.heap.size + 1, 2, none⟩ = false := HX.out.2.1.free 2
      have s3 : wr.cell? ⟨w.heap.size + 1, 3, none⟩ = some (.int .u64 (rd : Int)) := HX.out.2.1.cell 3 (by simp)
      have t3 : wr.frozen? ⟨w.heap.size + 1, 3, none⟩ = false := HX.out.2.1.free 3
      have s4 : wr.cell? ⟨w.heap.size + 1, 4, none⟩ = some (.int .u64 (re : Int)) := HX.out.2.1.cell 4 (by simp)
      have t4 : wr.frozen? ⟨w.heap.size + 1, 4, none⟩ = false := HX.out.2.1.free 4
      have s5 : wr.cell? ⟨w.heap.size + 1, 5, none⟩ = some (.int .u64 (rf : Int)) := HX.out.2.1.cell 5 (by simp)
      have t5 : wr.frozen? ⟨w.heap.size + 1, 5, none⟩ = false := HX.out.2.1.free 5
      have s6 : wr.cell? ⟨w.heap.size + 1, 6, none⟩ = some (.int .u64 (rg : Int)) := HX.out.2.1.cell 6 (by simp)
      have t6 : wr.frozen? ⟨w.heap.size + 1, 6, none⟩ = false := HX.out.2.1.free 6
      have s7 : wr.cell? ⟨w.heap.size + 1, 7, none⟩ = some (.int .u64 (rh : Int)) := HX.out.2.1.cell 7 (by simp)
      have t7 : wr.frozen? ⟨w.heap.size + 1, 7, none⟩ = false := HX.out.2.1.free 7
      have hge1 : (128 : Int) ≤ (n : Int) := by omega
      have hge2 : (128 : Int) ≤ (c : Int) := by omega
      obtain ⟨ny, hny⟩ : ∃ ny, ny = (if c = 128 then some y else some (y.add 128)) := ⟨_, rfl⟩
      have hsl : ∀ wx : World, (Instr.sliceAt 22 (.slice (some y) n c) (some (.int .i64 128)) none none).run Tryd.prog wx = .ok (.slice ny (n - 128) (c - 128)) wx := by
        intro wx
        rw [run_sliceAt_slice (h := undB), run_slice_l (ht := undB) (h0 := by omega) (h1 := by omega), sizeByte]
        simp only [Result.andThen, sliced, Int.reduceToNat, Nat.mul_one, Option.map_some]
        rw [hny]
      have HNY := hid hny
      clear hny
      have HCA := hid (fun (X : World) (hb : Below wr.heap.size wr X) => folded_l64 ra rb rc rd re rf rg rh qa qb qc qd qe qf qg qh y c (r.take 128) X ((HG.out.kept HX.out.2.2.2).kept hb) (HC.out X (HX.out.2.2.2.trans (hb.mono HX.out.2.2.2.size))) (by have := HN.out; simp; omega) (by omega) HBD.out HF.out)
      go_wp2_with fail
      go_region_with (first | (go_at_call 86; refine (HCA.out _ (Below.refl _ wr).drew).mono ?_; rintro e wa ⟨rfl, hba⟩; obtain ⟨p0, q0⟩ := kept_both (X := wr.drew) (a := ⟨w.heap.size + 1, 0, none⟩) (v := .int .u64 (ra : Int)) s0 t0 hba; obtain ⟨p1, q1⟩ := kept_both (X := wr.drew) (a := ⟨w.heap.size + 1, 1, none⟩) (v := .int .u64 (rb : Int)) s1 t1 hba; obtain ⟨p2, q2⟩ := kept_both (X := wr.drew) (a := ⟨w.heap.size + 1, 2, none⟩) (v := .int .u64 (rc : Int)) s2 t2 hba; obtain ⟨p3, q3⟩ := kept_both (X := wr.drew) (a := ⟨w.heap.size + 1, 3, none⟩) (v := .int .u64 (rd : Int)) s3 t3 hba; obtain ⟨p4, q4⟩ := kept_both (X := wr.drew) (a := ⟨w.heap.size + 1, 4, none⟩) (v := .int .u64 (re : Int)) s4 t4 hba; obtain ⟨p5, q5⟩ := kept_both (X := wr.drew) (a := ⟨w.heap.size + 1, 5, none⟩) (v := .int .u64 (rf : Int)) s5 t5 hba; obtain ⟨p6, q6⟩ := kept_both (X := wr.drew) (a := ⟨w.heap.size + 1, 6, none⟩) (v := .int .u64 (rg : Int)) s6 t6 hba; obtain ⟨p7, q7⟩ := kept_both (X := wr.drew) (a := ⟨w.heap.size + 1, 7, none⟩) (v := .int .u64 (rh : Int)) s7 t7 hba))
      all_goals
        have hb : Below wr.heap.size wr wa := ⟨hba.os, hba.tape, hba.output, hba.size, hba.block⟩
        have HW := hid (show wa.setCells (w.heap.size + 1) 0 (cW .u64 [qa, qb, qc, qd, qe, qf, qg, qh]) = _ from rfl)
        have HX2 := hid (show (wa.setCells (w.heap.size + 1) 0 (cW .u64 [qa, qb, qc, qd, qe, qf, qg, qh])).heap[w.heap.size]? = some (.cells #[.int .u64 64, .int .i64 80, .int .u64 1, .int .u64 8, .int .u64 7, .int .u64 19, .int .u64 61, .int .u64 6, .int .u64 28, .int .u64 34, .int .u64 39, .int .u64 14, .int .u64 18, .int .u64 41] 73 (0, 0)) ∧ Rw (wa.setCells (w.heap.size + 1) 0 (cW .u64 [qa, qb, qc, qd, qe, qf, qg, qh])) (w.heap.size + 1) .u64 77 [qa, qb, qc, qd, qe, qf, qg, qh] ∧ Rw (wa.setCells (w.heap.size + 1) 0 (cW .u64 [qa, qb, qc, qd, qe, qf, qg, qh])) (w.heap.size + 1 + 1) .u64 77 (List.replicate 8 0) ∧ Below w.heap.size w (wa.setCells (w.heap.size + 1) 0 (cW .u64 [qa, qb, qc, qd, qe, qf, qg, qh])) from
          ⟨(setCells_far (by omega) _ _ _).trans (row_kept HX.out.1 hb), (HX.out.2.1.kept hb).put _ rfl, (setCells_far (by omega) _ _ _).trans (HX.out.2.2.1.kept hb), below_setCells (by omega) _ _ _ (HX.out.2.2.2.trans (hb.mono HX.out.2.2.2.size))⟩)
        clear c0 c1 c2 c3 c4 c5 c6 c7 c8 c9 c10 c11 c12 c13 s0 s1 s2 s3 s4 s5 s6 s7 t0 t1 t2 t3 t4 t5 t6 t7 hb HW
        go_wp2_with fail
        go_roundw
        case rel =>
          have hn := HN.out
          have hE : (r.drop 128).length = n - 128 := by rw [List.length_drop]; omega
          have hSl : SlB w (.slice ny (n - 128) (c - 128)) (r.drop 128) := by
            have := slb_drop_6 w y c 128 n r (by decide) hn hnc (by omega) HCL.out
            rw [← HNY.out] at this
            exact this
          first
            | exact ⟨ny, n - 128, c - 128, m - 1, r.drop 128, qa, qb, qc, qd, qe, qf, qg, qh, rfl, hE.symm, by omega, by omega, hSl, HBQ.out, HTN.out, HMN.out, HX2.out⟩
            | ((repeat apply Exists.intro); refine ⟨?_, rfl⟩; exact ⟨ny, n - 128, c - 128, m - 1, r.drop 128, qa, qb, qc, qd, qe, qf, qg, qh, rfl, hE.symm, by omega, by omega, hSl, HBQ.out, HTN.out, HMN.out, HX2.out⟩)
        case measure => simp [sliceN8_6]; omega
    · obtain rfl : ⟨ra, rb, rc, rd, re, rf, rg, rh⟩ = T := by
        rw [← HT.out, work_stop_6 wid cbr 128 m _ r (by omega)]
      have hX := HX.out
      have hlt1 : ¬ ((128 : Int) ≤ (n : Int)) := by omega
      have HTT := hid (hX.2.2.1.put [ra, rb, rc, rd, re, rf, rg, rh] rfl)
      have HBT := hid (below_setCells (b := w.heap.size + 1 + 1) (by omega) (cW .u64 [ra, rb, rc, rd, re, rf, rg, rh]) 0 wr hX.2.2.2)
      have HH := hid (hX.2.2.1.there (cW .u64 [ra, rb, rc, rd, re, rf, rg, rh]).toArray.size rfl)
      have HRG := hid hX.2.1.range
      have hone := all_oneCell_toArray (cW_one .u64 [ra, rb, rc, rd, re, rf, rg, rh])
      have hi8 := size8_6 [ra, rb, rc, rd, re, rf, rg, rh] rfl
      have hi8' := size8a_6 [ra, rb, rc, rd, re, rf, rg, rh] rfl
      clear hX HX HT HM HV hn hnc hcc hge
      go_wp2_with (first | refine wpList_load_mid rfl 77 (.tmp 4) rfl (w.heap.size + 1) 0 rfl (cW .u64 [ra, rb, rc, rd, re, rf, rg, rh]) _ HRG.out Tryd.underlying77 rfl hi8 ?_ | refine wpList_store_mid rfl 77 (.tmp 6) (.tmp 23) rfl (w.heap.size + 1 + 1) 0 (cW .u64 [ra, rb, rc, rd, re, rf, rg, rh]).toArray rfl rfl HH.out hi8' hone ?_)
      exact bodyPost_ret (Rw.result rfl _ _ (w.heap.size + 1 + 1) .u64 77 [ra, rb, rc, rd, re, rf, rg, rh] rfl HTT.out Tryd.underlying77 rfl hi8) rfl ⟨rfl, HBD.out, HBT.out⟩

end Go.Proofs.YtbdlicomkpnalaaDoor
