/-
  The rounds of digest's folded, at 64 bits.
-/
import Derived.Test.YtbdlicomkpnalaaDoorZLhr6
set_option linter.unusedSimpArgs false
set_option linter.unusedVariables false
namespace Go.Proofs.YtbdlicomkpnalaaDoor
open Go.RowKit

noncomputable def loop1_6 : Code := ((Tryd.f86.body.map loopsOf).getD []).getD 0 .skip

set_option maxHeartbeats 4000000 in
set_option maxRecDepth 100000 in
theorem rounds6 (n0 q a b c d e f g h : Nat) (Ls : List Nat) (F : St) (W : World) (K : Act → World → Prop) (t0 t1 t2 t4 t5 t6 t16 t17 t18 t19 t20 t21 t22 t23 t24 t25 t26 t27 t28 t29 t30 t31 t32 t33 t34 t35 t36 t37 t38 t39 t40 t43 t44 t45 t46 t47 t48 t49 t50 t51 t52 t53 t54 t55 t56 t57 t58 t59 t60 t61 t62 t63 t64 t65 t66 t67 t68 t69 t70 t71 t72 t73 t74 t75 t76 t77 t78 t79 t80 t81 t82 t83 t84 t85 t86 t87 t88 t89 t90 t91 t92 t93 t94 t95 t96 t97 t98 t99 t100 t101 t102 t103 t104 t105 t106 t107 t108 t109 t110 t111 t112 t113 : Value)
    (HA : Hid (W.heap[n0]? = some (.cells #[.int .u64 64, .int .i64 80, .int .u64 1, .int .u64 8, .int .u64 7, .int .u64 19, .int .u64 61, .int .u64 6, .int .u64 28, .int .u64 34, .int .u64 39, .int .u64 14, .int .u64 18, .int .u64 41] 73 (0, 0)))) (HW : Hid (Rw W q .u64 61 Ls)) (HG : Hid (Gt W)) (HL80 : Hid (Ls.length = 80)) (HLB : Hid (∀ i, Ls.getD i 0 < 2 ^ 64))
    (HBD : Hid (BdS (2 ^ 64) ⟨a, b, c, d, e, f, g, h⟩)) (HF : Hid (F = rdsV wid (cbr.take 80) Ls ⟨a, b, c, d, e, f, g, h⟩))
    (HK : Hid (∀ (u16 u17 u18 u42 u43 u44 u45 u46 u47 u48 u49 u50 u51 u52 u53 u54 u55 u56 u57 u58 u59 u60 u61 u62 u63 u64 u65 u66 u67 u68 u69 u70 u71 u72 u73 u74 u75 u76 u77 u78 u79 u80 u81 u82 u83 u84 u85 u86 u87 u88 u89 u90 u91 u92 : Value) (w2 : World), Below W.heap.size W w2 → K ⟨#[t0, t1, t2, .pointer (some ⟨n0, 0, none⟩), t4, t5, t6, .pointer (some ⟨q, 0, none⟩), .int .u64 (F.a : Int), .int .u64 (F.b : Int), .int .u64 (F.c : Int), .int .u64 (F.d : Int), .int .u64 (F.e : Int), .int .u64 (F.f : Int), .int .u64 (F.g : Int), .int .u64 (F.h : Int), u16, u17, u18, t19, t20, t21, t22, t23, t24, t25, t26, t27, t28, t29, t30, t31, t32, t33, t34, t35, t36, t37, t38, t39, t40, .int .i64 80, u42, u43, u44, u45, u46, u47, u48, u49, u50, u51, u52, u53, u54, u55, u56, u57, u58, u59, u60, u61, u62, u63, u64, u65, u66, u67, u68, u69, u70, u71, u72, u73, u74, u75, u76, u77, u78, u79, u80, u81, u82, u83, u84, u85, u86, u87, u88, u89, u90, u91, u92, t93, t94, t95, t96, t97, t98, t99, t100, t101, t102, t103, t104, t105, t106, t107, t108, t109, t110, t111, t112, t113], []⟩ w2)) :
    Code.wp Tryd.prog (.loop loop1_6) (exit0 K) ⟨#[t0, t1, t2, .pointer (some ⟨n0, 0, none⟩), t4, t5, t6, .pointer (some ⟨q, 0, none⟩), .int .u64 (a : Int), .int .u64 (b : Int), .int .u64 (c : Int), .int .u64 (d : Int), .int .u64 (e : Int), .int .u64 (f : Int), .int .u64 (g : Int), .int .u64 (h : Int), t16, t17, t18, t19, t20, t21, t22, t23, t24, t25, t26, t27, t28, t29, t30, t31, t32, t33, t34, t35, t36, t37, t38, t39, t40, .int .i64 80, .int .i64 0, t43, t44, t45, t46, t47, t48, t49, t50, t51, t52, t53, t54, t55, t56, t57, t58, t59, t60, t61, t62, t63, t64, t65, t66, t67, t68, t69, t70, t71, t72, t73, t74, t75, t76, t77, t78, t79, t80, t81, t82, t83, t84, t85, t86, t87, t88, t89, t90, t91, t92, t93, t94, t95, t96, t97, t98, t99, t100, t101, t102, t103, t104, t105, t106, t107, t108, t109, t110, t111, t112, t113], []⟩ W := by
  conv => arg 2; whnf
  conv => arg 2; arg 1; whnf
  conv => arg 4; dsimp only
  go_loopw [8, 9, 10, 11, 12, 13, 14, 15, 42] (fun v8 v9 v10 v11 v12 v13 v14 v15 v42 wr => ∃ k ra rb rc rd re rf rg rh : Nat, k ≤ 80 ∧ v42 = .int .i64 k ∧ v8 = .int .u64 (ra : Int) ∧ v9 = .int .u64 (rb : Int) ∧ v10 = .int .u64 (rc : Int) ∧ v11 = .int .u64 (rd : Int) ∧ v12 = .int .u64 (re : Int) ∧ v13 = .int .u64 (rf : Int) ∧ v14 = .int .u64 (rg : Int) ∧ v15 = .int .u64 (rh : Int) ∧ Hid (BdS (2 ^ 64) ⟨ra, rb, rc, rd, re, rf, rg, rh⟩) ∧ Hid (rdsV wid ((cbr.take 80).drop k) (Ls.drop k) ⟨ra, rb, rc, rd, re, rf, rg, rh⟩ = F) ∧ Hid (Below W.heap.size W wr)) (fun _ _ _ _ _ _ _ _ v42 _ => 80 - (intOf v42).toNat)
  case atStart => exact ⟨0, a, b, c, d, e, f, g, h, by omega, rfl, rfl, rfl, rfl, rfl, rfl, rfl, rfl, rfl, HBD.out, HF.out.symm, Below.refl _ _⟩
  case round =>
    clear HF HBD
    obtain ⟨k, ra, rb, rc, rd, re, rf, rg, rh, hk, rfl, rfl, rfl, rfl, rfl, rfl, rfl, rfl, rfl, HBD, HRD, HB⟩ := hrel
    by_cases hlt : k < 80
    · obtain ⟨ba, bb, bc, bd, be, bf, bg, bh⟩ := HBD.out
      dsimp only at ba bb bc bd be bf bg bh
      have c0 : wr.cell? ⟨n0, 0, none⟩ = some (.int .u64 64) := kept_cell (Lib.cell_of_heap HA.out 0) HB.out
      have c8 : wr.cell? ⟨n0, 8, none⟩ = some (.int .u64 28) := kept_cell (Lib.cell_of_heap HA.out 8) HB.out
      have c9 : wr.cell? ⟨n0, 9, none⟩ = some (.int .u64 34) := kept_cell (Lib.cell_of_heap HA.out 9) HB.out
      have c10 : wr.cell? ⟨n0, 10, none⟩ = some (.int .u64 39) := kept_cell (Lib.cell_of_heap HA.out 10) HB.out
      have c11 : wr.cell? ⟨n0, 11, none⟩ = some (.int .u64 14) := kept_cell (Lib.cell_of_heap HA.out 11) HB.out
      have c12 : wr.cell? ⟨n0, 12, none⟩ = some (.int .u64 18) := kept_cell (Lib.cell_of_heap HA.out 12) HB.out
      have c13 : wr.cell? ⟨n0, 13, none⟩ = some (.int .u64 41) := kept_cell (Lib.cell_of_heap HA.out 13) HB.out
      obtain ⟨KX, hKX⟩ : ∃ x, x = cbr.getD k 0 := ⟨_, rfl⟩
      obtain ⟨WX, hWX⟩ : ∃ x, x = Ls.getD k 0 := ⟨_, rfl⟩
      have cg : wr.cell? ⟨1, k, none⟩ = some (.int .u64 (KX : Int)) := by rw [hKX]; exact (HG.out.kept HB.out).2 k (by omega)
      have cw : wr.cell? ⟨q, k, none⟩ = some (.int .u64 (WX : Int)) := by rw [hWX]; exact (HW.out.kept HB.out).cell k (by rw [HL80.out]; omega)
      have bK : KX < 18446744073709551616 := by rw [hKX]; exact cbr_lt k
      have bW : WX < 18446744073709551616 := by rw [hWX]; exact HLB.out k
      obtain ⟨Y, hY⟩ : ∃ Y, Y = KX / 2 ^ (64 - 64) := ⟨_, rfl⟩
      have bY : Y < 18446744073709551616 := by rw [hY]; omega
      obtain ⟨G1, hG1⟩ : ∃ s, grV 64 14 18 41 re = s := ⟨_, rfl⟩
      obtain ⟨G0, hG0⟩ : ∃ s, grV 64 28 34 39 ra = s := ⟨_, rfl⟩
      obtain ⟨CH, hCH⟩ : ∃ s, chV 64 re rf rg = s := ⟨_, rfl⟩
      obtain ⟨MJ, hMJ⟩ : ∃ s, mjV ra rb rc = s := ⟨_, rfl⟩
      have bG1 : G1 < 18446744073709551616 := by rw [← hG1]; exact gr_lt (W := 64) be
      have bG0 : G0 < 18446744073709551616 := by rw [← hG0]; exact gr_lt (W := 64) ba
      have bCH : CH < 18446744073709551616 := by rw [← hCH]; exact ch_lt (W := 64) be
      have bMJ : MJ < 18446744073709551616 := by rw [← hMJ]; exact mj_lt (W := 64) ba bb
      obtain ⟨A1, hA1⟩ : ∃ a, a = (rh + G1) % 18446744073709551616 := ⟨_, rfl⟩
      obtain ⟨A2, hA2⟩ : ∃ a, a = (A1 + CH) % 18446744073709551616 := ⟨_, rfl⟩
      obtain ⟨A3, hA3⟩ : ∃ a, a = (A2 + Y) % 18446744073709551616 := ⟨_, rfl⟩
      obtain ⟨T1, hT1⟩ : ∃ a, a = (A3 + WX) % 18446744073709551616 := ⟨_, rfl⟩
      obtain ⟨T2, hT2⟩ : ∃ a, a = (G0 + MJ) % 18446744073709551616 := ⟨_, rfl⟩
      obtain ⟨EE, hEE⟩ : ∃ a, a = (rd + T1) % 18446744073709551616 := ⟨_, rfl⟩
      obtain ⟨AA, hAA⟩ : ∃ a, a = (T1 + T2) % 18446744073709551616 := ⟨_, rfl⟩
      have HNX := hid (show rdsV wid ((cbr.take 80).drop (k + 1)) (Ls.drop (k + 1)) ⟨AA, ra, rb, rc, EE, re, rf, rg⟩ = F by
        rw [← HRD.out, rds_step wid (cbr.take 80) Ls k _ (by simp [cbr]; omega) (by rw [HL80.out]; omega), rnd_eq]
        have e0 : (cbr.take 80).getD k 0 = KX := by rw [hKX]; simp [List.getD, hlt]
        rw [e0, ← hWX]
        have e1 : t1V wid ⟨ra, rb, rc, rd, re, rf, rg, rh⟩ (KX / 2 ^ (64 - (wid).W)) WX = T1 := by
          show (rh + grV 64 14 18 41 re + chV 64 re rf rg + KX / 2 ^ (64 - 64) + WX) % 2 ^ 64 = T1
          rw [hG1, hCH, ← hY, hT1, hA3, hA2, hA1]
          omega
        have e2 : t2V wid ⟨ra, rb, rc, rd, re, rf, rg, rh⟩ = T2 := by
          show (grV 64 28 34 39 ra + mjV ra rb rc) % 2 ^ 64 = T2
          rw [hG0, hMJ, hT2]
        rw [e1, e2, hEE, hAA]
        rfl)
      have HBN := hid (show BdS (2 ^ 64) ⟨AA, ra, rb, rc, EE, re, rf, rg⟩ from ⟨by rw [hAA]; exact Nat.mod_lt _ (by decide), ba, bb, bc, by rw [hEE]; exact Nat.mod_lt _ (by decide), be, bf, bg⟩)
      have f0 : IntKind.wrap .u64 ((rh : Int) + (G1 : Int)) = (A1 : Int) := by rw [wrapW6, hA1]; omega
      have g0 : ((rh : Int) + (G1 : Int)) % 18446744073709551616 = (A1 : Int) := by rw [hA1]; omega
      have f1 : IntKind.wrap .u64 ((A1 : Int) + (CH : Int)) = (A2 : Int) := by rw [wrapW6, hA2]; omega
      have g1 : ((A1 : Int) + (CH : Int)) % 18446744073709551616 = (A2 : Int) := by rw [hA2]; omega
      have f2 : IntKind.wrap .u64 ((A2 : Int) + (Y : Int)) = (A3 : Int) := by rw [wrapW6, hA3]; omega
      have g2 : ((A2 : Int) + (Y : Int)) % 18446744073709551616 = (A3 : Int) := by rw [hA3]; omega
      have f3 : IntKind.wrap .u64 ((A3 : Int) + (WX : Int)) = (T1 : Int) := by rw [wrapW6, hT1]; omega
      have g3 : ((A3 : Int) + (WX : Int)) % 18446744073709551616 = (T1 : Int) := by rw [hT1]; omega
      have f4 : IntKind.wrap .u64 ((G0 : Int) + (MJ : Int)) = (T2 : Int) := by rw [wrapW6, hT2]; omega
      have g4 : ((G0 : Int) + (MJ : Int)) % 18446744073709551616 = (T2 : Int) := by rw [hT2]; omega
      have f5 : IntKind.wrap .u64 ((rd : Int) + (T1 : Int)) = (EE : Int) := by rw [wrapW6, hEE]; omega
      have g5 : ((rd : Int) + (T1 : Int)) % 18446744073709551616 = (EE : Int) := by rw [hEE]; omega
      have f6 : IntKind.wrap .u64 ((T1 : Int) + (T2 : Int)) = (AA : Int) := by rw [wrapW6, hAA]; omega
      have g6 : ((T1 : Int) + (T2 : Int)) % 18446744073709551616 = (AA : Int) := by rw [hAA]; omega
      have hkk : (k : Int) < 80 := by omega
      have hkr : (k : Int) < 80 := by omega
      have HY := hid hY
      have HKF := hid (fun (X Y : World) (h2 : Below X.heap.size X Y) (h1 : Below wr.heap.size wr X) => (h1.trans (h2.mono h1.size) : Below wr.heap.size wr Y))
      have HHA1 := hid hA1
      have HHA2 := hid hA2
      have HHA3 := hid hA3
      have HHT1 := hid hT1
      clear hKX hWX hY hA1 hA2 hA3 hT1 hT2 hEE hAA hk f0 f1 f2 f3 g0 g1 g2 g3
      go_wp2_with fail
      refine wp_cut (round7_6 n0 q k ra rb rc rd re rf rg rh KX WX Y G1 CH A1 A2 A3 T1 wr _ _ _ _ _ _ _ _ _ _ _ _ _ _ _ _ _ _ _ _ _ _ _ _ _ _ _ _ _ _ _ _ _ _ _ _ _ _ _ _ _ _ _ _ _ _ _ _ _ _ _ _ _ _ _ _ _ _ _ _ _ _ _ _ _ _ _ _ _ _ _ _ _ _ _ _ _ _ _ _ _ _ _ _ _ _ _ _ _ _ _ _ _ _ _ _ _ _ _ _ _ _ _ _ c0 c11 c12 c13 cg cw be bf bg bh bK bW HY bY hkk hG1 hCH bG1 bCH HHA1 HHA2 HHA3 HHT1 ?_)
      intro y45 y46 y47 y48 y49 y50 y51 y52 y53 y54 y55 y56 y57 y58 y59 y60 y61 y62 y63 y64 y65 y66 y67 y68 wa hba
      have d0 := kept_cell c0 hba
      have d8 := kept_cell c8 hba
      have d9 := kept_cell c9 hba
      have d10 := kept_cell c10 hba
      clear c0 c8 c9 c10 c11 c12 c13 cg cw
      go_wp2_with (first | (go_at_call 100; refine (great64 _ _ _ _ _ (by assumption) (by decide) (by decide) (by decide)).mono ?_; rintro e wd ⟨rfl, hbd⟩) | (go_at_call 102; refine (majority64 _ _ _ _ (by assumption) (by assumption) (by assumption)).mono ?_; rintro e we ⟨rfl, rfl⟩))
      go_roundw
      case rel =>
        have hq := HKF.out _ _ hbd hba
        have e1 := HB.out.trans (hq.mono HB.out.size)
        first
          | exact ⟨k + 1, AA, ra, rb, rc, EE, re, rf, rg, by omega, by go_num, rfl, rfl, rfl, rfl, rfl, rfl, rfl, rfl, HBN.out, HNX.out, e1⟩
          | ((repeat apply Exists.intro); refine ⟨?_, rfl⟩; exact ⟨k + 1, AA, ra, rb, rc, EE, re, rf, rg, by omega, by go_num, rfl, rfl, rfl, rfl, rfl, rfl, rfl, rfl, HBN.out, HNX.out, e1⟩)
      case measure => simp [intOf]; omega
    · obtain rfl : k = 80 := by omega
      obtain rfl : F = ⟨ra, rb, rc, rd, re, rf, rg, rh⟩ := by
        rw [← HRD.out, List.drop_eq_nil_of_le (by simp [cbr])]; rfl
      clear HRD HBD hk hlt
      go_wp2_with fail
      exact HK.out _ _ _ _ _ _ _ _ _ _ _ _ _ _ _ _ _ _ _ _ _ _ _ _ _ _ _ _ _ _ _ _ _ _ _ _ _ _ _ _ _ _ _ _ _ _ _ _ _ _ _ _ _ _ _ HB.out

end Go.Proofs.YtbdlicomkpnalaaDoor
