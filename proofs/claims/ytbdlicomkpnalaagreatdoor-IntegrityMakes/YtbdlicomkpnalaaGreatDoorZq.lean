/-
  The rounds of ostiaryref8's block, at 64 bits.
  The walk of ostiaryref8's block, at 64 bits.
-/
import Derived.Test.YtbdlicomkpnalaaGreatDoorZIhr6
import Derived.Test.YtbdlicomkpnalaaGreatDoorZIhq6
import Derived.Test.YtbdlicomkpnalaaGreatDoorZa
import Derived.Test.YtbdlicomkpnalaaGreatDoorZm
import Derived.Test.YtbdlicomkpnalaaGreatDoorZIhs6
set_option linter.unusedSimpArgs false
set_option linter.unusedVariables false
namespace Go.Proofs.YtbdlicomkpnalaaGreatDoor
open Go.RowKit

noncomputable def bl4_6 : Code := ((Tryz.f49.body.map loopsOf).getD []).getD 3 .skip

theorem Blk6.putQ {w wr : World} {b0 b1 b2 b3 b4 q : Nat} {S X : List Nat} (h : Blk6 w wr b0 b1 b2 b3 b4 S X) (hq : b4 < q) (vs : List Value) : Blk6 w (wr.setCells q 0 vs) b0 b1 b2 b3 b4 S X := by
  obtain ⟨⟨h0, h1, h2, h3, h4⟩, hA, hS, hZ, hT, hX, hB⟩ := h
  refine ⟨⟨h0, h1, h2, h3, h4⟩, ?_, ?_, ?_, ?_, ?_, below_setCells (by omega) vs 0 wr hB⟩
  · rw [setCells_far (by omega)]; exact hA
  · unfold Rw; rw [setCells_far (by omega)]; exact hS
  · unfold Rw; rw [setCells_far (by omega)]; exact hZ
  · unfold Rw; rw [setCells_far (by omega)]; exact hT
  · unfold Rw; rw [setCells_far (by omega)]; exact hX

set_option maxHeartbeats 4000000 in
set_option maxRecDepth 100000 in
theorem rrounds6 (T b0 b1 b2 b3 b4 q a b c d e f g h : Nat) (S Ls : List Nat) (F : St) (w W : World) (K : Act → World → Prop) (t1 t2 t3 t4 t6 t7 t8 t13 t14 t15 t18 t19 t20 t21 t22 t23 t24 t25 t26 t27 t28 t29 t30 t31 t32 t33 t34 t35 t36 t37 t38 t39 t40 t41 t42 t43 t44 t45 t46 t47 t48 t49 t50 t51 t52 t53 t54 t55 t56 t57 t58 t59 t60 t61 t62 t63 t64 t65 t66 t67 t68 t69 t70 t71 t72 t73 t74 t75 t76 t77 t78 t79 t80 t81 t82 t83 t84 t85 t86 t87 t88 t89 t90 t91 t92 t93 t94 t95 t96 t97 t98 t99 t100 t101 t102 t103 t104 t105 t106 t107 t108 t109 t110 t111 t112 t113 t114 t115 t116 t117 t118 t119 t120 t121 t122 t123 t124 t125 t126 t127 t128 t129 t130 t131 t132 t133 t134 t135 t136 t137 t138 t139 t140 t141 t142 t143 t144 t145 t146 t147 t148 t149 t150 t151 t152 t153 t154 t155 t156 t157 t158 t159 t160 t161 t162 t163 t164 t165 t166 t167 t168 t169 t170 t171 t172 t173 t174 t175 t176 t177 t178 t179 t180 t181 t182 t183 t184 t185 t186 t187 t188 t189 t190 t191 t192 t193 t194 t195 t196 t197 t198 t199 t200 t201 t202 t203 t204 t205 t206 t207 t208 t209 t210 t211 t212 t213 t214 : Value)
    (HM0 : Hid (Blk6 w W b0 b1 b2 b3 b4 S Ls)) (HV0 : Hid (Rw W q .u64 98 [a, b, c, d, e, f, g, h])) (hq4 : b4 < q) (HTB : Hid (∀ k, k < 80 → w.cell? ⟨T, k, none⟩ = some (.int .u64 (cbr.getD k 0 : Nat)))) (HL80 : Hid (Ls.length = 80)) (HLB : Hid (∀ i, Ls.getD i 0 < 2 ^ 64))
    (HBD : Hid (BdS (2 ^ 64) ⟨a, b, c, d, e, f, g, h⟩)) (HF : Hid (F = rdsV wid (cbr.take 80) Ls ⟨a, b, c, d, e, f, g, h⟩))
    (HK : Hid (∀ (u17 u18 u19 u20 u100 u101 u102 u103 u104 u105 u106 u107 u108 u109 u110 u111 u112 u113 u114 u115 u116 u117 u118 u119 u120 u121 u122 u123 u124 u125 u126 u127 u128 u129 u130 u131 u132 u133 u134 u135 u136 u137 u138 u139 u140 u141 u142 u143 u144 u145 u146 u147 u148 u149 u150 u151 u152 u153 u154 u155 u156 u157 u158 u159 u160 u161 u162 u163 u164 u165 u166 u167 u168 u169 u170 u171 u172 u173 u174 u175 u176 u177 u178 u179 u180 u181 u182 u183 u184 u185 u186 u187 u188 u189 u190 u191 u192 u193 u194 u195 u196 u197 u198 : Value) (w2 : World), Blk6 w w2 b0 b1 b2 b3 b4 S Ls → Rw w2 q .u64 98 F.list → K ⟨#[.pointer (some ⟨T, 0, none⟩), t1, t2, t3, t4, .pointer (some ⟨b0, 0, none⟩), t6, t7, t8, .int .i64 8, .int .i64 80, .pointer (some ⟨b3, 0, none⟩), .pointer (some ⟨b4, 0, none⟩), t13, t14, t15, .pointer (some ⟨q, 0, none⟩), u17, u18, u19, u20, t21, t22, t23, t24, t25, t26, t27, t28, t29, t30, t31, t32, t33, t34, t35, t36, t37, t38, t39, t40, t41, t42, t43, t44, t45, t46, t47, t48, t49, t50, t51, t52, t53, t54, t55, t56, t57, t58, t59, t60, t61, t62, t63, t64, t65, t66, t67, t68, t69, t70, t71, t72, t73, t74, t75, t76, t77, t78, t79, t80, t81, t82, t83, t84, t85, t86, t87, t88, t89, t90, t91, t92, t93, t94, t95, t96, t97, t98, t99, u100, u101, u102, u103, u104, u105, u106, u107, u108, u109, u110, u111, u112, u113, u114, u115, u116, u117, u118, u119, u120, u121, u122, u123, u124, u125, u126, u127, u128, u129, u130, u131, u132, u133, u134, u135, u136, u137, u138, u139, u140, u141, u142, u143, u144, u145, u146, u147, u148, u149, u150, u151, u152, u153, u154, u155, u156, u157, u158, u159, u160, u161, u162, u163, u164, u165, u166, u167, u168, u169, u170, u171, u172, u173, u174, u175, u176, u177, u178, u179, u180, u181, u182, u183, u184, u185, u186, u187, u188, u189, u190, u191, u192, u193, u194, u195, u196, u197, u198, t199, t200, t201, t202, t203, t204, t205, t206, t207, t208, t209, t210, t211, t212, t213, t214], []⟩ w2)) :
    Code.wp Tryz.prog (.loop bl4_6) (exit6_6 K) ⟨#[.pointer (some ⟨T, 0, none⟩), t1, t2, t3, t4, .pointer (some ⟨b0, 0, none⟩), t6, t7, t8, .int .i64 8, .int .i64 80, .pointer (some ⟨b3, 0, none⟩), .pointer (some ⟨b4, 0, none⟩), t13, t14, t15, .pointer (some ⟨q, 0, none⟩), .int .i64 0, t18, t19, t20, t21, t22, t23, t24, t25, t26, t27, t28, t29, t30, t31, t32, t33, t34, t35, t36, t37, t38, t39, t40, t41, t42, t43, t44, t45, t46, t47, t48, t49, t50, t51, t52, t53, t54, t55, t56, t57, t58, t59, t60, t61, t62, t63, t64, t65, t66, t67, t68, t69, t70, t71, t72, t73, t74, t75, t76, t77, t78, t79, t80, t81, t82, t83, t84, t85, t86, t87, t88, t89, t90, t91, t92, t93, t94, t95, t96, t97, t98, t99, t100, t101, t102, t103, t104, t105, t106, t107, t108, t109, t110, t111, t112, t113, t114, t115, t116, t117, t118, t119, t120, t121, t122, t123, t124, t125, t126, t127, t128, t129, t130, t131, t132, t133, t134, t135, t136, t137, t138, t139, t140, t141, t142, t143, t144, t145, t146, t147, t148, t149, t150, t151, t152, t153, t154, t155, t156, t157, t158, t159, t160, t161, t162, t163, t164, t165, t166, t167, t168, t169, t170, t171, t172, t173, t174, t175, t176, t177, t178, t179, t180, t181, t182, t183, t184, t185, t186, t187, t188, t189, t190, t191, t192, t193, t194, t195, t196, t197, t198, t199, t200, t201, t202, t203, t204, t205, t206, t207, t208, t209, t210, t211, t212, t213, t214], []⟩ W := by
  conv => arg 2; whnf
  conv => arg 2; arg 1; whnf
  conv => arg 4; dsimp only
  go_loopw [17] (fun v17 wr => ∃ k ra rb rc rd re rf rg rh : Nat, k ≤ 80 ∧ v17 = .int .i64 k ∧ Hid (BdS (2 ^ 64) ⟨ra, rb, rc, rd, re, rf, rg, rh⟩) ∧ Hid (rdsV wid ((cbr.take 80).drop k) (Ls.drop k) ⟨ra, rb, rc, rd, re, rf, rg, rh⟩ = F) ∧ Hid (Blk6 w wr b0 b1 b2 b3 b4 S Ls) ∧ Hid (Rw wr q .u64 98 [ra, rb, rc, rd, re, rf, rg, rh])) (fun v17 _ => 80 - (intOf v17).toNat)
  case atStart => exact ⟨0, a, b, c, d, e, f, g, h, by omega, rfl, HBD.out, HF.out.symm, HM0.out, HV0.out⟩
  case round =>
    clear HF HBD HM0 HV0
    obtain ⟨k, ra, rb, rc, rd, re, rf, rg, rh, hk, rfl, HBD, HRD, HM, HV⟩ := hrel
    by_cases hlt : k < 80
    · obtain ⟨ba, bb, bc, bd, be, bf, bg, bh⟩ := HBD.out
      dsimp only at ba bb bc bd be bf bg bh
      obtain ⟨⟨h0, h1, h2, h3, h4⟩, hA, hS, hZ, hT, hX, hB⟩ := HM.out
      obtain ⟨KX, hKX⟩ : ∃ x, x = cbr.getD k 0 := ⟨_, rfl⟩
      obtain ⟨WX, hWX⟩ : ∃ x, x = Ls.getD k 0 := ⟨_, rfl⟩
      have cg : wr.cell? ⟨T, k, none⟩ = some (.int .u64 (KX : Int)) := by rw [hKX]; exact kept_cell (HTB.out k (by omega)) hB
      have cx : wr.cell? ⟨b4, k, none⟩ = some (.int .u64 (WX : Int)) := by rw [hWX]; exact hX.cell k (by rw [HL80.out]; omega)
      have bK : KX < 18446744073709551616 := by rw [hKX]; exact cbr_lt k
      have bW : WX < 18446744073709551616 := by rw [hWX]; exact HLB.out k
      have c0 : wr.cell? ⟨b0, 0, none⟩ = some (.int .u64 64) := Lib.cell_of_heap hA 0
      have s6 : wr.cell? ⟨b3, 6, none⟩ = some (.int .u64 28) := hT.cell 6 (by decide)
      have s7 : wr.cell? ⟨b3, 7, none⟩ = some (.int .u64 34) := hT.cell 7 (by decide)
      have s8 : wr.cell? ⟨b3, 8, none⟩ = some (.int .u64 39) := hT.cell 8 (by decide)
      have s9 : wr.cell? ⟨b3, 9, none⟩ = some (.int .u64 14) := hT.cell 9 (by decide)
      have s10 : wr.cell? ⟨b3, 10, none⟩ = some (.int .u64 18) := hT.cell 10 (by decide)
      have s11 : wr.cell? ⟨b3, 11, none⟩ = some (.int .u64 41) := hT.cell 11 (by decide)
      have v0 : wr.cell? ⟨q, 0, none⟩ = some (.int .u64 (ra : Int)) := HV.out.cell 0 (by simp)
      have v1 : wr.cell? ⟨q, 1, none⟩ = some (.int .u64 (rb : Int)) := HV.out.cell 1 (by simp)
      have v2 : wr.cell? ⟨q, 2, none⟩ = some (.int .u64 (rc : Int)) := HV.out.cell 2 (by simp)
      have v3 : wr.cell? ⟨q, 3, none⟩ = some (.int .u64 (rd : Int)) := HV.out.cell 3 (by simp)
      have v4 : wr.cell? ⟨q, 4, none⟩ = some (.int .u64 (re : Int)) := HV.out.cell 4 (by simp)
      have v5 : wr.cell? ⟨q, 5, none⟩ = some (.int .u64 (rf : Int)) := HV.out.cell 5 (by simp)
      have v6 : wr.cell? ⟨q, 6, none⟩ = some (.int .u64 (rg : Int)) := HV.out.cell 6 (by simp)
      have v7 : wr.cell? ⟨q, 7, none⟩ = some (.int .u64 (rh : Int)) := HV.out.cell 7 (by simp)
      obtain ⟨Y, hY⟩ : ∃ Y, Y = KX / 2 ^ (64 - 64) := ⟨_, rfl⟩
      have hYV : Y = KX := by first | rfl | (rw [hY]; simp)
      have bY : Y < 18446744073709551616 := by rw [hY]; omega
      have HYI : Hid (64 = 32 → (KX : Int) / 4294967296 = (Y : Int)) := hid (by intro h; first | (exfalso; revert h; decide) | (rw [hY]; omega))
      obtain ⟨G1, hG1⟩ : ∃ s, s = grV 64 14 18 41 re := ⟨_, rfl⟩
      obtain ⟨G0, hG0⟩ : ∃ s, s = grV 64 28 34 39 ra := ⟨_, rfl⟩
      obtain ⟨CH, hCH⟩ : ∃ s, s = chV 64 re rf rg := ⟨_, rfl⟩
      obtain ⟨MJ, hMJ⟩ : ∃ s, s = mjV ra rb rc := ⟨_, rfl⟩
      have HC1 := hid (fun X : World => (show Calls Tryz.prog 67 #[.agg #[.int .u64 64], .int .u64 (re : Int), .int .u64 14, .int .u64 18, .int .u64 41, .bool false] X fun e w' => e = .returned (.int .u64 (G1 : Int)) ∧ Below X.heap.size X w' by rw [hG1]; exact rmixg6 re 14 18 41 X be (by decide) (by decide) (by decide)))
      have HC2 := hid (fun X : World => (show Calls Tryz.prog 67 #[.agg #[.int .u64 64], .int .u64 (ra : Int), .int .u64 28, .int .u64 34, .int .u64 39, .bool false] X fun e w' => e = .returned (.int .u64 (G0 : Int)) ∧ Below X.heap.size X w' by rw [hG0]; exact rmixg6 ra 28 34 39 X ba (by decide) (by decide) (by decide)))
      have HCH := hid (show bits .xor .u64 (bits .and .u64 (re : Int) (rf : Int)) (bits .and .u64 (bits .xor .u64 (IntKind.max .u64) (re : Int)) (rg : Int)) = (CH : Int) by rw [hCH]; exact chw6 re rf rg be bf bg)
      have HMJ := hid (show bits .xor .u64 (bits .xor .u64 (bits .and .u64 (ra : Int) (rb : Int)) (bits .and .u64 (ra : Int) (rc : Int))) (bits .and .u64 (rb : Int) (rc : Int)) = (MJ : Int) by rw [hMJ]; exact mj6 ra rb rc (by omega) (by omega) (by omega))
      have bG1 : G1 < 18446744073709551616 := by rw [hG1]; exact gr_lt (W := 64) be
      have bG0 : G0 < 18446744073709551616 := by rw [hG0]; exact gr_lt (W := 64) ba
      have bCH : CH < 18446744073709551616 := by rw [hCH]; exact ch_lt (W := 64) be
      have bMJ : MJ < 18446744073709551616 := by rw [hMJ]; exact mj_lt (W := 64) ba bb
      obtain ⟨A1, hA1⟩ : ∃ a, a = (rh + G1) % 18446744073709551616 := ⟨_, rfl⟩
      obtain ⟨A2, hA2⟩ : ∃ a, a = (A1 + CH) % 18446744073709551616 := ⟨_, rfl⟩
      obtain ⟨A3, hA3⟩ : ∃ a, a = (A2 + KX) % 18446744073709551616 := ⟨_, rfl⟩
      obtain ⟨T1, hT1⟩ : ∃ a, a = (A3 + WX) % 18446744073709551616 := ⟨_, rfl⟩
      obtain ⟨T2, hT2⟩ : ∃ a, a = (G0 + MJ) % 18446744073709551616 := ⟨_, rfl⟩
      obtain ⟨A4, hA4⟩ : ∃ a, a = (T1 + T2) % 18446744073709551616 := ⟨_, rfl⟩
      obtain ⟨A5, hA5⟩ : ∃ a, a = (rd + T1) % 18446744073709551616 := ⟨_, rfl⟩
      obtain ⟨AA, hAA⟩ : ∃ a, a = A4 % 18446744073709551616 := ⟨_, rfl⟩
      obtain ⟨EE, hEE⟩ : ∃ a, a = A5 % 18446744073709551616 := ⟨_, rfl⟩
      have HNX := hid (show rdsV wid ((cbr.take 80).drop (k + 1)) (Ls.drop (k + 1)) ⟨AA, ra, rb, rc, EE, re, rf, rg⟩ = F by
        rw [← HRD.out, rds_step wid (cbr.take 80) Ls k _ (by simp [cbr]; omega) (by rw [HL80.out]; omega), rnd_eq]
        have e0 : (cbr.take 80).getD k 0 = KX := by rw [hKX]; simp [List.getD, hlt]
        rw [e0, ← hWX]
        have e1 : t1V wid ⟨ra, rb, rc, rd, re, rf, rg, rh⟩ (KX / 2 ^ (64 - (wid).W)) WX = T1 % 18446744073709551616 := by
          show (rh + grV 64 14 18 41 re + chV 64 re rf rg + KX / 2 ^ (64 - 64) + WX) % 18446744073709551616 = T1 % 18446744073709551616
          rw [← hG1, ← hCH, ← hY, hYV, hT1, hA3, hA2, hA1]
          omega
        have e2 : t2V wid ⟨ra, rb, rc, rd, re, rf, rg, rh⟩ = T2 % 18446744073709551616 := by
          show (grV 64 28 34 39 ra + mjV ra rb rc) % 18446744073709551616 = T2 % 18446744073709551616
          rw [← hG0, ← hMJ, hT2]
          omega
        rw [e1, e2]
        have e3 : AA = (T1 % 18446744073709551616 + T2 % 18446744073709551616) % 18446744073709551616 := by rw [hAA, hA4]; omega
        have e4 : EE = (rd + T1 % 18446744073709551616) % 18446744073709551616 := by rw [hEE, hA5]; omega
        rw [e3, e4]
        rfl)
      have HBN := hid (show BdS (2 ^ 64) ⟨AA, ra, rb, rc, EE, re, rf, rg⟩ from ⟨by rw [hAA]; exact Nat.mod_lt _ (by decide), ba, bb, bc, by rw [hEE]; exact Nat.mod_lt _ (by decide), be, bf, bg⟩)
      have hkk : (k : Int) < 80 := by omega
      have hkr : (k : Int) < 80 := by omega
      have HHA1 := hid hA1
      have HHA2 := hid hA2
      have HHA3 := hid hA3
      have HHT1 := hid hT1
      have HHT2 := hid hT2
      have HHA4 := hid hA4
      have HHA5 := hid hA5
      have HHAA := hid hAA
      have HHEE := hid hEE
      have HWD := hid hA
      clear hKX hWX hA1 hA2 hA3 hT1 hT2 hEE hAA hA4 hA5 hk hY hG1 hG0 hCH hMJ hA hS hZ hT hX hB h0 h1 h2 h3 h4 ba bb bc bd be bf bg bh bG1 bG0 bCH bMJ bW bY hYV
      try (have hy1 := HYI.out rfl)
      try (have hy2 : (KX : Int) / 2 ^ 32 = (Y : Int) := HYI.out rfl)
      go_wp2_with fail
      refine wp_cut (rr26_6 b0 b3 b4 q k re rf rg rh WX KX G1 CH A1 A2 A3 T1 wr _ _ _ _ _ _ _ _ _ _ _ _ _ _ _ _ _ _ _ _ _ _ _ _ _ _ _ _ _ _ _ _ _ _ _ _ _ _ _ _ _ _ _ _ _ _ _ _ _ _ _ _ _ _ _ _ _ _ _ _ _ _ _ _ _ _ _ _ _ _ _ _ _ _ _ _ _ _ _ _ _ _ _ _ _ _ _ _ _ _ _ _ _ _ _ _ _ _ _ _ _ _ _ _ _ _ _ _ _ _ _ _ _ _ _ _ _ _ _ _ _ _ _ _ _ _ _ _ _ _ _ _ _ _ _ _ _ _ _ _ _ _ _ _ _ _ _ _ _ _ _ _ _ _ _ _ _ _ _ _ _ _ _ _ _ _ _ _ _ _ _ _ _ _ _ _ _ _ _ _ _ _ _ _ _ _ _ _ _ _ _ _ _ _ _ _ _ _ _ _ _ _ _ _ _ _ _ _ _ _ c0 s9 s10 s11 v4 v5 v6 v7 cx HC1 HCH.out hkk HHA1 HHA2 HHA3 HHT1 ?_)
      intro y115 y116 y117 y118 y119 y120 y121 y122 y123 y124 y125 y126 y127 y128 y129 y130 y131 y132 y133 y134 y135 y136 y137 y138 y139 y140 y141 y142 y143 y144 y145 y146 wa hba
      have c0' := kept_cell c0 hba
      have s6' := kept_cell s6 hba
      have s7' := kept_cell s7 hba
      have s8' := kept_cell s8 hba
      have v0' := kept_cell v0 hba
      have v1' := kept_cell v1 hba
      have v2' := kept_cell v2 hba
      clear c0 s6 s7 s8 s9 s10 s11 v0 v1 v2 v3 v4 v5 v6 v7 cx cg
      have HBA := hid hba
      clear hba
      go_wp2_with fail
      refine wp_cut (rr27_6 b0 b3 q ra rb rc G0 MJ T2 wa _ _ _ _ _ _ _ _ _ _ _ _ _ _ _ _ _ _ _ _ _ _ _ _ _ _ _ _ _ _ _ _ _ _ _ _ _ _ _ _ _ _ _ _ _ _ _ _ _ _ _ _ _ _ _ _ _ _ _ _ _ _ _ _ _ _ _ _ _ _ _ _ _ _ _ _ _ _ _ _ _ _ _ _ _ _ _ _ _ _ _ _ _ _ _ _ _ _ _ _ _ _ _ _ _ _ _ _ _ _ _ _ _ _ _ _ _ _ _ _ _ _ _ _ _ _ _ _ _ _ _ _ _ _ _ _ _ _ _ _ _ _ _ _ _ _ _ _ _ _ _ _ _ _ _ _ _ _ _ _ _ _ _ _ _ _ _ _ _ _ _ _ _ _ _ _ _ _ _ _ _ _ _ _ _ _ _ _ _ _ _ _ _ _ _ _ _ _ _ _ _ _ _ _ _ _ _ _ _ _ _ _ _ c0' s6' s7' s8' v0' v1' v2' HC2 HMJ.out HHT2 ?_)
      intro z147 z148 z149 z150 z151 z152 z153 z154 z155 z156 z157 z158 z159 z160 z161 z162 z163 z164 z165 z166 z167 z168 z169 z170 z171 z172 z173 z174 wb hbb
      have HBB := hid (HBA.out.trans (hbb.mono HBA.out.size))
      clear c0' s6' s7' s8' v0' v1' v2' hbb HBA
      go_wp2_with fail
      refine wp_cut (rr28_6 b0 q ra rb rc rd re rf rg rh T1 T2 A4 A5 AA EE wb _ _ _ _ _ _ _ _ _ _ _ _ _ _ _ _ _ _ _ _ _ _ _ _ _ _ _ _ _ _ _ _ _ _ _ _ _ _ _ _ _ _ _ _ _ _ _ _ _ _ _ _ _ _ _ _ _ _ _ _ _ _ _ _ _ _ _ _ _ _ _ _ _ _ _ _ _ _ _ _ _ _ _ _ _ _ _ _ _ _ _ _ _ _ _ _ _ _ _ _ _ _ _ _ _ _ _ _ _ _ _ _ _ _ _ _ _ _ _ _ _ _ _ _ _ _ _ _ _ _ _ _ _ _ _ _ _ _ _ _ _ _ _ _ _ _ _ _ _ _ _ _ _ _ _ _ _ _ _ _ _ _ _ _ _ _ _ _ _ _ _ _ _ _ _ _ _ _ _ _ _ _ _ _ _ _ _ _ _ _ _ _ _ _ _ _ _ _ _ _ _ _ _ _ _ _ _ _ _ _ _ _ (row_kept HWD.out HBB.out) (HV.out.kept HBB.out) HHA4 HHA5 HHAA HHEE ?_)
      intro x175 x176 x177 x178 x179 x180 x181 x182 x183 x184 x185 x186 x187 x188 x189 x190 x191 x192 x193 x194 x195 x196 x197 x198 wc wd hbc hwd
      have HMN := hid (show Blk6 w wd b0 b1 b2 b3 b4 S Ls by rw [hwd]; exact ((HM.out.kept HBB.out).kept hbc).putQ hq4 _)
      have HVN := hid (show Rw wd q .u64 98 [AA, ra, rb, rc, EE, re, rf, rg] by rw [hwd]; exact ((HV.out.kept HBB.out).kept hbc).put _ rfl)
      clear hbc hwd HBB
      go_wp2_with fail
      go_roundw
      case rel =>
        first
          | exact ⟨k + 1, AA, ra, rb, rc, EE, re, rf, rg, by omega, by go_num, HBN.out, HNX.out, HMN.out, HVN.out⟩
          | ((repeat apply Exists.intro); refine ⟨?_, rfl⟩; exact ⟨k + 1, AA, ra, rb, rc, EE, re, rf, rg, by omega, by go_num, HBN.out, HNX.out, HMN.out, HVN.out⟩)
      case measure => simp [intOf]; omega
    · obtain rfl : k = 80 := by omega
      have HFE := hid (show F = ⟨ra, rb, rc, rd, re, rf, rg, rh⟩ by rw [← HRD.out, List.drop_eq_nil_of_le (by simp [cbr])]; rfl)
      have HVF := hid (show Rw wr q .u64 98 F.list by rw [HFE.out]; exact HV.out)
      clear HRD HBD hk hlt HV HFE
      go_wp2_with fail
      exact HK.out _ _ _ _ _ _ _ _ _ _ _ _ _ _ _ _ _ _ _ _ _ _ _ _ _ _ _ _ _ _ _ _ _ _ _ _ _ _ _ _ _ _ _ _ _ _ _ _ _ _ _ _ _ _ _ _ _ _ _ _ _ _ _ _ _ _ _ _ _ _ _ _ _ _ _ _ _ _ _ _ _ _ _ _ _ _ _ _ _ _ _ _ _ _ _ _ _ _ _ _ _ _ _ _ HM.out HVF.out

end Go.Proofs.YtbdlicomkpnalaaGreatDoor

namespace Go.Proofs.YtbdlicomkpnalaaGreatDoor
open Go.RowKit

theorem rds_bd6 : ∀ (Ks ws : List Nat) (s : St), BdS (2 ^ 64) s → BdS (2 ^ 64) (rdsV wid Ks ws s)
  | [], _, s, h => by unfold rdsV; exact h
  | _ :: _, [], s, h => by unfold rdsV; exact h
  | K :: Ks, w :: ws, s, h => by rw [rdsV]; exact rds_bd6 Ks ws _ (rnd_bd (k := wid) h)

theorem size8w6 (l : List Nat) (hl : l.length = 8) : (Tryz.prog.info? 98).map (·.size) = some (cW .u64 l).length := by rw [cW_len, hl]; kernel_rfl
theorem size8v6 (l : List Nat) (hl : l.length = 8) : (Tryz.prog.info? 98).map (·.size) = some (cW .u64 l).toArray.size := by rw [List.size_toArray]; exact size8w6 l hl

theorem bd_all6 {a b c d e f g h : Nat} (hb : BdS (2 ^ 64) ⟨a, b, c, d, e, f, g, h⟩) (j : Nat) : [a, b, c, d, e, f, g, h].getD j 0 < 18446744073709551616 := bd_get (n := 2 ^ 64) hb j

set_option maxHeartbeats 4000000 in
set_option maxRecDepth 100000 in
theorem rblock6 (T a b c d e f g h : Nat) (x : Addr) (cap : Nat) (l : List UInt8) (w : World) (hTB : ∀ k, k < 80 → w.cell? ⟨T, k, none⟩ = some (.int .u64 (cbr.getD k 0 : Nat))) (hc : ∀ j (h : j < l.length), w.cell? (x.add j) = some (.int .u8 (l[j].toNat : Int))) (hl : l.length = 128) (hcap : 128 ≤ cap)
    (hbd : BdS (2 ^ 64) ⟨a, b, c, d, e, f, g, h⟩) :
    Calls Tryz.prog 49 #[.pointer (some ⟨T, 0, none⟩), .agg #[.int .u64 64], .agg #[.int .u64 (a : Int), .int .u64 (b : Int), .int .u64 (c : Int), .int .u64 (d : Int), .int .u64 (e : Int), .int .u64 (f : Int), .int .u64 (g : Int), .int .u64 (h : Int)], .slice (some x) 128 cap] w fun e' w' => e' = .returned (.agg (cW .u64 (foldV wid cbr ⟨a, b, c, d, e, f, g, h⟩ l).list).toArray) ∧ Below w.heap.size w w' := by
  obtain ⟨L, hL⟩ : ∃ L, L = w80V wid l := ⟨_, rfl⟩
  have HL80 := hid (show L.length = 80 by rw [hL]; exact w80_len _ _ (by decide) (by decide))
  have HLB := hid (show ∀ i, L.getD i 0 < 2 ^ 64 by intro i; rw [hL]; exact w80_lt wid l i (by decide) (by decide) (by decide))
  have HLW := hid (show ∀ i, i < 16 → L.getD i 0 = wordV 8 l i by intro i hi; rw [hL]; exact w80_low wid l i (by decide) hi)
  have HLN := hid (show ∀ k, 16 ≤ k → k < 80 → L.getD k 0 = nxtV wid L k by intro k h1 h2; rw [hL]; exact w80_nxt wid l k (by decide) h1 h2)
  have HLF := hid (show fillV L 80 80 = L by rw [hL]; exact w80_fill wid l (by decide))
  obtain ⟨F, hF⟩ : ∃ F, F = rdsV wid (cbr.take 80) L ⟨a, b, c, d, e, f, g, h⟩ := ⟨_, rfl⟩
  have HF := hid hF
  have HFO := hid (show foldV wid cbr ⟨a, b, c, d, e, f, g, h⟩ l = addV wid ⟨a, b, c, d, e, f, g, h⟩ F by
    rw [hF, hL]
    exact (congrArg (addV wid _) (rds_w80 wid cbr l _ (by decide))).symm)
  have HFB := hid (show ∀ j, F.list.getD j 0 < 18446744073709551616 by
    have h := rds_bd6 (cbr.take 80) L _ hbd
    rw [← hF] at h
    intro j
    exact bd_all6 (a := F.a) (b := F.b) (c := F.c) (d := F.d) (e := F.e) (f := F.f) (g := F.g) (h := F.h) h j)
  obtain ⟨Z, hZ⟩ : ∃ Z, Z = (addV wid ⟨a, b, c, d, e, f, g, h⟩ F).list := ⟨_, rfl⟩
  have HZE := hid hZ
  rw [HFO.out, ← hZ]
  clear hZ
  have HBD := hid hbd
  have HTB := hid hTB
  have HC := hid hc
  have HLL := hid hl
  clear hL hF hc hl hbd hTB
  go_enter Tryz.func49, Tryz.ntmps49
  go_wp2_with fail
  refine wp_cut0 (rwords6 x cap l w.heap.size (w.heap.size + 1) (w.heap.size + 1 + 1) (w.heap.size + 1 + 1 + 1) (w.heap.size + 1 + 1 + 1 + 1) [a, b, c, d, e, f, g, h] L w _ _ _ _ _ _ _ _ _ _ _ _ _ _ _ _ _ _ _ _ _ _ _ _ _ _ _ _ _ _ _ _ _ _ _ _ _ _ _ _ _ _ _ _ _ _ _ _ _ _ _ _ _ _ _ _ _ _ _ _ _ _ _ _ _ _ _ _ _ _ _ _ _ _ _ _ _ _ _ _ _ _ _ _ _ _ _ _ _ _ _ _ _ _ _ _ _ _ _ _ _ _ _ _ _ _ _ _ _ _ _ _ _ _ _ _ _ _ _ _ _ _ _ _ _ _ _ _ _ _ _ _ _ _ _ _ _ _ _ _ _ _ _ _ _ _ _ _ _ _ _ _ _ _ _ _ _ _ _ _ _ _ _ _ _ _ _ _ _ _ _ _ _ _ _ _ _ _ _ _ _ _ _ _ _ _ _ _ _ _ _ _ _ _ _ _ _ _ _ _ _ _ _ _ _ _ _ _ _ _ _ _ _ ?hm HL80 HLW HC HLL hcap ?_)
  case hm =>
    rw [fill_zero]
    have hal : ∀ (X : World) (o : Obj), Below X.heap.size X (X.alloc o) := fun X o => (Below.refl _ X).alloc (Nat.le_refl _) o
    refine ⟨⟨by omega, by omega, by omega, by omega, by omega⟩, ?_, ?_, ?_, ?_, ?_, ?_⟩
    · exact row_kept (row_kept (row_kept (row_kept (heap_alloc_new w _) (hal _ _)) (hal _ _)) (hal _ _)) (hal _ _)
    · exact (((Rw.laid (l := [a, b, c, d, e, f, g, h]) (K := .u64) (World.size_alloc _ _).symm (by rfl)).more _).more _).more _
    · exact ((Rw.laid (g := w.heap.size + 1 + 1) (l := zrs 8) (K := .u64) (by simp) (by rfl)).more _).more _
    · exact (Rw.laid (g := w.heap.size + 1 + 1 + 1) (l := SL6) (K := .u64) (by simp) (by rfl)).more _
    · exact Rw.laid (g := w.heap.size + 1 + 1 + 1 + 1) (l := List.replicate 80 0) (K := .u64) (by simp) (by rfl)
    · exact below2 (below2 (below2 (below2 (hal _ _) (hal _ _)) (hal _ _)) (hal _ _)) (hal _ _)
  intro u13 u14 u30 u31 u32 u33 u34 u35 u36 u37 u38 u39 u40 u41 u42 u43 u44 u45 u46 u47 u48 u49 u50 u51 u52 u53 u54 w2 hM2
  have HM2 := hid hM2
  clear hM2
  go_wp2_with fail
  refine wp_cut4_6 (rsch6 w.heap.size (w.heap.size + 1) (w.heap.size + 1 + 1) (w.heap.size + 1 + 1 + 1) (w.heap.size + 1 + 1 + 1 + 1) [a, b, c, d, e, f, g, h] L w w2 _ _ _ _ _ _ _ _ _ _ _ _ _ _ _ _ _ _ _ _ _ _ _ _ _ _ _ _ _ _ _ _ _ _ _ _ _ _ _ _ _ _ _ _ _ _ _ _ _ _ _ _ _ _ _ _ _ _ _ _ _ _ _ _ _ _ _ _ _ _ _ _ _ _ _ _ _ _ _ _ _ _ _ _ _ _ _ _ _ _ _ _ _ _ _ _ _ _ _ _ _ _ _ _ _ _ _ _ _ _ _ _ _ _ _ _ _ _ _ _ _ _ _ _ _ _ _ _ _ _ _ _ _ _ _ _ _ _ _ _ _ _ _ _ _ _ _ _ _ _ _ _ _ _ _ _ _ _ _ _ _ _ _ _ _ _ _ _ _ _ _ _ _ _ _ _ _ _ _ _ _ _ _ _ _ _ _ _ _ _ _ _ _ _ _ _ _ _ _ _ _ _ _ _ _ _ _ _ _ _ _ HM2 HL80 HLB HLN ?_)
  intro x15 x55 x56 x57 x58 x59 x60 x61 x62 x63 x64 x65 x66 x67 x68 x69 x70 x71 x72 x73 x74 x75 x76 x77 x78 x79 x80 x81 x82 x83 x84 x85 x86 x87 x88 x89 x90 x91 x92 x93 x94 x95 x96 x97 x98 w3 hM3
  rw [HLF.out] at hM3
  have HM3 := hid hM3
  have hR3 := hM3.2.2.1
  have s0 : w3.cell? ⟨w.heap.size + 1, 0, none⟩ = some (.int .u64 (a : Int)) := hR3.cell 0 (by simp)
  have s1 : w3.cell? ⟨w.heap.size + 1, 1, none⟩ = some (.int .u64 (b : Int)) := hR3.cell 1 (by simp)
  have s2 : w3.cell? ⟨w.heap.size + 1, 2, none⟩ = some (.int .u64 (c : Int)) := hR3.cell 2 (by simp)
  have s3 : w3.cell? ⟨w.heap.size + 1, 3, none⟩ = some (.int .u64 (d : Int)) := hR3.cell 3 (by simp)
  have s4 : w3.cell? ⟨w.heap.size + 1, 4, none⟩ = some (.int .u64 (e : Int)) := hR3.cell 4 (by simp)
  have s5 : w3.cell? ⟨w.heap.size + 1, 5, none⟩ = some (.int .u64 (f : Int)) := hR3.cell 5 (by simp)
  have s6 : w3.cell? ⟨w.heap.size + 1, 6, none⟩ = some (.int .u64 (g : Int)) := hR3.cell 6 (by simp)
  have s7 : w3.cell? ⟨w.heap.size + 1, 7, none⟩ = some (.int .u64 (h : Int)) := hR3.cell 7 (by simp)
  obtain ⟨q, hq⟩ : ∃ q, q = w3.heap.size := ⟨_, rfl⟩
  have hq4 : w.heap.size + 1 + 1 + 1 + 1 < q := by rw [hq]; exact hM3.2.2.2.2.2.1.lt
  have HQ := hid hq
  have HQ4 := hid hq4
  clear hM3 hR3 HM2 hq hq4
  go_wp2_with fail
  clear s0 s1 s2 s3 s4 s5 s6 s7
  refine wp_cut6_6 (rrounds6 T w.heap.size (w.heap.size + 1) (w.heap.size + 1 + 1) (w.heap.size + 1 + 1 + 1) (w.heap.size + 1 + 1 + 1 + 1) w3.heap.size a b c d e f g h [a, b, c, d, e, f, g, h] L F w _ _ _ _ _ _ _ _ _ _ _ _ _ _ _ _ _ _ _ _ _ _ _ _ _ _ _ _ _ _ _ _ _ _ _ _ _ _ _ _ _ _ _ _ _ _ _ _ _ _ _ _ _ _ _ _ _ _ _ _ _ _ _ _ _ _ _ _ _ _ _ _ _ _ _ _ _ _ _ _ _ _ _ _ _ _ _ _ _ _ _ _ _ _ _ _ _ _ _ _ _ _ _ _ _ _ _ _ _ _ _ _ _ _ _ _ _ _ _ _ _ _ _ _ _ _ _ _ _ _ _ _ _ _ _ _ _ _ _ _ _ _ _ _ _ _ _ _ _ _ _ _ _ _ _ _ _ _ _ _ _ _ _ _ _ _ _ _ _ _ _ _ _ _ _ _ _ _ _ _ _ _ _ _ _ _ _ _ _ _ _ _ _ _ _ _ _ _ _ _ _ _ _ _ _ _ _ _ _ ?hm (Rw.laid rfl (by rfl)) (HQ.out ▸ HQ4.out) HTB HL80 HLB HBD HF ?_)
  case hm => exact HM3.out.kept ((Below.refl _ w3).alloc (Nat.le_refl _) _)
  rw [← HQ.out]
  intro y17 y18 y19 y20 y100 y101 y102 y103 y104 y105 y106 y107 y108 y109 y110 y111 y112 y113 y114 y115 y116 y117 y118 y119 y120 y121 y122 y123 y124 y125 y126 y127 y128 y129 y130 y131 y132 y133 y134 y135 y136 y137 y138 y139 y140 y141 y142 y143 y144 y145 y146 y147 y148 y149 y150 y151 y152 y153 y154 y155 y156 y157 y158 y159 y160 y161 y162 y163 y164 y165 y166 y167 y168 y169 y170 y171 y172 y173 y174 y175 y176 y177 y178 y179 y180 y181 y182 y183 y184 y185 y186 y187 y188 y189 y190 y191 y192 y193 y194 y195 y196 y197 y198 w4 hM4 hV4
  have HM4 := hid hM4
  have HV4 := hid hV4
  have hq4 := HQ4.out
  clear hM4 hV4 HM3
  have HZ8 := hid (show Z.length = 8 by rw [HZE.out]; rfl)
  have HZJ := hid (show ∀ j, j < 8 → Z.getD j 0 = ([a, b, c, d, e, f, g, h].getD j 0 + F.list.getD j 0) % 18446744073709551616 by
    intro j hj
    rw [HZE.out, add_eq]
    rcases (show j = 0 ∨ j = 1 ∨ j = 2 ∨ j = 3 ∨ j = 4 ∨ j = 5 ∨ j = 6 ∨ j = 7 by omega) with rfl | rfl | rfl | rfl | rfl | rfl | rfl | rfl <;> rfl)
  go_wp2_with fail
  refine wp_cut8_6 (radds6 w.heap.size (w.heap.size + 1) (w.heap.size + 1 + 1) (w.heap.size + 1 + 1 + 1) (w.heap.size + 1 + 1 + 1 + 1) q [a, b, c, d, e, f, g, h] F.list Z L w w4 _ _ _ _ _ _ _ _ _ _ _ _ _ _ _ _ _ _ _ _ _ _ _ _ _ _ _ _ _ _ _ _ _ _ _ _ _ _ _ _ _ _ _ _ _ _ _ _ _ _ _ _ _ _ _ _ _ _ _ _ _ _ _ _ _ _ _ _ _ _ _ _ _ _ _ _ _ _ _ _ _ _ _ _ _ _ _ _ _ _ _ _ _ _ _ _ _ _ _ _ _ _ _ _ _ _ _ _ _ _ _ _ _ _ _ _ _ _ _ _ _ _ _ _ _ _ _ _ _ _ _ _ _ _ _ _ _ _ _ _ _ _ _ _ _ _ _ _ _ _ _ _ _ _ _ _ _ _ _ _ _ _ _ _ _ _ _ _ _ _ _ _ _ _ _ _ _ _ _ _ _ _ _ _ _ _ _ _ _ _ _ _ _ _ _ _ _ _ _ _ _ _ _ _ _ _ _ _ _ _ _ _ HM4 HV4 hq4 rfl rfl HZ8 (bd_all6 HBD.out) HFB HZJ ?_)
  intro z21 z199 z200 z201 z202 z203 z204 z205 z206 z207 z208 z209 z210 z211 z212 z213 w5 hM
  have hR := hM.2.2.2.1
  have HT := hid (hR.put Z (by rw [HZ8.out]; rfl))
  have HBT := hid (below_setCells (b := w.heap.size + 1 + 1) (by omega) (cW .u64 Z) 0 w5 hM.2.2.2.2.2.2)
  have HH := hid (hR.there (cW .u64 Z).toArray.size (by rw [List.size_toArray, cW_len, HZ8.out]; rfl))
  have HRG := hid hM.2.2.1.range
  have hone := all_oneCell_toArray (cW_one .u64 Z)
  have hi8 := size8w6 Z HZ8.out
  have hi8' := size8v6 Z HZ8.out
  clear hR hM HM4 HV4
  go_wp2_with (first | refine wpList_load_mid rfl 98 (.tmp 6) rfl (w.heap.size + 1) 0 rfl (cW .u64 Z) _ HRG.out Tryz.underlying98 rfl hi8 ?_ | refine wpList_store_mid rfl 98 (.tmp 8) (.tmp 214) rfl (w.heap.size + 1 + 1) 0 (cW .u64 Z).toArray rfl rfl HH.out hi8' hone ?_)
  exact bodyPost_ret (Rw.result rfl _ _ (w.heap.size + 1 + 1) .u64 98 Z rfl HT.out Tryz.underlying98 rfl hi8) rfl ⟨rfl, HBT.out⟩

end Go.Proofs.YtbdlicomkpnalaaGreatDoor
