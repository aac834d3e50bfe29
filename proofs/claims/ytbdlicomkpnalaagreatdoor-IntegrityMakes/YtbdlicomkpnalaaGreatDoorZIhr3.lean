/-
  The statements of a round of ostiaryref8's block, at 32 bits.
-/
import Derived.Test.YtbdlicomkpnalaaGreatDoorZl
import Derived.Test.YtbdlicomkpnalaaGreatDoorZa
set_option linter.unusedSimpArgs false
set_option linter.unusedVariables false
namespace Go.Proofs.YtbdlicomkpnalaaGreatDoor
open Go.RowKit

theorem ch_w3 (a b c : Nat) (ha : a < 4294967296) (hc : c < 4294967296) : chV 64 a b c = chV 32 a b c := by
  have e : (2 ^ 64 - 1 - a) &&& c = (2 ^ 32 - 1 - a) &&& c := by
    have h1 : ((2 ^ 64 - 1 - a) &&& c) % 2 ^ 32 = (2 ^ 64 - 1 - a) &&& c := Nat.mod_eq_of_lt (Nat.lt_of_le_of_lt Nat.and_le_right hc)
    rw [← h1, Nat.and_mod_two_pow, Nat.mod_eq_of_lt (a := c) hc, show (2 ^ 64 - 1 - a) % 2 ^ 32 = 2 ^ 32 - 1 - a by omega]
  unfold chV
  rw [e]

theorem chw3 (a b c : Nat) (ha : a < 4294967296) (hb : b < 4294967296) (hc : c < 4294967296) : bits .xor .u64 (bits .and .u64 (a : Int) (b : Int)) (bits .and .u64 (bits .xor .u64 (IntKind.max .u64) (a : Int)) (c : Int)) = ((chV 32 a b c : Nat) : Int) := by
  rw [← ch_w3 a b c ha hc]
  exact ch6 a b c (by omega) (by omega) (by omega)

noncomputable def brg26_3 : Code := (Tryz.f49.body.bind (regionOf 26)).getD .skip

set_option maxHeartbeats 4000000 in
set_option maxRecDepth 100000 in
theorem rr26_3 (b0 b3 b4 q k re rf rg rh WX Y G1 CH A1 A2 A3 T1 : Nat) (wr : World) (K : Act → World → Prop) (t0 t1 t2 t3 t4 t6 t7 t8 t9 t10 t13 t14 t15 t19 t20 t21 t22 t23 t24 t25 t26 t27 t28 t29 t30 t31 t32 t33 t34 t35 t36 t37 t38 t39 t40 t41 t42 t43 t44 t45 t46 t47 t48 t49 t50 t51 t52 t53 t54 t55 t56 t57 t58 t59 t60 t61 t62 t63 t64 t65 t66 t67 t68 t69 t70 t71 t72 t73 t74 t75 t76 t77 t78 t79 t80 t81 t82 t83 t84 t85 t86 t87 t88 t89 t90 t91 t92 t93 t94 t95 t96 t97 t98 t99 t100 t101 t102 t103 t104 t105 t106 t107 t108 t109 t110 t111 t112 t113 t114 t115 t116 t117 t118 t119 t120 t121 t122 t123 t124 t125 t126 t127 t128 t129 t130 t131 t132 t133 t134 t135 t136 t137 t138 t139 t140 t141 t142 t143 t144 t145 t146 t147 t148 t149 t150 t151 t152 t153 t154 t155 t156 t157 t158 t159 t160 t161 t162 t163 t164 t165 t166 t167 t168 t169 t170 t171 t172 t173 t174 t175 t176 t177 t178 t179 t180 t181 t182 t183 t184 t185 t186 t187 t188 t189 t190 t191 t192 t193 t194 t195 t196 t197 t198 t199 t200 t201 t202 t203 t204 t205 t206 t207 t208 t209 t210 t211 t212 t213 t214 : Value)
    (c0 : wr.cell? ⟨b0, 0, none⟩ = some (.int .u64 32))
    (s9 : wr.cell? ⟨b3, 9, none⟩ = some (.int .u64 6))
    (s10 : wr.cell? ⟨b3, 10, none⟩ = some (.int .u64 11))
    (s11 : wr.cell? ⟨b3, 11, none⟩ = some (.int .u64 25))
    (v4 : wr.cell? ⟨q, 4, none⟩ = some (.int .u64 (re : Int)))
    (v5 : wr.cell? ⟨q, 5, none⟩ = some (.int .u64 (rf : Int)))
    (v6 : wr.cell? ⟨q, 6, none⟩ = some (.int .u64 (rg : Int)))
    (v7 : wr.cell? ⟨q, 7, none⟩ = some (.int .u64 (rh : Int)))
    (cx : wr.cell? ⟨b4, k, none⟩ = some (.int .u64 (WX : Int)))
    (HC1 : Hid (∀ X : World, Calls Tryz.prog 67 #[.agg #[.int .u64 32], .int .u64 (re : Int), .int .u64 6, .int .u64 11, .int .u64 25, .bool false] X fun e w' => e = .returned (.int .u64 (G1 : Int)) ∧ Below X.heap.size X w'))
    (hch : bits .xor .u64 (bits .and .u64 (re : Int) (rf : Int)) (bits .and .u64 (bits .xor .u64 (IntKind.max .u64) (re : Int)) (rg : Int)) = (CH : Int)) (hkk : (k : Int) < 80)
    (HA1 : Hid (A1 = (rh + G1) % 18446744073709551616))
    (HA2 : Hid (A2 = (A1 + CH) % 18446744073709551616))
    (HA3 : Hid (A3 = (A2 + Y) % 18446744073709551616))
    (HT1 : Hid (T1 = (A3 + WX) % 18446744073709551616))
    (HK : Hid (∀ (u115 u116 u117 u118 u119 u120 u121 u122 u123 u124 u125 u126 u127 u128 u129 u130 u131 u132 u133 u134 u135 u136 u137 u138 u139 u140 u141 u142 u143 u144 u145 u146 : Value) (w2 : World), Below wr.heap.size wr w2 → K ⟨#[t0, t1, t2, t3, t4, .pointer (some ⟨b0, 0, none⟩), t6, t7, t8, t9, t10, .pointer (some ⟨b3, 0, none⟩), .pointer (some ⟨b4, 0, none⟩), t13, t14, t15, .pointer (some ⟨q, 0, none⟩), .int .i64 (k : Int), .int .u64 (Y : Int), .int .u64 (T1 : Int), t20, t21, t22, t23, t24, t25, t26, t27, t28, t29, t30, t31, t32, t33, t34, t35, t36, t37, t38, t39, t40, t41, t42, t43, t44, t45, t46, t47, t48, t49, t50, t51, t52, t53, t54, t55, t56, t57, t58, t59, t60, t61, t62, t63, t64, t65, t66, t67, t68, t69, t70, t71, t72, t73, t74, t75, t76, t77, t78, t79, t80, t81, t82, t83, t84, t85, t86, t87, t88, t89, t90, t91, t92, t93, t94, t95, t96, t97, t98, t99, t100, t101, t102, t103, t104, t105, t106, t107, t108, t109, t110, t111, t112, t113, t114, u115, u116, u117, u118, u119, u120, u121, u122, u123, u124, u125, u126, u127, u128, u129, u130, u131, u132, u133, u134, u135, u136, u137, u138, u139, u140, u141, u142, u143, u144, u145, u146, t147, t148, t149, t150, t151, t152, t153, t154, t155, t156, t157, t158, t159, t160, t161, t162, t163, t164, t165, t166, t167, t168, t169, t170, t171, t172, t173, t174, t175, t176, t177, t178, t179, t180, t181, t182, t183, t184, t185, t186, t187, t188, t189, t190, t191, t192, t193, t194, t195, t196, t197, t198, t199, t200, t201, t202, t203, t204, t205, t206, t207, t208, t209, t210, t211, t212, t213, t214], []⟩ w2)) :
    Code.wp Tryz.prog brg26_3 (Exit.then K fun _ _ _ => False) ⟨#[t0, t1, t2, t3, t4, .pointer (some ⟨b0, 0, none⟩), t6, t7, t8, t9, t10, .pointer (some ⟨b3, 0, none⟩), .pointer (some ⟨b4, 0, none⟩), t13, t14, t15, .pointer (some ⟨q, 0, none⟩), .int .i64 (k : Int), .int .u64 (Y : Int), t19, t20, t21, t22, t23, t24, t25, t26, t27, t28, t29, t30, t31, t32, t33, t34, t35, t36, t37, t38, t39, t40, t41, t42, t43, t44, t45, t46, t47, t48, t49, t50, t51, t52, t53, t54, t55, t56, t57, t58, t59, t60, t61, t62, t63, t64, t65, t66, t67, t68, t69, t70, t71, t72, t73, t74, t75, t76, t77, t78, t79, t80, t81, t82, t83, t84, t85, t86, t87, t88, t89, t90, t91, t92, t93, t94, t95, t96, t97, t98, t99, t100, t101, t102, t103, t104, t105, t106, t107, t108, t109, t110, t111, t112, t113, t114, t115, t116, t117, t118, t119, t120, t121, t122, t123, t124, t125, t126, t127, t128, t129, t130, t131, t132, t133, t134, t135, t136, t137, t138, t139, t140, t141, t142, t143, t144, t145, t146, t147, t148, t149, t150, t151, t152, t153, t154, t155, t156, t157, t158, t159, t160, t161, t162, t163, t164, t165, t166, t167, t168, t169, t170, t171, t172, t173, t174, t175, t176, t177, t178, t179, t180, t181, t182, t183, t184, t185, t186, t187, t188, t189, t190, t191, t192, t193, t194, t195, t196, t197, t198, t199, t200, t201, t202, t203, t204, t205, t206, t207, t208, t209, t210, t211, t212, t213, t214], []⟩ wr := by
  have f0 : IntKind.wrap .u64 ((rh : Int) + (G1 : Int)) = (A1 : Int) := by rw [wrapU3, HA1.out]; omega
  have g0 : ((rh : Int) + (G1 : Int)) % 18446744073709551616 = (A1 : Int) := by rw [HA1.out]; omega
  have f1 : IntKind.wrap .u64 ((A1 : Int) + (CH : Int)) = (A2 : Int) := by rw [wrapU3, HA2.out]; omega
  have g1 : ((A1 : Int) + (CH : Int)) % 18446744073709551616 = (A2 : Int) := by rw [HA2.out]; omega
  have f2 : IntKind.wrap .u64 ((A2 : Int) + (Y : Int)) = (A3 : Int) := by rw [wrapU3, HA3.out]; omega
  have g2 : ((A2 : Int) + (Y : Int)) % 18446744073709551616 = (A3 : Int) := by rw [HA3.out]; omega
  have f3 : IntKind.wrap .u64 ((A3 : Int) + (WX : Int)) = (T1 : Int) := by rw [wrapU3, HT1.out]; omega
  have g3 : ((A3 : Int) + (WX : Int)) % 18446744073709551616 = (T1 : Int) := by rw [HT1.out]; omega
  clear HA1 HA2 HA3 HT1
  have HK1 := hid (fun (X Y : World) (hb : Below X.heap.size X Y) (h0 : Below wr.heap.size wr X) => (show (fun wx : World => Below wr.heap.size wr wx ∧ wx.cell? ⟨b0, 0, none⟩ = some (.int .u64 32) ∧ wx.cell? ⟨b3, 9, none⟩ = some (.int .u64 6) ∧ wx.cell? ⟨b3, 10, none⟩ = some (.int .u64 11) ∧ wx.cell? ⟨b3, 11, none⟩ = some (.int .u64 25) ∧ wx.cell? ⟨q, 4, none⟩ = some (.int .u64 (re : Int)) ∧ wx.cell? ⟨q, 5, none⟩ = some (.int .u64 (rf : Int)) ∧ wx.cell? ⟨q, 6, none⟩ = some (.int .u64 (rg : Int)) ∧ wx.cell? ⟨q, 7, none⟩ = some (.int .u64 (rh : Int)) ∧ wx.cell? ⟨b4, k, none⟩ = some (.int .u64 (WX : Int))) Y from let h := h0.trans (hb.mono h0.size); ⟨h, kept_cell c0 h, kept_cell s9 h, kept_cell s10 h, kept_cell s11 h, kept_cell v4 h, kept_cell v5 h, kept_cell v6 h, kept_cell v7 h, kept_cell cx h⟩))
  have HK0 := hid (show (fun wx : World => Below wr.heap.size wr wx ∧ wx.cell? ⟨b0, 0, none⟩ = some (.int .u64 32) ∧ wx.cell? ⟨b3, 9, none⟩ = some (.int .u64 6) ∧ wx.cell? ⟨b3, 10, none⟩ = some (.int .u64 11) ∧ wx.cell? ⟨b3, 11, none⟩ = some (.int .u64 25) ∧ wx.cell? ⟨q, 4, none⟩ = some (.int .u64 (re : Int)) ∧ wx.cell? ⟨q, 5, none⟩ = some (.int .u64 (rf : Int)) ∧ wx.cell? ⟨q, 6, none⟩ = some (.int .u64 (rg : Int)) ∧ wx.cell? ⟨q, 7, none⟩ = some (.int .u64 (rh : Int)) ∧ wx.cell? ⟨b4, k, none⟩ = some (.int .u64 (WX : Int))) wr.drew from let h := (Below.refl _ wr).drew; ⟨h, kept_cell c0 h, kept_cell s9 h, kept_cell s10 h, kept_cell s11 h, kept_cell v4 h, kept_cell v5 h, kept_cell v6 h, kept_cell v7 h, kept_cell cx h⟩)
  have hsg : ¬ IntKind.signed .u64 = true := by decide
  conv => arg 2; whnf
  go_region_held (fun wx : World => Below wr.heap.size wr wx ∧ wx.cell? ⟨b0, 0, none⟩ = some (.int .u64 32) ∧ wx.cell? ⟨b3, 9, none⟩ = some (.int .u64 6) ∧ wx.cell? ⟨b3, 10, none⟩ = some (.int .u64 11) ∧ wx.cell? ⟨b3, 11, none⟩ = some (.int .u64 25) ∧ wx.cell? ⟨q, 4, none⟩ = some (.int .u64 (re : Int)) ∧ wx.cell? ⟨q, 5, none⟩ = some (.int .u64 (rf : Int)) ∧ wx.cell? ⟨q, 6, none⟩ = some (.int .u64 (rg : Int)) ∧ wx.cell? ⟨q, 7, none⟩ = some (.int .u64 (rh : Int)) ∧ wx.cell? ⟨b4, k, none⟩ = some (.int .u64 (WX : Int)))
    (first | exact HK0.out | exact HK1.out _ _ (by assumption) (by (try dsimp only at *); go_split_ands; assumption))
    (first | (go_at_call 67; with_reducible refine (HC1.out _).mono ?_; rintro e wa ⟨rfl, hba⟩))
  all_goals
    (try dsimp only at *)
    go_split_ands
    exact HK.out _ _ _ _ _ _ _ _ _ _ _ _ _ _ _ _ _ _ _ _ _ _ _ _ _ _ _ _ _ _ _ _ _ (by assumption)

noncomputable def brg27_3 : Code := (Tryz.f49.body.bind (regionOf 27)).getD .skip

set_option maxHeartbeats 4000000 in
set_option maxRecDepth 100000 in
theorem rr27_3 (b0 b3 q ra rb rc G0 MJ T2 : Nat) (wr : World) (K : Act → World → Prop) (t0 t1 t2 t3 t4 t6 t7 t8 t9 t10 t12 t13 t14 t15 t17 t18 t19 t20 t21 t22 t23 t24 t25 t26 t27 t28 t29 t30 t31 t32 t33 t34 t35 t36 t37 t38 t39 t40 t41 t42 t43 t44 t45 t46 t47 t48 t49 t50 t51 t52 t53 t54 t55 t56 t57 t58 t59 t60 t61 t62 t63 t64 t65 t66 t67 t68 t69 t70 t71 t72 t73 t74 t75 t76 t77 t78 t79 t80 t81 t82 t83 t84 t85 t86 t87 t88 t89 t90 t91 t92 t93 t94 t95 t96 t97 t98 t99 t100 t101 t102 t103 t104 t105 t106 t107 t108 t109 t110 t111 t112 t113 t114 t115 t116 t117 t118 t119 t120 t121 t122 t123 t124 t125 t126 t127 t128 t129 t130 t131 t132 t133 t134 t135 t136 t137 t138 t139 t140 t141 t142 t143 t144 t145 t146 t147 t148 t149 t150 t151 t152 t153 t154 t155 t156 t157 t158 t159 t160 t161 t162 t163 t164 t165 t166 t167 t168 t169 t170 t171 t172 t173 t174 t175 t176 t177 t178 t179 t180 t181 t182 t183 t184 t185 t186 t187 t188 t189 t190 t191 t192 t193 t194 t195 t196 t197 t198 t199 t200 t201 t202 t203 t204 t205 t206 t207 t208 t209 t210 t211 t212 t213 t214 : Value)
    (c0 : wr.cell? ⟨b0, 0, none⟩ = some (.int .u64 32))
    (s6 : wr.cell? ⟨b3, 6, none⟩ = some (.int .u64 2))
    (s7 : wr.cell? ⟨b3, 7, none⟩ = some (.int .u64 13))
    (s8 : wr.cell? ⟨b3, 8, none⟩ = some (.int .u64 22))
    (v0 : wr.cell? ⟨q, 0, none⟩ = some (.int .u64 (ra : Int)))
    (v1 : wr.cell? ⟨q, 1, none⟩ = some (.int .u64 (rb : Int)))
    (v2 : wr.cell? ⟨q, 2, none⟩ = some (.int .u64 (rc : Int)))
    (HC1 : Hid (∀ X : World, Calls Tryz.prog 67 #[.agg #[.int .u64 32], .int .u64 (ra : Int), .int .u64 2, .int .u64 13, .int .u64 22, .bool false] X fun e w' => e = .returned (.int .u64 (G0 : Int)) ∧ Below X.heap.size X w'))
    (hmj : bits .xor .u64 (bits .xor .u64 (bits .and .u64 (ra : Int) (rb : Int)) (bits .and .u64 (ra : Int) (rc : Int))) (bits .and .u64 (rb : Int) (rc : Int)) = (MJ : Int))
    (HT2 : Hid (T2 = (G0 + MJ) % 18446744073709551616))
    (HK : Hid (∀ (u147 u148 u149 u150 u151 u152 u153 u154 u155 u156 u157 u158 u159 u160 u161 u162 u163 u164 u165 u166 u167 u168 u169 u170 u171 u172 u173 u174 : Value) (w2 : World), Below wr.heap.size wr w2 → K ⟨#[t0, t1, t2, t3, t4, .pointer (some ⟨b0, 0, none⟩), t6, t7, t8, t9, t10, .pointer (some ⟨b3, 0, none⟩), t12, t13, t14, t15, .pointer (some ⟨q, 0, none⟩), t17, t18, t19, .int .u64 (T2 : Int), t21, t22, t23, t24, t25, t26, t27, t28, t29, t30, t31, t32, t33, t34, t35, t36, t37, t38, t39, t40, t41, t42, t43, t44, t45, t46, t47, t48, t49, t50, t51, t52, t53, t54, t55, t56, t57, t58, t59, t60, t61, t62, t63, t64, t65, t66, t67, t68, t69, t70, t71, t72, t73, t74, t75, t76, t77, t78, t79, t80, t81, t82, t83, t84, t85, t86, t87, t88, t89, t90, t91, t92, t93, t94, t95, t96, t97, t98, t99, t100, t101, t102, t103, t104, t105, t106, t107, t108, t109, t110, t111, t112, t113, t114, t115, t116, t117, t118, t119, t120, t121, t122, t123, t124, t125, t126, t127, t128, t129, t130, t131, t132, t133, t134, t135, t136, t137, t138, t139, t140, t141, t142, t143, t144, t145, t146, u147, u148, u149, u150, u151, u152, u153, u154, u155, u156, u157, u158, u159, u160, u161, u162, u163, u164, u165, u166, u167, u168, u169, u170, u171, u172, u173, u174, t175, t176, t177, t178, t179, t180, t181, t182, t183, t184, t185, t186, t187, t188, t189, t190, t191, t192, t193, t194, t195, t196, t197, t198, t199, t200, t201, t202, t203, t204, t205, t206, t207, t208, t209, t210, t211, t212, t213, t214], []⟩ w2)) :
    Code.wp Tryz.prog brg27_3 (Exit.then K fun _ _ _ => False) ⟨#[t0, t1, t2, t3, t4, .pointer (some ⟨b0, 0, none⟩), t6, t7, t8, t9, t10, .pointer (some ⟨b3, 0, none⟩), t12, t13, t14, t15, .pointer (some ⟨q, 0, none⟩), t17, t18, t19, t20, t21, t22, t23, t24, t25, t26, t27, t28, t29, t30, t31, t32, t33, t34, t35, t36, t37, t38, t39, t40, t41, t42, t43, t44, t45, t46, t47, t48, t49, t50, t51, t52, t53, t54, t55, t56, t57, t58, t59, t60, t61, t62, t63, t64, t65, t66, t67, t68, t69, t70, t71, t72, t73, t74, t75, t76, t77, t78, t79, t80, t81, t82, t83, t84, t85, t86, t87, t88, t89, t90, t91, t92, t93, t94, t95, t96, t97, t98, t99, t100, t101, t102, t103, t104, t105, t106, t107, t108, t109, t110, t111, t112, t113, t114, t115, t116, t117, t118, t119, t120, t121, t122, t123, t124, t125, t126, t127, t128, t129, t130, t131, t132, t133, t134, t135, t136, t137, t138, t139, t140, t141, t142, t143, t144, t145, t146, t147, t148, t149, t150, t151, t152, t153, t154, t155, t156, t157, t158, t159, t160, t161, t162, t163, t164, t165, t166, t167, t168, t169, t170, t171, t172, t173, t174, t175, t176, t177, t178, t179, t180, t181, t182, t183, t184, t185, t186, t187, t188, t189, t190, t191, t192, t193, t194, t195, t196, t197, t198, t199, t200, t201, t202, t203, t204, t205, t206, t207, t208, t209, t210, t211, t212, t213, t214], []⟩ wr := by
  have f0 : IntKind.wrap .u64 ((G0 : Int) + (MJ : Int)) = (T2 : Int) := by rw [wrapU3, HT2.out]; omega
  have g0 : ((G0 : Int) + (MJ : Int)) % 18446744073709551616 = (T2 : Int) := by rw [HT2.out]; omega
  clear HT2
  have HK1 := hid (fun (X Y : World) (hb : Below X.heap.size X Y) (h0 : Below wr.heap.size wr X) => (show (fun wx : World => Below wr.heap.size wr wx ∧ wx.cell? ⟨b0, 0, none⟩ = some (.int .u64 32) ∧ wx.cell? ⟨b3, 6, none⟩ = some (.int .u64 2) ∧ wx.cell? ⟨b3, 7, none⟩ = some (.int .u64 13) ∧ wx.cell? ⟨b3, 8, none⟩ = some (.int .u64 22) ∧ wx.cell? ⟨q, 0, none⟩ = some (.int .u64 (ra : Int)) ∧ wx.cell? ⟨q, 1, none⟩ = some (.int .u64 (rb : Int)) ∧ wx.cell? ⟨q, 2, none⟩ = some (.int .u64 (rc : Int))) Y from let h := h0.trans (hb.mono h0.size); ⟨h, kept_cell c0 h, kept_cell s6 h, kept_cell s7 h, kept_cell s8 h, kept_cell v0 h, kept_cell v1 h, kept_cell v2 h⟩))
  have HK0 := hid (show (fun wx : World => Below wr.heap.size wr wx ∧ wx.cell? ⟨b0, 0, none⟩ = some (.int .u64 32) ∧ wx.cell? ⟨b3, 6, none⟩ = some (.int .u64 2) ∧ wx.cell? ⟨b3, 7, none⟩ = some (.int .u64 13) ∧ wx.cell? ⟨b3, 8, none⟩ = some (.int .u64 22) ∧ wx.cell? ⟨q, 0, none⟩ = some (.int .u64 (ra : Int)) ∧ wx.cell? ⟨q, 1, none⟩ = some (.int .u64 (rb : Int)) ∧ wx.cell? ⟨q, 2, none⟩ = some (.int .u64 (rc : Int))) wr.drew from let h := (Below.refl _ wr).drew; ⟨h, kept_cell c0 h, kept_cell s6 h, kept_cell s7 h, kept_cell s8 h, kept_cell v0 h, kept_cell v1 h, kept_cell v2 h⟩)
  have hsg : ¬ IntKind.signed .u64 = true := by decide
  conv => arg 2; whnf
  go_region_held (fun wx : World => Below wr.heap.size wr wx ∧ wx.cell? ⟨b0, 0, none⟩ = some (.int .u64 32) ∧ wx.cell? ⟨b3, 6, none⟩ = some (.int .u64 2) ∧ wx.cell? ⟨b3, 7, none⟩ = some (.int .u64 13) ∧ wx.cell? ⟨b3, 8, none⟩ = some (.int .u64 22) ∧ wx.cell? ⟨q, 0, none⟩ = some (.int .u64 (ra : Int)) ∧ wx.cell? ⟨q, 1, none⟩ = some (.int .u64 (rb : Int)) ∧ wx.cell? ⟨q, 2, none⟩ = some (.int .u64 (rc : Int)))
    (first | exact HK0.out | exact HK1.out _ _ (by assumption) (by (try dsimp only at *); go_split_ands; assumption))
    (first | (go_at_call 67; with_reducible refine (HC1.out _).mono ?_; rintro e wa ⟨rfl, hba⟩))
  all_goals
    (try dsimp only at *)
    go_split_ands
    exact HK.out _ _ _ _ _ _ _ _ _ _ _ _ _ _ _ _ _ _ _ _ _ _ _ _ _ _ _ _ _ (by assumption)

end Go.Proofs.YtbdlicomkpnalaaGreatDoor
