/-
  The schedule's loop of ostiaryref8's block, at 32 bits.
-/
import Derived.Test.YtbdlicomkpnalaaGreatDoorZl
set_option linter.unusedSimpArgs false
set_option linter.unusedVariables false
namespace Go.Proofs.YtbdlicomkpnalaaGreatDoor
open Go.RowKit

noncomputable def bl3_3 : Code := ((Tryz.f49.body.map loopsOf).getD []).getD 2 .skip

set_option maxHeartbeats 4000000 in
set_option maxRecDepth 100000 in
theorem rsch3 (b0 b1 b2 b3 b4 : Nat) (S L : List Nat) (w W : World) (K : Act → World → Prop) (t0 t1 t2 t3 t4 t6 t7 t8 t9 t13 t14 t16 t17 t18 t19 t20 t21 t22 t23 t24 t25 t26 t27 t28 t29 t30 t31 t32 t33 t34 t35 t36 t37 t38 t39 t40 t41 t42 t43 t44 t45 t46 t47 t48 t49 t50 t51 t52 t53 t54 t55 t56 t57 t58 t59 t60 t61 t62 t63 t64 t65 t66 t67 t68 t69 t70 t71 t72 t73 t74 t75 t76 t77 t78 t79 t80 t81 t82 t83 t84 t85 t86 t87 t88 t89 t90 t91 t92 t93 t94 t95 t96 t97 t98 t99 t100 t101 t102 t103 t104 t105 t106 t107 t108 t109 t110 t111 t112 t113 t114 t115 t116 t117 t118 t119 t120 t121 t122 t123 t124 t125 t126 t127 t128 t129 t130 t131 t132 t133 t134 t135 t136 t137 t138 t139 t140 t141 t142 t143 t144 t145 t146 t147 t148 t149 t150 t151 t152 t153 t154 t155 t156 t157 t158 t159 t160 t161 t162 t163 t164 t165 t166 t167 t168 t169 t170 t171 t172 t173 t174 t175 t176 t177 t178 t179 t180 t181 t182 t183 t184 t185 t186 t187 t188 t189 t190 t191 t192 t193 t194 t195 t196 t197 t198 t199 t200 t201 t202 t203 t204 t205 t206 t207 t208 t209 t210 t211 t212 t213 t214 : Value)
    (HM0 : Hid (Blk3 w W b0 b1 b2 b3 b4 S (fillV L 16 80))) (HL80 : Hid (L.length = 80)) (HLB : Hid (∀ i, L.getD i 0 < 2 ^ 32)) (HLN : Hid (∀ k, 16 ≤ k → k < 64 → L.getD k 0 = nxtV nar L k))
    (HK : Hid (∀ (u15 u55 u56 u57 u58 u59 u60 u61 u62 u63 u64 u65 u66 u67 u68 u69 u70 u71 u72 u73 u74 u75 u76 u77 u78 u79 u80 u81 u82 u83 u84 u85 u86 u87 u88 u89 u90 u91 u92 u93 u94 u95 u96 u97 u98 : Value) (w2 : World), Blk3 w w2 b0 b1 b2 b3 b4 S (fillV L 64 80) → K ⟨#[t0, t1, t2, t3, t4, .pointer (some ⟨b0, 0, none⟩), t6, t7, t8, t9, .int .i64 64, .pointer (some ⟨b3, 0, none⟩), .pointer (some ⟨b4, 0, none⟩), t13, t14, u15, t16, t17, t18, t19, t20, t21, t22, t23, t24, t25, t26, t27, t28, t29, t30, t31, t32, t33, t34, t35, t36, t37, t38, t39, t40, t41, t42, t43, t44, t45, t46, t47, t48, t49, t50, t51, t52, t53, t54, u55, u56, u57, u58, u59, u60, u61, u62, u63, u64, u65, u66, u67, u68, u69, u70, u71, u72, u73, u74, u75, u76, u77, u78, u79, u80, u81, u82, u83, u84, u85, u86, u87, u88, u89, u90, u91, u92, u93, u94, u95, u96, u97, u98, t99, t100, t101, t102, t103, t104, t105, t106, t107, t108, t109, t110, t111, t112, t113, t114, t115, t116, t117, t118, t119, t120, t121, t122, t123, t124, t125, t126, t127, t128, t129, t130, t131, t132, t133, t134, t135, t136, t137, t138, t139, t140, t141, t142, t143, t144, t145, t146, t147, t148, t149, t150, t151, t152, t153, t154, t155, t156, t157, t158, t159, t160, t161, t162, t163, t164, t165, t166, t167, t168, t169, t170, t171, t172, t173, t174, t175, t176, t177, t178, t179, t180, t181, t182, t183, t184, t185, t186, t187, t188, t189, t190, t191, t192, t193, t194, t195, t196, t197, t198, t199, t200, t201, t202, t203, t204, t205, t206, t207, t208, t209, t210, t211, t212, t213, t214], []⟩ w2)) :
    Code.wp Tryz.prog (.loop bl3_3) (exit4_3 K) ⟨#[t0, t1, t2, t3, t4, .pointer (some ⟨b0, 0, none⟩), t6, t7, t8, t9, .int .i64 64, .pointer (some ⟨b3, 0, none⟩), .pointer (some ⟨b4, 0, none⟩), t13, t14, .int .i64 16, t16, t17, t18, t19, t20, t21, t22, t23, t24, t25, t26, t27, t28, t29, t30, t31, t32, t33, t34, t35, t36, t37, t38, t39, t40, t41, t42, t43, t44, t45, t46, t47, t48, t49, t50, t51, t52, t53, t54, t55, t56, t57, t58, t59, t60, t61, t62, t63, t64, t65, t66, t67, t68, t69, t70, t71, t72, t73, t74, t75, t76, t77, t78, t79, t80, t81, t82, t83, t84, t85, t86, t87, t88, t89, t90, t91, t92, t93, t94, t95, t96, t97, t98, t99, t100, t101, t102, t103, t104, t105, t106, t107, t108, t109, t110, t111, t112, t113, t114, t115, t116, t117, t118, t119, t120, t121, t122, t123, t124, t125, t126, t127, t128, t129, t130, t131, t132, t133, t134, t135, t136, t137, t138, t139, t140, t141, t142, t143, t144, t145, t146, t147, t148, t149, t150, t151, t152, t153, t154, t155, t156, t157, t158, t159, t160, t161, t162, t163, t164, t165, t166, t167, t168, t169, t170, t171, t172, t173, t174, t175, t176, t177, t178, t179, t180, t181, t182, t183, t184, t185, t186, t187, t188, t189, t190, t191, t192, t193, t194, t195, t196, t197, t198, t199, t200, t201, t202, t203, t204, t205, t206, t207, t208, t209, t210, t211, t212, t213, t214], []⟩ W := by
  conv => arg 2; whnf
  conv => arg 2; arg 1; whnf
  conv => arg 4; dsimp only
  go_loopw [15] (fun v15 wr => ∃ k : Nat, 16 ≤ k ∧ k ≤ 64 ∧ v15 = .int .i64 k ∧ Hid (Blk3 w wr b0 b1 b2 b3 b4 S (fillV L k 80))) (fun v15 _ => 64 - (intOf v15).toNat)
  case atStart => exact ⟨16, by omega, by omega, rfl, HM0.out⟩
  case round =>
    clear HM0
    obtain ⟨k, hk1, hk, rfl, HM⟩ := hrel
    by_cases hlt : k < 64
    · have hfl : (fillV L k 80).length = 80 := fill_len _ _ _ (by omega) HL80.out
      obtain ⟨⟨h0, h1, h2, h3, h4⟩, hA, hS, hZ, hT, hX, hB⟩ := HM.out
      have c0 : wr.cell? ⟨b0, 0, none⟩ = some (.int .u64 32) := Lib.cell_of_heap hA 0
      have n0 : (⟨b4, k, none⟩ : Addr) ≠ ⟨b0, 0, none⟩ := by intro h; have := congrArg Addr.block h; dsimp only at this; omega
      have s3 : wr.cell? ⟨b3, 3, none⟩ = some (.int .u64 17) := hT.cell 3 (by decide)
      have m3 : (⟨b4, k, none⟩ : Addr) ≠ ⟨b3, 3, none⟩ := by intro h; have := congrArg Addr.block h; dsimp only at this; omega
      have s4 : wr.cell? ⟨b3, 4, none⟩ = some (.int .u64 19) := hT.cell 4 (by decide)
      have m4 : (⟨b4, k, none⟩ : Addr) ≠ ⟨b3, 4, none⟩ := by intro h; have := congrArg Addr.block h; dsimp only at this; omega
      have s5 : wr.cell? ⟨b3, 5, none⟩ = some (.int .u64 10) := hT.cell 5 (by decide)
      have m5 : (⟨b4, k, none⟩ : Addr) ≠ ⟨b3, 5, none⟩ := by intro h; have := congrArg Addr.block h; dsimp only at this; omega
      have s0 : wr.cell? ⟨b3, 0, none⟩ = some (.int .u64 7) := hT.cell 0 (by decide)
      have m0 : (⟨b4, k, none⟩ : Addr) ≠ ⟨b3, 0, none⟩ := by intro h; have := congrArg Addr.block h; dsimp only at this; omega
      have s1 : wr.cell? ⟨b3, 1, none⟩ = some (.int .u64 18) := hT.cell 1 (by decide)
      have m1 : (⟨b4, k, none⟩ : Addr) ≠ ⟨b3, 1, none⟩ := by intro h; have := congrArg Addr.block h; dsimp only at this; omega
      have s2 : wr.cell? ⟨b3, 2, none⟩ = some (.int .u64 3) := hT.cell 2 (by decide)
      have m2 : (⟨b4, k, none⟩ : Addr) ≠ ⟨b3, 2, none⟩ := by intro h; have := congrArg Addr.block h; dsimp only at this; omega
      obtain ⟨k2, hk2⟩ : ∃ m, m = k - 2 := ⟨_, rfl⟩
      obtain ⟨x2, hx2⟩ : ∃ x, x = L.getD k2 0 := ⟨_, rfl⟩
      have d2 : wr.cell? ⟨b4, k2, none⟩ = some (.int .u64 (x2 : Int)) := by rw [hx2, ← fill_get L k 80 k2 (by omega) (by rw [HL80.out]; omega)]; exact hX.cell k2 (by omega)
      have hb2 : x2 < 4294967296 := by rw [hx2]; exact HLB.out k2
      have e2 : (⟨b4, k, none⟩ : Addr) ≠ ⟨b4, k2, none⟩ := by intro h; have := congrArg Addr.off h; dsimp only at this; omega
      have i2 : IntKind.i64.wrap ((k : Int) - 2) = (k2 : Int) := by rw [hk2, wrap_i64_id _ (by omega) (by omega)]; omega
      have l2 : (k2 : Int) < 80 := by omega
      obtain ⟨k7, hk7⟩ : ∃ m, m = k - 7 := ⟨_, rfl⟩
      obtain ⟨x7, hx7⟩ : ∃ x, x = L.getD k7 0 := ⟨_, rfl⟩
      have d7 : wr.cell? ⟨b4, k7, none⟩ = some (.int .u64 (x7 : Int)) := by rw [hx7, ← fill_get L k 80 k7 (by omega) (by rw [HL80.out]; omega)]; exact hX.cell k7 (by omega)
      have hb7 : x7 < 4294967296 := by rw [hx7]; exact HLB.out k7
      have e7 : (⟨b4, k, none⟩ : Addr) ≠ ⟨b4, k7, none⟩ := by intro h; have := congrArg Addr.off h; dsimp only at this; omega
      have i7 : IntKind.i64.wrap ((k : Int) - 7) = (k7 : Int) := by rw [hk7, wrap_i64_id _ (by omega) (by omega)]; omega
      have l7 : (k7 : Int) < 80 := by omega
      obtain ⟨k15, hk15⟩ : ∃ m, m = k - 15 := ⟨_, rfl⟩
      obtain ⟨x15, hx15⟩ : ∃ x, x = L.getD k15 0 := ⟨_, rfl⟩
      have d15 : wr.cell? ⟨b4, k15, none⟩ = some (.int .u64 (x15 : Int)) := by rw [hx15, ← fill_get L k 80 k15 (by omega) (by rw [HL80.out]; omega)]; exact hX.cell k15 (by omega)
      have hb15 : x15 < 4294967296 := by rw [hx15]; exact HLB.out k15
      have e15 : (⟨b4, k, none⟩ : Addr) ≠ ⟨b4, k15, none⟩ := by intro h; have := congrArg Addr.off h; dsimp only at this; omega
      have i15 : IntKind.i64.wrap ((k : Int) - 15) = (k15 : Int) := by rw [hk15, wrap_i64_id _ (by omega) (by omega)]; omega
      have l15 : (k15 : Int) < 80 := by omega
      obtain ⟨k16, hk16⟩ : ∃ m, m = k - 16 := ⟨_, rfl⟩
      obtain ⟨x16, hx16⟩ : ∃ x, x = L.getD k16 0 := ⟨_, rfl⟩
      have d16 : wr.cell? ⟨b4, k16, none⟩ = some (.int .u64 (x16 : Int)) := by rw [hx16, ← fill_get L k 80 k16 (by omega) (by rw [HL80.out]; omega)]; exact hX.cell k16 (by omega)
      have hb16 : x16 < 4294967296 := by rw [hx16]; exact HLB.out k16
      have e16 : (⟨b4, k, none⟩ : Addr) ≠ ⟨b4, k16, none⟩ := by intro h; have := congrArg Addr.off h; dsimp only at this; omega
      have i16 : IntKind.i64.wrap ((k : Int) - 16) = (k16 : Int) := by rw [hk16, wrap_i64_id _ (by omega) (by omega)]; omega
      have l16 : (k16 : Int) < 80 := by omega
      obtain ⟨y, hy⟩ : ∃ y, y = (fillV L k 80).getD k 0 := ⟨_, rfl⟩
      have cs : wr.cell? ⟨b4, k, none⟩ = some (.int .u64 (y : Int)) := by rw [hy]; exact hX.cell k (by omega)
      have cf := hX.free k
      obtain ⟨g1, hg1⟩ : ∃ s, s = smV 32 17 19 10 x2 := ⟨_, rfl⟩
      obtain ⟨g0, hg0⟩ : ∃ s, s = smV 32 7 18 3 x15 := ⟨_, rfl⟩
      have hbg1 : g1 < 4294967296 := by rw [hg1]; exact sm_lt (W := 32) hb2
      have hbg0 : g0 < 4294967296 := by rw [hg0]; exact sm_lt (W := 32) hb15
      obtain ⟨A1, hA1⟩ : ∃ a, a = (g1 + x7) % 18446744073709551616 := ⟨_, rfl⟩
      obtain ⟨A2, hA2⟩ : ∃ a, a = (A1 + g0) % 18446744073709551616 := ⟨_, rfl⟩
      obtain ⟨A3, hA3⟩ : ∃ a, a = (A2 + x16) % 18446744073709551616 := ⟨_, rfl⟩
      obtain ⟨U, hU⟩ : ∃ a, a = A3 % 4294967296 := ⟨_, rfl⟩
      have HU := hid (show L.getD k 0 = U by
        rw [HLN.out k hk1 hlt, hU, hA3, hA2, hA1, hg1, hg0, hx2, hx7, hx15, hx16, hk2, hk7, hk15, hk16]
        show (smV 32 17 19 10 (L.getD (k - 2) 0) + L.getD (k - 7) 0 + smV 32 7 18 3 (L.getD (k - 15) 0) + L.getD (k - 16) 0) % 4294967296 = _
        omega)
      have HC1 := hid (fun X : World => (show Calls Tryz.prog 67 #[.agg #[.int .u64 32], .int .u64 (x2 : Int), .int .u64 17, .int .u64 19, .int .u64 10, .bool true] X fun e w' => e = .returned (.int .u64 (g1 : Int)) ∧ Below X.heap.size X w' by rw [hg1]; exact rmixs3 x2 17 19 10 X hb2 (by decide) (by decide) (by decide)))
      have HC2 := hid (fun X : World => (show Calls Tryz.prog 67 #[.agg #[.int .u64 32], .int .u64 (x15 : Int), .int .u64 7, .int .u64 18, .int .u64 3, .bool true] X fun e w' => e = .returned (.int .u64 (g0 : Int)) ∧ Below X.heap.size X w' by rw [hg0]; exact rmixs3 x15 7 18 3 X hb15 (by decide) (by decide) (by decide)))
      have HC3 := hid (fun X : World => rcut3 A3 U X (by rw [hA3]; exact Nat.mod_lt _ (by decide)) hU)
      have f1 : IntKind.wrap .u64 ((g1 : Int) + (x7 : Int)) = (A1 : Int) := by rw [wrapU3, hA1]; omega
      have f2 : IntKind.wrap .u64 ((A1 : Int) + (g0 : Int)) = (A2 : Int) := by rw [wrapU3, hA2]; omega
      have f3 : IntKind.wrap .u64 ((A2 : Int) + (x16 : Int)) = (A3 : Int) := by rw [wrapU3, hA3]; omega
      have q1 : ((g1 : Int) + (x7 : Int)) % 18446744073709551616 = (A1 : Int) := by rw [hA1]; omega
      have q2 : ((A1 : Int) + (g0 : Int)) % 18446744073709551616 = (A2 : Int) := by rw [hA2]; omega
      have q3 : ((A2 : Int) + (x16 : Int)) % 18446744073709551616 = (A3 : Int) := by rw [hA3]; omega
      have hkk : (k : Int) < 80 := by omega
      have HK1 := hid (fun (X Y : World) (hb : Below X.heap.size X Y) (h0 : But1 wr ⟨b4, k, none⟩ (.int .u64 (U : Int)) X) => (show (fun wx : World => But1 wr ⟨b4, k, none⟩ (.int .u64 (U : Int)) wx ∧ wx.cell? ⟨b0, 0, none⟩ = some (.int .u64 32) ∧ wx.cell? ⟨b3, 3, none⟩ = some (.int .u64 17) ∧ wx.cell? ⟨b3, 4, none⟩ = some (.int .u64 19) ∧ wx.cell? ⟨b3, 5, none⟩ = some (.int .u64 10) ∧ wx.cell? ⟨b3, 0, none⟩ = some (.int .u64 7) ∧ wx.cell? ⟨b3, 1, none⟩ = some (.int .u64 18) ∧ wx.cell? ⟨b3, 2, none⟩ = some (.int .u64 3) ∧ wx.cell? ⟨b4, k2, none⟩ = some (.int .u64 (x2 : Int)) ∧ wx.cell? ⟨b4, k7, none⟩ = some (.int .u64 (x7 : Int)) ∧ wx.cell? ⟨b4, k15, none⟩ = some (.int .u64 (x15 : Int)) ∧ wx.cell? ⟨b4, k16, none⟩ = some (.int .u64 (x16 : Int))) Y from let h := h0.next hb; ⟨h, h.cell c0 n0, h.cell s3 m3, h.cell s4 m4, h.cell s5 m5, h.cell s0 m0, h.cell s1 m1, h.cell s2 m2, h.cell d2 e2, h.cell d7 e7, h.cell d15 e15, h.cell d16 e16⟩))
      have HK2 := hid (fun (X : World) (h0 : But1 wr ⟨b4, k, none⟩ (.int .u64 (U : Int)) X) => (show (fun wx : World => But1 wr ⟨b4, k, none⟩ (.int .u64 (U : Int)) wx ∧ wx.cell? ⟨b0, 0, none⟩ = some (.int .u64 32) ∧ wx.cell? ⟨b3, 3, none⟩ = some (.int .u64 17) ∧ wx.cell? ⟨b3, 4, none⟩ = some (.int .u64 19) ∧ wx.cell? ⟨b3, 5, none⟩ = some (.int .u64 10) ∧ wx.cell? ⟨b3, 0, none⟩ = some (.int .u64 7) ∧ wx.cell? ⟨b3, 1, none⟩ = some (.int .u64 18) ∧ wx.cell? ⟨b3, 2, none⟩ = some (.int .u64 3) ∧ wx.cell? ⟨b4, k2, none⟩ = some (.int .u64 (x2 : Int)) ∧ wx.cell? ⟨b4, k7, none⟩ = some (.int .u64 (x7 : Int)) ∧ wx.cell? ⟨b4, k15, none⟩ = some (.int .u64 (x15 : Int)) ∧ wx.cell? ⟨b4, k16, none⟩ = some (.int .u64 (x16 : Int))) (X.setCell ⟨b4, k, none⟩ (.int .u64 (U : Int))) from let h := h0.put; ⟨h, h.cell c0 n0, h.cell s3 m3, h.cell s4 m4, h.cell s5 m5, h.cell s0 m0, h.cell s1 m1, h.cell s2 m2, h.cell d2 e2, h.cell d7 e7, h.cell d15 e15, h.cell d16 e16⟩))
      have HK0 := hid (show (fun wx : World => But1 wr ⟨b4, k, none⟩ (.int .u64 (U : Int)) wx ∧ wx.cell? ⟨b0, 0, none⟩ = some (.int .u64 32) ∧ wx.cell? ⟨b3, 3, none⟩ = some (.int .u64 17) ∧ wx.cell? ⟨b3, 4, none⟩ = some (.int .u64 19) ∧ wx.cell? ⟨b3, 5, none⟩ = some (.int .u64 10) ∧ wx.cell? ⟨b3, 0, none⟩ = some (.int .u64 7) ∧ wx.cell? ⟨b3, 1, none⟩ = some (.int .u64 18) ∧ wx.cell? ⟨b3, 2, none⟩ = some (.int .u64 3) ∧ wx.cell? ⟨b4, k2, none⟩ = some (.int .u64 (x2 : Int)) ∧ wx.cell? ⟨b4, k7, none⟩ = some (.int .u64 (x7 : Int)) ∧ wx.cell? ⟨b4, k15, none⟩ = some (.int .u64 (x15 : Int)) ∧ wx.cell? ⟨b4, k16, none⟩ = some (.int .u64 (x16 : Int))) wr.drew from let h := But1.start wr _ _; ⟨h, h.cell c0 n0, h.cell s3 m3, h.cell s4 m4, h.cell s5 m5, h.cell s0 m0, h.cell s1 m1, h.cell s2 m2, h.cell d2 e2, h.cell d7 e7, h.cell d15 e15, h.cell d16 e16⟩)
      have HK16 := hid hk1
      clear hA hS hZ hT hX hB h0 h1 h2 h3 h4 hfl hx2 hx7 hx15 hx16 hk2 hk7 hk15 hk16 hA1 hA2 hA3 hU hy n0 m3 m4 m5 m0 m1 m2 e2 e7 e15 e16 hb2 hb7 hb15 hb16 hbg1 hbg0 hg1 hg0 hk1
      go_wp2_with fail
      go_region_held (fun wx : World => But1 wr ⟨b4, k, none⟩ (.int .u64 (U : Int)) wx ∧ wx.cell? ⟨b0, 0, none⟩ = some (.int .u64 32) ∧ wx.cell? ⟨b3, 3, none⟩ = some (.int .u64 17) ∧ wx.cell? ⟨b3, 4, none⟩ = some (.int .u64 19) ∧ wx.cell? ⟨b3, 5, none⟩ = some (.int .u64 10) ∧ wx.cell? ⟨b3, 0, none⟩ = some (.int .u64 7) ∧ wx.cell? ⟨b3, 1, none⟩ = some (.int .u64 18) ∧ wx.cell? ⟨b3, 2, none⟩ = some (.int .u64 3) ∧ wx.cell? ⟨b4, k2, none⟩ = some (.int .u64 (x2 : Int)) ∧ wx.cell? ⟨b4, k7, none⟩ = some (.int .u64 (x7 : Int)) ∧ wx.cell? ⟨b4, k15, none⟩ = some (.int .u64 (x15 : Int)) ∧ wx.cell? ⟨b4, k16, none⟩ = some (.int .u64 (x16 : Int)))
        (first | exact HK0.out | exact HK1.out _ _ (by assumption) (by (try dsimp only at *); go_split_ands; assumption) | exact HK2.out _ (by (try dsimp only at *); go_split_ands; assumption))
        (first | (go_at_call 67; (first | with_reducible refine (HC1.out _).mono ?_ | with_reducible refine (HC2.out _).mono ?_); rintro e wa ⟨rfl, hba⟩; obtain ⟨csa, cfa⟩ := kept_both (a := ⟨b4, k, none⟩) (v := .int .u64 (y : Int)) (by first | exact cs | assumption) (by first | exact cf | assumption) hba) | (go_at_call 66; with_reducible refine (HC3.out _).mono ?_; rintro e wa ⟨rfl, hba⟩; obtain ⟨csa, cfa⟩ := kept_both (a := ⟨b4, k, none⟩) (v := .int .u64 (y : Int)) (by first | exact cs | assumption) (by first | exact cf | assumption) hba))
      all_goals
        go_wp2_with fail
        go_roundw
        case rel =>
          (try dsimp only at *)
          go_split_ands
          have hk1 := HK16.out
          have hq := But1.fin (wr := wr) (by assumption)
          have e3 := (HM.out.setX k U).kept hq
          rw [fill_step L k 80 (by omega) HL80.out U HU.out] at e3
          first
            | exact ⟨k + 1, by omega, by omega, by go_num, e3⟩
            | ((repeat apply Exists.intro); refine ⟨?_, rfl⟩; exact ⟨k + 1, by omega, by omega, by go_num, e3⟩)
            | ((repeat apply Exists.intro); exact ⟨⟨k + 1, by omega, by omega, by go_num, e3⟩, rfl⟩)
        case measure => simp [intOf]; omega
    · obtain rfl : k = 64 := by omega
      clear hk hlt hk1
      go_wp2_with fail
      exact HK.out _ _ _ _ _ _ _ _ _ _ _ _ _ _ _ _ _ _ _ _ _ _ _ _ _ _ _ _ _ _ _ _ _ _ _ _ _ _ _ _ _ _ _ _ _ _ HM.out

end Go.Proofs.YtbdlicomkpnalaaGreatDoor
