/-
  The last statement of a round of ostiaryref8's block, at 64 bits.
-/
import Derived.Test.YtbdlicomkpnalaaGreatDoorZm
import Derived.Test.YtbdlicomkpnalaaGreatDoorZl
set_option linter.unusedSimpArgs false
set_option linter.unusedVariables false
namespace Go.Proofs.YtbdlicomkpnalaaGreatDoor
open Go.RowKit

noncomputable def brg28_6 : Code := (Tryz.f49.body.bind (regionOf 28)).getD .skip

theorem keep8_6 {X Y : World} {b0 q : Nat} {V : List Nat} (hA : X.heap[b0]? = some (.cells #[.int .u64 64] 97 (0, 0))) (hR : Rw X q .u64 98 V) (hb : Below X.heap.size X Y) : Y.heap[b0]? = some (.cells #[.int .u64 64] 97 (0, 0)) ∧ Rw Y q .u64 98 V := ⟨row_kept hA hb, hR.kept hb⟩

set_option maxHeartbeats 4000000 in
set_option maxRecDepth 100000 in
theorem rr28_6 (b0 q ra rb rc rd re rf rg rh T1 T2 A4 A5 AA EE : Nat) (wr : World) (K : Act → World → Prop) (t0 t1 t2 t3 t4 t6 t7 t8 t9 t10 t11 t12 t13 t14 t15 t17 t18 t21 t22 t23 t24 t25 t26 t27 t28 t29 t30 t31 t32 t33 t34 t35 t36 t37 t38 t39 t40 t41 t42 t43 t44 t45 t46 t47 t48 t49 t50 t51 t52 t53 t54 t55 t56 t57 t58 t59 t60 t61 t62 t63 t64 t65 t66 t67 t68 t69 t70 t71 t72 t73 t74 t75 t76 t77 t78 t79 t80 t81 t82 t83 t84 t85 t86 t87 t88 t89 t90 t91 t92 t93 t94 t95 t96 t97 t98 t99 t100 t101 t102 t103 t104 t105 t106 t107 t108 t109 t110 t111 t112 t113 t114 t115 t116 t117 t118 t119 t120 t121 t122 t123 t124 t125 t126 t127 t128 t129 t130 t131 t132 t133 t134 t135 t136 t137 t138 t139 t140 t141 t142 t143 t144 t145 t146 t147 t148 t149 t150 t151 t152 t153 t154 t155 t156 t157 t158 t159 t160 t161 t162 t163 t164 t165 t166 t167 t168 t169 t170 t171 t172 t173 t174 t175 t176 t177 t178 t179 t180 t181 t182 t183 t184 t185 t186 t187 t188 t189 t190 t191 t192 t193 t194 t195 t196 t197 t198 t199 t200 t201 t202 t203 t204 t205 t206 t207 t208 t209 t210 t211 t212 t213 t214 : Value)
    (HA : Hid (wr.heap[b0]? = some (.cells #[.int .u64 64] 97 (0, 0)))) (HR : Hid (Rw wr q .u64 98 [ra, rb, rc, rd, re, rf, rg, rh]))
    (HA4 : Hid (A4 = (T1 + T2) % 18446744073709551616)) (HA5 : Hid (A5 = (rd + T1) % 18446744073709551616)) (HAA : Hid (AA = A4 % 18446744073709551616)) (HEE : Hid (EE = A5 % 18446744073709551616))
    (HK : Hid (∀ (u175 u176 u177 u178 u179 u180 u181 u182 u183 u184 u185 u186 u187 u188 u189 u190 u191 u192 u193 u194 u195 u196 u197 u198 : Value) (w1 w2 : World), Below wr.heap.size wr w1 → w2 = w1.setCells q 0 (cW .u64 [AA, ra, rb, rc, EE, re, rf, rg]) → K ⟨#[t0, t1, t2, t3, t4, .pointer (some ⟨b0, 0, none⟩), t6, t7, t8, t9, t10, t11, t12, t13, t14, t15, .pointer (some ⟨q, 0, none⟩), t17, t18, .int .u64 (T1 : Int), .int .u64 (T2 : Int), t21, t22, t23, t24, t25, t26, t27, t28, t29, t30, t31, t32, t33, t34, t35, t36, t37, t38, t39, t40, t41, t42, t43, t44, t45, t46, t47, t48, t49, t50, t51, t52, t53, t54, t55, t56, t57, t58, t59, t60, t61, t62, t63, t64, t65, t66, t67, t68, t69, t70, t71, t72, t73, t74, t75, t76, t77, t78, t79, t80, t81, t82, t83, t84, t85, t86, t87, t88, t89, t90, t91, t92, t93, t94, t95, t96, t97, t98, t99, t100, t101, t102, t103, t104, t105, t106, t107, t108, t109, t110, t111, t112, t113, t114, t115, t116, t117, t118, t119, t120, t121, t122, t123, t124, t125, t126, t127, t128, t129, t130, t131, t132, t133, t134, t135, t136, t137, t138, t139, t140, t141, t142, t143, t144, t145, t146, t147, t148, t149, t150, t151, t152, t153, t154, t155, t156, t157, t158, t159, t160, t161, t162, t163, t164, t165, t166, t167, t168, t169, t170, t171, t172, t173, t174, u175, u176, u177, u178, u179, u180, u181, u182, u183, u184, u185, u186, u187, u188, u189, u190, u191, u192, u193, u194, u195, u196, u197, u198, t199, t200, t201, t202, t203, t204, t205, t206, t207, t208, t209, t210, t211, t212, t213, t214], []⟩ w2)) :
    Code.wp Tryz.prog brg28_6 (Exit.then K fun _ _ _ => False) ⟨#[t0, t1, t2, t3, t4, .pointer (some ⟨b0, 0, none⟩), t6, t7, t8, t9, t10, t11, t12, t13, t14, t15, .pointer (some ⟨q, 0, none⟩), t17, t18, .int .u64 (T1 : Int), .int .u64 (T2 : Int), t21, t22, t23, t24, t25, t26, t27, t28, t29, t30, t31, t32, t33, t34, t35, t36, t37, t38, t39, t40, t41, t42, t43, t44, t45, t46, t47, t48, t49, t50, t51, t52, t53, t54, t55, t56, t57, t58, t59, t60, t61, t62, t63, t64, t65, t66, t67, t68, t69, t70, t71, t72, t73, t74, t75, t76, t77, t78, t79, t80, t81, t82, t83, t84, t85, t86, t87, t88, t89, t90, t91, t92, t93, t94, t95, t96, t97, t98, t99, t100, t101, t102, t103, t104, t105, t106, t107, t108, t109, t110, t111, t112, t113, t114, t115, t116, t117, t118, t119, t120, t121, t122, t123, t124, t125, t126, t127, t128, t129, t130, t131, t132, t133, t134, t135, t136, t137, t138, t139, t140, t141, t142, t143, t144, t145, t146, t147, t148, t149, t150, t151, t152, t153, t154, t155, t156, t157, t158, t159, t160, t161, t162, t163, t164, t165, t166, t167, t168, t169, t170, t171, t172, t173, t174, t175, t176, t177, t178, t179, t180, t181, t182, t183, t184, t185, t186, t187, t188, t189, t190, t191, t192, t193, t194, t195, t196, t197, t198, t199, t200, t201, t202, t203, t204, t205, t206, t207, t208, t209, t210, t211, t212, t213, t214], []⟩ wr := by
  have f1 : IntKind.wrap .u64 ((T1 : Int) + (T2 : Int)) = (A4 : Int) := by rw [wrapU6, HA4.out]; omega
  have g1 : ((T1 : Int) + (T2 : Int)) % 18446744073709551616 = (A4 : Int) := by rw [HA4.out]; omega
  have f2 : IntKind.wrap .u64 ((rd : Int) + (T1 : Int)) = (A5 : Int) := by rw [wrapU6, HA5.out]; omega
  have g2 : ((rd : Int) + (T1 : Int)) % 18446744073709551616 = (A5 : Int) := by rw [HA5.out]; omega
  have HC1 := hid (fun X : World => rcut6 A4 AA X (by rw [HA4.out]; exact Nat.mod_lt _ (by decide)) HAA.out)
  have HC2 := hid (fun X : World => rcut6 A5 EE X (by rw [HA5.out]; exact Nat.mod_lt _ (by decide)) HEE.out)
  have c0 : wr.cell? ⟨b0, 0, none⟩ = some (.int .u64 64) := Lib.cell_of_heap HA.out 0
  have HC0 := hid c0
  have s0 : wr.cell? ⟨q, 0, none⟩ = some (.int .u64 (ra : Int)) := HR.out.cell 0 (by simp)
  have z0 : wr.frozen? ⟨q, 0, none⟩ = false := HR.out.free 0
  have s1 : wr.cell? ⟨q, 1, none⟩ = some (.int .u64 (rb : Int)) := HR.out.cell 1 (by simp)
  have z1 : wr.frozen? ⟨q, 1, none⟩ = false := HR.out.free 1
  have s2 : wr.cell? ⟨q, 2, none⟩ = some (.int .u64 (rc : Int)) := HR.out.cell 2 (by simp)
  have z2 : wr.frozen? ⟨q, 2, none⟩ = false := HR.out.free 2
  have s3 : wr.cell? ⟨q, 3, none⟩ = some (.int .u64 (rd : Int)) := HR.out.cell 3 (by simp)
  have z3 : wr.frozen? ⟨q, 3, none⟩ = false := HR.out.free 3
  have s4 : wr.cell? ⟨q, 4, none⟩ = some (.int .u64 (re : Int)) := HR.out.cell 4 (by simp)
  have z4 : wr.frozen? ⟨q, 4, none⟩ = false := HR.out.free 4
  have s5 : wr.cell? ⟨q, 5, none⟩ = some (.int .u64 (rf : Int)) := HR.out.cell 5 (by simp)
  have z5 : wr.frozen? ⟨q, 5, none⟩ = false := HR.out.free 5
  have s6 : wr.cell? ⟨q, 6, none⟩ = some (.int .u64 (rg : Int)) := HR.out.cell 6 (by simp)
  have z6 : wr.frozen? ⟨q, 6, none⟩ = false := HR.out.free 6
  have s7 : wr.cell? ⟨q, 7, none⟩ = some (.int .u64 (rh : Int)) := HR.out.cell 7 (by simp)
  have z7 : wr.frozen? ⟨q, 7, none⟩ = false := HR.out.free 7
  clear HA4 HA5 HAA HEE
  conv => arg 2; whnf
  have FIRST := hid (fun (Y : World) (h : Below wr.drew.heap.size wr.drew Y) => (⟨h.os, h.tape, h.output, h.size, h.block⟩ : Below wr.heap.size wr Y))
  have SECOND := hid (fun (X Y : World) (h1 : Below wr.heap.size wr X) (h2 : Below X.heap.size X Y) => (h1.trans (h2.mono h1.size) : Below wr.heap.size wr Y))
  have HSK := hid (fun (Y : World) (h : Below wr.heap.size wr Y) => (show (fun wx : World => Below wr.heap.size wr wx ∧ wx.cell? ⟨b0, 0, none⟩ = some (.int .u64 64) ∧ wx.cell? ⟨q, 0, none⟩ = some (.int .u64 (ra : Int)) ∧ wx.cell? ⟨q, 1, none⟩ = some (.int .u64 (rb : Int)) ∧ wx.cell? ⟨q, 2, none⟩ = some (.int .u64 (rc : Int)) ∧ wx.cell? ⟨q, 3, none⟩ = some (.int .u64 (rd : Int)) ∧ wx.cell? ⟨q, 4, none⟩ = some (.int .u64 (re : Int)) ∧ wx.cell? ⟨q, 5, none⟩ = some (.int .u64 (rf : Int)) ∧ wx.cell? ⟨q, 6, none⟩ = some (.int .u64 (rg : Int))) Y from ⟨h, kept_cell HC0.out h, kept_cell s0 h, kept_cell s1 h, kept_cell s2 h, kept_cell s3 h, kept_cell s4 h, kept_cell s5 h, kept_cell s6 h⟩))
  have HS0 := hid (HSK.out wr.drew ((Below.refl _ wr).drew))
  clear c0 HC0
  refine AnyBut.start (S := (fun wx : World => Below wr.heap.size wr wx ∧ wx.cell? ⟨b0, 0, none⟩ = some (.int .u64 64) ∧ wx.cell? ⟨q, 0, none⟩ = some (.int .u64 (ra : Int)) ∧ wx.cell? ⟨q, 1, none⟩ = some (.int .u64 (rb : Int)) ∧ wx.cell? ⟨q, 2, none⟩ = some (.int .u64 (rc : Int)) ∧ wx.cell? ⟨q, 3, none⟩ = some (.int .u64 (rd : Int)) ∧ wx.cell? ⟨q, 4, none⟩ = some (.int .u64 (re : Int)) ∧ wx.cell? ⟨q, 5, none⟩ = some (.int .u64 (rf : Int)) ∧ wx.cell? ⟨q, 6, none⟩ = some (.int .u64 (rg : Int)))) (n := 24) (by kernel_rfl) ?_
  refine' AnyBut.take (i := 0) (v := _) rfl (by kernel_rfl) (by kernel_rfl) (fun _ _ _ h => h) _ _ _ _ (by kernel_rfl) (by kernel_rfl) (Or.inl ⟨by kernel_rfl, ?hy0⟩) HS0.out ?rest0
  case hy0 => (intro wx hSw; obtain ⟨hBx, e0, d0, d1, d2, d3, d4, d5, d6⟩ := hSw; clear hBx; go_simp; first | done | with_reducible rfl)
  (try simp only [Act.put, List.setIfInBounds_toArray, List.set_cons_zero, List.set_cons_succ])
  refine' AnyBut.take (i := 1) (v := _) rfl (by kernel_rfl) (by kernel_rfl) (fun _ _ _ h => h) _ _ _ _ (by kernel_rfl) (by kernel_rfl) (Or.inl ⟨by kernel_rfl, ?hy1⟩) HS0.out ?rest1
  case hy1 => (intro wx hSw; obtain ⟨hBx, e0, d0, d1, d2, d3, d4, d5, d6⟩ := hSw; clear hBx; go_simp; first | done | with_reducible rfl)
  (try simp only [Act.put, List.setIfInBounds_toArray, List.set_cons_zero, List.set_cons_succ])
  refine' AnyBut.take (i := 2) (v := _) rfl (by kernel_rfl) (by kernel_rfl) (fun _ _ _ h => h) _ _ _ _ (by kernel_rfl) (by kernel_rfl) (Or.inl ⟨by kernel_rfl, ?hy2⟩) HS0.out ?rest2
  case hy2 => (intro wx hSw; obtain ⟨hBx, e0, d0, d1, d2, d3, d4, d5, d6⟩ := hSw; clear hBx; go_simp; first | done | with_reducible rfl)
  (try simp only [Act.put, List.setIfInBounds_toArray, List.set_cons_zero, List.set_cons_succ])
  refine' AnyBut.take (i := 3) (v := _) rfl (by kernel_rfl) (by kernel_rfl) (fun _ _ _ h => h) _ _ _ _ (by kernel_rfl) (by kernel_rfl) (Or.inl ⟨by kernel_rfl, ?hy3⟩) HS0.out ?rest3
  case hy3 => (intro wx hSw; obtain ⟨hBx, e0, d0, d1, d2, d3, d4, d5, d6⟩ := hSw; clear hBx; go_simp; first | done | with_reducible rfl)
  (try simp only [Act.put, List.setIfInBounds_toArray, List.set_cons_zero, List.set_cons_succ])
  refine' AnyBut.take (i := 5) (v := _) rfl (by kernel_rfl) (by kernel_rfl) (fun _ _ _ h => h) _ _ _ _ (by kernel_rfl) (by kernel_rfl) (Or.inl ⟨by kernel_rfl, ?hy5⟩) HS0.out ?rest5
  case hy5 => (intro wx hSw; obtain ⟨hBx, e0, d0, d1, d2, d3, d4, d5, d6⟩ := hSw; clear hBx; go_simp; first | done | with_reducible rfl)
  (try simp only [Act.put, List.setIfInBounds_toArray, List.set_cons_zero, List.set_cons_succ])
  refine' AnyBut.take (i := 6) (v := _) rfl (by kernel_rfl) (by kernel_rfl) (fun _ _ _ h => h) _ _ _ _ (by kernel_rfl) (by kernel_rfl) (Or.inl ⟨by kernel_rfl, ?hy6⟩) HS0.out ?rest6
  case hy6 => (intro wx hSw; obtain ⟨hBx, e0, d0, d1, d2, d3, d4, d5, d6⟩ := hSw; clear hBx; go_simp; first | done | with_reducible rfl)
  (try simp only [Act.put, List.setIfInBounds_toArray, List.set_cons_zero, List.set_cons_succ])
  refine' AnyBut.take (i := 7) (v := _) rfl (by kernel_rfl) (by kernel_rfl) (fun _ _ _ h => h) _ _ _ _ (by kernel_rfl) (by kernel_rfl) (Or.inl ⟨by kernel_rfl, ?hy7⟩) HS0.out ?rest7
  case hy7 => (intro wx hSw; obtain ⟨hBx, e0, d0, d1, d2, d3, d4, d5, d6⟩ := hSw; clear hBx; go_simp; first | done | with_reducible rfl)
  (try simp only [Act.put, List.setIfInBounds_toArray, List.set_cons_zero, List.set_cons_succ])
  refine' AnyBut.take (i := 8) (v := _) rfl (by kernel_rfl) (by kernel_rfl) (fun _ _ _ h => h) _ _ _ _ (by kernel_rfl) (by kernel_rfl) (Or.inl ⟨by kernel_rfl, ?hy8⟩) HS0.out ?rest8
  case hy8 => (intro wx hSw; obtain ⟨hBx, e0, d0, d1, d2, d3, d4, d5, d6⟩ := hSw; clear hBx; go_simp; first | done | with_reducible rfl)
  (try simp only [Act.put, List.setIfInBounds_toArray, List.set_cons_zero, List.set_cons_succ])
  refine' AnyBut.take (i := 9) (v := _) rfl (by kernel_rfl) (by kernel_rfl) (fun _ _ _ h => h) _ _ _ _ (by kernel_rfl) (by kernel_rfl) (Or.inl ⟨by kernel_rfl, ?hy9⟩) HS0.out ?rest9
  case hy9 => (intro wx hSw; obtain ⟨hBx, e0, d0, d1, d2, d3, d4, d5, d6⟩ := hSw; clear hBx; go_simp; first | done | with_reducible rfl)
  (try simp only [Act.put, List.setIfInBounds_toArray, List.set_cons_zero, List.set_cons_succ])
  refine' AnyBut.take (i := 10) (v := _) rfl (by kernel_rfl) (by kernel_rfl) (fun _ _ _ h => h) _ _ _ _ (by kernel_rfl) (by kernel_rfl) (Or.inl ⟨by kernel_rfl, ?hy10⟩) HS0.out ?rest10
  case hy10 => (intro wx hSw; obtain ⟨hBx, e0, d0, d1, d2, d3, d4, d5, d6⟩ := hSw; clear hBx; go_simp; first | done | with_reducible rfl)
  (try simp only [Act.put, List.setIfInBounds_toArray, List.set_cons_zero, List.set_cons_succ])
  refine' AnyBut.take (i := 11) (v := _) rfl (by kernel_rfl) (by kernel_rfl) (fun _ _ _ h => h) _ _ _ _ (by kernel_rfl) (by kernel_rfl) (Or.inl ⟨by kernel_rfl, ?hy11⟩) HS0.out ?rest11
  case hy11 => (intro wx hSw; obtain ⟨hBx, e0, d0, d1, d2, d3, d4, d5, d6⟩ := hSw; clear hBx; go_simp; first | done | with_reducible rfl)
  (try simp only [Act.put, List.setIfInBounds_toArray, List.set_cons_zero, List.set_cons_succ])
  refine' AnyBut.take (i := 12) (v := _) rfl (by kernel_rfl) (by kernel_rfl) (fun _ _ _ h => h) _ _ _ _ (by kernel_rfl) (by kernel_rfl) (Or.inl ⟨by kernel_rfl, ?hy12⟩) HS0.out ?rest12
  case hy12 => (intro wx hSw; obtain ⟨hBx, e0, d0, d1, d2, d3, d4, d5, d6⟩ := hSw; clear hBx; go_simp; first | done | with_reducible rfl)
  (try simp only [Act.put, List.setIfInBounds_toArray, List.set_cons_zero, List.set_cons_succ])
  refine' AnyBut.take (i := 13) (v := _) rfl (by kernel_rfl) (by kernel_rfl) (fun _ _ _ h => h) _ _ _ _ (by kernel_rfl) (by kernel_rfl) (Or.inl ⟨by kernel_rfl, ?hy13⟩) HS0.out ?rest13
  case hy13 => (intro wx hSw; obtain ⟨hBx, e0, d0, d1, d2, d3, d4, d5, d6⟩ := hSw; clear hBx; go_simp; first | done | with_reducible rfl)
  (try simp only [Act.put, List.setIfInBounds_toArray, List.set_cons_zero, List.set_cons_succ])
  refine' AnyBut.take (i := 14) (v := _) rfl (by kernel_rfl) (by kernel_rfl) (fun _ _ _ h => h) _ _ _ _ (by kernel_rfl) (by kernel_rfl) (Or.inl ⟨by kernel_rfl, ?hy14⟩) HS0.out ?rest14
  case hy14 => (intro wx hSw; obtain ⟨hBx, e0, d0, d1, d2, d3, d4, d5, d6⟩ := hSw; clear hBx; go_simp; first | done | with_reducible rfl)
  (try simp only [Act.put, List.setIfInBounds_toArray, List.set_cons_zero, List.set_cons_succ])
  refine' AnyBut.take (i := 15) (v := _) rfl (by kernel_rfl) (by kernel_rfl) (fun _ _ _ h => h) _ _ _ _ (by kernel_rfl) (by kernel_rfl) (Or.inl ⟨by kernel_rfl, ?hy15⟩) HS0.out ?rest15
  case hy15 => (intro wx hSw; obtain ⟨hBx, e0, d0, d1, d2, d3, d4, d5, d6⟩ := hSw; clear hBx; go_simp; first | done | with_reducible rfl)
  (try simp only [Act.put, List.setIfInBounds_toArray, List.set_cons_zero, List.set_cons_succ])
  refine' AnyBut.take (i := 17) (v := _) rfl (by kernel_rfl) (by kernel_rfl) (fun _ _ _ h => h) _ _ _ _ (by kernel_rfl) (by kernel_rfl) (Or.inl ⟨by kernel_rfl, ?hy17⟩) HS0.out ?rest17
  case hy17 => (intro wx hSw; obtain ⟨hBx, e0, d0, d1, d2, d3, d4, d5, d6⟩ := hSw; clear hBx; go_simp; first | done | with_reducible rfl)
  (try simp only [Act.put, List.setIfInBounds_toArray, List.set_cons_zero, List.set_cons_succ])
  refine' AnyBut.take (i := 18) (v := _) rfl (by kernel_rfl) (by kernel_rfl) (fun _ _ _ h => h) _ _ _ _ (by kernel_rfl) (by kernel_rfl) (Or.inl ⟨by kernel_rfl, ?hy18⟩) HS0.out ?rest18
  case hy18 => (intro wx hSw; obtain ⟨hBx, e0, d0, d1, d2, d3, d4, d5, d6⟩ := hSw; clear hBx; go_simp; first | done | with_reducible rfl)
  (try simp only [Act.put, List.setIfInBounds_toArray, List.set_cons_zero, List.set_cons_succ])
  refine' AnyBut.take (i := 19) (v := _) rfl (by kernel_rfl) (by kernel_rfl) (fun _ _ _ h => h) _ _ _ _ (by kernel_rfl) (by kernel_rfl) (Or.inl ⟨by kernel_rfl, ?hy19⟩) HS0.out ?rest19
  case hy19 => (intro wx hSw; obtain ⟨hBx, e0, d0, d1, d2, d3, d4, d5, d6⟩ := hSw; clear hBx; go_simp; first | done | with_reducible rfl)
  (try simp only [Act.put, List.setIfInBounds_toArray, List.set_cons_zero, List.set_cons_succ])
  refine' AnyBut.take (i := 20) (v := _) rfl (by kernel_rfl) (by kernel_rfl) (fun _ _ _ h => h) _ _ _ _ (by kernel_rfl) (by kernel_rfl) (Or.inl ⟨by kernel_rfl, ?hy20⟩) HS0.out ?rest20
  case hy20 => (intro wx hSw; obtain ⟨hBx, e0, d0, d1, d2, d3, d4, d5, d6⟩ := hSw; clear hBx; go_simp; first | done | with_reducible rfl)
  (try simp only [Act.put, List.setIfInBounds_toArray, List.set_cons_zero, List.set_cons_succ])
  refine' AnyBut.take (i := 21) (v := _) rfl (by kernel_rfl) (by kernel_rfl) (fun _ _ _ h => h) _ _ _ _ (by kernel_rfl) (by kernel_rfl) (Or.inl ⟨by kernel_rfl, ?hy21⟩) HS0.out ?rest21
  case hy21 => (intro wx hSw; obtain ⟨hBx, e0, d0, d1, d2, d3, d4, d5, d6⟩ := hSw; clear hBx; go_simp; first | done | with_reducible rfl)
  (try simp only [Act.put, List.setIfInBounds_toArray, List.set_cons_zero, List.set_cons_succ])
  refine' AnyBut.take (i := 22) (v := _) rfl (by kernel_rfl) (by kernel_rfl) (fun _ _ _ h => h) _ _ _ _ (by kernel_rfl) (by kernel_rfl) (Or.inl ⟨by kernel_rfl, ?hy22⟩) HS0.out ?rest22
  case hy22 => (intro wx hSw; obtain ⟨hBx, e0, d0, d1, d2, d3, d4, d5, d6⟩ := hSw; clear hBx; go_simp; first | done | with_reducible rfl)
  (try simp only [Act.put, List.setIfInBounds_toArray, List.set_cons_zero, List.set_cons_succ])
  refine AnyBut.one (i := 4) (by kernel_rfl) rfl (fun K' hK => ?_)
  rw [if_pos (by kernel_rfl)]
  go_simp
  go_wp2_with (go_at_call 66; refine (HC1.out _).mono ?_; rintro e wa ⟨rfl, hba⟩)
  have HQ1 := hid (FIRST.out wa hba)
  have HS1 := hid (HSK.out wa HQ1.out)
  clear hba
  refine hK.out _ _ HS1.out ?_
  clear hK K' HS0
  refine AnyBut.one (i := 16) (by kernel_rfl) rfl (fun K' hK => ?_)
  rw [if_pos (by kernel_rfl)]
  go_simp
  go_wp2_with (go_at_call 66; refine (HC2.out _).mono ?_; rintro e wb ⟨rfl, hbb⟩)
  have HQ2 := hid (SECOND.out wa wb HQ1.out hbb)
  have HS2 := hid (HSK.out wb HQ2.out)
  clear hbb
  refine hK.out _ _ HS2.out ?_
  clear hK K' HS1
  refine' AnyBut.take (i := 23) (v := _) rfl (by kernel_rfl) (by kernel_rfl) (fun _ _ _ h => h) _ _ _ _ (by kernel_rfl) (by kernel_rfl) (Or.inl ⟨by kernel_rfl, ?hy23⟩) HS2.out ?rest23
  case hy23 => (intro wx hSw; obtain ⟨hBx, e0, d0, d1, d2, d3, d4, d5, d6⟩ := hSw; clear hBx; go_simp; first | done | with_reducible rfl)
  (try simp only [Act.put, List.setIfInBounds_toArray, List.set_cons_zero, List.set_cons_succ])
  obtain ⟨p0, y0⟩ := kept_both (X := wr) (a := ⟨q, 0, none⟩) (v := .int .u64 (ra : Int)) s0 z0 HQ2.out; obtain ⟨p1, y1⟩ := kept_both (X := wr) (a := ⟨q, 1, none⟩) (v := .int .u64 (rb : Int)) s1 z1 HQ2.out; obtain ⟨p2, y2⟩ := kept_both (X := wr) (a := ⟨q, 2, none⟩) (v := .int .u64 (rc : Int)) s2 z2 HQ2.out; obtain ⟨p3, y3⟩ := kept_both (X := wr) (a := ⟨q, 3, none⟩) (v := .int .u64 (rd : Int)) s3 z3 HQ2.out; obtain ⟨p4, y4⟩ := kept_both (X := wr) (a := ⟨q, 4, none⟩) (v := .int .u64 (re : Int)) s4 z4 HQ2.out; obtain ⟨p5, y5⟩ := kept_both (X := wr) (a := ⟨q, 5, none⟩) (v := .int .u64 (rf : Int)) s5 z5 HQ2.out; obtain ⟨p6, y6⟩ := kept_both (X := wr) (a := ⟨q, 6, none⟩) (v := .int .u64 (rg : Int)) s6 z6 HQ2.out; obtain ⟨p7, y7⟩ := kept_both (X := wr) (a := ⟨q, 7, none⟩) (v := .int .u64 (rh : Int)) s7 z7 HQ2.out
  refine AnyBut.last (by kernel_rfl) (by kernel_rfl) rfl (fun K' hK => ?_)
  rw [if_pos (by kernel_rfl)]
  go_simp
  go_wp2_with fail
  refine hK.out _ _ ?_
  exact HK.out _ _ _ _ _ _ _ _ _ _ _ _ _ _ _ _ _ _ _ _ _ _ _ _ wb _ HQ2.out rfl

end Go.Proofs.YtbdlicomkpnalaaGreatDoor
