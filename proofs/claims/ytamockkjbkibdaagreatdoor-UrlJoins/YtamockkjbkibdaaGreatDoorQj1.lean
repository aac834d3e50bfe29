/-
  Walks and plain facts that this claim leans on, put together out of 3 texts: Yrg, Ersa, Ersb.
-/
import Derived.Test.YtamockkjbkibdaaGreatDoorProg
import Derived.Test.YtamockkjbkibdaaGreatDoorQa1
import Derived.Test.YtamockkjbkibdaaGreatDoorQa2
import Derived.Test.YtamockkjbkibdaaGreatDoorQa3
import Derived.Test.YtamockkjbkibdaaGreatDoorQa4
import Derived.Test.YtamockkjbkibdaaGreatDoorQa5
import Derived.Test.YtamockkjbkibdaaGreatDoorQa6
import Derived.Test.YtamockkjbkibdaaGreatDoorQa7
import Derived.Test.YtamockkjbkibdaaGreatDoorQa8
import Derived.Test.YtamockkjbkibdaaGreatDoorQa9
import Derived.Test.YtamockkjbkibdaaGreatDoorQa10
import Derived.Test.YtamockkjbkibdaaGreatDoorQa11
import Derived.Test.YtamockkjbkibdaaGreatDoorQa12
import Derived.Test.YtamockkjbkibdaaGreatDoorQa13
import Derived.Test.YtamockkjbkibdaaGreatDoorQa14
import Derived.Test.YtamockkjbkibdaaGreatDoorQa15
import Derived.Test.YtamockkjbkibdaaGreatDoorQa16
import Derived.Test.YtamockkjbkibdaaGreatDoorQa17
import Derived.Test.YtamockkjbkibdaaGreatDoorQa18
import Derived.Test.YtamockkjbkibdaaGreatDoorQa19
import Derived.Test.YtamockkjbkibdaaGreatDoorQa20
import Derived.Test.YtamockkjbkibdaaGreatDoorQa21
import Derived.Test.YtamockkjbkibdaaGreatDoorQa22
import Derived.Test.YtamockkjbkibdaaGreatDoorQa23
import Derived.Test.YtamockkjbkibdaaGreatDoorQa24
import Derived.Test.YtamockkjbkibdaaGreatDoorQa25
import Derived.Test.YtamockkjbkibdaaGreatDoorQa26
import Derived.Test.YtamockkjbkibdaaGreatDoorQa27
import Derived.Test.YtamockkjbkibdaaGreatDoorQa28
import Derived.WalkKit
import Derived.Deep.RegionHeld
import Derived.Lib.IndexMore
import Derived.Lib.Join
import Derived.Lib.LastIndexByte
import Derived.Lib.Strings
import Derived.Lib.UnsafeStr
import Derived.Laws.IdiomStrings
import Derived.Laws.AppendOwn
import Derived.Laws.BitsAllLaws
import Derived.Lib.Bytealg
import Derived.Lib.BufferMore
import Derived.LoopN
import Derived.RegionTactic
import Derived.Deep.RegionWith
import Derived.Deep.QuietTactic
import Derived.BigQuiet
import Derived.Laws.OwnMore
import Derived.Shelf.Strings.Builder1
import Derived.Shelf.Strings.Builder2
import Derived.Shelf.Strings.OnBuilder
import Derived.Shelf.Strings.Trim
import Derived.Shelf.Small.Utf8
import Derived.Shelf.Small.Strs
import Derived.Shelf.Small.Wraps
import Derived.Shelf.Strings.BuilderF
import Derived.Shelf.Strings.BuilderK
import Derived.Shelf.Strings.BuilderRune
import Derived.Shelf.Utf8.AppendRune
import Derived.Shelf.Utf8.AppendRunePlain
import Derived.Shelf.Strings.Builder2Cap
import Derived.Shelf.Strconv.Itoa0
import Derived.Shelf.Strconv.Itoa1
import Derived.Shelf.LaysM
import Derived.Shelf.Strconv.Itoa2
import Derived.Shelf.Strconv.Itoa3
import Derived.Shelf.Strings.Search1
import Derived.Shelf.Strings.Search2
import Derived.Shelf.Strings.Search3
import Derived.Shelf.Strings.Cut
import Derived.Shelf.Strings.Count
import Derived.Shelf.Strings.Shaped
import Derived.Shelf.Strings.LastIndex
import Derived.Shelf.Strings.Prefix
import Derived.Shelf.Strings.Split
import Derived.Shelf.Strings.Replace
import Derived.Shelf.Strings.Runes
import Derived.Shelf.Strings.IndexAny
import Derived.Shelf.Strings.AsciiSet
import Derived.Shelf.Strings.IndexAnyAll
import Derived.Shelf.Unicode.DecodeSlow
import Derived.Ground.Names2Prog
import Derived.Shelf.Slices.Clone
import Derived.Ground.SlgnProg
import Derived.Shelf.SlicesE.Clone
import Derived.Scope
import Derived.ScopeJumps
import Derived.WalkMore
import Derived.Lib.IndexAny
import Derived.Lib.Replace
import Derived.Lib.TrimByte
import Derived.Lib.ItoaNum
import Derived.Laws.RangeAny
import Derived.Lib.DecodeN
import Derived.Lib.OthersKept
import Derived.Deep.LoopGhost
import Derived.Laws.BytesString
import Derived.Deep.WholeRow
import Derived.BigRegion
import Derived.WalkSpells
import Derived.WalkLawsBesides
import Derived.Lib.AppendIntMem
import Derived.Lib.SmallJoins
import Derived.WalkSmall
import Derived.OwnWalk
import Derived.Laws.CopyOwn
import Derived.Laws.ResultCell
import Derived.Deep.MidRow
import Derived.Lib.FrozenHead2
import Derived.Lib.Builder
import Derived.Deep.RegionLaw
set_option linter.unusedSimpArgs false
set_option linter.unusedVariables false

namespace Go.Proofs.YtamockkjbkibdaaGreatDoor
open Go.RowKit

def regOf (n : Nat) : Code → Option Code
 | .region id ops d => if id = n then some (.region id ops d) else none
 | .seq a b => match regOf n a with
  | some c => some c
  | none => regOf n b
 | .block _ c => regOf n c
 | .loop c => regOf n c
 | .scope c => regOf n c
 | .cond _ a b => match regOf n a with
  | some c => some c
  | none => regOf n b
 | _ => none

theorem wp_reg {P : Program} {c : Code} {Q : Exit → Act → World → Prop} {a : Act} {w : World} (h : c.wp P (Exit.then (fun a w => Q .normal a w) fun _ _ _ => False) a w) : c.wp P Q a w :=
 Code.wp_mono (fun e a w h => by cases e <;> first | exact h | exact h.elim) h

theorem cell_kept3 {w w' : World} {a : Addr} {v : Value} (h : w.cell? a = some v) (hb : Below w.heap.size w w') : w'.cell? a = some v := (hb.cell (World.block_lt_of_cell? w _ h)).trans h

theorem wpAnyH_to {P : Program} {md : Region.Mode} {ops : Array Oper} {Q : Exit → Act → World → Prop} {S : World → Prop} {fuel fuel' : Nat} {listed listed' : Array Bool} {a : Act} {w : World} (hf : fuel = fuel') (hl : listed = listed') (h : wpAnyH P md ops Q S fuel' listed' a w) : wpAnyH P md ops Q S fuel listed a w := by
 subst hf; subst hl; exact h

end Go.Proofs.YtamockkjbkibdaaGreatDoor

namespace Go.Proofs.YtamockkjbkibdaaGreatDoor
open Go.RowKit

noncomputable def rg12 : Code := (Tryz.f50.body.bind (regOf 12)).getD .skip

set_option maxHeartbeats 20000000 in
set_option maxRecDepth 100000 in
theorem rr12 (t0 t2 t3 t4 t5 t6 t7 t9 t10 t11 t12 t13 t14 t15 t16 t17 t18 t19 t20 t21 t22 t23 t24 t25 t26 t27 t28 t29 t30 t31 t32 t33 t34 t35 t36 t37 t38 t39 t40 t41 t42 t43 t44 t45 t46 t47 t48 t49 t50 t51 t52 t53 t54 t55 t56 t57 t58 t59 t60 t61 t62 t63 t64 t65 t66 t67 t68 t69 t70 t71 t72 t73 t74 t75 t76 t77 t78 t79 t80 t81 t82 t83 t84 t85 t86 t87 t88 t89 t90 t91 t92 t93 t94 t95 t96 t97 t98 t99 t100 t101 t102 t103 t104 t105 t106 t107 t108 t109 t110 t111 t112 t113 t114 t115 t116 t117 t118 t119 t120 t121 t122 t123 t124 t125 t126 t127 t128 t129 t130 t131 t132 t133 t134 t135 t136 t137 t138 t139 t140 t141 t142 t143 t144 t145 t146 t147 t148 t149 t150 t151 t152 t153 t154 t155 t156 t157 t158 t159 t160 t161 t162 t163 t164 t165 t166 t167 t168 t169 t170 t171 t172 t173 t174 t175 t176 t177 t178 t179 t180 t181 t182 t183 t184 t185 t186 t187 t188 t189 t190 t191 t192 t193 t194 t195 t196 t197 t198 t199 t200 : Value) (wr : World) (bb ub : Nat) (y1 y2 y3 : ByteArray) (y4 : Bool) (y5 : Int) (U : Adr) (pv : Value) (hne : bb ≠ ub)
  (hb : wr.cell? ⟨bb, 1, none⟩ = some (.string y1) ∧ wr.cell? ⟨bb, 2, none⟩ = some (.string y2) ∧ wr.cell? ⟨bb, 3, none⟩ = some (.string y3) ∧ wr.cell? ⟨bb, 4, none⟩ = some (.bool y4) ∧ wr.cell? ⟨bb, 5, none⟩ = some (.int .i64 y5))
  (hu : AdrIn wr ub U pv) (K : Act → World → Prop)
  (HK : Hid (∀ (u70 u71 u72 u73 u74 u75 u76 u77 u78 u79 u80 u81 u82 u83 u84 u85 u86 u87 u88 u89 u90 u91 u92 u93 u94 : Value) (w2 : World), w2 = (((((wr.drew.setCell ⟨ub, 1, none⟩ (.string y1)).setCell ⟨ub, 2, none⟩ (.string y2)).setCell ⟨ub, 3, none⟩ (.string y3)).setCell ⟨ub, 4, none⟩ (.bool y4)).setCell ⟨ub, 5, none⟩ (.int .i64 y5)) → K ⟨#[t0, .pointer (some ⟨bb, 0, none⟩), t2, t3, t4, t5, t6, t7, .pointer (some ⟨ub, 0, none⟩), t9, t10, t11, t12, t13, t14, t15, t16, t17, t18, t19, t20, t21, t22, t23, t24, t25, t26, t27, t28, t29, t30, t31, t32, t33, t34, t35, t36, t37, t38, t39, t40, t41, t42, t43, t44, t45, t46, t47, t48, t49, t50, t51, t52, t53, t54, t55, t56, t57, t58, t59, t60, t61, t62, t63, t64, t65, t66, t67, t68, t69, u70, u71, u72, u73, u74, u75, u76, u77, u78, u79, u80, u81, u82, u83, u84, u85, u86, u87, u88, u89, u90, u91, u92, u93, u94, t95, t96, t97, t98, t99, t100, t101, t102, t103, t104, t105, t106, t107, t108, t109, t110, t111, t112, t113, t114, t115, t116, t117, t118, t119, t120, t121, t122, t123, t124, t125, t126, t127, t128, t129, t130, t131, t132, t133, t134, t135, t136, t137, t138, t139, t140, t141, t142, t143, t144, t145, t146, t147, t148, t149, t150, t151, t152, t153, t154, t155, t156, t157, t158, t159, t160, t161, t162, t163, t164, t165, t166, t167, t168, t169, t170, t171, t172, t173, t174, t175, t176, t177, t178, t179, t180, t181, t182, t183, t184, t185, t186, t187, t188, t189, t190, t191, t192, t193, t194, t195, t196, t197, t198, t199, t200], []⟩ w2)) :
  Code.wp Tryz.prog rg12 (Exit.then K fun _ _ _ => False) ⟨#[t0, .pointer (some ⟨bb, 0, none⟩), t2, t3, t4, t5, t6, t7, .pointer (some ⟨ub, 0, none⟩), t9, t10, t11, t12, t13, t14, t15, t16, t17, t18, t19, t20, t21, t22, t23, t24, t25, t26, t27, t28, t29, t30, t31, t32, t33, t34, t35, t36, t37, t38, t39, t40, t41, t42, t43, t44, t45, t46, t47, t48, t49, t50, t51, t52, t53, t54, t55, t56, t57, t58, t59, t60, t61, t62, t63, t64, t65, t66, t67, t68, t69, t70, t71, t72, t73, t74, t75, t76, t77, t78, t79, t80, t81, t82, t83, t84, t85, t86, t87, t88, t89, t90, t91, t92, t93, t94, t95, t96, t97, t98, t99, t100, t101, t102, t103, t104, t105, t106, t107, t108, t109, t110, t111, t112, t113, t114, t115, t116, t117, t118, t119, t120, t121, t122, t123, t124, t125, t126, t127, t128, t129, t130, t131, t132, t133, t134, t135, t136, t137, t138, t139, t140, t141, t142, t143, t144, t145, t146, t147, t148, t149, t150, t151, t152, t153, t154, t155, t156, t157, t158, t159, t160, t161, t162, t163, t164, t165, t166, t167, t168, t169, t170, t171, t172, t173, t174, t175, t176, t177, t178, t179, t180, t181, t182, t183, t184, t185, t186, t187, t188, t189, t190, t191, t192, t193, t194, t195, t196, t197, t198, t199, t200], []⟩ wr := by
 have HS := hid (fun (X : World) (j : Nat) (v : Value) (h : X.cell? ⟨bb, 1, none⟩ = some (.string y1) ∧ X.cell? ⟨bb, 2, none⟩ = some (.string y2) ∧ X.cell? ⟨bb, 3, none⟩ = some (.string y3) ∧ X.cell? ⟨bb, 4, none⟩ = some (.bool y4) ∧ X.cell? ⟨bb, 5, none⟩ = some (.int .i64 y5)) => (show (X.setCell ⟨ub, j, none⟩ v).cell? ⟨bb, 1, none⟩ = some (.string y1) ∧ (X.setCell ⟨ub, j, none⟩ v).cell? ⟨bb, 2, none⟩ = some (.string y2) ∧ (X.setCell ⟨ub, j, none⟩ v).cell? ⟨bb, 3, none⟩ = some (.string y3) ∧ (X.setCell ⟨ub, j, none⟩ v).cell? ⟨bb, 4, none⟩ = some (.bool y4) ∧ (X.setCell ⟨ub, j, none⟩ v).cell? ⟨bb, 5, none⟩ = some (.int .i64 y5) from by
  have e : ∀ k, (X.setCell ⟨ub, j, none⟩ v).cell? ⟨bb, k, none⟩ = X.cell? ⟨bb, k, none⟩ := fun k => World.cell?_of_block (heap_setCell_other _ _ _ _ hne)
  exact ⟨(e 1).trans h.1, (e 2).trans h.2.1, (e 3).trans h.2.2.1, (e 4).trans h.2.2.2.1, (e 5).trans h.2.2.2.2⟩))
 have HU0 := hid (show AdrIn wr.drew ub U pv from hu)
 clear hne hu
 conv => arg 2; whnf
 refine wp_region_held_drew (S := (fun wx => wx.cell? ⟨bb, 1, none⟩ = some (.string y1) ∧ wx.cell? ⟨bb, 2, none⟩ = some (.string y2) ∧ wx.cell? ⟨bb, 3, none⟩ = some (.string y3) ∧ wx.cell? ⟨bb, 4, none⟩ = some (.bool y4) ∧ wx.cell? ⟨bb, 5, none⟩ = some (.int .i64 y5))) (by kernel_rfl) hb (fun hHeld => ?_)
 clear hb
 generalize hW0 : wr.drew = W0 at HU0 hHeld ⊢
 have HW0 := hid hW0
 clear hW0
 refine wpAnyH_to (fuel' := 30) (listed' := #[false, false, false, false, false, false, false, false, false, false, false, false, false, false, false, false, false, false, false, false, false, false, false, false, false, false, false, false, false, false]) rfl rfl ?_
 refine' wpAnyH_take (i := 0) (oi := ⟨some 70, _, _, _, _, _⟩) (v := _) rfl (by kernel_rfl) (by kernel_rfl) (by kernel_rfl) (fun _ _ _ h => h) (Or.inl ⟨by kernel_rfl, ?hy1⟩) (by assumption) ?rest1
 case hy1 => (intro wx hSw; (try dsimp only at hSw); obtain ⟨k1, k2, k3, k4, k5⟩ := hSw; go_simp; first | done | with_reducible rfl)
 (try simp only [Act.put, List.setIfInBounds_toArray, List.set_cons_zero, List.set_cons_succ])
 refine' wpAnyH_take (i := 1) (oi := ⟨some 71, _, _, _, _, _⟩) (v := _) rfl (by kernel_rfl) (by kernel_rfl) (by kernel_rfl) (fun _ _ _ h => h) (Or.inl ⟨by kernel_rfl, ?hy2⟩) (by assumption) ?rest2
 case hy2 => (intro wx hSw; (try dsimp only at hSw); obtain ⟨k1, k2, k3, k4, k5⟩ := hSw; go_simp; first | done | with_reducible rfl)
 (try simp only [Act.put, List.setIfInBounds_toArray, List.set_cons_zero, List.set_cons_succ])
 refine' wpAnyH_take (i := 2) (oi := ⟨some 72, _, _, _, _, _⟩) (v := _) rfl (by kernel_rfl) (by kernel_rfl) (by kernel_rfl) (fun _ _ _ h => h) (Or.inl ⟨by kernel_rfl, ?hy3⟩) (by assumption) ?rest3
 case hy3 => (intro wx hSw; (try dsimp only at hSw); obtain ⟨k1, k2, k3, k4, k5⟩ := hSw; go_simp; first | done | with_reducible rfl)
 (try simp only [Act.put, List.setIfInBounds_toArray, List.set_cons_zero, List.set_cons_succ])
 refine' wpAnyH_take (i := 3) (oi := ⟨some 73, _, _, _, _, _⟩) (v := _) rfl (by kernel_rfl) (by kernel_rfl) (by kernel_rfl) (fun _ _ _ h => h) (Or.inl ⟨by kernel_rfl, ?hy4⟩) (by assumption) ?rest4
 case hy4 => (intro wx hSw; (try dsimp only at hSw); obtain ⟨k1, k2, k3, k4, k5⟩ := hSw; go_simp; first | done | with_reducible rfl)
 (try simp only [Act.put, List.setIfInBounds_toArray, List.set_cons_zero, List.set_cons_succ])
 refine' wpAnyH_take (i := 4) (oi := ⟨some 74, _, _, _, _, _⟩) (v := _) rfl (by kernel_rfl) (by kernel_rfl) (by kernel_rfl) (fun _ _ _ h => h) (Or.inl ⟨by kernel_rfl, ?hy5⟩) (by assumption) ?rest5
 case hy5 => (intro wx hSw; (try dsimp only at hSw); obtain ⟨k1, k2, k3, k4, k5⟩ := hSw; go_simp; first | done | with_reducible rfl)
 (try simp only [Act.put, List.setIfInBounds_toArray, List.set_cons_zero, List.set_cons_succ])
 refine' wpAnyH_take (i := 5) (oi := ⟨some 75, _, _, _, _, _⟩) (v := _) rfl (by kernel_rfl) (by kernel_rfl) (by kernel_rfl) (fun _ _ _ h => h) (Or.inl ⟨by kernel_rfl, ?hy6⟩) (by assumption) ?rest6
 case hy6 => (intro wx hSw; (try dsimp only at hSw); obtain ⟨k1, k2, k3, k4, k5⟩ := hSw; go_simp; first | done | with_reducible rfl)
 (try simp only [Act.put, List.setIfInBounds_toArray, List.set_cons_zero, List.set_cons_succ])
 refine' wpAnyH_take (i := 6) (oi := ⟨some 76, _, _, _, _, _⟩) (v := _) rfl (by kernel_rfl) (by kernel_rfl) (by kernel_rfl) (fun _ _ _ h => h) (Or.inl ⟨by kernel_rfl, ?hy7⟩) (by assumption) ?rest7
 case hy7 => (intro wx hSw; (try dsimp only at hSw); obtain ⟨k1, k2, k3, k4, k5⟩ := hSw; go_simp; first | done | with_reducible rfl)
 (try simp only [Act.put, List.setIfInBounds_toArray, List.set_cons_zero, List.set_cons_succ])
 refine' wpAnyH_take (i := 7) (oi := ⟨some 77, _, _, _, _, _⟩) (v := _) rfl (by kernel_rfl) (by kernel_rfl) (by kernel_rfl) (fun _ _ _ h => h) (Or.inl ⟨by kernel_rfl, ?hy8⟩) (by assumption) ?rest8
 case hy8 => (intro wx hSw; (try dsimp only at hSw); obtain ⟨k1, k2, k3, k4, k5⟩ := hSw; go_simp; first | done | with_reducible rfl)
 (try simp only [Act.put, List.setIfInBounds_toArray, List.set_cons_zero, List.set_cons_succ])
 refine' wpAnyH_take (i := 8) (oi := ⟨some 78, _, _, _, _, _⟩) (v := _) rfl (by kernel_rfl) (by kernel_rfl) (by kernel_rfl) (fun _ _ _ h => h) (Or.inl ⟨by kernel_rfl, ?hy9⟩) (by assumption) ?rest9
 case hy9 => (intro wx hSw; (try dsimp only at hSw); obtain ⟨k1, k2, k3, k4, k5⟩ := hSw; go_simp; first | done | with_reducible rfl)
 (try simp only [Act.put, List.setIfInBounds_toArray, List.set_cons_zero, List.set_cons_succ])
 refine' wpAnyH_take (i := 9) (oi := ⟨some 79, _, _, _, _, _⟩) (v := _) rfl (by kernel_rfl) (by kernel_rfl) (by kernel_rfl) (fun _ _ _ h => h) (Or.inl ⟨by kernel_rfl, ?hy10⟩) (by assumption) ?rest10
 case hy10 => (intro wx hSw; (try dsimp only at hSw); obtain ⟨k1, k2, k3, k4, k5⟩ := hSw; go_simp; first | done | with_reducible rfl)
 (try simp only [Act.put, List.setIfInBounds_toArray, List.set_cons_zero, List.set_cons_succ])
 refine' wpAnyH_take (i := 10) (oi := ⟨some 80, _, _, _, _, _⟩) (v := _) rfl (by kernel_rfl) (by kernel_rfl) (by kernel_rfl) (fun _ _ _ h => h) (Or.inl ⟨by kernel_rfl, ?hy11⟩) (by assumption) ?rest11
 case hy11 => (intro wx hSw; (try dsimp only at hSw); obtain ⟨k1, k2, k3, k4, k5⟩ := hSw; go_simp; first | done | with_reducible rfl)
 (try simp only [Act.put, List.setIfInBounds_toArray, List.set_cons_zero, List.set_cons_succ])
 refine' wpAnyH_take (i := 11) (oi := ⟨some 81, _, _, _, _, _⟩) (v := _) rfl (by kernel_rfl) (by kernel_rfl) (by kernel_rfl) (fun _ _ _ h => h) (Or.inl ⟨by kernel_rfl, ?hy12⟩) (by assumption) ?rest12
 case hy12 => (intro wx hSw; (try dsimp only at hSw); obtain ⟨k1, k2, k3, k4, k5⟩ := hSw; go_simp; first | done | with_reducible rfl)
 (try simp only [Act.put, List.setIfInBounds_toArray, List.set_cons_zero, List.set_cons_succ])
 refine' wpAnyH_take (i := 12) (oi := ⟨some 82, _, _, _, _, _⟩) (v := _) rfl (by kernel_rfl) (by kernel_rfl) (by kernel_rfl) (fun _ _ _ h => h) (Or.inl ⟨by kernel_rfl, ?hy13⟩) (by assumption) ?rest13
 case hy13 => (intro wx hSw; (try dsimp only at hSw); obtain ⟨k1, k2, k3, k4, k5⟩ := hSw; go_simp; first | done | with_reducible rfl)
 (try simp only [Act.put, List.setIfInBounds_toArray, List.set_cons_zero, List.set_cons_succ])
 refine' wpAnyH_take (i := 13) (oi := ⟨some 83, _, _, _, _, _⟩) (v := _) rfl (by kernel_rfl) (by kernel_rfl) (by kernel_rfl) (fun _ _ _ h => h) (Or.inl ⟨by kernel_rfl, ?hy14⟩) (by assumption) ?rest14
 case hy14 => (intro wx hSw; (try dsimp only at hSw); obtain ⟨k1, k2, k3, k4, k5⟩ := hSw; go_simp; first | done | with_reducible rfl)
 (try simp only [Act.put, List.setIfInBounds_toArray, List.set_cons_zero, List.set_cons_succ])
 refine' wpAnyH_take (i := 14) (oi := ⟨some 84, _, _, _, _, _⟩) (v := _) rfl (by kernel_rfl) (by kernel_rfl) (by kernel_rfl) (fun _ _ _ h => h) (Or.inl ⟨by kernel_rfl, ?hy15⟩) (by assumption) ?rest15
 case hy15 => (intro wx hSw; (try dsimp only at hSw); obtain ⟨k1, k2, k3, k4, k5⟩ := hSw; go_simp; first | done | with_reducible rfl)
 (try simp only [Act.put, List.setIfInBounds_toArray, List.set_cons_zero, List.set_cons_succ])
 refine' wpAnyH_take (i := 15) (oi := ⟨some 85, _, _, _, _, _⟩) (v := _) rfl (by kernel_rfl) (by kernel_rfl) (by kernel_rfl) (fun _ _ _ h => h) (Or.inl ⟨by kernel_rfl, ?hy16⟩) (by assumption) ?rest16
 case hy16 => (intro wx hSw; (try dsimp only at hSw); obtain ⟨k1, k2, k3, k4, k5⟩ := hSw; go_simp; first | done | with_reducible rfl)
 (try simp only [Act.put, List.setIfInBounds_toArray, List.set_cons_zero, List.set_cons_succ])
 refine' wpAnyH_take (i := 16) (oi := ⟨some 86, _, _, _, _, _⟩) (v := _) rfl (by kernel_rfl) (by kernel_rfl) (by kernel_rfl) (fun _ _ _ h => h) (Or.inl ⟨by kernel_rfl, ?hy17⟩) (by assumption) ?rest17
 case hy17 => (intro wx hSw; (try dsimp only at hSw); obtain ⟨k1, k2, k3, k4, k5⟩ := hSw; go_simp; first | done | with_reducible rfl)
 (try simp only [Act.put, List.setIfInBounds_toArray, List.set_cons_zero, List.set_cons_succ])
 refine' wpAnyH_take (i := 17) (oi := ⟨some 87, _, _, _, _, _⟩) (v := _) rfl (by kernel_rfl) (by kernel_rfl) (by kernel_rfl) (fun _ _ _ h => h) (Or.inl ⟨by kernel_rfl, ?hy18⟩) (by assumption) ?rest18
 case hy18 => (intro wx hSw; (try dsimp only at hSw); obtain ⟨k1, k2, k3, k4, k5⟩ := hSw; go_simp; first | done | with_reducible rfl)
 (try simp only [Act.put, List.setIfInBounds_toArray, List.set_cons_zero, List.set_cons_succ])
 refine' wpAnyH_take (i := 18) (oi := ⟨some 88, _, _, _, _, _⟩) (v := _) rfl (by kernel_rfl) (by kernel_rfl) (by kernel_rfl) (fun _ _ _ h => h) (Or.inl ⟨by kernel_rfl, ?hy19⟩) (by assumption) ?rest19
 case hy19 => (intro wx hSw; (try dsimp only at hSw); obtain ⟨k1, k2, k3, k4, k5⟩ := hSw; go_simp; first | done | with_reducible rfl)
 (try simp only [Act.put, List.setIfInBounds_toArray, List.set_cons_zero, List.set_cons_succ])
 refine' wpAnyH_take (i := 19) (oi := ⟨some 89, _, _, _, _, _⟩) (v := _) rfl (by kernel_rfl) (by kernel_rfl) (by kernel_rfl) (fun _ _ _ h => h) (Or.inl ⟨by kernel_rfl, ?hy20⟩) (by assumption) ?rest20
 case hy20 => (intro wx hSw; (try dsimp only at hSw); obtain ⟨k1, k2, k3, k4, k5⟩ := hSw; go_simp; first | done | with_reducible rfl)
 (try simp only [Act.put, List.setIfInBounds_toArray, List.set_cons_zero, List.set_cons_succ])
 refine' wpAnyH_take (i := 20) (oi := ⟨some 90, _, _, _, _, _⟩) (v := _) rfl (by kernel_rfl) (by kernel_rfl) (by kernel_rfl) (fun _ _ _ h => h) (Or.inl ⟨by kernel_rfl, ?hy21⟩) (by assumption) ?rest21
 case hy21 => (intro wx hSw; (try dsimp only at hSw); obtain ⟨k1, k2, k3, k4, k5⟩ := hSw; go_simp; first | done | with_reducible rfl)
 (try simp only [Act.put, List.setIfInBounds_toArray, List.set_cons_zero, List.set_cons_succ])
 have c1 := HU0.out.cell 1 _ rfl
 have f1 := HU0.out.frozen 1
 refine wpAnyH_ready (rs := [21]) (by kernel_rfl) (by simp) ?_
 refine AllReadyH.cons rfl (fun K9 hK => ?_) AllReadyH.nil
 rw [if_pos (by kernel_rfl)]
 go_simp
 refine hK.out _ _ (HS.out _ _ _ hHeld) (fun hHeld2 => ?_)
 clear hK K9 hHeld
 rename _ => hHeld
 have HU1 := hid (HU0.out.set (v := { U with user := y1.data.toList }) (qv := pv) 1 (.string y1) rfl)
 clear c1 f1 HU0
 generalize hW1 : W0.setCell ⟨ub, 1, none⟩ (.string y1) = W1 at HU1 hHeld ⊢
 have HW1 := hid hW1
 clear hW1
 refine' wpAnyH_take (i := 22) (oi := ⟨some 91, _, _, _, _, _⟩) (v := _) rfl (by kernel_rfl) (by kernel_rfl) (by kernel_rfl) (fun _ _ _ h => h) (Or.inl ⟨by kernel_rfl, ?hy22⟩) (by assumption) ?rest22
 case hy22 => (intro wx hSw; (try dsimp only at hSw); obtain ⟨k1, k2, k3, k4, k5⟩ := hSw; go_simp; first | done | with_reducible rfl)
 (try simp only [Act.put, List.setIfInBounds_toArray, List.set_cons_zero, List.set_cons_succ])
 have c1 := HU1.out.cell 2 _ rfl
 have f1 := HU1.out.frozen 2
 refine wpAnyH_ready (rs := [23]) (by kernel_rfl) (by simp) ?_
 refine AllReadyH.cons rfl (fun K9 hK => ?_) AllReadyH.nil
 rw [if_pos (by kernel_rfl)]
 go_simp
 refine hK.out _ _ (HS.out _ _ _ hHeld) (fun hHeld2 => ?_)
 clear hK K9 hHeld
 rename _ => hHeld
 have HU2 := hid (HU1.out.set (v := { U with user := y1.data.toList, pass := y2.data.toList }) (qv := pv) 2 (.string y2) rfl)
 clear c1 f1 HU1
 generalize hW2 : W1.setCell ⟨ub, 2, none⟩ (.string y2) = W2 at HU2 hHeld ⊢
 have HW2 := hid hW2
 clear hW2
 refine' wpAnyH_take (i := 24) (oi := ⟨some 92, _, _, _, _, _⟩) (v := _) rfl (by kernel_rfl) (by kernel_rfl) (by kernel_rfl) (fun _ _ _ h => h) (Or.inl ⟨by kernel_rfl, ?hy23⟩) (by assumption) ?rest23
 case hy23 => (intro wx hSw; (try dsimp only at hSw); obtain ⟨k1, k2, k3, k4, k5⟩ := hSw; go_simp; first | done | with_reducible rfl)
 (try simp only [Act.put, List.setIfInBounds_toArray, List.set_cons_zero, List.set_cons_succ])
 have c1 := HU2.out.cell 3 _ rfl
 have f1 := HU2.out.frozen 3
 refine wpAnyH_ready (rs := [25]) (by kernel_rfl) (by simp) ?_
 refine AllReadyH.cons rfl (fun K9 hK => ?_) AllReadyH.nil
 rw [if_pos (by kernel_rfl)]
 go_simp
 refine hK.out _ _ (HS.out _ _ _ hHeld) (fun hHeld2 => ?_)
 clear hK K9 hHeld
 rename _ => hHeld
 have HU3 := hid (HU2.out.set (v := { U with user := y1.data.toList, pass := y2.data.toList, host := y3.data.toList }) (qv := pv) 3 (.string y3) rfl)
 clear c1 f1 HU2
 generalize hW3 : W2.setCell ⟨ub, 3, none⟩ (.string y3) = W3 at HU3 hHeld ⊢
 have HW3 := hid hW3
 clear hW3
 refine' wpAnyH_take (i := 26) (oi := ⟨some 93, _, _, _, _, _⟩) (v := _) rfl (by kernel_rfl) (by kernel_rfl) (by kernel_rfl) (fun _ _ _ h => h) (Or.inl ⟨by kernel_rfl, ?hy24⟩) (by assumption) ?rest24
 case hy24 => (intro wx hSw; (try dsimp only at hSw); obtain ⟨k1, k2, k3, k4, k5⟩ := hSw; go_simp; first | done | with_reducible rfl)
 (try simp only [Act.put, List.setIfInBounds_toArray, List.set_cons_zero, List.set_cons_succ])
 have c1 := HU3.out.cell 4 _ rfl
 have f1 := HU3.out.frozen 4
 refine wpAnyH_ready (rs := [27]) (by kernel_rfl) (by simp) ?_
 refine AllReadyH.cons rfl (fun K9 hK => ?_) AllReadyH.nil
 rw [if_pos (by kernel_rfl)]
 go_simp
 refine hK.out _ _ (HS.out _ _ _ hHeld) (fun hHeld2 => ?_)
 clear hK K9 hHeld
 rename _ => hHeld
 have HU4 := hid (HU3.out.set (v := { U with user := y1.data.toList, pass := y2.data.toList, host := y3.data.toList, hasHost := y4 }) (qv := pv) 4 (.bool y4) rfl)
 clear c1 f1 HU3
 generalize hW4 : W3.setCell ⟨ub, 4, none⟩ (.bool y4) = W4 at HU4 hHeld ⊢
 have HW4 := hid hW4
 clear hW4
 refine' wpAnyH_take (i := 28) (oi := ⟨some 94, _, _, _, _, _⟩) (v := _) rfl (by kernel_rfl) (by kernel_rfl) (by kernel_rfl) (fun _ _ _ h => h) (Or.inl ⟨by kernel_rfl, ?hy25⟩) (by assumption) ?rest25
 case hy25 => (intro wx hSw; (try dsimp only at hSw); obtain ⟨k1, k2, k3, k4, k5⟩ := hSw; go_simp; first | done | with_reducible rfl)
 (try simp only [Act.put, List.setIfInBounds_toArray, List.set_cons_zero, List.set_cons_succ])
 have c1 := HU4.out.cell 5 _ rfl
 have f1 := HU4.out.frozen 5
 refine wpAnyH_ready (rs := [29]) (by kernel_rfl) (by simp) ?_
 refine AllReadyH.cons rfl (fun K9 hK => ?_) AllReadyH.nil
 rw [if_pos (by kernel_rfl)]
 go_simp
 refine hK.out _ _ (HS.out _ _ _ hHeld) (fun hHeld2 => ?_)
 clear hK K9 hHeld
 rename _ => hHeld
 have HU5 := hid (HU4.out.set (v := { U with user := y1.data.toList, pass := y2.data.toList, host := y3.data.toList, hasHost := y4, port := y5 }) (qv := pv) 5 (.int .i64 y5) rfl)
 clear c1 f1 HU4
 generalize hW5 : W4.setCell ⟨ub, 5, none⟩ (.int .i64 y5) = W5 at HU5 hHeld ⊢
 have HW5 := hid hW5
 clear hW5
 refine wpAnyH_done (by kernel_rfl) ?_ _
 exact HK.out _ _ _ _ _ _ _ _ _ _ _ _ _ _ _ _ _ _ _ _ _ _ _ _ _ _ (by rw [← HW5.out, ← HW4.out, ← HW3.out, ← HW2.out, ← HW1.out, ← HW0.out])

end Go.Proofs.YtamockkjbkibdaaGreatDoor

namespace Go.Proofs.YtamockkjbkibdaaGreatDoor
open Go.RowKit

noncomputable def rg17 : Code := (Tryz.f50.body.bind (regOf 17)).getD .skip

set_option maxHeartbeats 20000000 in
set_option maxRecDepth 100000 in
theorem rr17 (t0 t2 t3 t4 t5 t6 t7 t9 t10 t11 t12 t13 t14 t15 t16 t17 t18 t19 t20 t21 t22 t23 t24 t25 t26 t27 t28 t29 t30 t31 t32 t33 t34 t35 t36 t37 t38 t39 t40 t41 t42 t43 t44 t45 t46 t47 t48 t49 t50 t51 t52 t53 t54 t55 t56 t57 t58 t59 t60 t61 t62 t63 t64 t65 t66 t67 t68 t69 t70 t71 t72 t73 t74 t75 t76 t77 t78 t79 t80 t81 t82 t83 t84 t85 t86 t87 t88 t89 t90 t91 t92 t93 t94 t95 t96 t97 t98 t99 t100 t101 t102 t103 t104 t105 t106 t107 t108 t109 t110 t111 t112 t113 t114 t115 t116 t117 t118 t119 t120 t121 t122 t123 t124 t125 t126 t127 t128 t129 t130 t131 t132 t133 t134 t135 t136 t137 t138 t139 t140 t141 t142 t143 t144 t145 t146 t147 t148 t149 t150 t151 t152 t153 t154 t155 t156 t157 t158 t159 t160 t161 t162 t163 t164 t165 t166 t167 t168 t169 t170 t171 t172 t173 t174 t175 t176 t177 t178 t179 t180 t181 t182 t183 t184 t185 t186 t187 t188 t189 t190 t191 t192 t193 t194 t195 t196 t197 t198 t199 t200 : Value) (wr : World) (bb ub : Nat) (y1 : ByteArray) (y2 : Bool) (x8 x10 : Value) (hne : bb ≠ ub)
  (hb : wr.cell? ⟨bb, 8, none⟩ = some (.string y1) ∧ wr.cell? ⟨bb, 10, none⟩ = some (.bool y2))
  (hu : wr.cell? ⟨ub, 8, none⟩ = some x8 ∧ wr.frozen? ⟨ub, 8, none⟩ = false ∧ wr.cell? ⟨ub, 10, none⟩ = some x10 ∧ wr.frozen? ⟨ub, 10, none⟩ = false) (K : Act → World → Prop)
  (HK : Hid (∀ (u129 u130 u131 u132 u133 u134 u135 u136 u137 u138 : Value) (w2 : World), w2 = ((wr.drew.setCell ⟨ub, 8, none⟩ (.string y1)).setCell ⟨ub, 10, none⟩ (.bool y2)) → K ⟨#[t0, .pointer (some ⟨bb, 0, none⟩), t2, t3, t4, t5, t6, t7, .pointer (some ⟨ub, 0, none⟩), t9, t10, t11, t12, t13, t14, t15, t16, t17, t18, t19, t20, t21, t22, t23, t24, t25, t26, t27, t28, t29, t30, t31, t32, t33, t34, t35, t36, t37, t38, t39, t40, t41, t42, t43, t44, t45, t46, t47, t48, t49, t50, t51, t52, t53, t54, t55, t56, t57, t58, t59, t60, t61, t62, t63, t64, t65, t66, t67, t68, t69, t70, t71, t72, t73, t74, t75, t76, t77, t78, t79, t80, t81, t82, t83, t84, t85, t86, t87, t88, t89, t90, t91, t92, t93, t94, t95, t96, t97, t98, t99, t100, t101, t102, t103, t104, t105, t106, t107, t108, t109, t110, t111, t112, t113, t114, t115, t116, t117, t118, t119, t120, t121, t122, t123, t124, t125, t126, t127, t128, u129, u130, u131, u132, u133, u134, u135, u136, u137, u138, t139, t140, t141, t142, t143, t144, t145, t146, t147, t148, t149, t150, t151, t152, t153, t154, t155, t156, t157, t158, t159, t160, t161, t162, t163, t164, t165, t166, t167, t168, t169, t170, t171, t172, t173, t174, t175, t176, t177, t178, t179, t180, t181, t182, t183, t184, t185, t186, t187, t188, t189, t190, t191, t192, t193, t194, t195, t196, t197, t198, t199, t200], []⟩ w2)) :
  Code.wp Tryz.prog rg17 (Exit.then K fun _ _ _ => False) ⟨#[t0, .pointer (some ⟨bb, 0, none⟩), t2, t3, t4, t5, t6, t7, .pointer (some ⟨ub, 0, none⟩), t9, t10, t11, t12, t13, t14, t15, t16, t17, t18, t19, t20, t21, t22, t23, t24, t25, t26, t27, t28, t29, t30, t31, t32, t33, t34, t35, t36, t37, t38, t39, t40, t41, t42, t43, t44, t45, t46, t47, t48, t49, t50, t51, t52, t53, t54, t55, t56, t57, t58, t59, t60, t61, t62, t63, t64, t65, t66, t67, t68, t69, t70, t71, t72, t73, t74, t75, t76, t77, t78, t79, t80, t81, t82, t83, t84, t85, t86, t87, t88, t89, t90, t91, t92, t93, t94, t95, t96, t97, t98, t99, t100, t101, t102, t103, t104, t105, t106, t107, t108, t109, t110, t111, t112, t113, t114, t115, t116, t117, t118, t119, t120, t121, t122, t123, t124, t125, t126, t127, t128, t129, t130, t131, t132, t133, t134, t135, t136, t137, t138, t139, t140, t141, t142, t143, t144, t145, t146, t147, t148, t149, t150, t151, t152, t153, t154, t155, t156, t157, t158, t159, t160, t161, t162, t163, t164, t165, t166, t167, t168, t169, t170, t171, t172, t173, t174, t175, t176, t177, t178, t179, t180, t181, t182, t183, t184, t185, t186, t187, t188, t189, t190, t191, t192, t193, t194, t195, t196, t197, t198, t199, t200], []⟩ wr := by
 have HS := hid (fun (X : World) (j : Nat) (v : Value) (h : X.cell? ⟨bb, 8, none⟩ = some (.string y1) ∧ X.cell? ⟨bb, 10, none⟩ = some (.bool y2)) => (show (X.setCell ⟨ub, j, none⟩ v).cell? ⟨bb, 8, none⟩ = some (.string y1) ∧ (X.setCell ⟨ub, j, none⟩ v).cell? ⟨bb, 10, none⟩ = some (.bool y2) from by
  have e : ∀ k, (X.setCell ⟨ub, j, none⟩ v).cell? ⟨bb, k, none⟩ = X.cell? ⟨bb, k, none⟩ := fun k => World.cell?_of_block (heap_setCell_other _ _ _ _ hne)
  exact ⟨(e 8).trans h.1, (e 10).trans h.2⟩))
 obtain ⟨c8, f8, c10, f10⟩ := hu
 clear hne
 conv => arg 2; whnf
 refine wp_region_held_drew (S := (fun wx => wx.cell? ⟨bb, 8, none⟩ = some (.string y1) ∧ wx.cell? ⟨bb, 10, none⟩ = some (.bool y2))) (by kernel_rfl) hb (fun hHeld => ?_)
 refine wpAnyH_to (fuel' := 12) (listed' := #[false, false, false, false, false, false, false, false, false, false, false, false]) rfl rfl ?_
 refine' wpAnyH_take (i := 0) (oi := ⟨some 129, _, _, _, _, _⟩) (v := _) rfl (by kernel_rfl) (by kernel_rfl) (by kernel_rfl) (fun _ _ _ h => h) (Or.inl ⟨by kernel_rfl, ?hy26⟩) (by assumption) ?rest26
 case hy26 => (intro wx hSw; (try dsimp only at hSw); obtain ⟨k1, k2⟩ := hSw; go_simp; first | done | with_reducible rfl)
 (try simp only [Act.put, List.setIfInBounds_toArray, List.set_cons_zero, List.set_cons_succ])
 refine' wpAnyH_take (i := 1) (oi := ⟨some 130, _, _, _, _, _⟩) (v := _) rfl (by kernel_rfl) (by kernel_rfl) (by kernel_rfl) (fun _ _ _ h => h) (Or.inl ⟨by kernel_rfl, ?hy27⟩) (by assumption) ?rest27
 case hy27 => (intro wx hSw; (try dsimp only at hSw); obtain ⟨k1, k2⟩ := hSw; go_simp; first | done | with_reducible rfl)
 (try simp only [Act.put, List.setIfInBounds_toArray, List.set_cons_zero, List.set_cons_succ])
 refine' wpAnyH_take (i := 2) (oi := ⟨some 131, _, _, _, _, _⟩) (v := _) rfl (by kernel_rfl) (by kernel_rfl) (by kernel_rfl) (fun _ _ _ h => h) (Or.inl ⟨by kernel_rfl, ?hy28⟩) (by assumption) ?rest28
 case hy28 => (intro wx hSw; (try dsimp only at hSw); obtain ⟨k1, k2⟩ := hSw; go_simp; first | done | with_reducible rfl)
 (try simp only [Act.put, List.setIfInBounds_toArray, List.set_cons_zero, List.set_cons_succ])
 refine' wpAnyH_take (i := 3) (oi := ⟨some 132, _, _, _, _, _⟩) (v := _) rfl (by kernel_rfl) (by kernel_rfl) (by kernel_rfl) (fun _ _ _ h => h) (Or.inl ⟨by kernel_rfl, ?hy29⟩) (by assumption) ?rest29
 case hy29 => (intro wx hSw; (try dsimp only at hSw); obtain ⟨k1, k2⟩ := hSw; go_simp; first | done | with_reducible rfl)
 (try simp only [Act.put, List.setIfInBounds_toArray, List.set_cons_zero, List.set_cons_succ])
 refine' wpAnyH_take (i := 4) (oi := ⟨some 133, _, _, _, _, _⟩) (v := _) rfl (by kernel_rfl) (by kernel_rfl) (by kernel_rfl) (fun _ _ _ h => h) (Or.inl ⟨by kernel_rfl, ?hy30⟩) (by assumption) ?rest30
 case hy30 => (intro wx hSw; (try dsimp only at hSw); obtain ⟨k1, k2⟩ := hSw; go_simp; first | done | with_reducible rfl)
 (try simp only [Act.put, List.setIfInBounds_toArray, List.set_cons_zero, List.set_cons_succ])
 refine' wpAnyH_take (i := 5) (oi := ⟨some 134, _, _, _, _, _⟩) (v := _) rfl (by kernel_rfl) (by kernel_rfl) (by kernel_rfl) (fun _ _ _ h => h) (Or.inl ⟨by kernel_rfl, ?hy31⟩) (by assumption) ?rest31
 case hy31 => (intro wx hSw; (try dsimp only at hSw); obtain ⟨k1, k2⟩ := hSw; go_simp; first | done | with_reducible rfl)
 (try simp only [Act.put, List.setIfInBounds_toArray, List.set_cons_zero, List.set_cons_succ])
 refine' wpAnyH_take (i := 6) (oi := ⟨some 135, _, _, _, _, _⟩) (v := _) rfl (by kernel_rfl) (by kernel_rfl) (by kernel_rfl) (fun _ _ _ h => h) (Or.inl ⟨by kernel_rfl, ?hy32⟩) (by assumption) ?rest32
 case hy32 => (intro wx hSw; (try dsimp only at hSw); obtain ⟨k1, k2⟩ := hSw; go_simp; first | done | with_reducible rfl)
 (try simp only [Act.put, List.setIfInBounds_toArray, List.set_cons_zero, List.set_cons_succ])
 refine' wpAnyH_take (i := 7) (oi := ⟨some 136, _, _, _, _, _⟩) (v := _) rfl (by kernel_rfl) (by kernel_rfl) (by kernel_rfl) (fun _ _ _ h => h) (Or.inl ⟨by kernel_rfl, ?hy33⟩) (by assumption) ?rest33
 case hy33 => (intro wx hSw; (try dsimp only at hSw); obtain ⟨k1, k2⟩ := hSw; go_simp; first | done | with_reducible rfl)
 (try simp only [Act.put, List.setIfInBounds_toArray, List.set_cons_zero, List.set_cons_succ])
 refine' wpAnyH_take (i := 8) (oi := ⟨some 137, _, _, _, _, _⟩) (v := _) rfl (by kernel_rfl) (by kernel_rfl) (by kernel_rfl) (fun _ _ _ h => h) (Or.inl ⟨by kernel_rfl, ?hy34⟩) (by assumption) ?rest34
 case hy34 => (intro wx hSw; (try dsimp only at hSw); obtain ⟨k1, k2⟩ := hSw; go_simp; first | done | with_reducible rfl)
 (try simp only [Act.put, List.setIfInBounds_toArray, List.set_cons_zero, List.set_cons_succ])
 refine wpAnyH_ready (rs := [9]) (by kernel_rfl) (by simp) ?_
 refine AllReadyH.cons rfl (fun K9 hK => ?_) AllReadyH.nil
 rw [if_pos (by kernel_rfl)]
 go_simp
 refine hK.out _ _ (HS.out _ _ _ hHeld) (fun hHeld2 => ?_)
 clear hK K9 hHeld
 rename _ => hHeld
 refine' wpAnyH_take (i := 10) (oi := ⟨some 138, _, _, _, _, _⟩) (v := _) rfl (by kernel_rfl) (by kernel_rfl) (by kernel_rfl) (fun _ _ _ h => h) (Or.inl ⟨by kernel_rfl, ?hy35⟩) (by assumption) ?rest35
 case hy35 => (intro wx hSw; (try dsimp only at hSw); obtain ⟨k1, k2⟩ := hSw; go_simp; first | done | with_reducible rfl)
 (try simp only [Act.put, List.setIfInBounds_toArray, List.set_cons_zero, List.set_cons_succ])
 refine wpAnyH_ready (rs := [11]) (by kernel_rfl) (by simp) ?_
 refine AllReadyH.cons rfl (fun K9 hK => ?_) AllReadyH.nil
 rw [if_pos (by kernel_rfl)]
 go_simp
 refine hK.out _ _ (HS.out _ _ _ hHeld) (fun hHeld2 => ?_)
 clear hK K9 hHeld
 rename _ => hHeld
 refine wpAnyH_done (by kernel_rfl) ?_ _
 exact HK.out _ _ _ _ _ _ _ _ _ _ _ rfl

end Go.Proofs.YtamockkjbkibdaaGreatDoor
