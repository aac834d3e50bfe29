/-
  Walks and plain facts that this claim leans on, put together out of 2 texts: Ersc, Ersd.
-/
import Derived.Test.YtamockkjbkibdaaGreatDoorProg
import Derived.Test.YtamockkjbkibdaaGreatDoorQa1
import Derived.Test.YtamockkjbkibdaaGreatDoorQa2
import Derived.Test.YtamockkjbkibdaaGreatDoorQa3
import Derived.Test.YtamockkjbkibdaaGreatDoorQa4
import Derived.Test.YtamockkjbkibdaaGreatDoorQa5
import Derived.Test.YtamockkjbkibdaaGreatDoorQa6
import Derived.Test.YtamockkjbkibdaaGreatDoorQa7
import Derived.Test.YtamockkjbkibdaaGreatDoorQa8
import Derived.Test.YtamockkjbkibdaaGreatDoorQa9
import Derived.Test.YtamockkjbkibdaaGreatDoorQa10
import Derived.Test.YtamockkjbkibdaaGreatDoorQa11
import Derived.Test.YtamockkjbkibdaaGreatDoorQa12
import Derived.Test.YtamockkjbkibdaaGreatDoorQa13
import Derived.Test.YtamockkjbkibdaaGreatDoorQa14
import Derived.Test.YtamockkjbkibdaaGreatDoorQa15
import Derived.Test.YtamockkjbkibdaaGreatDoorQa16
import Derived.Test.YtamockkjbkibdaaGreatDoorQa17
import Derived.Test.YtamockkjbkibdaaGreatDoorQa18
import Derived.Test.YtamockkjbkibdaaGreatDoorQa19
import Derived.Test.YtamockkjbkibdaaGreatDoorQa20
import Derived.Test.YtamockkjbkibdaaGreatDoorQa21
import Derived.Test.YtamockkjbkibdaaGreatDoorQa22
import Derived.Test.YtamockkjbkibdaaGreatDoorQa23
import Derived.Test.YtamockkjbkibdaaGreatDoorQa24
import Derived.Test.YtamockkjbkibdaaGreatDoorQa25
import Derived.Test.YtamockkjbkibdaaGreatDoorQa26
import Derived.Test.YtamockkjbkibdaaGreatDoorQa27
import Derived.Test.YtamockkjbkibdaaGreatDoorQa28
import Derived.Test.YtamockkjbkibdaaGreatDoorQj1
import Derived.Deep.RegionHeld
import Derived.Lib.IndexMore
import Derived.Lib.Join
import Derived.Lib.LastIndexByte
import Derived.WalkKit
import Derived.Lib.Strings
import Derived.Lib.UnsafeStr
import Derived.Laws.IdiomStrings
import Derived.Laws.AppendOwn
import Derived.Laws.BitsAllLaws
import Derived.Lib.Bytealg
import Derived.Lib.BufferMore
import Derived.LoopN
import Derived.RegionTactic
import Derived.Deep.RegionWith
import Derived.Deep.QuietTactic
import Derived.BigQuiet
import Derived.Laws.OwnMore
import Derived.Shelf.Strings.Builder1
import Derived.Shelf.Strings.Builder2
import Derived.Shelf.Strings.OnBuilder
import Derived.Shelf.Strings.Trim
import Derived.Shelf.Small.Utf8
import Derived.Shelf.Small.Strs
import Derived.Shelf.Small.Wraps
import Derived.Shelf.Strings.BuilderF
import Derived.Shelf.Strings.BuilderK
import Derived.Shelf.Strings.BuilderRune
import Derived.Shelf.Utf8.AppendRune
import Derived.Shelf.Utf8.AppendRunePlain
import Derived.Shelf.Strings.Builder2Cap
import Derived.Shelf.Strconv.Itoa0
import Derived.Shelf.Strconv.Itoa1
import Derived.Shelf.LaysM
import Derived.Shelf.Strconv.Itoa2
import Derived.Shelf.Strconv.Itoa3
import Derived.Shelf.Strings.Search1
import Derived.Shelf.Strings.Search2
import Derived.Shelf.Strings.Search3
import Derived.Shelf.Strings.Cut
import Derived.Shelf.Strings.Count
import Derived.Shelf.Strings.Shaped
import Derived.Shelf.Strings.LastIndex
import Derived.Shelf.Strings.Prefix
import Derived.Shelf.Strings.Split
import Derived.Shelf.Strings.Replace
import Derived.Shelf.Strings.Runes
import Derived.Shelf.Strings.IndexAny
import Derived.Shelf.Strings.AsciiSet
import Derived.Shelf.Strings.IndexAnyAll
import Derived.Shelf.Unicode.DecodeSlow
import Derived.Ground.Names2Prog
import Derived.Shelf.Slices.Clone
import Derived.Ground.SlgnProg
import Derived.Shelf.SlicesE.Clone
import Derived.Scope
import Derived.ScopeJumps
import Derived.WalkMore
import Derived.Lib.IndexAny
import Derived.Lib.Replace
import Derived.Lib.TrimByte
import Derived.Lib.ItoaNum
import Derived.Laws.RangeAny
import Derived.Lib.DecodeN
import Derived.Lib.OthersKept
import Derived.Deep.LoopGhost
import Derived.Laws.BytesString
import Derived.Deep.WholeRow
import Derived.BigRegion
import Derived.WalkSpells
import Derived.WalkLawsBesides
import Derived.Lib.AppendIntMem
import Derived.Lib.SmallJoins
import Derived.WalkSmall
import Derived.OwnWalk
import Derived.Laws.CopyOwn
import Derived.Laws.ResultCell
import Derived.Deep.MidRow
import Derived.Lib.FrozenHead2
import Derived.Lib.Builder
import Derived.Deep.RegionLaw
set_option linter.unusedSimpArgs false
set_option linter.unusedVariables false

namespace Go.Proofs.YtamockkjbkibdaaGreatDoor
open Go.RowKit

noncomputable def rg10 : Code := (Tryz.f50.body.bind (regOf 10)).getD .skip

set_option maxHeartbeats 20000000 in
set_option maxRecDepth 100000 in
theorem rr10 (t0 t2 t3 t4 t5 t6 t7 t10 t11 t12 t13 t14 t15 t16 t17 t18 t19 t20 t21 t22 t23 t24 t25 t26 t27 t28 t29 t30 t31 t32 t33 t34 t35 t36 t37 t38 t39 t40 t41 t42 t43 t44 t45 t46 t47 t48 t49 t50 t51 t52 t53 t54 t55 t56 t57 t58 t59 t60 t61 t62 t63 t64 t65 t66 t67 t68 t69 t70 t71 t72 t73 t74 t75 t76 t77 t78 t79 t80 t81 t82 t83 t84 t85 t86 t87 t88 t89 t90 t91 t92 t93 t94 t95 t96 t97 t98 t99 t100 t101 t102 t103 t104 t105 t106 t107 t108 t109 t110 t111 t112 t113 t114 t115 t116 t117 t118 t119 t120 t121 t122 t123 t124 t125 t126 t127 t128 t129 t130 t131 t132 t133 t134 t135 t136 t137 t138 t139 t140 t141 t142 t143 t144 t145 t146 t147 t148 t149 t150 t151 t152 t153 t154 t155 t156 t157 t158 t159 t160 t161 t162 t163 t164 t165 t166 t167 t168 t169 t170 t171 t172 t173 t174 t175 t176 t177 t178 t179 t180 t181 t182 t183 t184 t185 t186 t187 t188 t189 t190 t191 t192 t193 t194 t195 t196 t197 t198 t199 t200 : Value) (wr : World) (bb ub : Nat) (SB R A : ByteArray) (U : Adr) (pv : Value) (hne : bb ≠ ub) (hb : wr.cell? ⟨bb, 0, none⟩ = some (.string SB)) (hu : AdrIn wr ub U pv)
  (HSl : Hid (∀ w : World, Below wr.heap.size wr w → Calls Tryz.prog 81 #[.string R, .string SB] w fun e w' => e = .returned (.string A) ∧ Below w.heap.size w w')) (K : Act → World → Prop)
  (HK : Hid (∀ (u57 u58 u59 u60 u61 u62 u63 u64 u65 u66 u67 : Value) (w2 w3 : World), Below wr.heap.size wr w2 → w3 = w2.setCell ⟨ub, 0, none⟩ (.string SB) → K ⟨#[t0, .pointer (some ⟨bb, 0, none⟩), t2, t3, t4, t5, t6, t7, .pointer (some ⟨ub, 0, none⟩), .string A, t10, t11, t12, t13, t14, t15, t16, t17, t18, t19, t20, t21, t22, t23, t24, t25, t26, t27, t28, t29, t30, t31, t32, t33, t34, t35, t36, t37, t38, t39, t40, t41, t42, t43, t44, t45, t46, t47, t48, t49, t50, t51, t52, t53, t54, t55, t56, u57, u58, u59, u60, u61, u62, u63, u64, u65, u66, u67, t68, t69, t70, t71, t72, t73, t74, t75, t76, t77, t78, t79, t80, t81, t82, t83, t84, t85, t86, t87, t88, t89, t90, t91, t92, t93, t94, t95, t96, t97, t98, t99, t100, t101, t102, t103, t104, t105, t106, t107, t108, t109, t110, t111, t112, t113, t114, t115, t116, t117, t118, t119, t120, t121, t122, t123, t124, t125, t126, t127, t128, t129, t130, t131, t132, t133, t134, t135, t136, t137, t138, t139, t140, t141, t142, t143, t144, t145, t146, t147, t148, t149, t150, t151, t152, t153, t154, t155, t156, t157, t158, t159, t160, t161, t162, t163, t164, t165, t166, t167, t168, t169, t170, t171, t172, t173, t174, t175, t176, t177, t178, t179, t180, t181, t182, t183, t184, t185, t186, t187, t188, t189, t190, t191, t192, t193, t194, t195, t196, t197, t198, t199, t200], []⟩ w3)) :
  Code.wp Tryz.prog rg10 (Exit.then K fun _ _ _ => False) ⟨#[t0, .pointer (some ⟨bb, 0, none⟩), t2, t3, t4, t5, t6, t7, .pointer (some ⟨ub, 0, none⟩), .string R, t10, t11, t12, t13, t14, t15, t16, t17, t18, t19, t20, t21, t22, t23, t24, t25, t26, t27, t28, t29, t30, t31, t32, t33, t34, t35, t36, t37, t38, t39, t40, t41, t42, t43, t44, t45, t46, t47, t48, t49, t50, t51, t52, t53, t54, t55, t56, t57, t58, t59, t60, t61, t62, t63, t64, t65, t66, t67, t68, t69, t70, t71, t72, t73, t74, t75, t76, t77, t78, t79, t80, t81, t82, t83, t84, t85, t86, t87, t88, t89, t90, t91, t92, t93, t94, t95, t96, t97, t98, t99, t100, t101, t102, t103, t104, t105, t106, t107, t108, t109, t110, t111, t112, t113, t114, t115, t116, t117, t118, t119, t120, t121, t122, t123, t124, t125, t126, t127, t128, t129, t130, t131, t132, t133, t134, t135, t136, t137, t138, t139, t140, t141, t142, t143, t144, t145, t146, t147, t148, t149, t150, t151, t152, t153, t154, t155, t156, t157, t158, t159, t160, t161, t162, t163, t164, t165, t166, t167, t168, t169, t170, t171, t172, t173, t174, t175, t176, t177, t178, t179, t180, t181, t182, t183, t184, t185, t186, t187, t188, t189, t190, t191, t192, t193, t194, t195, t196, t197, t198, t199, t200], []⟩ wr := by
 have HB0 := hid ((Below.refl wr.heap.size wr).drew)
 have HC := hid (fun (X : World) (hX : Below wr.heap.size wr X) => cell_kept3 hb hX)
 have HU := hid hu
 have HS := hid (fun (X : World) (v : Value) (h : X.cell? ⟨bb, 0, none⟩ = some (.string SB)) => (show (X.setCell ⟨ub, 0, none⟩ v).cell? ⟨bb, 0, none⟩ = some (.string SB) from (World.cell?_of_block (heap_setCell_other _ _ _ _ hne)).trans h))
 clear hne hu
 conv => arg 2; whnf
 refine wp_region_held_drew (S := (fun wx => wx.cell? ⟨bb, 0, none⟩ = some (.string SB))) (by kernel_rfl) hb (fun hHeld => ?_)
 refine wpAnyH_to (fuel' := 13) (listed' := #[false, false, false, false, false, false, false, false, false, false, false, false, false]) rfl rfl ?_
 refine' wpAnyH_take (i := 0) (oi := ⟨some 57, _, _, _, _, _⟩) (v := _) rfl (by kernel_rfl) (by kernel_rfl) (by kernel_rfl) (fun _ _ _ h => h) (Or.inl ⟨by kernel_rfl, ?hy36⟩) (by assumption) ?rest36
 case hy36 => (intro wx hSw; (try dsimp only at hSw); have k1 := hSw; go_simp; first | done | with_reducible rfl)
 (try simp only [Act.put, List.setIfInBounds_toArray, List.set_cons_zero, List.set_cons_succ])
 refine' wpAnyH_take (i := 1) (oi := ⟨some 58, _, _, _, _, _⟩) (v := _) rfl (by kernel_rfl) (by kernel_rfl) (by kernel_rfl) (fun _ _ _ h => h) (Or.inl ⟨by kernel_rfl, ?hy37⟩) (by assumption) ?rest37
 case hy37 => (intro wx hSw; (try dsimp only at hSw); have k1 := hSw; go_simp; first | done | with_reducible rfl)
 (try simp only [Act.put, List.setIfInBounds_toArray, List.set_cons_zero, List.set_cons_succ])
 refine' wpAnyH_take (i := 2) (oi := ⟨some 59, _, _, _, _, _⟩) (v := _) rfl (by kernel_rfl) (by kernel_rfl) (by kernel_rfl) (fun _ _ _ h => h) (Or.inl ⟨by kernel_rfl, ?hy38⟩) (by assumption) ?rest38
 case hy38 => (intro wx hSw; (try dsimp only at hSw); have k1 := hSw; go_simp; first | done | with_reducible rfl)
 (try simp only [Act.put, List.setIfInBounds_toArray, List.set_cons_zero, List.set_cons_succ])
 refine' wpAnyH_take (i := 3) (oi := ⟨some 60, _, _, _, _, _⟩) (v := _) rfl (by kernel_rfl) (by kernel_rfl) (by kernel_rfl) (fun _ _ _ h => h) (Or.inl ⟨by kernel_rfl, ?hy39⟩) (by assumption) ?rest39
 case hy39 => (intro wx hSw; (try dsimp only at hSw); have k1 := hSw; go_simp; first | done | with_reducible rfl)
 (try simp only [Act.put, List.setIfInBounds_toArray, List.set_cons_zero, List.set_cons_succ])
 refine' wpAnyH_take (i := 4) (oi := ⟨some 61, _, _, _, _, _⟩) (v := _) rfl (by kernel_rfl) (by kernel_rfl) (by kernel_rfl) (fun _ _ _ h => h) (Or.inl ⟨by kernel_rfl, ?hy40⟩) (by assumption) ?rest40
 case hy40 => (intro wx hSw; (try dsimp only at hSw); have k1 := hSw; go_simp; first | done | with_reducible rfl)
 (try simp only [Act.put, List.setIfInBounds_toArray, List.set_cons_zero, List.set_cons_succ])
 refine' wpAnyH_take (i := 5) (oi := ⟨some 62, _, _, _, _, _⟩) (v := _) rfl (by kernel_rfl) (by kernel_rfl) (by kernel_rfl) (fun _ _ _ h => h) (Or.inl ⟨by kernel_rfl, ?hy41⟩) (by assumption) ?rest41
 case hy41 => (intro wx hSw; (try dsimp only at hSw); have k1 := hSw; go_simp; first | done | with_reducible rfl)
 (try simp only [Act.put, List.setIfInBounds_toArray, List.set_cons_zero, List.set_cons_succ])
 refine' wpAnyH_take (i := 6) (oi := ⟨some 63, _, _, _, _, _⟩) (v := _) rfl (by kernel_rfl) (by kernel_rfl) (by kernel_rfl) (fun _ _ _ h => h) (Or.inl ⟨by kernel_rfl, ?hy42⟩) (by assumption) ?rest42
 case hy42 => (intro wx hSw; (try dsimp only at hSw); have k1 := hSw; go_simp; first | done | with_reducible rfl)
 (try simp only [Act.put, List.setIfInBounds_toArray, List.set_cons_zero, List.set_cons_succ])
 refine' wpAnyH_take (i := 7) (oi := ⟨some 64, _, _, _, _, _⟩) (v := _) rfl (by kernel_rfl) (by kernel_rfl) (by kernel_rfl) (fun _ _ _ h => h) (Or.inl ⟨by kernel_rfl, ?hy43⟩) (by assumption) ?rest43
 case hy43 => (intro wx hSw; (try dsimp only at hSw); have k1 := hSw; go_simp; first | done | with_reducible rfl)
 (try simp only [Act.put, List.setIfInBounds_toArray, List.set_cons_zero, List.set_cons_succ])
 refine' wpAnyH_take (i := 8) (oi := ⟨some 65, _, _, _, _, _⟩) (v := _) rfl (by kernel_rfl) (by kernel_rfl) (by kernel_rfl) (fun _ _ _ h => h) (Or.inl ⟨by kernel_rfl, ?hy44⟩) (by assumption) ?rest44
 case hy44 => (intro wx hSw; (try dsimp only at hSw); have k1 := hSw; go_simp; first | done | with_reducible rfl)
 (try simp only [Act.put, List.setIfInBounds_toArray, List.set_cons_zero, List.set_cons_succ])
 refine wpAnyH_ready (rs := [9]) (by kernel_rfl) (by simp) ?_
 refine AllReadyH.cons rfl (fun K9 hK => ?_) AllReadyH.nil
 rw [if_pos (by kernel_rfl)]
 go_simp
 go_wp2_with (go_at_call 81; refine (HSl.out _ HB0.out).mono ?_; rintro e wa ⟨rfl, hba⟩)
 have hb1 := HB0.out.trans (hba.mono HB0.out.size)
 have HB1 := hid hb1
 have c0 := (HU.out.kept hb1).cell 0 _ rfl
 have f0 := (HU.out.kept hb1).frozen 0
 clear hba hb1
 refine hK.out _ _ (HC.out _ HB1.out) (fun hHeld2 => ?_)
 clear hK K9 hHeld
 rename _ => hHeld
 refine' wpAnyH_take (i := 10) (oi := ⟨some 67, _, _, _, _, _⟩) (v := _) rfl (by kernel_rfl) (by kernel_rfl) (by kernel_rfl) (fun _ _ _ h => h) (Or.inl ⟨by kernel_rfl, ?hy45⟩) (by assumption) ?rest45
 case hy45 => (intro wx hSw; (try dsimp only at hSw); have k1 := hSw; go_simp; first | done | with_reducible rfl)
 (try simp only [Act.put, List.setIfInBounds_toArray, List.set_cons_zero, List.set_cons_succ])
 refine wpAnyH_ready (rs := [11]) (by kernel_rfl) (by simp) ?_
 refine AllReadyH.cons rfl (fun K9 hK => ?_) AllReadyH.nil
 rw [if_pos (by kernel_rfl)]
 go_simp
 refine hK.out _ _ (HS.out _ _ (HC.out _ HB1.out)) (fun hHeld2 => ?_)
 clear hK K9 hHeld
 rename _ => hHeld
 refine wpAnyH_ready (rs := [12]) (by kernel_rfl) (by simp) ?_
 refine AllReadyH.cons rfl (fun K9 hK => ?_) AllReadyH.nil
 rw [if_pos (by kernel_rfl)]
 go_simp
 refine hK.out _ _ (HS.out _ _ (HC.out _ HB1.out)) (fun hHeld2 => ?_)
 clear hK K9 hHeld
 rename _ => hHeld
 refine wpAnyH_done (by kernel_rfl) ?_ _
 exact HK.out _ _ _ _ _ _ _ _ _ _ _ _ _ HB1.out rfl

end Go.Proofs.YtamockkjbkibdaaGreatDoor

namespace Go.Proofs.YtamockkjbkibdaaGreatDoor
open Go.RowKit

noncomputable def rg16 : Code := (Tryz.f50.body.bind (regOf 16)).getD .skip

set_option maxHeartbeats 20000000 in
set_option maxRecDepth 100000 in
theorem rr16 (t0 t2 t3 t4 t5 t6 t7 t9 t10 t11 t12 t13 t14 t15 t16 t17 t18 t19 t20 t21 t22 t23 t24 t25 t26 t27 t28 t29 t30 t31 t32 t33 t34 t35 t36 t37 t38 t39 t40 t41 t42 t43 t44 t45 t46 t47 t48 t49 t50 t51 t52 t53 t54 t55 t56 t57 t58 t59 t60 t61 t62 t63 t64 t65 t66 t67 t68 t69 t70 t71 t72 t73 t74 t75 t76 t77 t78 t79 t80 t81 t82 t83 t84 t85 t86 t87 t88 t89 t90 t91 t92 t93 t94 t95 t96 t97 t98 t99 t100 t101 t102 t103 t104 t105 t106 t107 t108 t109 t110 t111 t112 t113 t114 t115 t116 t117 t118 t119 t120 t121 t122 t123 t124 t125 t126 t127 t128 t129 t130 t131 t132 t133 t134 t135 t136 t137 t138 t139 t140 t141 t142 t143 t144 t145 t146 t147 t148 t149 t150 t151 t152 t153 t154 t155 t156 t157 t158 t159 t160 t161 t162 t163 t164 t165 t166 t167 t168 t169 t170 t171 t172 t173 t174 t175 t176 t177 t178 t179 t180 t181 t182 t183 t184 t185 t186 t187 t188 t189 t190 t191 t192 t193 t194 t195 t196 t197 t198 t199 t200 : Value) (wr : World) (bb ub : Nat) (y6 : Bool) (a7 : Option Addr) (n7 c7 : Nat) (P : List (List UInt8)) (U : Adr) (pv : Value) (hne : bb ≠ ub) (hb : wr.cell? ⟨bb, 6, none⟩ = some (.bool y6) ∧ wr.cell? ⟨bb, 7, none⟩ = some (.slice a7 n7 c7)) (hu : AdrIn wr ub U pv)
  (HCl : Hid (∀ w : World, Below wr.heap.size wr w → Calls Tryz.prog 82 #[.slice a7 n7 c7] w (OwnPost P w))) (K : Act → World → Prop)
  (HK : Hid (∀ (u118 u119 u120 u121 u122 u123 u124 u125 u126 u127 u128 : Value) (qv : Value) (w2 w3 : World), Below wr.heap.size wr w2 → w2.ownsRow wr.heap.size 9 1 qv P.length (cellsS P) → w3 = (w2.setCell ⟨ub, 6, none⟩ (.bool y6)).setCell ⟨ub, 7, none⟩ qv → K ⟨#[t0, .pointer (some ⟨bb, 0, none⟩), t2, t3, t4, t5, t6, t7, .pointer (some ⟨ub, 0, none⟩), t9, t10, t11, t12, t13, t14, t15, t16, t17, t18, t19, t20, t21, t22, t23, t24, t25, t26, t27, t28, t29, t30, t31, t32, t33, t34, t35, t36, t37, t38, t39, t40, t41, t42, t43, t44, t45, t46, t47, t48, t49, t50, t51, t52, t53, t54, t55, t56, t57, t58, t59, t60, t61, t62, t63, t64, t65, t66, t67, t68, t69, t70, t71, t72, t73, t74, t75, t76, t77, t78, t79, t80, t81, t82, t83, t84, t85, t86, t87, t88, t89, t90, t91, t92, t93, t94, t95, t96, t97, t98, t99, t100, t101, t102, t103, t104, t105, t106, t107, t108, t109, t110, t111, t112, t113, t114, t115, t116, t117, u118, u119, u120, u121, u122, u123, u124, u125, u126, u127, u128, t129, t130, t131, t132, t133, t134, t135, t136, t137, t138, t139, t140, t141, t142, t143, t144, t145, t146, t147, t148, t149, t150, t151, t152, t153, t154, t155, t156, t157, t158, t159, t160, t161, t162, t163, t164, t165, t166, t167, t168, t169, t170, t171, t172, t173, t174, t175, t176, t177, t178, t179, t180, t181, t182, t183, t184, t185, t186, t187, t188, t189, t190, t191, t192, t193, t194, t195, t196, t197, t198, t199, t200], []⟩ w3)) :
  Code.wp Tryz.prog rg16 (Exit.then K fun _ _ _ => False) ⟨#[t0, .pointer (some ⟨bb, 0, none⟩), t2, t3, t4, t5, t6, t7, .pointer (some ⟨ub, 0, none⟩), t9, t10, t11, t12, t13, t14, t15, t16, t17, t18, t19, t20, t21, t22, t23, t24, t25, t26, t27, t28, t29, t30, t31, t32, t33, t34, t35, t36, t37, t38, t39, t40, t41, t42, t43, t44, t45, t46, t47, t48, t49, t50, t51, t52, t53, t54, t55, t56, t57, t58, t59, t60, t61, t62, t63, t64, t65, t66, t67, t68, t69, t70, t71, t72, t73, t74, t75, t76, t77, t78, t79, t80, t81, t82, t83, t84, t85, t86, t87, t88, t89, t90, t91, t92, t93, t94, t95, t96, t97, t98, t99, t100, t101, t102, t103, t104, t105, t106, t107, t108, t109, t110, t111, t112, t113, t114, t115, t116, t117, t118, t119, t120, t121, t122, t123, t124, t125, t126, t127, t128, t129, t130, t131, t132, t133, t134, t135, t136, t137, t138, t139, t140, t141, t142, t143, t144, t145, t146, t147, t148, t149, t150, t151, t152, t153, t154, t155, t156, t157, t158, t159, t160, t161, t162, t163, t164, t165, t166, t167, t168, t169, t170, t171, t172, t173, t174, t175, t176, t177, t178, t179, t180, t181, t182, t183, t184, t185, t186, t187, t188, t189, t190, t191, t192, t193, t194, t195, t196, t197, t198, t199, t200], []⟩ wr := by
 have HB0 := hid ((Below.refl wr.heap.size wr).drew)
 have HC := hid (fun (X : World) (hX : Below wr.heap.size wr X) => (show X.cell? ⟨bb, 6, none⟩ = some (.bool y6) ∧ X.cell? ⟨bb, 7, none⟩ = some (.slice a7 n7 c7) from ⟨cell_kept3 hb.1 hX, cell_kept3 hb.2 hX⟩))
 have HU := hid hu
 have HS := hid (fun (X : World) (j : Nat) (v : Value) (h : X.cell? ⟨bb, 6, none⟩ = some (.bool y6) ∧ X.cell? ⟨bb, 7, none⟩ = some (.slice a7 n7 c7)) => (show (X.setCell ⟨ub, j, none⟩ v).cell? ⟨bb, 6, none⟩ = some (.bool y6) ∧ (X.setCell ⟨ub, j, none⟩ v).cell? ⟨bb, 7, none⟩ = some (.slice a7 n7 c7) from ⟨(World.cell?_of_block (heap_setCell_other _ _ _ _ hne)).trans h.1, (World.cell?_of_block (heap_setCell_other _ _ _ _ hne)).trans h.2⟩))
 clear hne hu
 unfold OwnPost at HCl
 conv => arg 2; whnf
 refine wp_region_held_drew (S := (fun wx => wx.cell? ⟨bb, 6, none⟩ = some (.bool y6) ∧ wx.cell? ⟨bb, 7, none⟩ = some (.slice a7 n7 c7))) (by kernel_rfl) hb (fun hHeld => ?_)
 refine wpAnyH_to (fuel' := 13) (listed' := #[false, false, false, false, false, false, false, false, false, false, false, false, false]) rfl rfl ?_
 refine' wpAnyH_take (i := 0) (oi := ⟨some 118, _, _, _, _, _⟩) (v := _) rfl (by kernel_rfl) (by kernel_rfl) (by kernel_rfl) (fun _ _ _ h => h) (Or.inl ⟨by kernel_rfl, ?hy46⟩) (by assumption) ?rest46
 case hy46 => (intro wx hSw; (try dsimp only at hSw); obtain ⟨k1, k2⟩ := hSw; go_simp; first | done | with_reducible rfl)
 (try simp only [Act.put, List.setIfInBounds_toArray, List.set_cons_zero, List.set_cons_succ])
 refine' wpAnyH_take (i := 1) (oi := ⟨some 119, _, _, _, _, _⟩) (v := _) rfl (by kernel_rfl) (by kernel_rfl) (by kernel_rfl) (fun _ _ _ h => h) (Or.inl ⟨by kernel_rfl, ?hy47⟩) (by assumption) ?rest47
 case hy47 => (intro wx hSw; (try dsimp only at hSw); obtain ⟨k1, k2⟩ := hSw; go_simp; first | done | with_reducible rfl)
 (try simp only [Act.put, List.setIfInBounds_toArray, List.set_cons_zero, List.set_cons_succ])
 refine' wpAnyH_take (i := 2) (oi := ⟨some 120, _, _, _, _, _⟩) (v := _) rfl (by kernel_rfl) (by kernel_rfl) (by kernel_rfl) (fun _ _ _ h => h) (Or.inl ⟨by kernel_rfl, ?hy48⟩) (by assumption) ?rest48
 case hy48 => (intro wx hSw; (try dsimp only at hSw); obtain ⟨k1, k2⟩ := hSw; go_simp; first | done | with_reducible rfl)
 (try simp only [Act.put, List.setIfInBounds_toArray, List.set_cons_zero, List.set_cons_succ])
 refine' wpAnyH_take (i := 3) (oi := ⟨some 121, _, _, _, _, _⟩) (v := _) rfl (by kernel_rfl) (by kernel_rfl) (by kernel_rfl) (fun _ _ _ h => h) (Or.inl ⟨by kernel_rfl, ?hy49⟩) (by assumption) ?rest49
 case hy49 => (intro wx hSw; (try dsimp only at hSw); obtain ⟨k1, k2⟩ := hSw; go_simp; first | done | with_reducible rfl)
 (try simp only [Act.put, List.setIfInBounds_toArray, List.set_cons_zero, List.set_cons_succ])
 refine' wpAnyH_take (i := 4) (oi := ⟨some 122, _, _, _, _, _⟩) (v := _) rfl (by kernel_rfl) (by kernel_rfl) (by kernel_rfl) (fun _ _ _ h => h) (Or.inl ⟨by kernel_rfl, ?hy50⟩) (by assumption) ?rest50
 case hy50 => (intro wx hSw; (try dsimp only at hSw); obtain ⟨k1, k2⟩ := hSw; go_simp; first | done | with_reducible rfl)
 (try simp only [Act.put, List.setIfInBounds_toArray, List.set_cons_zero, List.set_cons_succ])
 refine' wpAnyH_take (i := 5) (oi := ⟨some 123, _, _, _, _, _⟩) (v := _) rfl (by kernel_rfl) (by kernel_rfl) (by kernel_rfl) (fun _ _ _ h => h) (Or.inl ⟨by kernel_rfl, ?hy51⟩) (by assumption) ?rest51
 case hy51 => (intro wx hSw; (try dsimp only at hSw); obtain ⟨k1, k2⟩ := hSw; go_simp; first | done | with_reducible rfl)
 (try simp only [Act.put, List.setIfInBounds_toArray, List.set_cons_zero, List.set_cons_succ])
 refine' wpAnyH_take (i := 6) (oi := ⟨some 124, _, _, _, _, _⟩) (v := _) rfl (by kernel_rfl) (by kernel_rfl) (by kernel_rfl) (fun _ _ _ h => h) (Or.inl ⟨by kernel_rfl, ?hy52⟩) (by assumption) ?rest52
 case hy52 => (intro wx hSw; (try dsimp only at hSw); obtain ⟨k1, k2⟩ := hSw; go_simp; first | done | with_reducible rfl)
 (try simp only [Act.put, List.setIfInBounds_toArray, List.set_cons_zero, List.set_cons_succ])
 refine' wpAnyH_take (i := 7) (oi := ⟨some 125, _, _, _, _, _⟩) (v := _) rfl (by kernel_rfl) (by kernel_rfl) (by kernel_rfl) (fun _ _ _ h => h) (Or.inl ⟨by kernel_rfl, ?hy53⟩) (by assumption) ?rest53
 case hy53 => (intro wx hSw; (try dsimp only at hSw); obtain ⟨k1, k2⟩ := hSw; go_simp; first | done | with_reducible rfl)
 (try simp only [Act.put, List.setIfInBounds_toArray, List.set_cons_zero, List.set_cons_succ])
 refine wpAnyH_ready (rs := [8]) (by kernel_rfl) (by simp) ?_
 refine AllReadyH.cons rfl (fun K9 hK => ?_) AllReadyH.nil
 rw [if_pos (by kernel_rfl)]
 go_simp
 go_wp2_with (go_at_call 82; refine (HCl.out _ HB0.out).mono ?_; rintro e wa ⟨qv, rfl, hown, hba⟩)
 have hb1 := HB0.out.trans (hba.mono HB0.out.size)
 have HB1 := hid hb1
 have HO1 := hid (ownsRow_lower hown HB0.out.size)
 obtain ⟨qa, qn, qc, rfl⟩ := own_sl hown
 have c6 := (HU.out.kept hb1).cell 6 _ rfl
 have f6 := (HU.out.kept hb1).frozen 6
 have c7' := (HU.out.kept hb1).cell 7 _ rfl
 have f7 := (HU.out.kept hb1).frozen 7
 clear hba hb1 hown
 refine hK.out _ _ (HC.out _ HB1.out) (fun hHeld2 => ?_)
 clear hK K9 hHeld
 rename _ => hHeld
 refine' wpAnyH_take (i := 9) (oi := ⟨some 127, _, _, _, _, _⟩) (v := _) rfl (by kernel_rfl) (by kernel_rfl) (by kernel_rfl) (fun _ _ _ h => h) (Or.inl ⟨by kernel_rfl, ?hy54⟩) (by assumption) ?rest54
 case hy54 => (intro wx hSw; (try dsimp only at hSw); obtain ⟨k1, k2⟩ := hSw; go_simp; first | done | with_reducible rfl)
 (try simp only [Act.put, List.setIfInBounds_toArray, List.set_cons_zero, List.set_cons_succ])
 refine wpAnyH_ready (rs := [10]) (by kernel_rfl) (by simp) ?_
 refine AllReadyH.cons rfl (fun K9 hK => ?_) AllReadyH.nil
 rw [if_pos (by kernel_rfl)]
 go_simp
 refine hK.out _ _ (HS.out _ _ _ (HC.out _ HB1.out)) (fun hHeld2 => ?_)
 clear hK K9 hHeld
 rename _ => hHeld
 refine' wpAnyH_take (i := 11) (oi := ⟨some 128, _, _, _, _, _⟩) (v := _) rfl (by kernel_rfl) (by kernel_rfl) (by kernel_rfl) (fun _ _ _ h => h) (Or.inl ⟨by kernel_rfl, ?hy55⟩) (by assumption) ?rest55
 case hy55 => (intro wx hSw; (try dsimp only at hSw); obtain ⟨k1, k2⟩ := hSw; go_simp; first | done | with_reducible rfl)
 (try simp only [Act.put, List.setIfInBounds_toArray, List.set_cons_zero, List.set_cons_succ])
 refine wpAnyH_ready (rs := [12]) (by kernel_rfl) (by simp) ?_
 refine AllReadyH.cons rfl (fun K9 hK => ?_) AllReadyH.nil
 rw [if_pos (by kernel_rfl)]
 go_simp
 refine hK.out _ _ (HS.out _ _ _ (HS.out _ _ _ (HC.out _ HB1.out))) (fun hHeld2 => ?_)
 clear hK K9 hHeld
 rename _ => hHeld
 refine wpAnyH_done (by kernel_rfl) ?_ _
 exact HK.out _ _ _ _ _ _ _ _ _ _ _ (.slice qa qn qc) wa _ HB1.out HO1.out rfl

end Go.Proofs.YtamockkjbkibdaaGreatDoor
