/-
  The second loop of ostiarybook's Apart.
-/
import Derived.Test.YtplabofdcnpcpaaDoorZBkhr
set_option linter.unusedSimpArgs false
set_option linter.unusedVariables false
namespace Go.Proofs.YtplabofdcnpcpaaDoor
open Go.RowKit

noncomputable def ablh : Code := ((Tryd.f13.body.map loopsOf).getD []).getD 2 .skip

set_option maxHeartbeats 4000000 in
set_option maxRecDepth 100000 in
theorem alooph (B p : Nat) (h : Int) (aA : Option Addr) (cA k : Nat) (xs : List Value) (w W : World) (K : Act → World → Prop) (t2 t3 t4 t5 t6 t7 t9 t10 t11 t12 t13 t14 t15 t16 t17 t18 t19 t20 t21 t22 t23 t24 t25 t26 t27 t28 t29 t30 t31 t32 t33 t34 t35 t36 t37 t38 t39 t40 t41 t42 t43 t44 t45 t46 t47 t48 t49 t50 t51 t52 t53 t54 t55 t56 t57 t58 t59 t60 t61 t62 t63 t64 t65 t66 t67 t68 t69 t70 t71 t72 t73 t74 t75 t76 t77 t78 t79 t80 t81 t82 t83 t84 t85 t86 t87 t88 t89 t90 t91 t92 t93 t94 t95 t96 t97 t98 t99 t100 : Value) (hn : k ≤ 201) (hcA : k ≤ cA) (hBw : B ≤ w.heap.size) (HNE : Hid (k = xs.length)) (HR : Hid (Avh W B p h (.slice aA k cA) xs k 0 ∧ Bt 38 p B w W))
    (HK : Hid (∀ (u2 u3 u4 u5 u6 u7 u8 u9 u10 u11 u12 u13 u14 u15 u16 u17 u18 u19 u20 u21 u22 u23 u24 u25 u26 u27 u28 u29 u30 u31 u32 u33 u34 u35 u36 u37 u38 u39 u40 u41 u42 u43 u44 u45 u46 u47 u48 u49 u50 u51 u52 u53 u54 u55 u56 u57 u58 u59 u60 u61 u62 u63 u64 u65 u66 u67 u68 u69 u70 u71 u72 u73 u74 u75 u76 u77 u78 u79 u80 u81 u82 u83 u84 u85 u86 u87 u88 u89 u90 u91 u92 u93 u94 u95 u96 u97 u98 u99 u100 : Value) (w2 : World), Avh w2 B p h (.slice aA k cA) xs k 0 → Bt 38 p B w w2 → K ⟨#[.pointer (some ⟨p, 0, none⟩), .func (.func 14) #[] #[], u2, u3, u4, u5, u6, u7, u8, u9, u10, u11, u12, u13, u14, u15, u16, u17, u18, u19, u20, u21, u22, u23, u24, u25, u26, u27, u28, u29, u30, u31, u32, u33, u34, u35, u36, u37, u38, u39, u40, u41, u42, u43, u44, u45, u46, u47, u48, u49, u50, u51, u52, u53, u54, u55, u56, u57, u58, u59, u60, u61, u62, u63, u64, u65, u66, u67, u68, u69, u70, u71, u72, u73, u74, u75, u76, u77, u78, u79, u80, u81, u82, u83, u84, u85, u86, u87, u88, u89, u90, u91, u92, u93, u94, u95, u96, u97, u98, u99, u100], []⟩ w2)) :
    Code.wp Tryd.prog (.loop ablh) (exit4b K) ⟨#[.pointer (some ⟨p, 0, none⟩), .func (.func 14) #[] #[], t2, t3, t4, t5, t6, t7, .int .i64 0, t9, t10, t11, t12, t13, t14, t15, t16, t17, t18, t19, t20, t21, t22, t23, t24, t25, t26, t27, t28, t29, t30, t31, t32, t33, t34, t35, t36, t37, t38, t39, t40, t41, t42, t43, t44, t45, t46, t47, t48, t49, t50, t51, t52, t53, t54, t55, t56, t57, t58, t59, t60, t61, t62, t63, t64, t65, t66, t67, t68, t69, t70, t71, t72, t73, t74, t75, t76, t77, t78, t79, t80, t81, t82, t83, t84, t85, t86, t87, t88, t89, t90, t91, t92, t93, t94, t95, t96, t97, t98, t99, t100], []⟩ W := by
  conv => arg 2; whnf
  conv => arg 2; arg 1; whnf
  conv => arg 4; dsimp only
  go_loopw [8] (fun v8 wq => ∃ i : Nat, i ≤ k ∧ v8 = .int .i64 i ∧ Hid (Avh wq B p h (.slice aA k cA) xs k 0 ∧ Bt 38 p B w wq)) (fun v8 _ => k - (intOf v8).toNat)
  case atStart => exact ⟨0, Nat.zero_le _, rfl, HR.out⟩
  case round =>
    clear HR
    obtain ⟨i, hi, rfl, HR⟩ := hrel
    have HP7 := hid HR.out.1.1
    obtain ⟨Y3, hp7⟩ := HP7.out
    have c0 := cell_of_heapE hp7 0 _ rfl
    by_cases hlt : i < k
    · clear hp7 HP7
      have hin : (i : Int) < (k : Int) := by omega
      have hkx : i < xs.length := by have := HNE.out; omega
      obtain ⟨gA, oA, cA', eA, _, qA⟩ := HR.out.1.2.1.cell i hkx
      injection eA with eA1 eA2 eA3
      clear eA2 eA3
      subst eA1
      have HXK := hid (show xs[i]? = some xs[i] by simp [hkx])
      have hrow := HR.out.1.2.2.1 i xs[i] HXK.out
      generalize xs[i] = X at qA hrow HXK
      clear hkx
      rcases hrow with rfl | ⟨G, O, N, C, cur, rfl, hBG, _, hNC, hCM, _, _⟩
      · have hcm : (0 : Int) ≤ 9223372036854775807 := by decide
        go_wp2_with fail
        go_quiet (fail)
        go_wp2_with fail
        go_loopw [10] (fun v wq => v = .int .i64 0 ∧ Hid (Avh wq B p h (.slice (some ⟨gA, oA, none⟩) k cA) xs k 0 ∧ Bt 38 p B w wq)) (fun _ _ => 0)
        case atStart => exact ⟨rfl, HR.out.1.below (Go.below_drewN (Below.refl _ wr) _), HR.out.2.step (Nat.le_trans hBw HR.out.2.1.size) (Go.below_drewN (Below.refl _ wr) _)⟩
        case round =>
          obtain ⟨rfl, HR2⟩ := hrel
          go_wp2_with fail
          go_roundw
          case rel =>
            first
              | exact ⟨i + 1, by omega, by go_num, HR2.out⟩
              | ((repeat apply Exists.intro); refine ⟨?_, rfl⟩; exact ⟨i + 1, by omega, by go_num, HR2.out⟩)
              | ((repeat apply Exists.intro); exact ⟨⟨i + 1, by omega, by go_num, HR2.out⟩, rfl⟩)
          case measure => simp [intOf]; omega
      · have hsl : ∀ wx, (Instr.sliceAt 22 (.slice (some ⟨G, O, none⟩) N C) none (some (.int .i64 (C : Int))) none).run Tryd.prog wx = .ok (.slice (some ⟨G, O, none⟩) C C) wx := fun wx => slice_fullh G O N C wx hNC
        have HCM := hid hCM
        have hC63 : C ≤ 9223372036854775807 := by unfold maxLen at hCM; exact hCM
        clear hCM
        go_wp2_with fail
        go_quiet (fail)
        go_wp2_with fail
        clear qA c0 hsl
        go_loopw [10] (fun v7 wq => ∃ m : Nat, m ≤ C ∧ v7 = .int .i64 m ∧ Hid (Avh wq B p h (.slice (some ⟨gA, oA, none⟩) k cA) xs k 0 ∧ Bt 38 p B w wq)) (fun v7 _ => C - (intOf v7).toNat)
        case atStart => exact ⟨0, Nat.zero_le _, rfl, HR.out.1.below (Go.below_drewN (Below.refl _ wr) _), HR.out.2.step (Nat.le_trans hBw HR.out.2.1.size) (Go.below_drewN (Below.refl _ wr) _)⟩
        case round =>
          clear HR
          obtain ⟨m, hm, rfl, HR⟩ := hrel
          by_cases hmlt : m < C
          · have hmI : (m : Int) < (C : Int) := by omega
            obtain ⟨x0, x1, d0, d1, _, _, hval⟩ := (HR.out.1.2.2.1 i _ HXK.out).three m hmlt
            obtain ⟨rfl, rfl⟩ := hval (.inl hlt)
            have HMK := hid (markh_any i m (by omega) (by omega))
            generalize mk0h i m = M0 at d0 HMK
            generalize mk1h i m = M1 at d1 HMK
            clear hval
            go_wp2_with fail
            refine wp_cut (atesth G O C i m M0 M1 wr _ _ _ _ _ _ _ _ _ _ _ _ _ _ _ _ _ _ _ _ _ _ _ _ _ _ _ _ _ _ _ _ _ _ _ _ _ _ _ _ _ _ _ _ _ _ _ _ _ _ _ _ _ _ _ _ _ _ _ _ _ _ _ _ _ _ _ _ _ _ _ _ _ _ _ _ _ _ _ _ _ _ _ _ _ _ _ _ _ _ _ _ _ _ _ _ _ _ hmI hC63 d0 d1 HMK ?_)
            intro v83 v84 v85 v86 v87 v88 v89 v90 w8 hb8
            all_goals
              have HR9 := hid (show Avh w8 B p h (.slice (some ⟨gA, oA, none⟩) k cA) xs k 0 ∧ Bt 38 p B w w8 from ⟨HR.out.1.below hb8, HR.out.2.step (Nat.le_trans hBw HR.out.2.1.size) hb8⟩)
              clear HR d0 d1 hb8
              go_wp2_with fail
              go_roundw
              case rel =>
                first
                  | exact ⟨m + 1, by omega, by go_num, HR9.out⟩
                  | ((repeat apply Exists.intro); refine ⟨?_, rfl⟩; exact ⟨m + 1, by omega, by go_num, HR9.out⟩)
                  | ((repeat apply Exists.intro); exact ⟨⟨m + 1, by omega, by go_num, HR9.out⟩, rfl⟩)

              case measure => simp [intOf]; omega
          · obtain rfl : m = C := by omega
            have hmI : ¬ ((m : Int) < (m : Int)) := by omega
            clear hm hmlt
            go_wp2_with fail
            go_roundw
            case rel =>
              first
                | exact ⟨i + 1, by omega, by go_num, HR.out⟩
                | ((repeat apply Exists.intro); refine ⟨?_, rfl⟩; exact ⟨i + 1, by omega, by go_num, HR.out⟩)
                | ((repeat apply Exists.intro); exact ⟨⟨i + 1, by omega, by go_num, HR.out⟩, rfl⟩)

            case measure => simp [intOf]; omega
    · obtain rfl : i = k := by omega
      have hng : ¬ ((i : Int) < (i : Int)) := by omega
      clear hp7 HP7 hi hlt
      go_wp2_with fail
      exact HK.out _ _ _ _ _ _ _ _ _ _ _ _ _ _ _ _ _ _ _ _ _ _ _ _ _ _ _ _ _ _ _ _ _ _ _ _ _ _ _ _ _ _ _ _ _ _ _ _ _ _ _ _ _ _ _ _ _ _ _ _ _ _ _ _ _ _ _ _ _ _ _ _ _ _ _ _ _ _ _ _ _ _ _ _ _ _ _ _ _ _ _ _ _ _ _ _ _ _ _ _ HR.out.1 HR.out.2

end Go.Proofs.YtplabofdcnpcpaaDoor
