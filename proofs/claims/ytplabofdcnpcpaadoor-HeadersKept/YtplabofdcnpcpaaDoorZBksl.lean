/-
  The loop of ostiarybook's Keep: older lists may be let go.
-/
import Derived.Test.YtplabofdcnpcpaaDoorZBksd
import Derived.BigRegion
set_option linter.unusedSimpArgs false
set_option linter.unusedVariables false
namespace Go.Proofs.YtplabofdcnpcpaaDoor
open Go.RowKit

def lenAts (w : World) (p : Nat) : Nat := (match (w.cell? ⟨p, 0, none⟩).getD (.bool false) with | .slice _ n _ => n | _ => 0)

/-- The book holds the last ones of these lists. -/
def KPs (w : World) (B p : Nat) (zs : List Value) : Prop := ∃ (h : Int) (A Y : Value) (xs ys : List Value) (k : Nat), (k < zs.length ∧ xs = zs.drop k) ∧ Bks w B p h A Y xs ys

noncomputable def kbls : Code := ((Tryd.f12.body.map loopsOf).getD []).getD 0 .skip

set_option maxHeartbeats 4000000 in
set_option maxRecDepth 100000 in
theorem kloops (B p : Nat) (zs : List Value) (w W : World) (K : Act → World → Prop) (t1 t2 t3 t4 t5 t6 t7 t8 t9 t10 t11 t12 t13 t14 t15 t16 t17 t18 t19 t20 t21 t22 t23 t24 t25 t26 t27 t28 t29 t30 t31 t32 t33 t34 t35 t36 t37 t38 t39 t40 t41 t42 t43 t44 t45 t46 t47 t48 t49 t50 t51 t52 t53 t54 t55 t56 t57 t58 t59 t60 t61 t62 t63 t64 t65 t66 t67 t68 t69 t70 t71 t72 t73 t74 t75 t76 t77 t78 t79 t80 t81 t82 t83 t84 t85 t86 t87 t88 t89 t90 t91 t92 t93 t94 t95 t96 t97 t98 t99 t100 t101 t102 t103 t104 t105 t106 t107 t108 t109 t110 t111 : Value) (hzl : zs.length ≤ 201) (HB0 : Hid (KPs W B p zs)) (HBP : Hid (B ≤ p)) (HL0 : Hid (Bt 33 p B w W))
    (HK : Hid (∀ (u36 u37 u38 u39 u40 u41 u42 u43 u44 u45 u46 u47 u48 u49 u50 u51 u52 u53 u54 u55 u56 u57 u58 u59 u60 u61 u62 u63 u64 u65 u66 u67 u68 u69 u70 u71 u72 u73 u74 u75 u76 u77 u78 u79 u80 u81 u82 u83 u84 u85 u86 u87 u88 u89 u90 u91 u92 u93 u94 u95 u96 u97 u98 u99 u100 u101 u102 u103 u104 u105 u106 u107 u108 u109 u110 u111 : Value) (w2 : World), KPs w2 B p zs → Bt 33 p B w w2 → K ⟨#[.pointer (some ⟨p, 0, none⟩), t1, t2, t3, t4, t5, t6, t7, t8, t9, t10, t11, t12, t13, t14, t15, t16, t17, t18, t19, t20, t21, t22, t23, t24, t25, t26, t27, t28, t29, t30, t31, t32, t33, t34, t35, u36, u37, u38, u39, u40, u41, u42, u43, u44, u45, u46, u47, u48, u49, u50, u51, u52, u53, u54, u55, u56, u57, u58, u59, u60, u61, u62, u63, u64, u65, u66, u67, u68, u69, u70, u71, u72, u73, u74, u75, u76, u77, u78, u79, u80, u81, u82, u83, u84, u85, u86, u87, u88, u89, u90, u91, u92, u93, u94, u95, u96, u97, u98, u99, u100, u101, u102, u103, u104, u105, u106, u107, u108, u109, u110, u111], []⟩ w2)) :
    Code.wp Tryd.prog (.loop kbls) (exit0 K) ⟨#[.pointer (some ⟨p, 0, none⟩), t1, t2, t3, t4, t5, t6, t7, t8, t9, t10, t11, t12, t13, t14, t15, t16, t17, t18, t19, t20, t21, t22, t23, t24, t25, t26, t27, t28, t29, t30, t31, t32, t33, t34, t35, t36, t37, t38, t39, t40, t41, t42, t43, t44, t45, t46, t47, t48, t49, t50, t51, t52, t53, t54, t55, t56, t57, t58, t59, t60, t61, t62, t63, t64, t65, t66, t67, t68, t69, t70, t71, t72, t73, t74, t75, t76, t77, t78, t79, t80, t81, t82, t83, t84, t85, t86, t87, t88, t89, t90, t91, t92, t93, t94, t95, t96, t97, t98, t99, t100, t101, t102, t103, t104, t105, t106, t107, t108, t109, t110, t111], []⟩ W := by
  conv => arg 2; whnf
  conv => arg 2; arg 1; whnf
  conv => arg 4; dsimp only
  go_loopw [36] (fun _ wr => Hid (KPs wr B p zs) ∧ Hid (Bt 33 p B w wr)) (fun _ wr => lenAts wr p)
  case atStart => exact ⟨HB0.out, HL0.out⟩
  case round =>
    clear HB0 HL0
    obtain ⟨⟨h', A', Y', xs', ys', k, ⟨hkl, hxe⟩, HBV⟩, HBL⟩ := hrel
    have HKL := hid hkl
    clear hkl
    have HXE := hid hxe
    have hxl : xs'.length ≤ 201 := by rw [hxe]; simp; omega
    clear hxe
    by_cases h1 : 1 < xs'.length
    · obtain ⟨a, xs2, rfl⟩ : ∃ a t, xs' = a :: t := by
        cases xs' with
        | nil => simp at h1
        | cons a t => exact ⟨a, t, rfl⟩
      obtain ⟨y, ys2, rfl⟩ : ∃ a t, ys' = a :: t := by
        have := HBV.2.1
        cases ys' with
        | nil => simp at this
        | cons a t => exact ⟨a, t, rfl⟩
      obtain ⟨gA, oA, cA, rfl, hcA, qA⟩ := HBV.2.2.2.1.cell 0 (by simp)
      obtain ⟨gY, oY, cY, rfl, hcY, qY⟩ := HBV.2.2.2.2.1.cell 0 (by simp)
      obtain ⟨mn, M, hM, hMx, hMy⟩ := HBV.2.2.2.2.2.2.1 0 a y rfl rfl
      obtain ⟨xa, xc, rfl, _, _⟩ := hMx.slice
      obtain ⟨ya, yc', rfl, _, _⟩ := hMy.slice
      have q1 : wr.cell? ⟨gA, oA, none⟩ = some (.slice xa mn xc) := qA
      have q2 : wr.cell? ⟨gY, oY, none⟩ = some (.slice ya mn yc') := qY
      have HSAME := hid (fun (Z : World) (hZ : Below wr.heap.size wr Z) => bsames (.slice xa mn xc) (.slice ya mn yc') mn M B Z (hMx.below hZ) (hMy.below hZ) (by omega))
      have hyl2 : ys2.length = xs2.length := by have := HBV.2.1; simpa using this
      obtain ⟨n, hn2⟩ : ∃ n, n = xs2.length := ⟨_, rfl⟩
      have e1 : ((Value.slice xa mn xc) :: xs2).length = n + 1 := by rw [hn2]; rfl
      have e2 : ((Value.slice ya mn yc') :: ys2).length = n + 1 := by rw [hn2, ← hyl2]; rfl
      rw [e1] at hcA h1 hxl
      rw [e2] at hcY
      have HBV2 : Hid (Bks wr B p h' (.slice (some ⟨gA, oA, none⟩) (n + 1) cA) (.slice (some ⟨gY, oY, none⟩) (n + 1) cY) ((Value.slice xa mn xc) :: xs2) ((Value.slice ya mn yc') :: ys2)) := by
        rw [e1, e2] at HBV
        exact HBV
      have HP7 := hid HBV2.out.2.2.1
      have c0 := cell_of_heapE HP7.out 0 _ rfl
      have c1 := cell_of_heapE HP7.out 1 _ rfl
      have c2 := cell_of_heapE HP7.out 2 _ rfl
      have c3 := cell_of_heapE HP7.out 3 _ rfl
      have hplt := HBV2.out.lt
      have HNE := hid hn2
      have HYL2 := hid hyl2
      have t1 : (1 : Int) < ((n + 1 : Nat) : Int) := by omega
      have t1' : (1 : Int) < (n : Int) + 1 := by omega
      have HLn := hid (show lenAts wr p = n + 1 by unfold lenAts; rw [c0]; rfl)
      clear hMx hMy qA qY HBV hn2 hyl2 e1 e2
      by_cases hH : 1000000 < h'
      · have t2 : (1000000 : Int) < h' := hH
        clear hH
        go_wp2_with fail
        go_region_held (fun wx => wx.cell? ⟨p, 0, none⟩ = some (.slice (some ⟨gA, oA, none⟩) (n + 1) cA) ∧ wx.cell? ⟨p, 1, none⟩ = some (.slice (some ⟨gY, oY, none⟩) (n + 1) cY) ∧ wx.cell? ⟨p, 3, none⟩ = some (.bool false) ∧ wx.cell? ⟨gA, oA, none⟩ = some (.slice xa mn xc) ∧ wx.cell? ⟨gY, oY, none⟩ = some (.slice ya mn yc')) (first | (refine ⟨(setCell_idle hp2 rfl _).trans d0, (setCell_idle hp2 rfl _).trans d1, (setCell_idle hp2 rfl _).trans d3, (setCell_idle hp2 rfl _).trans d4, (setCell_idle hp2 rfl _).trans d5⟩) | go_keep) (first | (go_at_call 38; refine (HSAME.out wr.drew ((Below.refl _ wr).drew)).mono ?_; rintro e w8 ⟨rfl, hb2x⟩; have hb2 : Below wr.heap.size wr w8 := (Below.refl _ wr).drew.trans hb2x; have hp2 := (hb2.block p hplt).trans HP7.out; have f3 := Lib.frozen_of_heap ((hb2.block p hplt).trans HP7.out) 3; have d3 := cell_of_heapE ((hb2.block p hplt).trans HP7.out) 3 _ rfl; have d0 := cell_of_heapE ((hb2.block p hplt).trans HP7.out) 0 _ rfl; have d1 := cell_of_heapE ((hb2.block p hplt).trans HP7.out) 1 _ rfl; have d4 := kept_cell q1 hb2; have d5 := kept_cell q2 hb2))
        all_goals
          have HV8 := hid (HBV2.out.below hb2)
          have HV9 := hid (HV8.out.turn (heap_setCell_same w8 p 3 _ _ (.bool false) hp2) fun k _ hne => heap_setCell_other w8 ⟨p, 3, none⟩ k (.bool false) hne)
          have HB9 := hid ((HBL.out.step (by have := HBP.out; omega) hb2).set HBP.out 3 (.bool false))
          obtain ⟨w9, hw9⟩ : ∃ w9, w9 = w8.setCell ⟨p, 3, none⟩ (.bool false) := ⟨_, rfl⟩
          rw [← hw9] at HV9 HB9 ⊢
          clear hw9 d0 d1 d3 d4 d5 f3 hp2 hb2 hb2x c0 c1 c2 c3 q1 q2 HV8 HBV2 HSAME
          have hp9 := HV9.out.2.2.1
          have c0 := cell_of_heapE hp9 0 _ rfl
          have c2 := cell_of_heapE hp9 2 _ rfl
          have f2 := Lib.frozen_of_heap hp9 2
          have q1 : w9.cell? ⟨gA, oA, none⟩ = some (.slice xa mn xc) := by
            obtain ⟨g', o', c', e, _, hq⟩ := HV9.out.2.2.2.1.cell 0 (by simp)
            injection e with e1 _ _
            injection e1 with e1
            injection e1 with e4 e5
            subst e4 e5
            exact hq
          have HP9 := hid hp9
          clear hp9
          go_wp2_with fail
          go_region
          all_goals
            obtain ⟨H2, hH2⟩ : ∃ H2, wrap64 (wrap64 (h' - (xc : Int)) - 1) = H2 := ⟨_, rfl⟩
            rw [hH2]
            clear hH2
            have e10 := heap_setCell_same w9 p 2 _ _ (.int .i64 H2) HP9.out
            have e11 := heap_setCell_same _ p 0 _ _ (.slice (some ⟨gA, oA + 1, none⟩) n (cA - 1)) e10
            have e12 := heap_setCell_same _ p 1 _ _ (.slice (some ⟨gY, oY + 1, none⟩) n (cY - 1)) e11
            have d0 := cell_of_heapE e10 0 _ rfl
            have g0 := Lib.frozen_of_heap e10 0
            have d1 := cell_of_heapE e11 1 _ rfl
            have g1 := Lib.frozen_of_heap e11 1
            have hsl1 : ∀ wx, (Instr.sliceAt 27 (.slice (some ⟨gA, oA, none⟩) (n + 1) cA) (some (.int .i64 1)) none none).run Tryd.prog wx = .ok (.slice (some ⟨gA, oA + 1, none⟩) n (cA - 1)) wx := fun wx => slice_tails gA oA (n + 1) cA wx (by omega) (by omega)
            have hsl2 : ∀ wx, (Instr.sliceAt 27 (.slice (some ⟨gY, oY, none⟩) (n + 1) cY) (some (.int .i64 1)) none none).run Tryd.prog wx = .ok (.slice (some ⟨gY, oY + 1, none⟩) n (cY - 1)) wx := fun wx => slice_tails gY oY (n + 1) cY wx (by omega) (by omega)
            have HV10 := hid (show KPs (((w9.setCell ⟨p, 2, none⟩ (.int .i64 H2)).setCell ⟨p, 0, none⟩ (.slice (some ⟨gA, oA + 1, none⟩) n (cA - 1))).setCell ⟨p, 1, none⟩ (.slice (some ⟨gY, oY + 1, none⟩) n (cY - 1))) B p zs from by
              have hb := HV9.out
              have hne := HNE.out
              have hye := HYL2.out
              subst hne
              rw [← hye] at hb e12 ⊢
              have hb2 : Bks w9 B p h' (.slice (some ⟨gA, oA, none⟩) (xs2.length + 1) cA) (.slice (some ⟨gY, oY, none⟩) (ys2.length + 1) cY) ((Value.slice xa mn xc) :: xs2) ((Value.slice ya mn yc') :: ys2) := by rw [← hye]; exact hb
              have e13 : (((w9.setCell ⟨p, 2, none⟩ (.int .i64 H2)).setCell ⟨p, 0, none⟩ (.slice (some ⟨gA, oA + 1, none⟩) ys2.length (cA - 1))).setCell ⟨p, 1, none⟩ (.slice (some ⟨gY, oY + 1, none⟩) ys2.length (cY - 1))).heap[p]? = some (.cells #[.slice (some ⟨gA, oA + 1, none⟩) xs2.length (cA - 1), .slice (some ⟨gY, oY + 1, none⟩) ys2.length (cY - 1), .int .i64 H2, .bool false] 29 (0, 0)) := by rw [← hye]; exact e12
              refine ⟨H2, _, _, xs2, ys2, k + 1, ?_, hb2.drop e13 fun j _ hj => by
                rw [heap_setCell_other _ ⟨p, 1, none⟩ j _ hj, heap_setCell_other _ ⟨p, 0, none⟩ j _ hj, heap_setCell_other _ ⟨p, 2, none⟩ j _ hj]⟩
              refine ⟨by have h5 := congrArg List.length HXE.out; simp at h5; omega, ?_⟩
              have := congrArg List.tail HXE.out
              rw [List.tail_cons, List.tail_drop] at this
              exact this)
            have HB10 := hid (((HB9.out.set HBP.out 2 (.int .i64 H2)).set HBP.out 0 (.slice (some ⟨gA, oA + 1, none⟩) n (cA - 1))).set HBP.out 1 (.slice (some ⟨gY, oY + 1, none⟩) n (cY - 1)))
            have HLN := hid (show lenAts (((w9.setCell ⟨p, 2, none⟩ (.int .i64 H2)).setCell ⟨p, 0, none⟩ (.slice (some ⟨gA, oA + 1, none⟩) n (cA - 1))).setCell ⟨p, 1, none⟩ (.slice (some ⟨gY, oY + 1, none⟩) n (cY - 1))) p = n by unfold lenAts; rw [cell_of_heapE e12 0 _ rfl]; rfl)
            clear e10 e11 e12 c0 c2 f2 q1 HV9
            go_wp2_with fail
            go_roundw
            case rel => first | exact ⟨HV10.out, HB10.out⟩ | exact ⟨HV10.out, HB10.out.drew⟩
            case measure => rw [HLn.out]; exact Nat.lt_of_le_of_lt (Nat.le_of_eq HLN.out) (Nat.lt_succ_self n)
      · have t2 : ¬ ((1000000 : Int) < h') := hH
        have t3 : ¬ ((4000 : Int) < (n : Int) + 1) := by omega
        clear q1 q2 hH
        go_wp2_with fail
        exact HK.out _ _ _ _ _ _ _ _ _ _ _ _ _ _ _ _ _ _ _ _ _ _ _ _ _ _ _ _ _ _ _ _ _ _ _ _ _ _ _ _ _ _ _ _ _ _ _ _ _ _ _ _ _ _ _ _ _ _ _ _ _ _ _ _ _ _ _ _ _ _ _ _ _ _ _ _ _ ⟨h', _, _, _, _, k, ⟨HKL.out, HXE.out⟩, HBV2.out⟩ HBL.out
    · obtain ⟨aA, cA, rfl, hcA⟩ := HBV.2.2.2.1.form
      have c0 := cell_of_heapE HBV.2.2.1 0 _ rfl
      have HBV2 := hid HBV
      have t1 : ¬ ((1 : Int) < (xs'.length : Int)) := by omega
      clear h1 HBV
      go_wp2_with fail
      exact HK.out _ _ _ _ _ _ _ _ _ _ _ _ _ _ _ _ _ _ _ _ _ _ _ _ _ _ _ _ _ _ _ _ _ _ _ _ _ _ _ _ _ _ _ _ _ _ _ _ _ _ _ _ _ _ _ _ _ _ _ _ _ _ _ _ _ _ _ _ _ _ _ _ _ _ _ _ _ ⟨h', _, _, xs', ys', k, ⟨HKL.out, HXE.out⟩, HBV2.out⟩ HBL.out

end Go.Proofs.YtplabofdcnpcpaaDoor
