/-
  One block in ostiaryref8's Sum, at 32 bits.
-/
import Derived.Test.YtbdlicomkpnalaaDoorZ0
import Derived.Test.YtbdlicomkpnalaaDoorZIh3
import Derived.Test.YtbdlicomkpnalaaDoorZIj3
import Derived.Test.YtbdlicomkpnalaaDoorZIk
set_option linter.unusedSimpArgs false
set_option linter.unusedVariables false
namespace Go.Proofs.YtbdlicomkpnalaaDoor
open Go.RowKit

noncomputable def srg23_3 : Code := (Tryd.f12.body.bind (regionOf 23)).getD .skip

set_option maxHeartbeats 4000000 in
set_option maxRecDepth 100000 in
theorem rs23_3 (T b8 b11 g n cap p p2 ra rb rc rd re rf rg rh za zb zc zd ze zf zg zh : Nat) (wr : World) (K : Act → World → Prop) (t1 t2 t3 t4 t5 t6 t7 t10 t12 t15 t16 t17 t18 t19 t20 t21 t22 t23 t24 t25 t26 t27 t28 t29 t30 t31 t32 t33 t34 t35 t36 t37 t38 t39 t40 t41 t42 t43 t44 t45 t46 t47 t48 t49 t50 t51 t52 t53 t54 t55 t56 t57 t58 t59 t60 t61 t62 t63 t64 t65 t66 t67 t68 t69 t70 t71 t72 t73 t74 t75 t76 t77 t78 t79 t80 t81 t82 t83 t84 t85 t86 t87 t88 t89 t90 t91 t92 t93 t94 : Value)
    (HA : Hid (wr.heap[b8]? = some (.cells #[.int .u64 32] 76 (0, 0)))) (HR : Hid (Rw wr b11 .u64 77 [ra, rb, rc, rd, re, rf, rg, rh]))
    (HP : Hid (p2 = p + 64 ∧ p2 ≤ cap ∧ cap ≤ maxLen))
    (HC : Hid (∀ X, Below wr.heap.size wr X → Calls Tryd.prog 36 #[.pointer (some ⟨T, 0, none⟩), .agg #[.int .u64 32], .agg #[.int .u64 (ra : Int), .int .u64 (rb : Int), .int .u64 (rc : Int), .int .u64 (rd : Int), .int .u64 (re : Int), .int .u64 (rf : Int), .int .u64 (rg : Int), .int .u64 (rh : Int)], .slice (some ⟨g, p, none⟩) 64 (cap - p)] X fun e' w' => e' = .returned (.agg #[.int .u64 (za : Int), .int .u64 (zb : Int), .int .u64 (zc : Int), .int .u64 (zd : Int), .int .u64 (ze : Int), .int .u64 (zf : Int), .int .u64 (zg : Int), .int .u64 (zh : Int)]) ∧ Below X.heap.size X w'))
    (HK : Hid (∀ (u59 u60 u61 u62 u63 u64 u65 u66 u67 u68 : Value) (w1 w2 : World), Below wr.heap.size wr w1 → w2 = w1.setCells b11 0 (cW .u64 [za, zb, zc, zd, ze, zf, zg, zh]) → K ⟨#[.pointer (some ⟨T, 0, none⟩), t1, t2, t3, t4, t5, t6, t7, .pointer (some ⟨b8, 0, none⟩), .int .i64 64, t10, .pointer (some ⟨b11, 0, none⟩), t12, .slice (some ⟨g, 0, none⟩) n cap, .int .i64 (p : Int), t15, t16, t17, t18, t19, t20, t21, t22, t23, t24, t25, t26, t27, t28, t29, t30, t31, t32, t33, t34, t35, t36, t37, t38, t39, t40, t41, t42, t43, t44, t45, t46, t47, t48, t49, t50, t51, t52, t53, t54, t55, t56, t57, t58, u59, u60, u61, u62, u63, u64, u65, u66, u67, u68, t69, t70, t71, t72, t73, t74, t75, t76, t77, t78, t79, t80, t81, t82, t83, t84, t85, t86, t87, t88, t89, t90, t91, t92, t93, t94], []⟩ w2)) :
    Code.wp Tryd.prog srg23_3 (Exit.then K fun _ _ _ => False) ⟨#[.pointer (some ⟨T, 0, none⟩), t1, t2, t3, t4, t5, t6, t7, .pointer (some ⟨b8, 0, none⟩), .int .i64 64, t10, .pointer (some ⟨b11, 0, none⟩), t12, .slice (some ⟨g, 0, none⟩) n cap, .int .i64 (p : Int), t15, t16, t17, t18, t19, t20, t21, t22, t23, t24, t25, t26, t27, t28, t29, t30, t31, t32, t33, t34, t35, t36, t37, t38, t39, t40, t41, t42, t43, t44, t45, t46, t47, t48, t49, t50, t51, t52, t53, t54, t55, t56, t57, t58, t59, t60, t61, t62, t63, t64, t65, t66, t67, t68, t69, t70, t71, t72, t73, t74, t75, t76, t77, t78, t79, t80, t81, t82, t83, t84, t85, t86, t87, t88, t89, t90, t91, t92, t93, t94], []⟩ wr := by
  have hmx : maxLen = 9223372036854775807 := rfl
  have f1 : IntKind.wrap .i64 ((p : Int) + 64) = (p2 : Int) := by
    have := HP.out
    rw [wrap_i64_id _ (by omega) (by omega)]
    omega
  have hsl : ∀ wx : World, (Instr.sliceAt 22 (.slice (some ⟨g, 0, none⟩) n cap) (some (.int .i64 (p : Int))) (some (.int .i64 (p2 : Int))) none).run Tryd.prog wx = .ok (.slice (some ⟨g, p, none⟩) 64 (cap - p)) wx := fun wx => by
    have h := HP.out
    have := slice_lh ⟨g, 0, none⟩ n cap p p2 wx (p : Int) (p2 : Int) rfl rfl (by omega) (by omega) (by omega)
    rw [Addr.add_lit, Nat.zero_add, show p2 - p = 64 by omega] at this
    exact this
  have c0 : wr.cell? ⟨b8, 0, none⟩ = some (.int .u64 32) := Lib.cell_of_heap HA.out 0
  have HC0 := hid c0
  have s0 : wr.cell? ⟨b11, 0, none⟩ = some (.int .u64 (ra : Int)) := HR.out.cell 0 (by simp)
  have z0 : wr.frozen? ⟨b11, 0, none⟩ = false := HR.out.free 0
  have s1 : wr.cell? ⟨b11, 1, none⟩ = some (.int .u64 (rb : Int)) := HR.out.cell 1 (by simp)
  have z1 : wr.frozen? ⟨b11, 1, none⟩ = false := HR.out.free 1
  have s2 : wr.cell? ⟨b11, 2, none⟩ = some (.int .u64 (rc : Int)) := HR.out.cell 2 (by simp)
  have z2 : wr.frozen? ⟨b11, 2, none⟩ = false := HR.out.free 2
  have s3 : wr.cell? ⟨b11, 3, none⟩ = some (.int .u64 (rd : Int)) := HR.out.cell 3 (by simp)
  have z3 : wr.frozen? ⟨b11, 3, none⟩ = false := HR.out.free 3
  have s4 : wr.cell? ⟨b11, 4, none⟩ = some (.int .u64 (re : Int)) := HR.out.cell 4 (by simp)
  have z4 : wr.frozen? ⟨b11, 4, none⟩ = false := HR.out.free 4
  have s5 : wr.cell? ⟨b11, 5, none⟩ = some (.int .u64 (rf : Int)) := HR.out.cell 5 (by simp)
  have z5 : wr.frozen? ⟨b11, 5, none⟩ = false := HR.out.free 5
  have s6 : wr.cell? ⟨b11, 6, none⟩ = some (.int .u64 (rg : Int)) := HR.out.cell 6 (by simp)
  have z6 : wr.frozen? ⟨b11, 6, none⟩ = false := HR.out.free 6
  have s7 : wr.cell? ⟨b11, 7, none⟩ = some (.int .u64 (rh : Int)) := HR.out.cell 7 (by simp)
  have z7 : wr.frozen? ⟨b11, 7, none⟩ = false := HR.out.free 7
  clear hmx
  conv => arg 2; whnf
  have FIRST := hid (fun (Y : World) (h : Below wr.drew.heap.size wr.drew Y) => (⟨h.os, h.tape, h.output, h.size, h.block⟩ : Below wr.heap.size wr Y))
  have HSK := hid (fun (Y : World) (h : Below wr.heap.size wr Y) => (show (fun wx : World => Below wr.heap.size wr wx ∧ wx.cell? ⟨b8, 0, none⟩ = some (.int .u64 32) ∧ wx.cell? ⟨b11, 0, none⟩ = some (.int .u64 (ra : Int)) ∧ wx.cell? ⟨b11, 1, none⟩ = some (.int .u64 (rb : Int)) ∧ wx.cell? ⟨b11, 2, none⟩ = some (.int .u64 (rc : Int)) ∧ wx.cell? ⟨b11, 3, none⟩ = some (.int .u64 (rd : Int)) ∧ wx.cell? ⟨b11, 4, none⟩ = some (.int .u64 (re : Int)) ∧ wx.cell? ⟨b11, 5, none⟩ = some (.int .u64 (rf : Int)) ∧ wx.cell? ⟨b11, 6, none⟩ = some (.int .u64 (rg : Int)) ∧ wx.cell? ⟨b11, 7, none⟩ = some (.int .u64 (rh : Int))) Y from ⟨h, kept_cell HC0.out h, kept_cell s0 h, kept_cell s1 h, kept_cell s2 h, kept_cell s3 h, kept_cell s4 h, kept_cell s5 h, kept_cell s6 h, kept_cell s7 h⟩))
  have HS0 := hid (HSK.out wr.drew ((Below.refl _ wr).drew))
  have HCD := hid (HC.out wr.drew ((Below.refl _ wr).drew))
  clear c0 HC0
  refine AnyBut.start (S := (fun wx : World => Below wr.heap.size wr wx ∧ wx.cell? ⟨b8, 0, none⟩ = some (.int .u64 32) ∧ wx.cell? ⟨b11, 0, none⟩ = some (.int .u64 (ra : Int)) ∧ wx.cell? ⟨b11, 1, none⟩ = some (.int .u64 (rb : Int)) ∧ wx.cell? ⟨b11, 2, none⟩ = some (.int .u64 (rc : Int)) ∧ wx.cell? ⟨b11, 3, none⟩ = some (.int .u64 (rd : Int)) ∧ wx.cell? ⟨b11, 4, none⟩ = some (.int .u64 (re : Int)) ∧ wx.cell? ⟨b11, 5, none⟩ = some (.int .u64 (rf : Int)) ∧ wx.cell? ⟨b11, 6, none⟩ = some (.int .u64 (rg : Int)) ∧ wx.cell? ⟨b11, 7, none⟩ = some (.int .u64 (rh : Int)))) (n := 10) (by kernel_rfl) ?_
  refine' AnyBut.take (i := 0) (v := _) rfl (by kernel_rfl) (by kernel_rfl) (fun _ _ _ h => h) _ _ _ _ (by kernel_rfl) (by kernel_rfl) (Or.inl ⟨by kernel_rfl, ?hy0⟩) HS0.out ?rest0
  case hy0 => (intro wx hSw; obtain ⟨hBx, e0, d0, d1, d2, d3, d4, d5, d6, d7⟩ := hSw; clear hBx; go_simp; first | done | with_reducible rfl)
  (try simp only [Act.put, List.setIfInBounds_toArray, List.set_cons_zero, List.set_cons_succ])
  refine' AnyBut.take (i := 1) (v := _) rfl (by kernel_rfl) (by kernel_rfl) (fun _ _ _ h => h) _ _ _ _ (by kernel_rfl) (by kernel_rfl) (Or.inl ⟨by kernel_rfl, ?hy1⟩) HS0.out ?rest1
  case hy1 => (intro wx hSw; obtain ⟨hBx, e0, d0, d1, d2, d3, d4, d5, d6, d7⟩ := hSw; clear hBx; go_simp; first | done | with_reducible rfl)
  (try simp only [Act.put, List.setIfInBounds_toArray, List.set_cons_zero, List.set_cons_succ])
  refine' AnyBut.take (i := 2) (v := _) rfl (by kernel_rfl) (by kernel_rfl) (fun _ _ _ h => h) _ _ _ _ (by kernel_rfl) (by kernel_rfl) (Or.inl ⟨by kernel_rfl, ?hy2⟩) HS0.out ?rest2
  case hy2 => (intro wx hSw; obtain ⟨hBx, e0, d0, d1, d2, d3, d4, d5, d6, d7⟩ := hSw; clear hBx; go_simp; first | done | with_reducible rfl)
  (try simp only [Act.put, List.setIfInBounds_toArray, List.set_cons_zero, List.set_cons_succ])
  refine' AnyBut.take (i := 3) (v := _) rfl (by kernel_rfl) (by kernel_rfl) (fun _ _ _ h => h) _ _ _ _ (by kernel_rfl) (by kernel_rfl) (Or.inl ⟨by kernel_rfl, ?hy3⟩) HS0.out ?rest3
  case hy3 => (intro wx hSw; obtain ⟨hBx, e0, d0, d1, d2, d3, d4, d5, d6, d7⟩ := hSw; clear hBx; go_simp; first | done | with_reducible rfl)
  (try simp only [Act.put, List.setIfInBounds_toArray, List.set_cons_zero, List.set_cons_succ])
  refine' AnyBut.take (i := 4) (v := _) rfl (by kernel_rfl) (by kernel_rfl) (fun _ _ _ h => h) _ _ _ _ (by kernel_rfl) (by kernel_rfl) (Or.inl ⟨by kernel_rfl, ?hy4⟩) HS0.out ?rest4
  case hy4 => (intro wx hSw; obtain ⟨hBx, e0, d0, d1, d2, d3, d4, d5, d6, d7⟩ := hSw; clear hBx; go_simp; first | done | with_reducible rfl)
  (try simp only [Act.put, List.setIfInBounds_toArray, List.set_cons_zero, List.set_cons_succ])
  refine' AnyBut.take (i := 5) (v := _) rfl (by kernel_rfl) (by kernel_rfl) (fun _ _ _ h => h) _ _ _ _ (by kernel_rfl) (by kernel_rfl) (Or.inl ⟨by kernel_rfl, ?hy5⟩) HS0.out ?rest5
  case hy5 => (intro wx hSw; obtain ⟨hBx, e0, d0, d1, d2, d3, d4, d5, d6, d7⟩ := hSw; clear hBx; go_simp; first | done | with_reducible rfl)
  (try simp only [Act.put, List.setIfInBounds_toArray, List.set_cons_zero, List.set_cons_succ])
  refine' AnyBut.take (i := 6) (v := _) rfl (by kernel_rfl) (by kernel_rfl) (fun _ _ _ h => h) _ _ _ _ (by kernel_rfl) (by kernel_rfl) (Or.inl ⟨by kernel_rfl, ?hy6⟩) HS0.out ?rest6
  case hy6 => (intro wx hSw; obtain ⟨hBx, e0, d0, d1, d2, d3, d4, d5, d6, d7⟩ := hSw; clear hBx; go_simp; first | done | with_reducible rfl)
  (try simp only [Act.put, List.setIfInBounds_toArray, List.set_cons_zero, List.set_cons_succ])
  refine' AnyBut.take (i := 7) (v := _) rfl (by kernel_rfl) (by kernel_rfl) (fun _ _ _ h => h) _ _ _ _ (by kernel_rfl) (by kernel_rfl) (Or.inl ⟨by kernel_rfl, ?hy7⟩) HS0.out ?rest7
  case hy7 => (intro wx hSw; obtain ⟨hBx, e0, d0, d1, d2, d3, d4, d5, d6, d7⟩ := hSw; clear hBx; go_simp; first | done | with_reducible rfl)
  (try simp only [Act.put, List.setIfInBounds_toArray, List.set_cons_zero, List.set_cons_succ])
  refine' AnyBut.take (i := 8) (v := _) rfl (by kernel_rfl) (by kernel_rfl) (fun _ _ _ h => h) _ _ _ _ (by kernel_rfl) (by kernel_rfl) (Or.inl ⟨by kernel_rfl, ?hy8⟩) HS0.out ?rest8
  case hy8 => (intro wx hSw; obtain ⟨hBx, e0, d0, d1, d2, d3, d4, d5, d6, d7⟩ := hSw; clear hBx; go_simp; first | done | with_reducible rfl)
  (try simp only [Act.put, List.setIfInBounds_toArray, List.set_cons_zero, List.set_cons_succ])
  refine AnyBut.one (i := 9) (by kernel_rfl) rfl (fun K' hK => ?_)
  rw [if_pos (by kernel_rfl)]
  go_simp
  go_wp2_with (go_at_call 36; refine HCD.out.mono ?_; rintro e wa ⟨rfl, hba⟩)
  have HQ1 := hid (FIRST.out wa hba)
  have HS1 := hid (HSK.out wa HQ1.out)
  clear hba
  refine hK.out _ _ HS1.out ?_
  clear hK K' HS0
  obtain ⟨p0, y0⟩ := kept_both (X := wr) (a := ⟨b11, 0, none⟩) (v := .int .u64 (ra : Int)) s0 z0 HQ1.out; obtain ⟨p1, y1⟩ := kept_both (X := wr) (a := ⟨b11, 1, none⟩) (v := .int .u64 (rb : Int)) s1 z1 HQ1.out; obtain ⟨p2, y2⟩ := kept_both (X := wr) (a := ⟨b11, 2, none⟩) (v := .int .u64 (rc : Int)) s2 z2 HQ1.out; obtain ⟨p3, y3⟩ := kept_both (X := wr) (a := ⟨b11, 3, none⟩) (v := .int .u64 (rd : Int)) s3 z3 HQ1.out; obtain ⟨p4, y4⟩ := kept_both (X := wr) (a := ⟨b11, 4, none⟩) (v := .int .u64 (re : Int)) s4 z4 HQ1.out; obtain ⟨p5, y5⟩ := kept_both (X := wr) (a := ⟨b11, 5, none⟩) (v := .int .u64 (rf : Int)) s5 z5 HQ1.out; obtain ⟨p6, y6⟩ := kept_both (X := wr) (a := ⟨b11, 6, none⟩) (v := .int .u64 (rg : Int)) s6 z6 HQ1.out; obtain ⟨p7, y7⟩ := kept_both (X := wr) (a := ⟨b11, 7, none⟩) (v := .int .u64 (rh : Int)) s7 z7 HQ1.out
  refine AnyBut.last (by kernel_rfl) (by kernel_rfl) rfl (fun K' hK => ?_)
  rw [if_pos (by kernel_rfl)]
  go_simp
  go_wp2_with fail
  refine hK.out _ _ ?_
  exact HK.out _ _ _ _ _ _ _ _ _ _ wa _ HQ1.out rfl

theorem far_cells3 {w : World} {a : Addr} {b : Nat} {v : Value} (h : w.cell? a = some v) (hne : a.block ≠ b) (vs : List Value) (o : Nat) : (w.setCells b o vs).cell? a = some v := by
  rw [← h]
  unfold World.cell?
  rw [setCells_far hne]

/-- What lies in memory while the blocks are worked in. -/
def SmM3 (w wr : World) (T g : Nat) (PT : List UInt8) (S : List Nat) : Prop :=
  wr.heap[w.heap.size]? = some (.cells #[.int .u64 32] 76 (0, 0)) ∧ Rw wr (w.heap.size + 1) .u64 77 S ∧ (∀ j (h : j < PT.length), wr.cell? ⟨g, j, none⟩ = some (.int .u8 (PT[j].toNat : Int))) ∧ (∀ k, k < 80 → wr.cell? ⟨T, k, none⟩ = some (.int .u64 (cbr.getD k 0 : Nat))) ∧ Below w.heap.size w wr

theorem SmM3.next {w wr w1 : World} {T g : Nat} {PT : List UInt8} {S Z : List Nat} (h : SmM3 w wr T g PT S) (hg : w.heap.size + 1 < g) (hT : T < w.heap.size) (hb : Below wr.heap.size wr w1) (hS : Z.length = S.length) : SmM3 w (w1.setCells (w.heap.size + 1) 0 (cW .u64 Z)) T g PT Z := by
  obtain ⟨hA, hR, hP, hC, hB⟩ := h
  refine ⟨?_, (hR.kept hb).put Z hS, fun j hj => far_cells3 (kept_cell (hP j hj) hb) (by show g ≠ _; omega) _ _, fun k hk => far_cells3 (kept_cell (hC k hk) hb) (by show T ≠ _; omega) _ _, below_setCells (by omega) _ _ _ (hB.trans (hb.mono hB.size))⟩
  rw [setCells_far (by omega)]
  exact row_kept hA hb

theorem work_bd3 (Ks : List Nat) (n : Nat) : ∀ (m : Nat) (s : St) (l : List UInt8), BdS (2 ^ 32) s → BdS (2 ^ 32) (workV nar Ks n m s l)
  | 0, s, l, h => h
  | m + 1, s, l, h => by
    rw [workV]
    split
    · exact work_bd3 Ks n m _ _ (add_bd nar _ _)
    · exact h

end Go.Proofs.YtbdlicomkpnalaaDoor
