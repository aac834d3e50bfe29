/-
  Digest's summed, the statement that works the ending in, at 64 bits.
-/
import Derived.Test.YtbdlicomkpnalaaDoorZg
import Derived.Test.YtbdlicomkpnalaaDoorZi
import Derived.Test.YtbdlicomkpnalaaDoorZa
set_option linter.unusedSimpArgs false
set_option linter.unusedVariables false
namespace Go.Proofs.YtbdlicomkpnalaaDoor
open Go.RowKit

theorem worked_l64 (a b c d e f g h qa qb qc qd qe qf qg qh : Nat) (a0 : Option Addr) (len cap m0 : Nat) (l : List UInt8) (w : World) (hg : Gt w) (hv : SlB w (.slice a0 len cap) l) (hlc : len ≤ cap) (hcm : cap ≤ maxLen) (hm0 : l.length / 128 ≤ m0)
    (hbd : BdS (2 ^ 64) ⟨a, b, c, d, e, f, g, h⟩) (hT : workV wid cbr 128 m0 ⟨a, b, c, d, e, f, g, h⟩ l = ⟨qa, qb, qc, qd, qe, qf, qg, qh⟩) :
    Calls Tryd.prog 61 #[.agg #[.int .u64 64, .int .i64 80, .int .u64 1, .int .u64 8, .int .u64 7, .int .u64 19, .int .u64 61, .int .u64 6, .int .u64 28, .int .u64 34, .int .u64 39, .int .u64 14, .int .u64 18, .int .u64 41], .agg #[.int .u64 (a : Int), .int .u64 (b : Int), .int .u64 (c : Int), .int .u64 (d : Int), .int .u64 (e : Int), .int .u64 (f : Int), .int .u64 (g : Int), .int .u64 (h : Int)], .slice a0 len cap] w fun e' w' => e' = .returned (.agg #[.int .u64 (qa : Int), .int .u64 (qb : Int), .int .u64 (qc : Int), .int .u64 (qd : Int), .int .u64 (qe : Int), .int .u64 (qf : Int), .int .u64 (qg : Int), .int .u64 (qh : Int)]) ∧ BdS (2 ^ 64) ⟨qa, qb, qc, qd, qe, qf, qg, qh⟩ ∧ Below w.heap.size w w' := by
  have := worked64 a b c d e f g h a0 len cap m0 l w hg hv hlc hcm hm0 hbd
  rw [hT] at this
  exact this

noncomputable def reg3_6 : Code := (Tryd.f33.body.bind (regionOf 3)).getD .skip

set_option maxHeartbeats 4000000 in
set_option maxRecDepth 100000 in
theorem sum3_6 (n0 g : Nat) (ra rb rc rd re rf rg rh qa qb qc qd qe qf qg qh : Nat) (a0 : Option Addr) (len cap : Nat) (l : List UInt8) (wr : World) (K : Act → World → Prop) (t0 t1 t2 t5 t6 t7 t8 t10 t11 t12 t13 t14 t15 t16 t17 t18 t19 t20 t21 t22 t23 t24 t25 t26 : Value)
    (HA : Hid (wr.heap[n0]? = some (.cells #[.int .u64 64, .int .i64 80, .int .u64 1, .int .u64 8, .int .u64 7, .int .u64 19, .int .u64 61, .int .u64 6, .int .u64 28, .int .u64 34, .int .u64 39, .int .u64 14, .int .u64 18, .int .u64 41] 73 (0, 0)))) (HR : Hid (Rw wr g .u64 77 [ra, rb, rc, rd, re, rf, rg, rh])) (HG : Hid (Gt wr)) (hv : Hid (SlB wr (.slice a0 len cap) l)) (hlc : Hid (len ≤ cap)) (hcm : Hid (cap ≤ maxLen)) (hl : Hid (l.length ≤ 100000))
    (HBD : Hid (BdS (2 ^ 64) ⟨ra, rb, rc, rd, re, rf, rg, rh⟩)) (HT : Hid (workV wid cbr 128 2 ⟨ra, rb, rc, rd, re, rf, rg, rh⟩ (endV wid l) = ⟨qa, qb, qc, qd, qe, qf, qg, qh⟩))
    (HK : Hid (∀ (u17 u18 u19 u20 u21 u22 : Value) (w1 w2 : World), Below wr.heap.size wr w1 → w2 = w1.setCells g 0 (cW .u64 [qa, qb, qc, qd, qe, qf, qg, qh]) → BdS (2 ^ 64) ⟨qa, qb, qc, qd, qe, qf, qg, qh⟩ → K ⟨#[t0, t1, t2, .slice a0 len cap, .pointer (some ⟨n0, 0, none⟩), t5, t6, t7, t8, .pointer (some ⟨g, 0, none⟩), t10, t11, t12, t13, t14, t15, t16, u17, u18, u19, u20, u21, u22, t23, t24, t25, t26], []⟩ w2)) :
    Code.wp Tryd.prog reg3_6 (Exit.then K fun _ _ _ => False) ⟨#[t0, t1, t2, .slice a0 len cap, .pointer (some ⟨n0, 0, none⟩), t5, t6, t7, t8, .pointer (some ⟨g, 0, none⟩), t10, t11, t12, t13, t14, t15, t16, t17, t18, t19, t20, t21, t22, t23, t24, t25, t26], []⟩ wr := by
  have HEN := hid (ending64 a0 len cap l wr.drew (hv.out.kept ((Below.refl _ wr).drew)) hlc.out hcm.out hl.out)
  have HWK := hid (fun (X : World) (G : Nat) (hb : Below wr.drew.heap.size wr.drew X) (hs : SlB X (.slice (some ⟨G, 0, none⟩) (endV wid l).length (endV wid l).length) (endV wid l)) => worked_l64 ra rb rc rd re rf rg rh qa qb qc qd qe qf qg qh (some ⟨G, 0, none⟩) (endV wid l).length (endV wid l).length 2 (endV wid l) X ((HG.out.kept (Below.refl _ wr).drew).kept hb) hs (Nat.le_refl _) (end_max wid l (by decide) (by decide) (by decide)) (end_div wid l (by decide) (by decide) (by decide)) HBD.out HT.out)
  obtain ⟨EL, hEL⟩ : ∃ EL, EL = (endV wid l).length := ⟨_, rfl⟩
  rw [← hEL] at HEN HWK
  clear hEL
  have c0 : wr.cell? ⟨n0, 0, none⟩ = some (.int .u64 64) := Lib.cell_of_heap HA.out 0
  have c1 : wr.cell? ⟨n0, 1, none⟩ = some (.int .i64 80) := Lib.cell_of_heap HA.out 1
  have c2 : wr.cell? ⟨n0, 2, none⟩ = some (.int .u64 1) := Lib.cell_of_heap HA.out 2
  have c3 : wr.cell? ⟨n0, 3, none⟩ = some (.int .u64 8) := Lib.cell_of_heap HA.out 3
  have c4 : wr.cell? ⟨n0, 4, none⟩ = some (.int .u64 7) := Lib.cell_of_heap HA.out 4
  have c5 : wr.cell? ⟨n0, 5, none⟩ = some (.int .u64 19) := Lib.cell_of_heap HA.out 5
  have c6 : wr.cell? ⟨n0, 6, none⟩ = some (.int .u64 61) := Lib.cell_of_heap HA.out 6
  have c7 : wr.cell? ⟨n0, 7, none⟩ = some (.int .u64 6) := Lib.cell_of_heap HA.out 7
  have c8 : wr.cell? ⟨n0, 8, none⟩ = some (.int .u64 28) := Lib.cell_of_heap HA.out 8
  have c9 : wr.cell? ⟨n0, 9, none⟩ = some (.int .u64 34) := Lib.cell_of_heap HA.out 9
  have c10 : wr.cell? ⟨n0, 10, none⟩ = some (.int .u64 39) := Lib.cell_of_heap HA.out 10
  have c11 : wr.cell? ⟨n0, 11, none⟩ = some (.int .u64 14) := Lib.cell_of_heap HA.out 11
  have c12 : wr.cell? ⟨n0, 12, none⟩ = some (.int .u64 18) := Lib.cell_of_heap HA.out 12
  have c13 : wr.cell? ⟨n0, 13, none⟩ = some (.int .u64 41) := Lib.cell_of_heap HA.out 13
  have s0 : wr.cell? ⟨g, 0, none⟩ = some (.int .u64 (ra : Int)) := HR.out.cell 0 (by simp)
  have t0f : wr.frozen? ⟨g, 0, none⟩ = false := HR.out.free 0
  have s1 : wr.cell? ⟨g, 1, none⟩ = some (.int .u64 (rb : Int)) := HR.out.cell 1 (by simp)
  have t1f : wr.frozen? ⟨g, 1, none⟩ = false := HR.out.free 1
  have s2 : wr.cell? ⟨g, 2, none⟩ = some (.int .u64 (rc : Int)) := HR.out.cell 2 (by simp)
  have t2f : wr.frozen? ⟨g, 2, none⟩ = false := HR.out.free 2
  have s3 : wr.cell? ⟨g, 3, none⟩ = some (.int .u64 (rd : Int)) := HR.out.cell 3 (by simp)
  have t3f : wr.frozen? ⟨g, 3, none⟩ = false := HR.out.free 3
  have s4 : wr.cell? ⟨g, 4, none⟩ = some (.int .u64 (re : Int)) := HR.out.cell 4 (by simp)
  have t4f : wr.frozen? ⟨g, 4, none⟩ = false := HR.out.free 4
  have s5 : wr.cell? ⟨g, 5, none⟩ = some (.int .u64 (rf : Int)) := HR.out.cell 5 (by simp)
  have t5f : wr.frozen? ⟨g, 5, none⟩ = false := HR.out.free 5
  have s6 : wr.cell? ⟨g, 6, none⟩ = some (.int .u64 (rg : Int)) := HR.out.cell 6 (by simp)
  have t6f : wr.frozen? ⟨g, 6, none⟩ = false := HR.out.free 6
  have s7 : wr.cell? ⟨g, 7, none⟩ = some (.int .u64 (rh : Int)) := HR.out.cell 7 (by simp)
  have t7f : wr.frozen? ⟨g, 7, none⟩ = false := HR.out.free 7
  conv => arg 2; whnf
  go_region_with (first | (go_at_call 58; refine HEN.out.mono ?_; rintro e wa ⟨G, rfl, hsb, hba⟩; have c0' := kept_cell (w := wr.drew) c0 hba; have c1' := kept_cell (w := wr.drew) c1 hba; have c2' := kept_cell (w := wr.drew) c2 hba; have c3' := kept_cell (w := wr.drew) c3 hba; have c4' := kept_cell (w := wr.drew) c4 hba; have c5' := kept_cell (w := wr.drew) c5 hba; have c6' := kept_cell (w := wr.drew) c6 hba; have c7' := kept_cell (w := wr.drew) c7 hba; have c8' := kept_cell (w := wr.drew) c8 hba; have c9' := kept_cell (w := wr.drew) c9 hba; have c10' := kept_cell (w := wr.drew) c10 hba; have c11' := kept_cell (w := wr.drew) c11 hba; have c12' := kept_cell (w := wr.drew) c12 hba; have c13' := kept_cell (w := wr.drew) c13 hba; obtain ⟨s0', f0'⟩ := kept_both (X := wr.drew) (a := ⟨g, 0, none⟩) (v := .int .u64 (ra : Int)) s0 t0f hba; obtain ⟨s1', f1'⟩ := kept_both (X := wr.drew) (a := ⟨g, 1, none⟩) (v := .int .u64 (rb : Int)) s1 t1f hba; obtain ⟨s2', f2'⟩ := kept_both (X := wr.drew) (a := ⟨g, 2, none⟩) (v := .int .u64 (rc : Int)) s2 t2f hba; obtain ⟨s3', f3'⟩ := kept_both (X := wr.drew) (a := ⟨g, 3, none⟩) (v := .int .u64 (rd : Int)) s3 t3f hba; obtain ⟨s4', f4'⟩ := kept_both (X := wr.drew) (a := ⟨g, 4, none⟩) (v := .int .u64 (re : Int)) s4 t4f hba; obtain ⟨s5', f5'⟩ := kept_both (X := wr.drew) (a := ⟨g, 5, none⟩) (v := .int .u64 (rf : Int)) s5 t5f hba; obtain ⟨s6', f6'⟩ := kept_both (X := wr.drew) (a := ⟨g, 6, none⟩) (v := .int .u64 (rg : Int)) s6 t6f hba; obtain ⟨s7', f7'⟩ := kept_both (X := wr.drew) (a := ⟨g, 7, none⟩) (v := .int .u64 (rh : Int)) s7 t7f hba; have HSB := hid hsb; clear hsb) | (go_at_call 61; refine (HWK.out wa G hba HSB.out).mono ?_; rintro e wb ⟨rfl, hbq, hbb⟩; obtain ⟨p0, q0⟩ := kept_both (a := ⟨g, 0, none⟩) (v := .int .u64 (ra : Int)) s0' f0' hbb; obtain ⟨p1, q1⟩ := kept_both (a := ⟨g, 1, none⟩) (v := .int .u64 (rb : Int)) s1' f1' hbb; obtain ⟨p2, q2⟩ := kept_both (a := ⟨g, 2, none⟩) (v := .int .u64 (rc : Int)) s2' f2' hbb; obtain ⟨p3, q3⟩ := kept_both (a := ⟨g, 3, none⟩) (v := .int .u64 (rd : Int)) s3' f3' hbb; obtain ⟨p4, q4⟩ := kept_both (a := ⟨g, 4, none⟩) (v := .int .u64 (re : Int)) s4' f4' hbb; obtain ⟨p5, q5⟩ := kept_both (a := ⟨g, 5, none⟩) (v := .int .u64 (rf : Int)) s5' f5' hbb; obtain ⟨p6, q6⟩ := kept_both (a := ⟨g, 6, none⟩) (v := .int .u64 (rg : Int)) s6' f6' hbb; obtain ⟨p7, q7⟩ := kept_both (a := ⟨g, 7, none⟩) (v := .int .u64 (rh : Int)) s7' f7' hbb; have HBQ := hid hbq; clear hbq))
  all_goals
    refine HK.out _ _ _ _ _ _ wb _ ?_ rfl HBQ.out
    have h1 : Below wr.heap.size wr wa := ⟨hba.os, hba.tape, hba.output, hba.size, hba.block⟩
    exact h1.trans (hbb.mono h1.size)

end Go.Proofs.YtbdlicomkpnalaaDoor
