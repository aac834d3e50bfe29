/-
  The walk of digest's worked, at 32 bits.
-/
import Derived.Test.YtbdlicomkpnalaaDoorZLh3
import Derived.Test.YtbdlicomkpnalaaDoorZ0
import Derived.Deep.RegionWith
set_option linter.unusedSimpArgs false
set_option linter.unusedVariables false
namespace Go.Proofs.YtbdlicomkpnalaaDoor
open Go.RowKit

theorem folded_l32 (a b c d e f g h a2 b2 c2 d2 e2 f2 g2 h2 : Nat) (x : Addr) (cap : Nat) (l : List UInt8) (w : World) (hg : Gt w) (hc : ∀ j (h : j < l.length), w.cell? (x.add j) = some (.int .u8 (l[j].toNat : Int))) (hl : l.length = 64) (hcap : 64 ≤ cap)
    (hbd : BdS (2 ^ 32) ⟨a, b, c, d, e, f, g, h⟩) (hF : foldV nar cbr ⟨a, b, c, d, e, f, g, h⟩ l = ⟨a2, b2, c2, d2, e2, f2, g2, h2⟩) :
    Calls Tryd.prog 82 #[.agg #[.int .u64 32, .int .i64 64, .int .u64 7, .int .u64 18, .int .u64 3, .int .u64 17, .int .u64 19, .int .u64 10, .int .u64 2, .int .u64 13, .int .u64 22, .int .u64 6, .int .u64 11, .int .u64 25], .agg #[.int .u32 (a : Int), .int .u32 (b : Int), .int .u32 (c : Int), .int .u32 (d : Int), .int .u32 (e : Int), .int .u32 (f : Int), .int .u32 (g : Int), .int .u32 (h : Int)], .slice (some x) 64 cap] w fun e' w' => e' = .returned (.agg #[.int .u32 (a2 : Int), .int .u32 (b2 : Int), .int .u32 (c2 : Int), .int .u32 (d2 : Int), .int .u32 (e2 : Int), .int .u32 (f2 : Int), .int .u32 (g2 : Int), .int .u32 (h2 : Int)]) ∧ Below w.heap.size w w' := by
  have := folded32 a b c d e f g h x cap l w hg hc hl hcap hbd
  rw [hF] at this
  exact this

def sliceN8_3 : Value → Nat
  | .slice _ n _ => n
  | _ => 0

theorem work_next_3 (k : Kd) (Ks : List Nat) (n m : Nat) (s : St) (l : List UInt8) (hn : 0 < n) (h : n ≤ l.length) (hm : l.length / n ≤ m) : workV k Ks n m s l = workV k Ks n (m - 1) (foldV k Ks s (l.take n)) (l.drop n) ∧ (l.drop n).length / n ≤ m - 1 := by
  have h1 : 0 < l.length / n := Nat.div_pos h hn
  obtain ⟨m', rfl⟩ : ∃ m', m = m' + 1 := ⟨m - 1, by omega⟩
  refine ⟨by rw [workV, if_pos h]; rfl, ?_⟩
  have h2 : l.length / n = (l.length - n) / n + 1 := by
    conv => lhs; rw [show l.length = l.length - n + n by omega]
    exact Nat.add_div_right _ hn
  rw [List.length_drop]
  omega

theorem work_stop_3 (k : Kd) (Ks : List Nat) (n m : Nat) (s : St) (l : List UInt8) (h : ¬ n ≤ l.length) : workV k Ks n m s l = s := by
  cases m with
  | zero => rfl
  | succ m => rw [workV, if_neg h]

theorem slb_drop_3 (w : World) (y : Addr) (c k n : Nat) (r : List UInt8) (hk0 : 0 < k) (hn : n = r.length) (hnc : n ≤ c) (hkn : k ≤ n)
    (hcell : ∀ j (hj : j < r.length), w.cell? (y.add j) = some (.int .u8 (r[j].toNat : Int))) : SlB w (.slice (if c = k then some y else some (y.add k)) (n - k) (c - k)) (r.drop k) := by
  have hl : n - k = (r.drop k).length := by rw [List.length_drop]; omega
  by_cases hck : c = k
  · have hr : r.drop k = [] := List.eq_nil_of_length_eq_zero (by omega)
    rw [if_pos hck, hl, hr]
    exact .inr ⟨y, c - k, rfl, fun j hj => by simp at hj⟩
  · rw [if_neg hck, hl]
    refine .inr ⟨_, c - k, rfl, fun j hj => ?_⟩
    have hj' : k + j < r.length := by rw [List.length_drop] at hj; omega
    rw [Addr.add_add, hcell (k + j) hj']
    simp

set_option maxHeartbeats 4000000 in
set_option maxRecDepth 100000 in
theorem worked32 (a b c d e f g h : Nat) (a0 : Option Addr) (len cap m0 : Nat) (l : List UInt8) (w : World) (hg : Gt w) (hv : SlB w (.slice a0 len cap) l) (hlc : len ≤ cap) (hcm : cap ≤ maxLen) (hm0 : l.length / 64 ≤ m0)
    (hbd : BdS (2 ^ 32) ⟨a, b, c, d, e, f, g, h⟩) :
    Calls Tryd.prog 57 #[.agg #[.int .u64 32, .int .i64 64, .int .u64 7, .int .u64 18, .int .u64 3, .int .u64 17, .int .u64 19, .int .u64 10, .int .u64 2, .int .u64 13, .int .u64 22, .int .u64 6, .int .u64 11, .int .u64 25], .agg #[.int .u32 (a : Int), .int .u32 (b : Int), .int .u32 (c : Int), .int .u32 (d : Int), .int .u32 (e : Int), .int .u32 (f : Int), .int .u32 (g : Int), .int .u32 (h : Int)], .slice a0 len cap] w fun e' w' => e' = .returned (.agg (cW .u32 (workV nar cbr 64 m0 ⟨a, b, c, d, e, f, g, h⟩ l).list).toArray) ∧ BdS (2 ^ 32) (workV nar cbr 64 m0 ⟨a, b, c, d, e, f, g, h⟩ l) ∧ Below w.heap.size w w' := by
  have hll : len = l.length := by
    rcases hv with ⟨c, e, rfl⟩ | ⟨x, c, e, hc⟩
    · obtain ⟨_, rfl, _⟩ := Value.slice.inj e
      rfl
    · obtain ⟨_, rfl, _⟩ := Value.slice.inj e
      rfl
  unfold maxLen at hcm
  obtain ⟨T, hT⟩ : ∃ T, T = workV nar cbr 64 m0 ⟨a, b, c, d, e, f, g, h⟩ l := ⟨_, rfl⟩
  have HT := hid hT
  have HG := hid hg
  have HV := hid hv
  have HBD := hid hbd
  have HLL := hid hll
  have HM0 := hid hm0
  rw [← hT]
  clear hT hg hv hbd hll hm0
  go_enter Tryd.func57, Tryd.ntmps57
  go_wp2_with fail
  refine (blockBytes32 _).mono ?_
  rintro e1 w1 ⟨rfl, hb1⟩
  have HA := hid (row_kept (row_kept (row_kept (heap_alloc_new w _) ((Below.refl _ _).alloc (Nat.le_refl _) _)) ((Below.refl _ _).alloc (Nat.le_refl _) _)) hb1)
  have HR := hid (((Rw.laid (l := [a, b, c, d, e, f, g, h]) (K := .u32) (World.size_alloc _ _).symm (by rfl)).more _).kept hb1)
  have HS := hid ((Rw.laid (g := w.heap.size + 1 + 1) (l := List.replicate 8 0) (K := .u32) (by simp) (by rfl)).kept hb1)
  have HB := hid (below2 ((((Below.refl _ w).alloc (Nat.le_refl _) _).alloc (by simp) _).alloc (by simp; omega) _) hb1)
  clear hb1
  go_wp2_with fail
  go_loopw [2] (fun v2 wr => ∃ (x : Option Addr) (n c m : Nat) (r : List UInt8) (ra rb rc rd re rf rg rh : Nat), v2 = .slice x n c ∧ n = r.length ∧ n ≤ c ∧ c ≤ cap ∧ Hid (SlB w (.slice x n c) r) ∧ Hid (BdS (2 ^ 32) ⟨ra, rb, rc, rd, re, rf, rg, rh⟩) ∧ Hid (workV nar cbr 64 m ⟨ra, rb, rc, rd, re, rf, rg, rh⟩ r = T) ∧ Hid (r.length / 64 ≤ m) ∧
      Hid (wr.heap[w.heap.size]? = some (.cells #[.int .u64 32, .int .i64 64, .int .u64 7, .int .u64 18, .int .u64 3, .int .u64 17, .int .u64 19, .int .u64 10, .int .u64 2, .int .u64 13, .int .u64 22, .int .u64 6, .int .u64 11, .int .u64 25] 73 (0, 0)) ∧ Rw wr (w.heap.size + 1) .u32 100 [ra, rb, rc, rd, re, rf, rg, rh] ∧ Rw wr (w.heap.size + 1 + 1) .u32 100 (List.replicate 8 0) ∧ Below w.heap.size w wr)) (fun v2 _ => sliceN8_3 v2)
  case atStart => exact ⟨a0, len, cap, m0, l, a, b, c, d, e, f, g, h, rfl, HLL.out, hlc, Nat.le_refl _, HV.out, HBD.out, HT.out.symm, HM0.out, HA.out, HR.out, HS.out, HB.out⟩
  case round =>
    clear HA HR HS HB HT HV HBD HLL HM0
    obtain ⟨x, n, c, m, r, ra, rb, rc, rd, re, rf, rg, rh, rfl, hn, hnc, hcc, HV, HBD, HT, HM, HX⟩ := hrel
    by_cases hge : 64 ≤ n
    · obtain ⟨y, rfl, hcell⟩ : ∃ y, x = some y ∧ ∀ j (hj : j < r.length), w.cell? (y.add j) = some (.int .u8 (r[j].toNat : Int)) := by
        rcases HV.out with ⟨c', e, h0⟩ | ⟨y, c', e, hc⟩
        · subst h0; simp at hn; omega
        · obtain ⟨rfl, _, _⟩ := Value.slice.inj e
          exact ⟨y, rfl, hc⟩
      have HC := hid (fun (X : World) (hb : Below w.heap.size w X) j (hj : j < (r.take 64).length) => (show X.cell? (y.add j) = some (.int .u8 ((r.take 64)[j].toNat : Int)) by
        have hj' : j < r.length := by simp at hj; omega
        rw [hb.cell (World.block_lt_of_cell? w _ (hcell j hj')), hcell j hj']
        simp))
      obtain ⟨qa, qb, qc, qd, qe, qf, qg, qh, hF⟩ : ∃ qa qb qc qd qe qf qg qh : Nat, foldV nar cbr ⟨ra, rb, rc, rd, re, rf, rg, rh⟩ (r.take 64) = ⟨qa, qb, qc, qd, qe, qf, qg, qh⟩ := ⟨_, _, _, _, _, _, _, _, rfl⟩
      have HBQ := hid (show BdS (2 ^ 32) ⟨qa, qb, qc, qd, qe, qf, qg, qh⟩ by rw [← hF]; exact add_bd nar _ _)
      have hnx := work_next_3 nar cbr 64 m ⟨ra, rb, rc, rd, re, rf, rg, rh⟩ r (by decide) (by omega) HM.out
      rw [hF] at hnx
      have HTN := hid (hnx.1.symm.trans HT.out)
      have HMN := hid hnx.2
      have HF := hid hF
      have HN := hid hn
      have HCL := hid hcell
      clear hnx hF hn hcell
      have c0 : wr.cell? ⟨w.heap.size, 0, none⟩ = some (.int .u64 32) := Lib.cell_of_heap HX.out.1 0
      have c1 : wr.cell? ⟨w.heap.size, 1, none⟩ = some (.int .i64 64) := Lib.cell_of_heap HX.out.1 1
      have c2 : wr.cell? ⟨w.heap.size, 2, none⟩ = some (.int .u64 7) := Lib.cell_of_heap HX.out.1 2
      have c3 : wr.cell? ⟨w.heap.size, 3, none⟩ = some (.int .u64 18) := Lib.cell_of_heap HX.out.1 3
      have c4 : wr.cell? ⟨w.heap.size, 4, none⟩ = some (.int .u64 3) := Lib.cell_of_heap HX.out.1 4
      have c5 : wr.cell? ⟨w.heap.size, 5, none⟩ = some (.int .u64 17) := Lib.cell_of_heap HX.out.1 5
      have c6 : wr.cell? ⟨w.heap.size, 6, none⟩ = some (.int .u64 19) := Lib.cell_of_heap HX.out.1 6
      have c7 : wr.cell? ⟨w.heap.size, 7, none⟩ = some (.int .u64 10) := Lib.cell_of_heap HX.out.1 7
      have c8 : wr.cell? ⟨w.heap.size, 8, none⟩ = some (.int .u64 2) := Lib.cell_of_heap HX.out.1 8
      have c9 : wr.cell? ⟨w.heap.size, 9, none⟩ = some (.int .u64 13) := Lib.cell_of_heap HX.out.1 9
      have c10 : wr.cell? ⟨w.heap.size, 10, none⟩ = some (.int .u64 22) := Lib.cell_of_heap HX.out.1 10
      have c11 : wr.cell? ⟨w.heap.size, 11, none⟩ = some (.int .u64 6) := Lib.cell_of_heap HX.out.1 11
      have c12 : wr.cell? ⟨w.heap.size, 12, none⟩ = some (.int .u64 11) := Lib.cell_of_heap HX.out.1 12
      have c13 : wr.cell? ⟨w.heap.size, 13, none⟩ = some (.int .u64 25) := Lib.cell_of_heap HX.out.1 13
      have s0 : wr.cell? ⟨w.heap.size + 1, 0, none⟩ = some (.int .u32 (ra : Int)) := HX.out.2.1.cell 0 (by simp)
      have t0 : wr.frozen? ⟨w.heap.size + 1, 0, none⟩ = false := HX.out.2.1.free 0
      have s1 : wr.cell? ⟨w.heap.size + 1, 1, none⟩ = some (.int .u32 (rb : Int)) := HX.out.2.1.cell 1 (by simp)
      have t1 : wr.frozen? ⟨w.heap.size + 1, 1, none⟩ = false := HX.out.2.1.free 1
      have s2 : wr.cell? ⟨w.heap.size + 1, 2, none⟩ = some (.int .u32 (rc : Int)) := HX.out.2.1.cell 2 (by simp)
      have t2 : wr.frozen? ⟨w.heap.size + 1, 2, none⟩ = false := HX.out.2.1.free 2
      have s3 : wr.cell? ⟨w.heap.size + 1, 3, none⟩ = some (.int .u32 (rd : Int)) := HX.out.2.1.cell 3 (by simp)
      have t3 : wr.frozen? ⟨w.heap.size + 1, 3, none⟩ = false := HX.out.2.1.free 3
      have s4 : wr.cell? ⟨w.heap.size + 1, 4, none⟩ = some (.int .u32 (re : Int)) := HX.out.2.1.cell 4 (by simp)
      have t4 : wr.frozen? ⟨w.heap.size + 1, 4, none⟩ = false := HX.out.2.1.free 4
      have s5 : wr.cell? ⟨w.heap.size + 1, 5, none⟩ = some (.int .u32 (rf : Int)) := HX.out.2.1.cell 5 (by simp)
      have t5 : wr.frozen? ⟨w.heap.size + 1, 5, none⟩ = false := HX.out.2.1.free 5
      have s6 : wr.cell? ⟨w.heap.size + 1, 6, none⟩ = some (.int .u32 (rg : Int)) := HX.out.2.1.cell 6 (by simp)
      have t6 : wr.frozen? ⟨w.heap.size + 1, 6, none⟩ = false := HX.out.2.1.free 6
      have s7 : wr.cell? ⟨w.heap.size + 1, 7, none⟩ = some (.int .u32 (rh : Int)) := HX.out.2.1.cell 7 (by simp)
      have t7 : wr.frozen? ⟨w.heap.size + 1, 7, none⟩ = false := HX.out.2.1.free 7
      have hge1 : (64 : Int) ≤ (n : Int) := by omega
      have hge2 : (64 : Int) ≤ (c : Int) := by omega
      obtain ⟨ny, hny⟩ : ∃ ny, ny = (if c = 64 then some y else some (y.add 64)) := ⟨_, rfl⟩
      have hsl : ∀ wx : World, (Instr.sliceAt 22 (.slice (some y) n c) (some (.int .i64 64)) none none).run Tryd.prog wx = .ok (.slice ny (n - 64) (c - 64)) wx := by
        intro wx
        rw [run_sliceAt_slice (h := undB), run_slice_l (ht := undB) (h0 := by omega) (h1 := by omega), sizeByte]
        simp only [Result.andThen, sliced, Int.reduceToNat, Nat.mul_one, Option.map_some]
        rw [hny]
      have HNY := hid hny
      clear hny
      have HCA := hid (fun (X : World) (hb : Below wr.heap.size wr X) => folded_l32 ra rb rc rd re rf rg rh qa qb qc qd qe qf qg qh y c (r.take 64) X ((HG.out.kept HX.out.2.2.2).kept hb) (HC.out X (HX.out.2.2.2.trans (hb.mono HX.out.2.2.2.size))) (by have := HN.out; simp; omega) (by omega) HBD.out HF.out)
      go_wp2_with fail
      go_region_with (first | (go_at_call 82; refine (HCA.out _ (Below.refl _ wr).drew).mono ?_; rintro e wa ⟨rfl, hba⟩; obtain ⟨p0, q0⟩ := kept_both (X := wr.drew) (a := ⟨w.heap.size + 1, 0, none⟩) (v := .int .u32 (ra : Int)) s0 t0 hba; obtain ⟨p1, q1⟩ := kept_both (X := wr.drew) (a := ⟨w.heap.size + 1, 1, none⟩) (v := .int .u32 (rb : Int)) s1 t1 hba; obtain ⟨p2, q2⟩ := kept_both (X := wr.drew) (a := ⟨w.heap.size + 1, 2, none⟩) (v := .int .u32 (rc : Int)) s2 t2 hba; obtain ⟨p3, q3⟩ := kept_both (X := wr.drew) (a := ⟨w.heap.size + 1, 3, none⟩) (v := .int .u32 (rd : Int)) s3 t3 hba; obtain ⟨p4, q4⟩ := kept_both (X := wr.drew) (a := ⟨w.heap.size + 1, 4, none⟩) (v := .int .u32 (re : Int)) s4 t4 hba; obtain ⟨p5, q5⟩ := kept_both (X := wr.drew) (a := ⟨w.heap.size + 1, 5, none⟩) (v := .int .u32 (rf : Int)) s5 t5 hba; obtain ⟨p6, q6⟩ := kept_both (X := wr.drew) (a := ⟨w.heap.size + 1, 6, none⟩) (v := .int .u32 (rg : Int)) s6 t6 hba; obtain ⟨p7, q7⟩ := kept_both (X := wr.drew) (a := ⟨w.heap.size + 1, 7, none⟩) (v := .int .u32 (rh : Int)) s7 t7 hba))
      all_goals
        have hb : Below wr.heap.size wr wa := ⟨hba.os, hba.tape, hba.output, hba.size, hba.block⟩
        have HW := hid (show wa.setCells (w.heap.size + 1) 0 (cW .u32 [qa, qb, qc, qd, qe, qf, qg, qh]) = _ from rfl)
        have HX2 := hid (show (wa.setCells (w.heap.size + 1) 0 (cW .u32 [qa, qb, qc, qd, qe, qf, qg, qh])).heap[w.heap.size]? = some (.cells #[.int .u64 32, .int .i64 64, .int .u64 7, .int .u64 18, .int .u64 3, .int .u64 17, .int .u64 19, .int .u64 10, .int .u64 2, .int .u64 13, .int .u64 22, .int .u64 6, .int .u64 11, .int .u64 25] 73 (0, 0)) ∧ Rw (wa.setCells (w.heap.size + 1) 0 (cW .u32 [qa, qb, qc, qd, qe, qf, qg, qh])) (w.heap.size + 1) .u32 100 [qa, qb, qc, qd, qe, qf, qg, qh] ∧ Rw (wa.setCells (w.heap.size + 1) 0 (cW .u32 [qa, qb, qc, qd, qe, qf, qg, qh])) (w.heap.size + 1 + 1) .u32 100 (List.replicate 8 0) ∧ Below w.heap.size w (wa.setCells (w.heap.size + 1) 0 (cW .u32 [qa, qb, qc, qd, qe, qf, qg, qh])) from
          ⟨(setCells_far (by omega) _ _ _).trans (row_kept HX.out.1 hb), (HX.out.2.1.kept hb).put _ rfl, (setCells_far (by omega) _ _ _).trans (HX.out.2.2.1.kept hb), below_setCells (by omega) _ _ _ (HX.out.2.2.2.trans (hb.mono HX.out.2.2.2.size))⟩)
        clear c0 c1 c2 c3 c4 c5 c6 c7 c8 c9 c10 c11 c12 c13 s0 s1 s2 s3 s4 s5 s6 s7 t0 t1 t2 t3 t4 t5 t6 t7 hb HW
        go_wp2_with fail
        go_roundw
        case rel =>
          have hn := HN.out
          have hE : (r.drop 64).length = n - 64 := by rw [List.length_drop]; omega
          have hSl : SlB w (.slice ny (n - 64) (c - 64)) (r.drop 64) := by
            have := slb_drop_3 w y c 64 n r (by decide) hn hnc (by omega) HCL.out
            rw [← HNY.out] at this
            exact this
          first
            | exact ⟨ny, n - 64, c - 64, m - 1, r.drop 64, qa, qb, qc, qd, qe, qf, qg, qh, rfl, hE.symm, by omega, by omega, hSl, HBQ.out, HTN.out, HMN.out, HX2.out⟩
            | ((repeat apply Exists.intro); refine ⟨?_, rfl⟩; exact ⟨ny, n - 64, c - 64, m - 1, r.drop 64, qa, qb, qc, qd, qe, qf, qg, qh, rfl, hE.symm, by omega, by omega, hSl, HBQ.out, HTN.out, HMN.out, HX2.out⟩)
        case measure => simp [sliceN8_3]; omega
    · obtain rfl : ⟨ra, rb, rc, rd, re, rf, rg, rh⟩ = T := by
        rw [← HT.out, work_stop_3 nar cbr 64 m _ r (by omega)]
      have hX := HX.out
      have hlt1 : ¬ ((64 : Int) ≤ (n : Int)) := by omega
      have HTT := hid (hX.2.2.1.put [ra, rb, rc, rd, re, rf, rg, rh] rfl)
      have HBT := hid (below_setCells (b := w.heap.size + 1 + 1) (by omega) (cW .u32 [ra, rb, rc, rd, re, rf, rg, rh]) 0 wr hX.2.2.2)
      have HH := hid (hX.2.2.1.there (cW .u32 [ra, rb, rc, rd, re, rf, rg, rh]).toArray.size rfl)
      have HRG := hid hX.2.1.range
      have hone := all_oneCell_toArray (cW_one .u32 [ra, rb, rc, rd, re, rf, rg, rh])
      have hi8 := size8_3 [ra, rb, rc, rd, re, rf, rg, rh] rfl
      have hi8' := size8a_3 [ra, rb, rc, rd, re, rf, rg, rh] rfl
      clear hX HX HT HM HV hn hnc hcc hge
      go_wp2_with (first | refine wpList_load_mid rfl 100 (.tmp 4) rfl (w.heap.size + 1) 0 rfl (cW .u32 [ra, rb, rc, rd, re, rf, rg, rh]) _ HRG.out Tryd.underlying100 rfl hi8 ?_ | refine wpList_store_mid rfl 100 (.tmp 6) (.tmp 23) rfl (w.heap.size + 1 + 1) 0 (cW .u32 [ra, rb, rc, rd, re, rf, rg, rh]).toArray rfl rfl HH.out hi8' hone ?_)
      exact bodyPost_ret (Rw.result rfl _ _ (w.heap.size + 1 + 1) .u32 100 [ra, rb, rc, rd, re, rf, rg, rh] rfl HTT.out Tryd.underlying100 rfl hi8) rfl ⟨rfl, HBD.out, HBT.out⟩

end Go.Proofs.YtbdlicomkpnalaaDoor
