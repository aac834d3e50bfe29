/-
  The walk of digest's worked, at 64 bits.
-/
import Derived.Test.YtbdlicomkpnalaaDoorZLh6
import Derived.Test.YtbdlicomkpnalaaDoorZ0
import Derived.Deep.RegionWith
set_option linter.unusedSimpArgs false
set_option linter.unusedVariables false
namespace Go.Proofs.YtbdlicomkpnalaaDoor
open Go.RowKit

theorem folded_l64 (a b c d e f g h a2 b2 c2 d2 e2 f2 g2 h2 : Nat) (x : Addr) (cap : Nat) (l : List UInt8) (w : World) (hg : Gt w) (hc : ∀ j (h : j < l.length), w.cell? (x.add j) = some (.int .u8 (l[j].toNat : Int))) (hl : l.length = 128) (hcap : 128 ≤ cap)
    (hbd : BdS (2 ^ 64) ⟨a, b, c, d, e, f, g, h⟩) (hF : foldV wid cbr ⟨a, b, c, d, e, f, g, h⟩ l = ⟨a2, b2, c2, d2, e2, f2, g2, h2⟩) :
    Calls Tryd.prog 86 #[.agg #[.int .u64 64, .int .i64 80, .int .u64 1, .int .u64 8, .int .u64 7, .int .u64 19, .int .u64 61, .int .u64 6, .int .u64 28, .int .u64 34, .int .u64 39, .int .u64 14, .int .u64 18, .int .u64 41], .agg #[.int .u64 (a : Int), .int .u64 (b : Int), .int .u64 (c : Int), .int .u64 (d : Int), .int .u64 (e : Int), .int .u64 (f : Int), .int .u64 (g : Int), .int .u64 (h : Int)], .slice (some x) 128 cap] w fun e' w' => e' = .returned (.agg #[.int .u64 (a2 : Int), .int .u64 (b2 : Int), .int .u64 (c2 : Int), .int .u64 (d2 : Int), .int .u64 (e2 : Int), .int .u64 (f2 : Int), .int .u64 (g2 : Int), .int .u64 (h2 : Int)]) ∧ Below w.heap.size w w' := by
  have := folded64 a b c d e f g h x cap l w hg hc hl hcap hbd
  rw [hF] at this
  exact this

def sliceN8_6 : Value → Nat
  | .slice _ n _ => n
  | _ => 0

theorem work_next_6 (k : Kd) (Ks : List Nat) (n m : Nat) (s : St) (l : List UInt8) (hn : 0 < n) (h : n ≤ l.length) (hm : l.length / n ≤ m) : workV k Ks n m s l = workV k Ks n (m - 1) (foldV k Ks s (l.take n)) (l.drop n) ∧ (l.drop n).length / n ≤ m - 1 := by
  have h1 : 0 < l.length / n := Nat.div_pos h hn
  obtain ⟨m', rfl⟩ : ∃ m', m = m' + 1 := ⟨m - 1, by omega⟩
  refine ⟨by rw [workV, if_pos h]; rfl, ?_⟩
  have h2 : l.length / n = (l.length - n) / n + 1 := by
    conv => lhs; rw [show l.length = l.length - n + n by omega]
    exact Nat.add_div_right _ hn
  rw [List.length_drop]
  omega

theorem work_stop_6 (k : Kd) (Ks : List Nat) (n m : Nat) (s : St) (l : List UInt8) (h : ¬ n ≤ l.length) : workV k Ks n m s l = s := by
  cases m with
  | zero => rfl
  | succ m => rw [workV, if_neg h]

theorem slb_drop_6 (w : World) (y : Addr) (c k n : Nat) (r : List UInt8) (hk0 : 0 < k) (hn : n = r.length) (hnc : n ≤ c) (hkn : k ≤ n)
    (hcell : ∀ j (hj : j < r.length), w.cell? (y.add j) = some (.int .u8 (r[j].toNat : Int))) : SlB w (.slice (if c = k then some y else some (y.add k)) (n - k) (c - k)) (r.drop k) := by
  have hl : n - k = (r.drop k).length := by rw [List.length_drop]; omega
  by_cases hck : c = k
  · have hr : r.drop k = [] := List.eq_nil_of_length_eq_zero (by omega)
    rw [if_pos hck, hl, hr]
    exact .inr ⟨y, c - k, rfl, fun j hj => by simp at hj⟩
  · rw [if_neg hck, hl]
    refine .inr ⟨_, c - k, rfl, fun j hj => ?_⟩
    have hj' : k + j < r.length := by rw [List.length_drop] at hj; omega
    rw [Addr.add_add, hcell (k + j) hj']
    simp

set_option maxHeartbeats 4000000 in
set_option maxRecDepth 100000 in
theorem worked64 (a b c d e f g h : Nat) (a0 : Option Addr) (len cap m0 : Nat) (l : List UInt8) (w : World) (hg : Gt w) (hv : SlB w (.slice a0 len cap) l) (hlc : len ≤ cap) (hcm : cap ≤ maxLen) (hm0 : l.length / 128 ≤ m0)
    (hbd : BdS (2 ^ 64) ⟨a, b, c, d, e, f, g, h⟩) :
    Calls Tryd.prog 61 #[.agg #[.int .u64 64, .int .i64 80, .int .u64 1, .int .u64 8, .int .u64 7, .int .u64 19, .int .u64 61, .int .u64 6, .int .u64 28, .int .u64 34, .int .u64 39, .int .u64 14, .int .u64 18, .int .u64 41], .agg #[.int .u64 (a : Int), .int .u64 (b : Int), .int .u64 (c : Int), .int .u64 (d : Int), .int .u64 (e : Int), .int .u64 (f : Int), .int .u64 (g : Int), .int .u64 (h : Int)], .slice a0 len cap] w fun e' w' => e' = .returned (.agg (cW .u64 (workV wid cbr 128 m0 ⟨a, b, c, d, e, f, g, h⟩ l).list).toArray) ∧ BdS (2 ^ 64) (workV wid cbr 128 m0 ⟨a, b, c, d, e, f, g, h⟩ l) ∧ Below w.heap.size w w' := by
  have hll : len = l.length := by
    rcases hv with ⟨c, e, rfl⟩ | ⟨x, c, e, hc⟩
    · obtain ⟨_, rfl, _⟩ := Value.slice.inj e
      rfl
    · obtain ⟨_, rfl, _⟩ := Value.slice.inj e
      rfl
  unfold maxLen at hcm
  obtain ⟨T, hT⟩ : ∃ T, T = workV wid cbr 128 m0 ⟨a, b, c, d, e, f, g, h⟩ l := ⟨_, rfl⟩
  have HT := hid hT
  have HG := hid hg
  have HV := hid hv
  have HBD := hid hbd
  have HLL := hid hll
  have HM0 := hid hm0
  rw [← hT]
  clear hT hg hv hbd hll hm0
  go_enter Tryd.func61, Tryd.ntmps61
  go_wp2_with fail
  refine (blockBytes64 _).mono ?_
  rintro e1 w1 ⟨rfl, hb1⟩
  have HA := hid (row_kept (row_kept (row_kept (heap_alloc_new w _) ((Below.refl _ _).alloc (Nat.le_refl _) _)) ((Below.refl _ _).alloc (Nat.le_refl _) _)) hb1)
  have HR := hid (((Rw.laid (l := [a, b, c, d, e, f, g, h]) (K := .u64) (World.size_alloc _ _).symm (by rfl)).more _).kept hb1)
  have HS := hid ((Rw.laid (g := w.heap.size + 1 + 1) (l := List.replicate 8 0) (K := .u64) (by simp) (by rfl)).kept hb1)
  have HB := hid (below2 ((((Below.refl _ w).alloc (Nat.le_refl _) _).alloc (by simp) _).alloc (by simp; omega) _) hb1)
  clear hb1
  go_wp2_with fail
  go_loopw [2] (fun v2 wr => ∃ (x : Option Addr) (n c m : Nat) (r : List UInt8) (ra rb rc rd re rf rg rh : Nat), v2 = .slice x n c ∧ n = r.length ∧ n ≤ c ∧ c ≤ cap ∧ Hid (SlB w (.slice x n c) r) ∧ Hid (BdS (2 ^ 64) ⟨ra, rb, rc, rd, re, rf, rg, rh⟩) ∧ Hid (workV wid cbr 128 m ⟨ra, rb, rc, rd, re, rf, rg, rh⟩ r = T) ∧ Hid (r.length / 128 ≤ m) ∧
      Hid (wr.heap[w.heap.size]? = some (.cells #[.int .u64 64, .int .i64 80, .int .u64 1, .int .u64 8, .int .u64 7, .int .u64 19, .int .u64 61, .int .u64 6, .int .u64 28, .int .u64 34, .int .u64 39, .int .u64 14, .int .u64 18, .int .u64 41] 73 (0, 0)) ∧ Rw wr (w.heap.size + 1) .u64 77 [ra, rb, rc, rd, re, rf, rg, rh] ∧ Rw wr (w.heap.size + 1 + 1) .u64 77 (List.replicate 8 0) ∧ Below w.heap.size w wr)) (fun v2 _ => sliceN8_6 v2)
  case atStart => exact ⟨a0, len, cap, m0, l, a, b, c, d, e, f, g, h, rfl, HLL.out, hlc, Nat.le_refl _, HV.out, HBD.out, HT.out.symm, HM0.out, HA.out, HR.out, HS.out, HB.out⟩
  case round =>
    clear HA HR HS HB HT HV HBD HLL HM0
    obtain ⟨x, n, c, m, r, ra, rb, rc, rd, re, rf, rg, rh, rfl, hn, hnc, hcc, HV, HBD, HT, HM, HX⟩ := hrel
    by_cases hge : 128 ≤ n
    · obtain ⟨y, rfl, hcell⟩ : ∃ y, x = some y ∧ ∀ j (hj : j < r.length), w.cell? (y.add j) = some (.int .u8 (r[j].toNat : Int)) := by
        rcases HV.out with ⟨c', e, h0⟩ | ⟨y, c', e, hc⟩
        · subst h0; simp at hn; omega
        · obtain ⟨rfl, _, _⟩ := Value.slice.inj e
          exact ⟨y, rfl, hc⟩
      have HC := hid (fun (X : World) (hb : Below w.heap.size w X) j (hj : j < (r.take 128).length) => (show X.cell? (y.add j) = some (.int .u8 ((r.take 128)[j].toNat : Int)) by
        have hj' : j < r.length := by simp at hj; omega
        rw [hb.cell (World.block_lt_of_cell? w _ (hcell j hj')), hcell j hj']
        simp))
      obtain ⟨qa, qb, qc, qd, qe, qf, qg, qh, hF⟩ : ∃ qa qb qc qd qe qf qg qh : Nat, foldV wid cbr ⟨ra, rb, rc, rd, re, rf, rg, rh⟩ (r.take 128) = ⟨qa, qb, qc, qd, qe, qf, qg, qh⟩ := ⟨_, _, _, _, _, _, _, _, rfl⟩
      have HBQ := hid (show BdS (2 ^ 64) ⟨qa, qb, qc, qd, qe, qf, qg, qh⟩ by rw [← hF]; exact add_bd wid _ _)
      have hnx := work_next_6 wid cbr 128 m ⟨ra, rb, rc, rd, re, rf, rg, rh⟩ r (by decide) (by omega) HM.out
      rw [hF] at hnx
      have HTN := hid (hnx.1.symm.trans HT.out)
      have HMN := hid hnx.2
      have HF := hid hF
      have HN := hid hn
      have HCL := hid hcell
      clear hnx hF hn hcell
      have c0 : wr.cell? ⟨w.heap.size, 0, none⟩ = some (.int .u64 64) := Lib.cell_of_heap HX.out.1 0
      have c1 : wr.cell? ⟨w.heap.size, 1, none⟩ = some (.int .i64 80) := Lib.cell_of_heap HX.out.1 1
      have c2 : wr.cell? ⟨w.heap.size, 2, none⟩ = some (.int .u64 1) := Lib.cell_of_heap HX.out.1 2
      have c3 : wr.cell? ⟨w.heap.size, 3, none⟩ = some (.int .u64 8) := Lib.cell_of_heap HX.out.1 3
      have c4 : wr.cell? ⟨w.heap.size, 4, none⟩ = some (.int .u64 7) := Lib.cell_of_heap HX.out.1 4
      have c5 : wr.cell? ⟨w.heap.size, 5, none⟩ = some (.int .u64 19) := Lib.cell_of_heap HX.out.1 5
      have c6 : wr.cell? ⟨w.heap.size, 6, none⟩ = some (.int .u64 61) := Lib.cell_of_heap HX.out.1 6
      have c7 : wr.cell? ⟨w.heap.size, 7, none⟩ = some (.int .u64 6) := Lib.cell_of_heap HX.out.1 7
      have c8 : wr.cell? ⟨w.heap.size, 8, none⟩ = some (.int .u64 28) := Lib.cell_of_heap HX.out.1 8
      have c9 : wr.cell? ⟨w.heap.size, 9, none⟩ = some (.int .u64 34) := Lib.cell_of_heap HX.out.1 9
      have c10 : wr.cell? ⟨w.heap.size, 10, none⟩ = some (.int .u64 39) := Lib.cell_of_heap HX.out.1 10
      have c11 : wr.cell? ⟨w.heap.size, 11, none⟩ = some (.int .u64 14) := Lib.cell_of_heap HX.out.1 11
      have c12 : wr.cell? ⟨w.heap.size, 12, none⟩ = some (.int .u64 18) := Lib.cell_of_heap HX.out.1 12
      have c13 : wr.cell? ⟨w.heap.size, 13, none⟩ = some (.int .u64 41) := Lib.cell_of_heap HX.out.1 13
      have s0 : wr.cell? ⟨w.heap.size + 1, 0, none⟩ = some (.int .u64 (ra : Int)) := HX.out.2.1.cell 0 (by simp)
      have t0 : wr.frozen? ⟨w.heap.size + 1, 0, none⟩ = false := HX.out.2.1.free 0
      have s1 : wr.cell? ⟨w.heap.size + 1, 1, none⟩ = some (.int .u64 (rb : Int)) := HX.out.2.1.cell 1 (by simp)
      have t1 : wr.frozen? ⟨w.heap.size + 1, 1, none⟩ = false := HX.out.2.1.free 1
      have s2 : wr.cell? ⟨w.heap.size + 1, 2, none⟩ = some (.int .u64 (rc : Int)) := HX.out.2.1.cell 2 (by simp)
      have t2 : wr.frozen? ⟨w.heap.size + 1, 2, none⟩ = false := HX.out.2.1.free 2
      have s3 : wr.cell? ⟨w.heap.size + 1, 3, none⟩ = some (.int .u64 (rd : Int)) := HX.out.2.1.cell 3 (by simp)
      have t3 : wr.frozen? ⟨w.heap.size + 1, 3, none⟩ = false := HX.out.2.1.free 3
      have s4 : wr.cell? ⟨w.heap.size + 1, 4, none⟩ = some (.int .u64 (re : Int)) := HX.out.2.1.cell 4 (by simp)
      have t4 : wr.frozen? ⟨w.heap.size + 1, 4, none⟩ = false := HX.out.2.1.free 4
      have s5 : wr.cell? ⟨w.heap.size + 1, 5, none⟩ = some (.int .u64 (rf : Int)) := HX.out.2.1.cell 5 (by simp)
      have t5 : wr.frozen? ⟨w.heap.size + 1, 5, none⟩ = false := HX.out.2.1.free 5
      have s6 : wr.cell? ⟨w.heap.size + 1, 6, none⟩ = some (.int .u64 (rg : Int)) := HX.out.2.1.cell 6 (by simp)
      have t6 : wr.frozen? ⟨w.heap.size + 1, 6, none⟩ = false := HX.out.2.1.free 6
      have s7 : wr.cell? ⟨w.heap.size + 1, 7, none⟩ = some (.int .u64 (rh : Int)) := HX.out.2.1.cell 7 (by simp)
      have t7 : wr.frozen? ⟨w.heap.size + 1, 7, none⟩ = false := HX.out.2.1.free 7
      have hge1 : (128 : Int) ≤ (n : Int) := by omega
      have hge2 : (128 : Int) ≤ (c : Int) := by omega
      obtain ⟨ny, hny⟩ : ∃ ny, ny = (if c = 128 then some y else some (y.add 128)) := ⟨_, rfl⟩
      have hsl : ∀ wx : World, (Instr.sliceAt 22 (.slice (some y) n c) (some (.int .i64 128)) none none).run Tryd.prog wx = .ok (.slice ny (n - 128) (c - 128)) wx := by
        intro wx
        rw [run_sliceAt_slice (h := undB), run_slice_l (ht := undB) (h0 := by omega) (h1 := by omega), sizeByte]
        simp only [Result.andThen, sliced, Int.reduceToNat, Nat.mul_one, Option.map_some]
        rw [hny]
      have HNY := hid hny
      clear hny
      have HCA := hid (fun (X : World) (hb : Below wr.heap.size wr X) => folded_l64 ra rb rc rd re rf rg rh qa qb qc qd qe qf qg qh y c (r.take 128) X ((HG.out.kept HX.out.2.2.2).kept hb) (HC.out X (HX.out.2.2.2.trans (hb.mono HX.out.2.2.2.size))) (by have := HN.out; simp; omega) (by omega) HBD.out HF.out)
      go_wp2_with fail
      go_region_with (first | (go_at_call 86; refine (HCA.out _ (Below.refl _ wr).drew).mono ?_; rintro e wa ⟨rfl, hba⟩; obtain ⟨p0, q0⟩ := kept_both (X := wr.drew) (a := ⟨w.heap.size + 1, 0, none⟩) (v := .int .u64 (ra : Int)) s0 t0 hba; obtain ⟨p1, q1⟩ := kept_both (X := wr.drew) (a := ⟨w.heap.size + 1, 1, none⟩) (v := .int .u64 (rb : Int)) s1 t1 hba; obtain ⟨p2, q2⟩ := kept_both (X := wr.drew) (a := ⟨w.heap.size + 1, 2, none⟩) (v := .int .u64 (rc : Int)) s2 t2 hba; obtain ⟨p3, q3⟩ := kept_both (X := wr.drew) (a := ⟨w.heap.size + 1, 3, none⟩) (v := .int .u64 (rd : Int)) s3 t3 hba; obtain ⟨p4, q4⟩ := kept_both (X := wr.drew) (a := ⟨w.heap.size + 1, 4, none⟩) (v := .int .u64 (re : Int)) s4 t4 hba; obtain ⟨p5, q5⟩ := kept_both (X := wr.drew) (a := ⟨w.heap.size + 1, 5, none⟩) (v := .int .u64 (rf : Int)) s5 t5 hba; obtain ⟨p6, q6⟩ := kept_both (X := wr.drew) (a := ⟨w.heap.size + 1, 6, none⟩) (v := .int .u64 (rg : Int)) s6 t6 hba; obtain ⟨p7, q7⟩ := kept_both (X := wr.drew) (a := ⟨w.heap.size + 1, 7, none⟩) (v := .int .u64 (rh : Int)) s7 t7 hba))
      all_goals
        have hb : Below wr.heap.size wr wa := ⟨hba.os, hba.tape, hba.output, hba.size, hba.block⟩
        have HW := hid (show wa.setCells (w.heap.size + 1) 0 (cW .u64 [qa, qb, qc, qd, qe, qf, qg, qh]) = _ from rfl)
        have HX2 := hid (show (wa.setCells (w.heap.size + 1) 0 (cW .u64 [qa, qb, qc, qd, qe, qf, qg, qh])).heap[w.heap.size]? = some (.cells #[.int .u64 64, .int .i64 80, .int .u64 1, .int .u64 8, .int .u64 7, .int .u64 19, .int .u64 61, .int .u64 6, .int .u64 28, .int .u64 34, .int .u64 39, .int .u64 14, .int .u64 18, .int .u64 41] 73 (0, 0)) ∧ Rw (wa.setCells (w.heap.size + 1) 0 (cW .u64 [qa, qb, qc, qd, qe, qf, qg, qh])) (w.heap.size + 1) .u64 77 [qa, qb, qc, qd, qe, qf, qg, qh] ∧ Rw (wa.setCells (w.heap.size + 1) 0 (cW .u64 [qa, qb, qc, qd, qe, qf, qg, qh])) (w.heap.size + 1 + 1) .u64 77 (List.replicate 8 0) ∧ Below w.heap.size w (wa.setCells (w.heap.size + 1) 0 (cW .u64 [qa, qb, qc, qd, qe, qf, qg, qh])) from
          ⟨(setCells_far (by omega) _ _ _).trans (row_kept HX.out.1 hb), (HX.out.2.1.kept hb).put _ rfl, (setCells_far (by omega) _ _ _).trans (HX.out.2.2.1.kept hb), below_setCells (by omega) _ _ _ (HX.out.2.2.2.trans (hb.mono HX.out.2.2.2.size))⟩)
        clear c0 c1 c2 c3 c4 c5 c6 c7 c8 c9 c10 c11 c12 c13 s0 s1 s2 s3 s4 s5 s6 s7 t0 t1 t2 t3 t4 t5 t6 t7 hb HW
        go_wp2_with fail
        go_roundw
        case rel =>
          have hn := HN.out
          have hE : (r.drop 128).length = n - 128 := by rw [List.length_drop]; omega
          have hSl : SlB w (.slice ny (n - 128) (c - 128)) (r.drop 128) := by
            have := slb_drop_6 w y c 128 n r (by decide) hn hnc (by omega) HCL.out
            rw [← HNY.out] at this
            exact this
          first
            | exact ⟨ny, n - 128, c - 128, m - 1, r.drop 128, qa, qb, qc, qd, qe, qf, qg, qh, rfl, hE.symm, by omega, by omega, hSl, HBQ.out, HTN.out, HMN.out, HX2.out⟩
            | ((repeat apply Exists.intro); refine ⟨?_, rfl⟩; exact ⟨ny, n - 128, c - 128, m - 1, r.drop 128, qa, qb, qc, qd, qe, qf, qg, qh, rfl, hE.symm, by omega, by omega, hSl, HBQ.out, HTN.out, HMN.out, HX2.out⟩)
        case measure => simp [sliceN8_6]; omega
    · obtain rfl : ⟨ra, rb, rc, rd, re, rf, rg, rh⟩ = T := by
        rw [← HT.out, work_stop_6 wid cbr 128 m _ r (by omega)]
      have hX := HX.out
      have hlt1 : ¬ ((128 : Int) ≤ (n : Int)) := by omega
      have HTT := hid (hX.2.2.1.put [ra, rb, rc, rd, re, rf, rg, rh] rfl)
      have HBT := hid (below_setCells (b := w.heap.size + 1 + 1) (by omega) (cW .u64 [ra, rb, rc, rd, re, rf, rg, rh]) 0 wr hX.2.2.2)
      have HH := hid (hX.2.2.1.there (cW .u64 [ra, rb, rc, rd, re, rf, rg, rh]).toArray.size rfl)
      have HRG := hid hX.2.1.range
      have hone := all_oneCell_toArray (cW_one .u64 [ra, rb, rc, rd, re, rf, rg, rh])
      have hi8 := size8_6 [ra, rb, rc, rd, re, rf, rg, rh] rfl
      have hi8' := size8a_6 [ra, rb, rc, rd, re, rf, rg, rh] rfl
      clear hX HX HT HM HV hn hnc hcc hge
      go_wp2_with (first | refine wpList_load_mid rfl 77 (.tmp 4) rfl (w.heap.size + 1) 0 rfl (cW .u64 [ra, rb, rc, rd, re, rf, rg, rh]) _ HRG.out Tryd.underlying77 rfl hi8 ?_ | refine wpList_store_mid rfl 77 (.tmp 6) (.tmp 23) rfl (w.heap.size + 1 + 1) 0 (cW .u64 [ra, rb, rc, rd, re, rf, rg, rh]).toArray rfl rfl HH.out hi8' hone ?_)
      exact bodyPost_ret (Rw.result rfl _ _ (w.heap.size + 1 + 1) .u64 77 [ra, rb, rc, rd, re, rf, rg, rh] rfl HTT.out Tryd.underlying77 rfl hi8) rfl ⟨rfl, HBD.out, HBT.out⟩

end Go.Proofs.YtbdlicomkpnalaaDoor
