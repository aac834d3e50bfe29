/-
  The walk of digest's ending, at 64 bits.
  The walk of digest's told, at 64 bits and 48 bytes.
  The walk of digest's told, at 64 bits and 64 bytes.
-/
import Derived.Test.YtbdlicomkpnalaaDoorZc
import Derived.Test.YtbdlicomkpnalaaDoorZa
import Derived.Deep.DeepAppendRoom
set_option linter.unusedSimpArgs false
set_option linter.unusedVariables false
namespace Go.Proofs.YtbdlicomkpnalaaDoor
open Go.RowKit

theorem madeN128_6 (w : World) : (Instr.makeSlice 22 (.int .i64 128) (.int .i64 128)).run Tryd.prog w = .ok (.slice (some ⟨w.heap.size, 0, none⟩) 128 128) (w.alloc (.cells (cW .u8 (zrs 128)).toArray 5)) := by kernel_rfl

theorem madeN256_6 (w : World) : (Instr.makeSlice 22 (.int .i64 256) (.int .i64 256)).run Tryd.prog w = .ok (.slice (some ⟨w.heap.size, 0, none⟩) 256 256) (w.alloc (.cells (cW .u8 (zrs 256)).toArray 5)) := by kernel_rfl

set_option maxHeartbeats 2000000 in
set_option maxRecDepth 100000 in
theorem ending64 (a0 : Option Addr) (len cap : Nat) (l : List UInt8) (w : World) (hv : SlB w (.slice a0 len cap) l) (hlc : len ≤ cap) (hcm : cap ≤ maxLen) (hl : l.length ≤ 100000) :
    Calls Tryd.prog 58 #[.agg #[.int .u64 64, .int .i64 80, .int .u64 1, .int .u64 8, .int .u64 7, .int .u64 19, .int .u64 61, .int .u64 6, .int .u64 28, .int .u64 34, .int .u64 39, .int .u64 14, .int .u64 18, .int .u64 41], .slice a0 len cap] w fun e' w' => ∃ G, e' = .returned (.slice (some ⟨G, 0, none⟩) (endV wid l).length (endV wid l).length) ∧ SlB w' (.slice (some ⟨G, 0, none⟩) (endV wid l).length (endV wid l).length) (endV wid l) ∧ Below w.heap.size w w' := by
  have hll : len = l.length := by
    rcases hv with ⟨c, e, rfl⟩ | ⟨x, c, e, hc⟩
    · obtain ⟨_, rfl, _⟩ := Value.slice.inj e
      rfl
    · obtain ⟨_, rfl, _⟩ := Value.slice.inj e
      rfl
  have hcm2 : cap < 9223372036854775808 := by unfold maxLen at hcm; omega
  have HCM := hid hcm2
  clear hcm
  obtain ⟨q, hq⟩ : ∃ q, q = len % 128 := ⟨_, rfl⟩
  obtain ⟨p, hp⟩ : ∃ p, p = len - q := ⟨_, rfl⟩
  have hqz : q < 128 := by rw [hq]; exact Nat.mod_lt _ (by decide)
  have hql : q ≤ len := by rw [hq]; exact Nat.mod_le _ _
  obtain ⟨R, hR⟩ : ∃ R, R = l.drop (l.length - l.length % 128) := ⟨_, rfl⟩
  have hRl : R.length = q := by rw [hR, List.length_drop, ← hll, ← hq]; omega
  obtain ⟨ra, hra⟩ : ∃ ra, ra = (if cap = p then a0 else a0.map (·.add p)) := ⟨_, rfl⟩
  have HSR := hid (show 0 < q → ∃ ad, ra = some ad ∧ ∀ j v, (Lib.byteCells R)[j]? = some v → w.cell? (ad.add j) = some v by
    intro h0
    rcases hv with ⟨c, e, rfl⟩ | ⟨x, c, e, hc⟩
    · simp at hll; omega
    · obtain ⟨rfl, _, _⟩ := Value.slice.inj e
      rw [hra, if_neg (by omega)]
      refine ⟨x.add p, rfl, fun j v hj => ?_⟩
      have hjl : j < R.length := by
        have := (List.getElem?_eq_some_iff.1 hj).1
        rwa [Lib.byteCells_length] at this
      rw [Addr.add_add, hc (p + j) (by omega), ← hj]
      have e3 : R[j]? = some l[p + j] := by
        have e4 : (l.drop (l.length - l.length % 128))[j]? = l[p + j]? := by rw [List.getElem?_drop, show l.length - l.length % 128 + j = p + j by rw [← hll, ← hq]; omega]
        rw [← hR] at e4
        exact e4.trans (List.getElem?_eq_getElem _)
      simp [Lib.byteCells, e3])
  have hsl : ∀ wx : World, (Instr.sliceAt 22 (.slice a0 len cap) (some (.int .i64 (p : Int))) none none).run Tryd.prog wx = .ok (.slice ra q (cap - p)) wx := by
    intro wx
    rw [run_sliceAt_slice (h := undB), run_slice_l (ht := undB) (h0 := by omega) (h1 := by omega), sizeByte]
    simp only [Result.andThen, sliced, Int.toNat_natCast, Nat.mul_one]
    rw [hra, show len - p = q by omega]
  have r1 : (len : Int).tmod 128 = (q : Int) := by rw [hq, Int.tmod_eq_emod_of_nonneg (by omega)]; omega
  have r2 : (len : Int) % 128 = (q : Int) := by rw [hq]; omega
  have r3 : (len : Int) - (q : Int) = (p : Int) := by omega
  have HE := hid (fun (N : Nat) (hN : endLen wid l.length = N) (h9 : q + 9 ≤ N) => (show natsV (endV wid l) = natsV R ++ 128 :: (List.replicate (N - (natsV R).length - 9) 0 ++ natsV (bytesV 8 (l.length * 8))) ∧ (endV wid l).length = N by
    have hz : l.length % (wid).size = q := by rw [hq, hll]; rfl
    rw [hR]
    exact ⟨end_eq wid l N hN (by rw [hz]; exact h9), by rw [end_len wid l (by rw [hz, hN]; exact h9), hN]⟩))
  have HEL := hid (show endLen wid l.length = if q + 1 + 2 * 8 > 128 then 2 * 128 else 128 by
    have hz : l.length % (wid).size = q := by rw [hq, hll]; rfl
    unfold endLen
    rw [hz]
    rfl)
  have HRl := hid hRl
  have HQ := hid hq
  have HLL := hid hll
  obtain ⟨X, hX⟩ : ∃ X, X = len * 8 := ⟨_, rfl⟩
  have hl8 : (len : Int) * 8 = (X : Int) := by omega
  have hX6 : X ≤ 800000 := by omega
  have HX := hid hX
  clear hX
  have hm1 := madeN128_6
  have hm2 := madeN256_6
  clear hq hp hR hRl hra hll hv hcm2 hl
  go_enter Tryd.func58, Tryd.ntmps58
  go_wp2_with fail
  refine (blockBytes64 _).mono ?_
  rintro e1 w1 ⟨rfl, hb1⟩
  have HA := hid (row_kept (heap_alloc_new w _) hb1)
  have HB1 := hid (below2 ((Below.refl _ w).alloc (Nat.le_refl _) _) hb1)
  clear hb1
  have c0 : w1.cell? ⟨w.heap.size, 0, none⟩ = some (.int .u64 64) := Lib.cell_of_heap HA.out 0
  have c1 : w1.cell? ⟨w.heap.size, 1, none⟩ = some (.int .i64 80) := Lib.cell_of_heap HA.out 1
  have c2 : w1.cell? ⟨w.heap.size, 2, none⟩ = some (.int .u64 1) := Lib.cell_of_heap HA.out 2
  have c3 : w1.cell? ⟨w.heap.size, 3, none⟩ = some (.int .u64 8) := Lib.cell_of_heap HA.out 3
  have c4 : w1.cell? ⟨w.heap.size, 4, none⟩ = some (.int .u64 7) := Lib.cell_of_heap HA.out 4
  have c5 : w1.cell? ⟨w.heap.size, 5, none⟩ = some (.int .u64 19) := Lib.cell_of_heap HA.out 5
  have c6 : w1.cell? ⟨w.heap.size, 6, none⟩ = some (.int .u64 61) := Lib.cell_of_heap HA.out 6
  have c7 : w1.cell? ⟨w.heap.size, 7, none⟩ = some (.int .u64 6) := Lib.cell_of_heap HA.out 7
  have c8 : w1.cell? ⟨w.heap.size, 8, none⟩ = some (.int .u64 28) := Lib.cell_of_heap HA.out 8
  have c9 : w1.cell? ⟨w.heap.size, 9, none⟩ = some (.int .u64 34) := Lib.cell_of_heap HA.out 9
  have c10 : w1.cell? ⟨w.heap.size, 10, none⟩ = some (.int .u64 39) := Lib.cell_of_heap HA.out 10
  have c11 : w1.cell? ⟨w.heap.size, 11, none⟩ = some (.int .u64 14) := Lib.cell_of_heap HA.out 11
  have c12 : w1.cell? ⟨w.heap.size, 12, none⟩ = some (.int .u64 18) := Lib.cell_of_heap HA.out 12
  have c13 : w1.cell? ⟨w.heap.size, 13, none⟩ = some (.int .u64 41) := Lib.cell_of_heap HA.out 13
  go_wp2_with fail
  refine (lengthBytes64 _).mono ?_
  rintro e2 w2 ⟨rfl, hb2⟩
  have HB2 := hid (below2 HB1.out hb2)
  clear hb2 hsl r1 r2 r3 HA HB1
  clear c0 c1 c2 c3 c4 c5 c6 c7 c8 c9 c10 c11 c12 c13
  by_cases hbig : q + 1 + 2 * 8 > 128
  · have HN := hid (show endLen wid l.length = 256 by rw [HEL.out, if_pos hbig])
    have hbi : (128 : Int) < (q : Int) + 1 + 2 * 8 := by omega
    have HEE := HE.out 256 HN.out (by omega)
    have HE1 := hid HEE.1
    have HE2 := hid HEE.2
    clear HEE HE HEL
    have HZ := hid (Rw.new w2 .u8 5 (zrs 256))
    have HRl' := HRl.out
    go_wp2_with (refine wpList_copy_splice rfl _ _ 22 22 rfl 5 Tryd.underlying22 (by kernel_rfl) _ _ _ _ _ _ rfl rfl w2.heap.size 0 (cW .u8 (zrs 256)) 5 HZ.out (Lib.byteCells R) ?n1a ?n2a ?n3a (byte_one R) w2.heap.size w2 ((Below.refl _ w2).alloc (Nat.le_refl _) _) (Nat.le_refl _) ?_)
    case n1a => rw [Lib.byteCells_length, HRl']; exact (Nat.min_eq_left (show q ≤ 256 by omega)).symm
    case n2a =>
      intro h0
      rw [Lib.byteCells_length, HRl'] at h0
      obtain ⟨ad, e1, e2⟩ := HSR.out h0
      exact ⟨ad, e1, fun j v hj => kept_cell (kept_cell (e2 j v hj) HB2.out) ((Below.refl _ w2).alloc (Nat.le_refl _) _)⟩
    case n3a => rw [Lib.byteCells_length, HRl', cW_len, zrs_len]; omega
    intro w3 HX3 hb3
    obtain ⟨G, hG⟩ : ∃ G, G = w2.heap.size := ⟨_, rfl⟩
    have hE0 : Rw w3 G .u8 5 (natsV R ++ zrs (256 - (natsV R).length)) := by
      have e := HX3.out
      rw [splice_zero 256 R (by omega)] at e
      rw [hG, nats_len]
      exact e
    have hGw : w.heap.size ≤ G := by rw [hG]; exact HB2.out.size
    have HB3 := hid (below2 HB2.out hb3)
    rw [← hG]
    have hnl : (natsV R).length = q := by rw [nats_len]; exact HRl'
    obtain ⟨y0, hy0⟩ : ∃ y0, y0 = (natsV R ++ zrs (256 - (natsV R).length)).getD q 0 := ⟨_, rfl⟩
    have cs : w3.cell? ⟨G, q, none⟩ = some (.int .u8 (y0 : Int)) := by rw [hy0]; exact hE0.cell q (by rw [List.length_append, zrs_len, hnl]; omega)
    have cf := hE0.free q
    have hqN : (q : Int) < 256 := by omega
    have HE4 := hid (show Rw (w3.setCell ⟨G, q, none⟩ (.int .u8 128)) G .u8 5 (fldE (natsV R) 256 X 0) by
      have e := hE0.set q 128
      rw [← fldE_zero (natsV R) 256 X (by omega), hnl]
      rw [hnl] at e
      exact e)
    have HB4 := hid (HB3.out.setCell (p := ⟨G, q, none⟩) hGw (.int .u8 128))
    have HNL := hid hnl
    clear hE0 hy0 hnl HX3 hb3 hG HZ HSR HRl'
    go_wp2_with fail
    go_loopw [8, 9] (fun v8 v9 wr => ∃ j x i : Nat, j ≤ 8 ∧ i = 256 - 1 - j ∧ v8 = .int .u64 (x : Int) ∧ v9 = .int .i64 (i : Int) ∧ Hid (x = X / 256 ^ j) ∧ Hid (Rw wr G .u8 5 (fldE (natsV R) 256 X j)) ∧ Hid (Below w.heap.size w wr)) (fun v8 _ _ => (intOf v8).toNat)
    case atStart => exact ⟨0, X, 256 - 1, by omega, rfl, by first | rfl | go_num, by first | rfl | go_num, by simp [Hid], HE4.out, HB4.out⟩
    case round =>
      clear cs cf HE4 HB4 HB3
      obtain ⟨j, x, i, hj, hi, rfl, rfl, HXJ, HR, HB⟩ := hrel
      by_cases hx0 : 0 < x
      · have hj8 : j < 8 := by
          rcases Nat.lt_or_ge j 8 with h | h
          · exact h
          · obtain rfl : j = 8 := by omega
            have := HXJ.out
            rw [Nat.div_eq_of_lt (Nat.lt_of_le_of_lt hX6 (by decide))] at this
            omega
        obtain ⟨y, hy⟩ : ∃ y, y = x % 256 := ⟨_, rfl⟩
        obtain ⟨x2, hx2⟩ : ∃ x2, x2 = x / 256 := ⟨_, rfl⟩
        obtain ⟨i2, hi2⟩ : ∃ i2, i2 = i - 1 := ⟨_, rfl⟩
        obtain ⟨z, hz⟩ : ∃ z, z = (fldE (natsV R) 256 X j).getD i 0 := ⟨_, rfl⟩
        have cs : wr.cell? ⟨G, i, none⟩ = some (.int .u8 (z : Int)) := by rw [hz]; exact HR.out.cell i (by rw [fldE_len (natsV R) 256 X j (by omega) (by rw [HNL.out]; omega)]; omega)
        have cf := HR.out.free i
        have h1 : (0 : Int) < (x : Int) := by omega
        have h2 : (x : Int) % 256 = (y : Int) := by omega
        have h3 : (x : Int) / 256 = (x2 : Int) := by omega
        have h4 : (i : Int) - 1 = (i2 : Int) := by omega
        have h5 : (i : Int) < 256 := by omega
        have HSET := hid (show Rw (wr.setCell ⟨G, i, none⟩ (.int .u8 (y : Int))) G .u8 5 (fldE (natsV R) 256 X (j + 1)) by
          rw [← fldE_step (natsV R) 256 X j y hj8 (by rw [HNL.out]; omega) (by rw [hy, HXJ.out]), ← hi]
          exact HR.out.set i y)
        have HXN := hid (show x2 = X / 256 ^ (j + 1) by rw [hx2, HXJ.out, Nat.div_div_eq_div_mul, Nat.pow_succ])
        have HI := hid (show i2 = 256 - 1 - (j + 1) by omega)
        have HLT := hid (show x2 < x by omega)
        clear hy hx2 hi2 hz hi hx0
        go_wp2_with fail
        go_roundw
        case rel =>
          have e4 := HB.out.setCell (p := ⟨G, i, none⟩) hGw (.int .u8 (y : Int))
          first
            | exact ⟨j + 1, x2, i2, by omega, HI.out, by first | rfl | go_num, by first | rfl | go_num, HXN.out, HSET.out, e4⟩
            | ((repeat apply Exists.intro); refine ⟨?_, rfl⟩; exact ⟨j + 1, x2, i2, by omega, HI.out, by first | rfl | go_num, by first | rfl | go_num, HXN.out, HSET.out, e4⟩)
        case measure => have := HLT.out; simp [intOf]; omega
      · obtain rfl : x = 0 := by omega
        have HFI := hid (show Rw wr G .u8 5 (natsV (endV wid l)) by
          have e := HR.out
          rw [fldE_fin (natsV R) 256 X j hj (by rw [HNL.out]; omega) HXJ.out.symm] at e
          rw [HE1.out, ← HLL.out, ← HX.out]
          exact e)
        clear hx0 hj hi HR HXJ
        go_wp2_with fail
        go_ret
        refine ⟨G, by rw [HE2.out]; rfl, ?_, HB.out⟩
        refine .inr ⟨⟨G, 0, none⟩, _, rfl, fun j hj => ?_⟩
        have e := HFI.out.cell j (by rw [nats_len]; exact hj)
        rw [Addr.add_lit, Nat.zero_add, e]
        simp [natsV, hj]
  · have HN := hid (show endLen wid l.length = 128 by rw [HEL.out, if_neg hbig])
    have hbi : ¬ ((128 : Int) < (q : Int) + 1 + 2 * 8) := by omega
    have HEE := HE.out 128 HN.out (by omega)
    have HE1 := hid HEE.1
    have HE2 := hid HEE.2
    clear HEE HE HEL
    have HZ := hid (Rw.new w2 .u8 5 (zrs 128))
    have HRl' := HRl.out
    go_wp2_with (refine wpList_copy_splice rfl _ _ 22 22 rfl 5 Tryd.underlying22 (by kernel_rfl) _ _ _ _ _ _ rfl rfl w2.heap.size 0 (cW .u8 (zrs 128)) 5 HZ.out (Lib.byteCells R) ?n1b ?n2b ?n3b (byte_one R) w2.heap.size w2 ((Below.refl _ w2).alloc (Nat.le_refl _) _) (Nat.le_refl _) ?_)
    case n1b => rw [Lib.byteCells_length, HRl']; exact (Nat.min_eq_left (show q ≤ 128 by omega)).symm
    case n2b =>
      intro h0
      rw [Lib.byteCells_length, HRl'] at h0
      obtain ⟨ad, e1, e2⟩ := HSR.out h0
      exact ⟨ad, e1, fun j v hj => kept_cell (kept_cell (e2 j v hj) HB2.out) ((Below.refl _ w2).alloc (Nat.le_refl _) _)⟩
    case n3b => rw [Lib.byteCells_length, HRl', cW_len, zrs_len]; omega
    intro w3 HX3 hb3
    obtain ⟨G, hG⟩ : ∃ G, G = w2.heap.size := ⟨_, rfl⟩
    have hE0 : Rw w3 G .u8 5 (natsV R ++ zrs (128 - (natsV R).length)) := by
      have e := HX3.out
      rw [splice_zero 128 R (by omega)] at e
      rw [hG, nats_len]
      exact e
    have hGw : w.heap.size ≤ G := by rw [hG]; exact HB2.out.size
    have HB3 := hid (below2 HB2.out hb3)
    rw [← hG]
    have hnl : (natsV R).length = q := by rw [nats_len]; exact HRl'
    obtain ⟨y0, hy0⟩ : ∃ y0, y0 = (natsV R ++ zrs (128 - (natsV R).length)).getD q 0 := ⟨_, rfl⟩
    have cs : w3.cell? ⟨G, q, none⟩ = some (.int .u8 (y0 : Int)) := by rw [hy0]; exact hE0.cell q (by rw [List.length_append, zrs_len, hnl]; omega)
    have cf := hE0.free q
    have hqN : (q : Int) < 128 := by omega
    have HE4 := hid (show Rw (w3.setCell ⟨G, q, none⟩ (.int .u8 128)) G .u8 5 (fldE (natsV R) 128 X 0) by
      have e := hE0.set q 128
      rw [← fldE_zero (natsV R) 128 X (by omega), hnl]
      rw [hnl] at e
      exact e)
    have HB4 := hid (HB3.out.setCell (p := ⟨G, q, none⟩) hGw (.int .u8 128))
    have HNL := hid hnl
    clear hE0 hy0 hnl HX3 hb3 hG HZ HSR HRl'
    go_wp2_with fail
    go_loopw [8, 9] (fun v8 v9 wr => ∃ j x i : Nat, j ≤ 8 ∧ i = 128 - 1 - j ∧ v8 = .int .u64 (x : Int) ∧ v9 = .int .i64 (i : Int) ∧ Hid (x = X / 256 ^ j) ∧ Hid (Rw wr G .u8 5 (fldE (natsV R) 128 X j)) ∧ Hid (Below w.heap.size w wr)) (fun v8 _ _ => (intOf v8).toNat)
    case atStart => exact ⟨0, X, 128 - 1, by omega, rfl, by first | rfl | go_num, by first | rfl | go_num, by simp [Hid], HE4.out, HB4.out⟩
    case round =>
      clear cs cf HE4 HB4 HB3
      obtain ⟨j, x, i, hj, hi, rfl, rfl, HXJ, HR, HB⟩ := hrel
      by_cases hx0 : 0 < x
      · have hj8 : j < 8 := by
          rcases Nat.lt_or_ge j 8 with h | h
          · exact h
          · obtain rfl : j = 8 := by omega
            have := HXJ.out
            rw [Nat.div_eq_of_lt (Nat.lt_of_le_of_lt hX6 (by decide))] at this
            omega
        obtain ⟨y, hy⟩ : ∃ y, y = x % 256 := ⟨_, rfl⟩
        obtain ⟨x2, hx2⟩ : ∃ x2, x2 = x / 256 := ⟨_, rfl⟩
        obtain ⟨i2, hi2⟩ : ∃ i2, i2 = i - 1 := ⟨_, rfl⟩
        obtain ⟨z, hz⟩ : ∃ z, z = (fldE (natsV R) 128 X j).getD i 0 := ⟨_, rfl⟩
        have cs : wr.cell? ⟨G, i, none⟩ = some (.int .u8 (z : Int)) := by rw [hz]; exact HR.out.cell i (by rw [fldE_len (natsV R) 128 X j (by omega) (by rw [HNL.out]; omega)]; omega)
        have cf := HR.out.free i
        have h1 : (0 : Int) < (x : Int) := by omega
        have h2 : (x : Int) % 256 = (y : Int) := by omega
        have h3 : (x : Int) / 256 = (x2 : Int) := by omega
        have h4 : (i : Int) - 1 = (i2 : Int) := by omega
        have h5 : (i : Int) < 128 := by omega
        have HSET := hid (show Rw (wr.setCell ⟨G, i, none⟩ (.int .u8 (y : Int))) G .u8 5 (fldE (natsV R) 128 X (j + 1)) by
          rw [← fldE_step (natsV R) 128 X j y hj8 (by rw [HNL.out]; omega) (by rw [hy, HXJ.out]), ← hi]
          exact HR.out.set i y)
        have HXN := hid (show x2 = X / 256 ^ (j + 1) by rw [hx2, HXJ.out, Nat.div_div_eq_div_mul, Nat.pow_succ])
        have HI := hid (show i2 = 128 - 1 - (j + 1) by omega)
        have HLT := hid (show x2 < x by omega)
        clear hy hx2 hi2 hz hi hx0
        go_wp2_with fail
        go_roundw
        case rel =>
          have e4 := HB.out.setCell (p := ⟨G, i, none⟩) hGw (.int .u8 (y : Int))
          first
            | exact ⟨j + 1, x2, i2, by omega, HI.out, by first | rfl | go_num, by first | rfl | go_num, HXN.out, HSET.out, e4⟩
            | ((repeat apply Exists.intro); refine ⟨?_, rfl⟩; exact ⟨j + 1, x2, i2, by omega, HI.out, by first | rfl | go_num, by first | rfl | go_num, HXN.out, HSET.out, e4⟩)
        case measure => have := HLT.out; simp [intOf]; omega
      · obtain rfl : x = 0 := by omega
        have HFI := hid (show Rw wr G .u8 5 (natsV (endV wid l)) by
          have e := HR.out
          rw [fldE_fin (natsV R) 128 X j hj (by rw [HNL.out]; omega) HXJ.out.symm] at e
          rw [HE1.out, ← HLL.out, ← HX.out]
          exact e)
        clear hx0 hj hi HR HXJ
        go_wp2_with fail
        go_ret
        refine ⟨G, by rw [HE2.out]; rfl, ?_, HB.out⟩
        refine .inr ⟨⟨G, 0, none⟩, _, rfl, fun j hj => ?_⟩
        have e := HFI.out.cell j (by rw [nats_len]; exact hj)
        rw [Addr.add_lit, Nat.zero_add, e]
        simp [natsV, hj]

end Go.Proofs.YtbdlicomkpnalaaDoor

namespace Go.Proofs.YtbdlicomkpnalaaDoor
open Go.RowKit

theorem made48 (w : World) : (Instr.makeSlice 22 (.int .i64 0) (.int .i64 48)).run Tryd.prog w = .ok (.slice (some ⟨w.heap.size, 0, none⟩) 0 48) (w.alloc (.cells (Array.replicate 48 (.int .u8 0)) 5)) := by kernel_rfl

set_option maxHeartbeats 2000000 in
set_option maxRecDepth 100000 in
theorem told48 (a b c d e f g h : Nat) (w : World) (hbd : BdS (2 ^ 64) ⟨a, b, c, d, e, f, g, h⟩) :
    Calls Tryd.prog 62 #[.agg #[.int .u64 64, .int .i64 80, .int .u64 1, .int .u64 8, .int .u64 7, .int .u64 19, .int .u64 61, .int .u64 6, .int .u64 28, .int .u64 34, .int .u64 39, .int .u64 14, .int .u64 18, .int .u64 41], .agg #[.int .u64 (a : Int), .int .u64 (b : Int), .int .u64 (c : Int), .int .u64 (d : Int), .int .u64 (e : Int), .int .u64 (f : Int), .int .u64 (g : Int), .int .u64 (h : Int)], .int .i64 48] w fun e' w' =>
      ∃ G, e' = .returned (.slice (some ⟨G, 0, none⟩) 48 48) ∧ w'.ownsRow w.heap.size 5 1 (.slice (some ⟨G, 0, none⟩) 48 48) 48 (Lib.byteCells ((toldV wid ⟨a, b, c, d, e, f, g, h⟩).take 48)) ∧ Below w.heap.size w w' := by
  obtain ⟨S, hS⟩ : ∃ S, S = [a, b, c, d, e, f, g, h] := ⟨_, rfl⟩
  have HS8 := hid (show S.length = 8 by rw [hS]; rfl)
  have HT := hid (show (toldV wid ⟨a, b, c, d, e, f, g, h⟩).take 48 = (S.take (48 / 8)).flatMap (bytesV 8) by rw [hS]; exact told_take wid _ (48 / 8) (by decide))
  have HBD := hid (show ∀ i, S.getD i 0 < 2 ^ 64 by rw [hS]; exact bd_get hbd)
  rw [HT.out]
  obtain ⟨i0, hi, hz0, hz1, hz2⟩ := info_parts infoByte8
  have hmk := made48
  have HS := hid hS
  clear hS hbd
  go_enter Tryd.func62, Tryd.ntmps62
  go_wp2_with fail
  refine (wordBytes64 _).mono ?_
  rintro e1 w1 ⟨rfl, hb1⟩
  have HA := hid (row_kept (row_kept (row_kept (heap_alloc_new w _) ((Below.refl _ _).alloc (Nat.le_refl _) _)) ((Below.refl _ _).alloc (Nat.le_refl _) _)) hb1)
  have HR := hid (show Rw w1 (w.heap.size + 1) .u64 77 S by rw [HS.out]; exact ((Rw.laid (l := [a, b, c, d, e, f, g, h]) (K := .u64) (World.size_alloc _ _).symm (by rfl)).more _).kept hb1)
  have HO := hid (own_kept (own_made ((w.alloc (.cells #[.int .u64 64, .int .i64 80, .int .u64 1, .int .u64 8, .int .u64 7, .int .u64 19, .int .u64 61, .int .u64 6, .int .u64 28, .int .u64 34, .int .u64 39, .int .u64 14, .int .u64 18, .int .u64 41] 73)).alloc (.cells #[.int .u64 (a : Int), .int .u64 (b : Int), .int .u64 (c : Int), .int .u64 (d : Int), .int .u64 (e : Int), .int .u64 (f : Int), .int .u64 (g : Int), .int .u64 (h : Int)] 77)) w.heap.size 48 5 (by simp; omega) (by decide)) hb1)
  have HB := hid (below2 ((((Below.refl _ w).alloc (Nat.le_refl _) _).alloc (by simp) _).alloc (by simp; omega) _) hb1)
  rw [show ((w.alloc (.cells #[.int .u64 64, .int .i64 80, .int .u64 1, .int .u64 8, .int .u64 7, .int .u64 19, .int .u64 61, .int .u64 6, .int .u64 28, .int .u64 34, .int .u64 39, .int .u64 14, .int .u64 18, .int .u64 41] 73)).alloc (.cells #[.int .u64 (a : Int), .int .u64 (b : Int), .int .u64 (c : Int), .int .u64 (d : Int), .int .u64 (e : Int), .int .u64 (f : Int), .int .u64 (g : Int), .int .u64 (h : Int)] 77)).heap.size = w.heap.size + 1 + 1 by simp] at HO
  clear hb1 hmk
  have hsl : ∀ wx : World, (Instr.sliceAt 77 (.pointer (some ⟨w.heap.size + 1, 0, none⟩)) none (some (.int .i64 6)) none).run Tryd.prog wx = .ok (.slice (some ⟨w.heap.size + 1, 0, none⟩) 6 8) wx := fun wx => by kernel_rfl
  go_wp2_with fail
  go_loopw [7, 19] (fun v7 v19 wr => ∃ i : Nat, i ≤ 6 ∧ v19 = .int .i64 i ∧ v7 = .slice (some ⟨w.heap.size + 1 + 1, 0, none⟩) (i * 8) 48 ∧ wr.heap[w.heap.size]? = some (.cells #[.int .u64 64, .int .i64 80, .int .u64 1, .int .u64 8, .int .u64 7, .int .u64 19, .int .u64 61, .int .u64 6, .int .u64 28, .int .u64 34, .int .u64 39, .int .u64 14, .int .u64 18, .int .u64 41] 73 (0, 0)) ∧ Rw wr (w.heap.size + 1) .u64 77 S ∧
      wr.ownsRow w.heap.size 5 1 (.slice (some ⟨w.heap.size + 1 + 1, 0, none⟩) (i * 8) 48) (i * 8) (Lib.byteCells ((S.take i).flatMap (bytesV 8))) ∧ Below w.heap.size w wr) (fun _ v19 _ => 6 - (intOf v19).toNat)
  case atStart => exact ⟨0, by omega, rfl, by simp, HA.out, HR.out, by simpa [Lib.byteCells] using HO.out, HB.out⟩
  case round =>
    clear HA HR HO HB hsl
    obtain ⟨i, hi8, rfl, rfl, hA, hR, hO, hB⟩ := hrel
    by_cases hlt : i < 6
    · obtain ⟨X, hX⟩ : ∃ X, X = S.getD i 0 := ⟨_, rfl⟩
      have c0 : wr.cell? ⟨w.heap.size, 0, none⟩ = some (.int .u64 64) := Lib.cell_of_heap hA 0
      have cx : wr.cell? ⟨w.heap.size + 1, i, none⟩ = some (.int .u64 (X : Int)) := by rw [hX]; exact hR.cell i (by rw [HS8.out]; omega)
      have hXb : X < 18446744073709551616 := by rw [hX]; exact HBD.out i
      have HX := hid (show S.take (i + 1) = S.take i ++ [X] by
        rw [List.take_add_one, hX]
        have hi' : i < S.length := by rw [HS8.out]; omega
        simp [hi'])
      have hin : (i : Int) < 6 := by omega
      have HA := hid hA
      have HR := hid hR
      have HO := hid hO
      have HB := hid hB
      clear hX hA hR hO hB
      go_wp2_with fail
      go_loopw [7, 10] (fun v7 v10 wr => ∃ j D : Nat, j ≤ 8 ∧ D = 64 - 8 * j ∧ v10 = .int .u64 (D : Int) ∧ v7 = .slice (some ⟨w.heap.size + 1 + 1, 0, none⟩) (i * 8 + j) 48 ∧ wr.heap[w.heap.size]? = some (.cells #[.int .u64 64, .int .i64 80, .int .u64 1, .int .u64 8, .int .u64 7, .int .u64 19, .int .u64 61, .int .u64 6, .int .u64 28, .int .u64 34, .int .u64 39, .int .u64 14, .int .u64 18, .int .u64 41] 73 (0, 0)) ∧ Rw wr (w.heap.size + 1) .u64 77 S ∧
          wr.ownsRow w.heap.size 5 1 (.slice (some ⟨w.heap.size + 1 + 1, 0, none⟩) (i * 8 + j) 48) (i * 8 + j) (Lib.byteCells ((S.take i).flatMap (bytesV 8) ++ (bytesV 8 X).take j)) ∧ Below w.heap.size w wr) (fun _ v10 _ => (intOf v10).toNat)
      case atStart => exact ⟨0, 64, by omega, rfl, rfl, rfl, HA.out, HR.out, by simpa using HO.out, HB.out⟩
      case round =>
        clear HA HR HO HB c0 cx
        obtain ⟨j, D, hj, hD, rfl, rfl, hA, hR, hO, hB⟩ := hrel
        by_cases hlj : j < 8
        · obtain ⟨E, hE⟩ : ∃ E, E = D - 8 := ⟨_, rfl⟩
          have h1 : (0 : Int) < (D : Int) := by omega
          have h2 : (D : Int) - 8 = (E : Int) := by omega
          have h2w : IntKind.u64.wrap ((D : Int) - 8) = (E : Int) := by rw [h2, IntKind.wrap_u64]; omega
          have hE64 : E < 64 := by omega
          obtain ⟨Y, hY⟩ : ∃ Y : UInt8, Y = UInt8.ofNat (X / 2 ^ E % 256) := ⟨_, rfl⟩
          have h3 : (X : Int) / 2 ^ E % 256 = (Y.toNat : Int) := by
            have e1 : (X : Int) / 2 ^ E = ((X / 2 ^ E : Nat) : Int) := by rw [Int.natCast_ediv, Int.natCast_pow]; rfl
            have e2 : Y.toNat = X / 2 ^ E % 256 := by rw [hY]; simp
            rw [e1, e2]; omega
          have HY := hid (show (bytesV 8 X).take (j + 1) = (bytesV 8 X).take j ++ [Y] by
            rw [List.take_add_one, bytes_get 8 X j hlj, hY, show 8 * (8 - 1 - j) = E by omega]
            rfl)
          have HA := hid hA
          have HR := hid hR
          have HO := hid hO
          have HB := hid hB
          have HE := hid hE
          have HD := hid hD
          clear hE hD hA hR hO hB hY
          go_wp2_with (at_builtin; refine wpList_append_own_spare _ rfl _ _ 22 rfl w.heap.size 5 i0 1 Tryd.underlying22 hi hz1 (w.heap.size + 1 + 1) (i * 8 + j) 48 _ rfl (own_kept HO.out ((Below.refl _ _).alloc (Nat.le_refl _) _)) ⟨wr.heap.size, 0, none⟩ 1 1 [.int .u8 (Y.toNat : Int)] rfl rfl (cell_one_new _ _ _) (by simp [Value.oneCell']) (by omega) ?_; intro w2 hown hgrow)
          have hX2 := HX.out
          clear hX2
          go_roundw
          case rel =>
            have hE := HE.out
            have hD := HD.out
            have e1 := grown_row hgrow (row_kept HA.out ((Below.refl _ _).alloc (Nat.le_refl _) _)) (by omega)
            have e2 : Rw w2 (w.heap.size + 1) .u64 77 S := grown_row hgrow (HR.out.more _) (by omega)
            have e3 := hown
            rw [show Lib.byteCells ((S.take i).flatMap (bytesV 8) ++ (bytesV 8 X).take j) ++ [Value.int .u8 (Y.toNat : Int)] = Lib.byteCells ((S.take i).flatMap (bytesV 8) ++ (bytesV 8 X).take (j + 1)) by rw [HY.out]; simp [Lib.byteCells]] at e3
            have e4 : Below w.heap.size w w2 := (HB.out.alloc HB.out.size _).grown hgrow (by have := HB.out.size; simp; omega) (fun k hk => by cases hk; omega)
            first
              | exact ⟨j + 1, E, by omega, by omega, by go_num, rfl, e1, e2, e3, e4⟩
              | ((repeat apply Exists.intro); refine ⟨?_, rfl⟩; exact ⟨j + 1, E, by omega, by omega, by go_num, rfl, e1, e2, e3, e4⟩)
          case measure => have := HE.out; simp [intOf]; omega
        · obtain rfl : j = 8 := by omega
          obtain rfl : D = 0 := by omega
          have hO2 := hO
          rw [show (bytesV 8 X).take 8 = bytesV 8 X from List.take_of_length_le (by rw [bytes_len]; exact Nat.le_refl _), show (S.take i).flatMap (bytesV 8) ++ bytesV 8 X = (S.take (i + 1)).flatMap (bytesV 8) by rw [HX.out]; simp, show i * 8 + 8 = (i + 1) * 8 by omega] at hO2
          have HA := hid hA
          have HR := hid hR
          have HO := hid hO2
          have HB := hid hB
          clear hO hO2 hA hR hB hD hj hlj
          go_wp2_with fail
          go_roundw
          case rel =>
            first
              | exact ⟨i + 1, by omega, by go_num, by congr 1 <;> omega, HA.out, HR.out, HO.out, HB.out⟩
              | ((repeat apply Exists.intro); refine ⟨?_, rfl⟩; exact ⟨i + 1, by omega, by go_num, by congr 1 <;> omega, HA.out, HR.out, HO.out, HB.out⟩)
          case measure => simp [intOf]; omega
    · obtain rfl : i = 6 := by omega
      have HO := hid hO
      have HB := hid hB
      clear hA hR hO hB hi8 hlt
      go_wp2_with fail
      go_ret
      exact ⟨w.heap.size + 1 + 1, rfl, HO.out, HB.out⟩

end Go.Proofs.YtbdlicomkpnalaaDoor

namespace Go.Proofs.YtbdlicomkpnalaaDoor
open Go.RowKit

theorem made64 (w : World) : (Instr.makeSlice 22 (.int .i64 0) (.int .i64 64)).run Tryd.prog w = .ok (.slice (some ⟨w.heap.size, 0, none⟩) 0 64) (w.alloc (.cells (Array.replicate 64 (.int .u8 0)) 5)) := by kernel_rfl

set_option maxHeartbeats 2000000 in
set_option maxRecDepth 100000 in
theorem told64 (a b c d e f g h : Nat) (w : World) (hbd : BdS (2 ^ 64) ⟨a, b, c, d, e, f, g, h⟩) :
    Calls Tryd.prog 62 #[.agg #[.int .u64 64, .int .i64 80, .int .u64 1, .int .u64 8, .int .u64 7, .int .u64 19, .int .u64 61, .int .u64 6, .int .u64 28, .int .u64 34, .int .u64 39, .int .u64 14, .int .u64 18, .int .u64 41], .agg #[.int .u64 (a : Int), .int .u64 (b : Int), .int .u64 (c : Int), .int .u64 (d : Int), .int .u64 (e : Int), .int .u64 (f : Int), .int .u64 (g : Int), .int .u64 (h : Int)], .int .i64 64] w fun e' w' =>
      ∃ G, e' = .returned (.slice (some ⟨G, 0, none⟩) 64 64) ∧ w'.ownsRow w.heap.size 5 1 (.slice (some ⟨G, 0, none⟩) 64 64) 64 (Lib.byteCells ((toldV wid ⟨a, b, c, d, e, f, g, h⟩).take 64)) ∧ Below w.heap.size w w' := by
  obtain ⟨S, hS⟩ : ∃ S, S = [a, b, c, d, e, f, g, h] := ⟨_, rfl⟩
  have HS8 := hid (show S.length = 8 by rw [hS]; rfl)
  have HT := hid (show (toldV wid ⟨a, b, c, d, e, f, g, h⟩).take 64 = (S.take (64 / 8)).flatMap (bytesV 8) by rw [hS]; exact told_take wid _ (64 / 8) (by decide))
  have HBD := hid (show ∀ i, S.getD i 0 < 2 ^ 64 by rw [hS]; exact bd_get hbd)
  rw [HT.out]
  obtain ⟨i0, hi, hz0, hz1, hz2⟩ := info_parts infoByte8
  have hmk := made64
  have HS := hid hS
  clear hS hbd
  go_enter Tryd.func62, Tryd.ntmps62
  go_wp2_with fail
  refine (wordBytes64 _).mono ?_
  rintro e1 w1 ⟨rfl, hb1⟩
  have HA := hid (row_kept (row_kept (row_kept (heap_alloc_new w _) ((Below.refl _ _).alloc (Nat.le_refl _) _)) ((Below.refl _ _).alloc (Nat.le_refl _) _)) hb1)
  have HR := hid (show Rw w1 (w.heap.size + 1) .u64 77 S by rw [HS.out]; exact ((Rw.laid (l := [a, b, c, d, e, f, g, h]) (K := .u64) (World.size_alloc _ _).symm (by rfl)).more _).kept hb1)
  have HO := hid (own_kept (own_made ((w.alloc (.cells #[.int .u64 64, .int .i64 80, .int .u64 1, .int .u64 8, .int .u64 7, .int .u64 19, .int .u64 61, .int .u64 6, .int .u64 28, .int .u64 34, .int .u64 39, .int .u64 14, .int .u64 18, .int .u64 41] 73)).alloc (.cells #[.int .u64 (a : Int), .int .u64 (b : Int), .int .u64 (c : Int), .int .u64 (d : Int), .int .u64 (e : Int), .int .u64 (f : Int), .int .u64 (g : Int), .int .u64 (h : Int)] 77)) w.heap.size 64 5 (by simp; omega) (by decide)) hb1)
  have HB := hid (below2 ((((Below.refl _ w).alloc (Nat.le_refl _) _).alloc (by simp) _).alloc (by simp; omega) _) hb1)
  rw [show ((w.alloc (.cells #[.int .u64 64, .int .i64 80, .int .u64 1, .int .u64 8, .int .u64 7, .int .u64 19, .int .u64 61, .int .u64 6, .int .u64 28, .int .u64 34, .int .u64 39, .int .u64 14, .int .u64 18, .int .u64 41] 73)).alloc (.cells #[.int .u64 (a : Int), .int .u64 (b : Int), .int .u64 (c : Int), .int .u64 (d : Int), .int .u64 (e : Int), .int .u64 (f : Int), .int .u64 (g : Int), .int .u64 (h : Int)] 77)).heap.size = w.heap.size + 1 + 1 by simp] at HO
  clear hb1 hmk
  have hsl : ∀ wx : World, (Instr.sliceAt 77 (.pointer (some ⟨w.heap.size + 1, 0, none⟩)) none (some (.int .i64 8)) none).run Tryd.prog wx = .ok (.slice (some ⟨w.heap.size + 1, 0, none⟩) 8 8) wx := fun wx => by kernel_rfl
  go_wp2_with fail
  go_loopw [7, 19] (fun v7 v19 wr => ∃ i : Nat, i ≤ 8 ∧ v19 = .int .i64 i ∧ v7 = .slice (some ⟨w.heap.size + 1 + 1, 0, none⟩) (i * 8) 64 ∧ wr.heap[w.heap.size]? = some (.cells #[.int .u64 64, .int .i64 80, .int .u64 1, .int .u64 8, .int .u64 7, .int .u64 19, .int .u64 61, .int .u64 6, .int .u64 28, .int .u64 34, .int .u64 39, .int .u64 14, .int .u64 18, .int .u64 41] 73 (0, 0)) ∧ Rw wr (w.heap.size + 1) .u64 77 S ∧
      wr.ownsRow w.heap.size 5 1 (.slice (some ⟨w.heap.size + 1 + 1, 0, none⟩) (i * 8) 64) (i * 8) (Lib.byteCells ((S.take i).flatMap (bytesV 8))) ∧ Below w.heap.size w wr) (fun _ v19 _ => 8 - (intOf v19).toNat)
  case atStart => exact ⟨0, by omega, rfl, by simp, HA.out, HR.out, by simpa [Lib.byteCells] using HO.out, HB.out⟩
  case round =>
    clear HA HR HO HB hsl
    obtain ⟨i, hi8, rfl, rfl, hA, hR, hO, hB⟩ := hrel
    by_cases hlt : i < 8
    · obtain ⟨X, hX⟩ : ∃ X, X = S.getD i 0 := ⟨_, rfl⟩
      have c0 : wr.cell? ⟨w.heap.size, 0, none⟩ = some (.int .u64 64) := Lib.cell_of_heap hA 0
      have cx : wr.cell? ⟨w.heap.size + 1, i, none⟩ = some (.int .u64 (X : Int)) := by rw [hX]; exact hR.cell i (by rw [HS8.out]; omega)
      have hXb : X < 18446744073709551616 := by rw [hX]; exact HBD.out i
      have HX := hid (show S.take (i + 1) = S.take i ++ [X] by
        rw [List.take_add_one, hX]
        have hi' : i < S.length := by rw [HS8.out]; omega
        simp [hi'])
      have hin : (i : Int) < 8 := by omega
      have HA := hid hA
      have HR := hid hR
      have HO := hid hO
      have HB := hid hB
      clear hX hA hR hO hB
      go_wp2_with fail
      go_loopw [7, 10] (fun v7 v10 wr => ∃ j D : Nat, j ≤ 8 ∧ D = 64 - 8 * j ∧ v10 = .int .u64 (D : Int) ∧ v7 = .slice (some ⟨w.heap.size + 1 + 1, 0, none⟩) (i * 8 + j) 64 ∧ wr.heap[w.heap.size]? = some (.cells #[.int .u64 64, .int .i64 80, .int .u64 1, .int .u64 8, .int .u64 7, .int .u64 19, .int .u64 61, .int .u64 6, .int .u64 28, .int .u64 34, .int .u64 39, .int .u64 14, .int .u64 18, .int .u64 41] 73 (0, 0)) ∧ Rw wr (w.heap.size + 1) .u64 77 S ∧
          wr.ownsRow w.heap.size 5 1 (.slice (some ⟨w.heap.size + 1 + 1, 0, none⟩) (i * 8 + j) 64) (i * 8 + j) (Lib.byteCells ((S.take i).flatMap (bytesV 8) ++ (bytesV 8 X).take j)) ∧ Below w.heap.size w wr) (fun _ v10 _ => (intOf v10).toNat)
      case atStart => exact ⟨0, 64, by omega, rfl, rfl, rfl, HA.out, HR.out, by simpa using HO.out, HB.out⟩
      case round =>
        clear HA HR HO HB c0 cx
        obtain ⟨j, D, hj, hD, rfl, rfl, hA, hR, hO, hB⟩ := hrel
        by_cases hlj : j < 8
        · obtain ⟨E, hE⟩ : ∃ E, E = D - 8 := ⟨_, rfl⟩
          have h1 : (0 : Int) < (D : Int) := by omega
          have h2 : (D : Int) - 8 = (E : Int) := by omega
          have h2w : IntKind.u64.wrap ((D : Int) - 8) = (E : Int) := by rw [h2, IntKind.wrap_u64]; omega
          have hE64 : E < 64 := by omega
          obtain ⟨Y, hY⟩ : ∃ Y : UInt8, Y = UInt8.ofNat (X / 2 ^ E % 256) := ⟨_, rfl⟩
          have h3 : (X : Int) / 2 ^ E % 256 = (Y.toNat : Int) := by
            have e1 : (X : Int) / 2 ^ E = ((X / 2 ^ E : Nat) : Int) := by rw [Int.natCast_ediv, Int.natCast_pow]; rfl
            have e2 : Y.toNat = X / 2 ^ E % 256 := by rw [hY]; simp
            rw [e1, e2]; omega
          have HY := hid (show (bytesV 8 X).take (j + 1) = (bytesV 8 X).take j ++ [Y] by
            rw [List.take_add_one, bytes_get 8 X j hlj, hY, show 8 * (8 - 1 - j) = E by omega]
            rfl)
          have HA := hid hA
          have HR := hid hR
          have HO := hid hO
          have HB := hid hB
          have HE := hid hE
          have HD := hid hD
          clear hE hD hA hR hO hB hY
          go_wp2_with (at_builtin; refine wpList_append_own_spare _ rfl _ _ 22 rfl w.heap.size 5 i0 1 Tryd.underlying22 hi hz1 (w.heap.size + 1 + 1) (i * 8 + j) 64 _ rfl (own_kept HO.out ((Below.refl _ _).alloc (Nat.le_refl _) _)) ⟨wr.heap.size, 0, none⟩ 1 1 [.int .u8 (Y.toNat : Int)] rfl rfl (cell_one_new _ _ _) (by simp [Value.oneCell']) (by omega) ?_; intro w2 hown hgrow)
          have hX2 := HX.out
          clear hX2
          go_roundw
          case rel =>
            have hE := HE.out
            have hD := HD.out
            have e1 := grown_row hgrow (row_kept HA.out ((Below.refl _ _).alloc (Nat.le_refl _) _)) (by omega)
            have e2 : Rw w2 (w.heap.size + 1) .u64 77 S := grown_row hgrow (HR.out.more _) (by omega)
            have e3 := hown
            rw [show Lib.byteCells ((S.take i).flatMap (bytesV 8) ++ (bytesV 8 X).take j) ++ [Value.int .u8 (Y.toNat : Int)] = Lib.byteCells ((S.take i).flatMap (bytesV 8) ++ (bytesV 8 X).take (j + 1)) by rw [HY.out]; simp [Lib.byteCells]] at e3
            have e4 : Below w.heap.size w w2 := (HB.out.alloc HB.out.size _).grown hgrow (by have := HB.out.size; simp; omega) (fun k hk => by cases hk; omega)
            first
              | exact ⟨j + 1, E, by omega, by omega, by go_num, rfl, e1, e2, e3, e4⟩
              | ((repeat apply Exists.intro); refine ⟨?_, rfl⟩; exact ⟨j + 1, E, by omega, by omega, by go_num, rfl, e1, e2, e3, e4⟩)
          case measure => have := HE.out; simp [intOf]; omega
        · obtain rfl : j = 8 := by omega
          obtain rfl : D = 0 := by omega
          have hO2 := hO
          rw [show (bytesV 8 X).take 8 = bytesV 8 X from List.take_of_length_le (by rw [bytes_len]; exact Nat.le_refl _), show (S.take i).flatMap (bytesV 8) ++ bytesV 8 X = (S.take (i + 1)).flatMap (bytesV 8) by rw [HX.out]; simp, show i * 8 + 8 = (i + 1) * 8 by omega] at hO2
          have HA := hid hA
          have HR := hid hR
          have HO := hid hO2
          have HB := hid hB
          clear hO hO2 hA hR hB hD hj hlj
          go_wp2_with fail
          go_roundw
          case rel =>
            first
              | exact ⟨i + 1, by omega, by go_num, by congr 1 <;> omega, HA.out, HR.out, HO.out, HB.out⟩
              | ((repeat apply Exists.intro); refine ⟨?_, rfl⟩; exact ⟨i + 1, by omega, by go_num, by congr 1 <;> omega, HA.out, HR.out, HO.out, HB.out⟩)
          case measure => simp [intOf]; omega
    · obtain rfl : i = 8 := by omega
      have HO := hid hO
      have HB := hid hB
      clear hA hR hO hB hi8 hlt
      go_wp2_with fail
      go_ret
      exact ⟨w.heap.size + 1 + 1, rfl, HO.out, HB.out⟩

end Go.Proofs.YtbdlicomkpnalaaDoor
