/-
  The walk of infra.encodeThree.
-/
import Derived.Test.YtbdlicomkpnalaaDoorZa
import Derived.LoopN
set_option linter.unusedSimpArgs false
set_option linter.unusedVariables false
namespace Go.Proofs.YtbdlicomkpnalaaDoor
open Go.RowKit

set_option maxRecDepth 100000 in
/-- 'copy(three[:], b)', into a new block of three bytes. -/
theorem copy_three (W : World) (t : TypeId) (x : Addr) (n cap : Nat) (l : List UInt8) (hl : l.length = n) (hn : n ≤ 3) (hn0 : 0 < n) (hc : ∀ j (h : j < l.length), W.cell? (x.add j) = some (.int .u8 (l[j].toNat : Int))) :
    (Builtin.copy_ #[22, 22] 3 #[.slice (some ⟨W.heap.size, 0, none⟩) 3 3, .slice (some x) n cap]).run Tryd.prog (W.alloc (.cells #[.int .u8 0, .int .u8 0, .int .u8 0] t)) =
      .ok (goInt n) (W.alloc (.cells (Lib.byteCells l ++ (List.replicate 3 (Value.int .u8 0)).drop n).toArray t)) := by
  obtain ⟨i0, hi, hz0, hz1, hz2⟩ := info_parts infoByte
  have hsz1 : (Tryd.prog.info? 5).map (·.size) = some 1 := by rw [hi]; simp [hz1]
  have h := run_copy_row (P := Tryd.prog) (W.alloc (.cells #[.int .u8 0, .int .u8 0, .int .u8 0] t)) 22 22 3 5 W.heap.size 0 3 3 x n cap #[.int .u8 0, .int .u8 0, .int .u8 0] t (Lib.byteCells l) Tryd.underlying22 hsz1
    (heap_alloc_new W _) (by rw [Lib.byteCells_length, hl]; exact (Nat.min_eq_left hn).symm) ?_ (by rw [Lib.byteCells_length, hl]; simpa using hn) ?_
  · rw [h, setRow_new, Lib.byteCells_length, hl]
    congr 3
    simp [List.replicate]
  · intro j v hj
    have hj' : j < l.length := by
      have := (List.getElem?_eq_some_iff.1 hj).1
      rwa [Lib.byteCells_length] at this
    have hb := World.block_lt_of_cell? W _ (hc j hj')
    have e : (W.alloc (.cells #[.int .u8 0, .int .u8 0, .int .u8 0] t)).cell? (x.add j) = W.cell? (x.add j) := World.cell?_alloc_old W _ _ (Nat.ne_of_lt hb)
    rw [e, hc j hj', ← hj]
    simp [Lib.byteCells, hj']
  · intro v hv
    simp only [Lib.byteCells, List.mem_map] at hv
    obtain ⟨b, _, rfl⟩ := hv
    rfl

set_option maxHeartbeats 1000000 in
set_option maxRecDepth 100000 in
theorem encodeThree_1 (x : Addr) (cap : Nat) (a : UInt8) (w : World) (hc : ∀ j (h : j < [a].length), w.cell? (x.add j) = some (.int .u8 ([a][j].toNat : Int))) :
    Calls Tryd.prog 67 #[.slice (some x) 1 cap] w fun e w' => e = .returned (.agg #[.int .u8 (d64 (a.toNat / 4)).toNat, .int .u8 (d64 (a.toNat % 4 * 16)).toNat, .int .u8 61, .int .u8 61]) ∧ Below w.heap.size w w' := by
  have hcp := copy_three (w.alloc (.cells #[.int .u8 0, .int .u8 0, .int .u8 0, .int .u8 0] 114)) 139 x 1 cap [a] rfl (by omega) (by omega) (fun j hj => (World.cell?_alloc_old w _ _ (Nat.ne_of_lt (World.block_lt_of_cell? w _ (hc j hj)))).trans (hc j hj))
  simp only [Lib.byteCells, List.map_cons, List.map_nil, List.replicate, List.drop, List.append_nil, List.cons_append, List.nil_append, World.size_alloc] at hcp
  have ha8 := a.toNat_lt
  obtain ⟨N, hN⟩ : ∃ N : Nat, N = a.toNat * 65536 := ⟨_, rfl⟩
  have ho : bits .or .u32 (bits .or .u32 ((a.toNat : Int) * 65536) 0) 0 = (N : Int) := by
    have := or24 a 0 0
    rw [hN]
    simpa using this
  have hNb : N < 16777216 := by omega
  have HN := hid hN
  clear hN hc
  go_enter Tryd.func67, Tryd.ntmps67
  go_wp2
  clear hcp ho
  obtain ⟨i0, hi0⟩ : ∃ i : Nat, i = N / 262144 % 64 := ⟨_, rfl⟩
  obtain ⟨i1, hi1⟩ : ∃ i : Nat, i = N / 4096 % 64 := ⟨_, rfl⟩
  have g0 : bits .and .u32 ((N : Int) / 262144) 63 = (i0 : Int) := by
    have := and63 (N / 262144) (by omega)
    rw [← hi0] at this
    exact this
  have g1 : bits .and .u32 ((N : Int) / 4096) 63 = (i1 : Int) := by
    have := and63 (N / 4096) (by omega)
    rw [← hi1] at this
    exact this
  have b0 : i0 < 64 := by omega
  have b1 : i1 < 64 := by omega
  have H0 := hid hi0
  have H1 := hid hi1
  clear hi0 hi1
  refine wp_loop_rounds 3 ?_
  rw [rounds_succ]
  go_wp2
  rw [rounds_succ]
  go_wp2
  rw [rounds_succ]
  go_wp2
  simp only [d64_at]
  refine bodyPost_ret (v := .agg #[.int .u8 (d64 i0).toNat, .int .u8 (d64 i1).toNat, .int .u8 61, .int .u8 61]) (by simp [results, Tryd.results67, go_sem]) rfl ⟨?_, ((((Below.refl _ w).alloc (Nat.le_refl _) _).alloc (by simp) _).alloc (by simp; omega) _)⟩
  have e0 := H0.out
  have e1 := H1.out
  rw [HN.out] at e0 e1
  have f0 : i0 = a.toNat / 4 := by omega
  have f1 : i1 = a.toNat % 4 * 16 := by omega
  rw [f0, f1]

set_option maxHeartbeats 1000000 in
set_option maxRecDepth 100000 in
theorem encodeThree_2 (x : Addr) (cap : Nat) (a b : UInt8) (w : World) (hc : ∀ j (h : j < [a, b].length), w.cell? (x.add j) = some (.int .u8 ([a, b][j].toNat : Int))) :
    Calls Tryd.prog 67 #[.slice (some x) 2 cap] w fun e w' => e = .returned (.agg #[.int .u8 (d64 (a.toNat / 4)).toNat, .int .u8 (d64 (a.toNat % 4 * 16 + b.toNat / 16)).toNat, .int .u8 (d64 (b.toNat % 16 * 4)).toNat, .int .u8 61]) ∧ Below w.heap.size w w' := by
  have hcp := copy_three (w.alloc (.cells #[.int .u8 0, .int .u8 0, .int .u8 0, .int .u8 0] 114)) 139 x 2 cap [a, b] rfl (by omega) (by omega) (fun j hj => (World.cell?_alloc_old w _ _ (Nat.ne_of_lt (World.block_lt_of_cell? w _ (hc j hj)))).trans (hc j hj))
  simp only [Lib.byteCells, List.map_cons, List.map_nil, List.replicate, List.drop, List.append_nil, List.cons_append, List.nil_append, World.size_alloc] at hcp
  have ha8 := a.toNat_lt
  have hb8 := b.toNat_lt
  obtain ⟨N, hN⟩ : ∃ N : Nat, N = a.toNat * 65536 + b.toNat * 256 := ⟨_, rfl⟩
  have ho : bits .or .u32 (bits .or .u32 ((a.toNat : Int) * 65536) ((b.toNat : Int) * 256)) 0 = (N : Int) := by
    have := or24 a b 0
    rw [hN]
    simpa using this
  have hNb : N < 16777216 := by omega
  have HN := hid hN
  clear hN hc
  go_enter Tryd.func67, Tryd.ntmps67
  go_wp2
  clear hcp ho
  obtain ⟨i0, hi0⟩ : ∃ i : Nat, i = N / 262144 % 64 := ⟨_, rfl⟩
  obtain ⟨i1, hi1⟩ : ∃ i : Nat, i = N / 4096 % 64 := ⟨_, rfl⟩
  obtain ⟨i2, hi2⟩ : ∃ i : Nat, i = N / 64 % 64 := ⟨_, rfl⟩
  have g0 : bits .and .u32 ((N : Int) / 262144) 63 = (i0 : Int) := by
    have := and63 (N / 262144) (by omega)
    rw [← hi0] at this
    exact this
  have g1 : bits .and .u32 ((N : Int) / 4096) 63 = (i1 : Int) := by
    have := and63 (N / 4096) (by omega)
    rw [← hi1] at this
    exact this
  have g2 : bits .and .u32 ((N : Int) / 64) 63 = (i2 : Int) := by
    have := and63 (N / 64) (by omega)
    rw [← hi2] at this
    exact this
  have b0 : i0 < 64 := by omega
  have b1 : i1 < 64 := by omega
  have b2 : i2 < 64 := by omega
  have H0 := hid hi0
  have H1 := hid hi1
  have H2 := hid hi2
  clear hi0 hi1 hi2
  refine wp_loop_rounds 4 ?_
  rw [rounds_succ]
  go_wp2
  rw [rounds_succ]
  go_wp2
  rw [rounds_succ]
  go_wp2
  rw [rounds_succ]
  go_wp2
  simp only [d64_at]
  refine bodyPost_ret (v := .agg #[.int .u8 (d64 i0).toNat, .int .u8 (d64 i1).toNat, .int .u8 (d64 i2).toNat, .int .u8 61]) (by simp [results, Tryd.results67, go_sem]) rfl ⟨?_, ((((Below.refl _ w).alloc (Nat.le_refl _) _).alloc (by simp) _).alloc (by simp; omega) _)⟩
  have e0 := H0.out
  have e1 := H1.out
  have e2 := H2.out
  rw [HN.out] at e0 e1 e2
  have f0 : i0 = a.toNat / 4 := by omega
  have f1 : i1 = a.toNat % 4 * 16 + b.toNat / 16 := by omega
  have f2 : i2 = b.toNat % 16 * 4 := by omega
  rw [f0, f1, f2]

set_option maxHeartbeats 1000000 in
set_option maxRecDepth 100000 in
theorem encodeThree_3 (x : Addr) (cap : Nat) (a b c : UInt8) (w : World) (hc : ∀ j (h : j < [a, b, c].length), w.cell? (x.add j) = some (.int .u8 ([a, b, c][j].toNat : Int))) :
    Calls Tryd.prog 67 #[.slice (some x) 3 cap] w fun e w' => e = .returned (.agg #[.int .u8 (d64 (a.toNat / 4)).toNat, .int .u8 (d64 (a.toNat % 4 * 16 + b.toNat / 16)).toNat, .int .u8 (d64 (b.toNat % 16 * 4 + c.toNat / 64)).toNat, .int .u8 (d64 (c.toNat % 64)).toNat]) ∧ Below w.heap.size w w' := by
  have hcp := copy_three (w.alloc (.cells #[.int .u8 0, .int .u8 0, .int .u8 0, .int .u8 0] 114)) 139 x 3 cap [a, b, c] rfl (by omega) (by omega) (fun j hj => (World.cell?_alloc_old w _ _ (Nat.ne_of_lt (World.block_lt_of_cell? w _ (hc j hj)))).trans (hc j hj))
  simp only [Lib.byteCells, List.map_cons, List.map_nil, List.replicate, List.drop, List.append_nil, List.cons_append, List.nil_append, World.size_alloc] at hcp
  have ha8 := a.toNat_lt
  have hb8 := b.toNat_lt
  have hc8 := c.toNat_lt
  obtain ⟨N, hN⟩ : ∃ N : Nat, N = a.toNat * 65536 + b.toNat * 256 + c.toNat := ⟨_, rfl⟩
  have ho : bits .or .u32 (bits .or .u32 ((a.toNat : Int) * 65536) ((b.toNat : Int) * 256)) (c.toNat : Int) = (N : Int) := by
    have := or24 a b c
    rw [hN]
    simpa using this
  have hNb : N < 16777216 := by omega
  have HN := hid hN
  clear hN hc
  go_enter Tryd.func67, Tryd.ntmps67
  go_wp2
  clear hcp ho
  obtain ⟨i0, hi0⟩ : ∃ i : Nat, i = N / 262144 % 64 := ⟨_, rfl⟩
  obtain ⟨i1, hi1⟩ : ∃ i : Nat, i = N / 4096 % 64 := ⟨_, rfl⟩
  obtain ⟨i2, hi2⟩ : ∃ i : Nat, i = N / 64 % 64 := ⟨_, rfl⟩
  obtain ⟨i3, hi3⟩ : ∃ i : Nat, i = N % 64 := ⟨_, rfl⟩
  have g0 : bits .and .u32 ((N : Int) / 262144) 63 = (i0 : Int) := by
    have := and63 (N / 262144) (by omega)
    rw [← hi0] at this
    exact this
  have g1 : bits .and .u32 ((N : Int) / 4096) 63 = (i1 : Int) := by
    have := and63 (N / 4096) (by omega)
    rw [← hi1] at this
    exact this
  have g2 : bits .and .u32 ((N : Int) / 64) 63 = (i2 : Int) := by
    have := and63 (N / 64) (by omega)
    rw [← hi2] at this
    exact this
  have g3 : bits .and .u32 (N : Int) 63 = (i3 : Int) := by
    have := and63 N (by omega)
    rw [← hi3] at this
    exact this
  have b0 : i0 < 64 := by omega
  have b1 : i1 < 64 := by omega
  have b2 : i2 < 64 := by omega
  have b3 : i3 < 64 := by omega
  have H0 := hid hi0
  have H1 := hid hi1
  have H2 := hid hi2
  have H3 := hid hi3
  clear hi0 hi1 hi2 hi3
  refine wp_loop_rounds 5 ?_
  rw [rounds_succ]
  go_wp2
  rw [rounds_succ]
  go_wp2
  rw [rounds_succ]
  go_wp2
  rw [rounds_succ]
  go_wp2
  rw [rounds_succ]
  go_wp2
  simp only [d64_at]
  refine bodyPost_ret (v := .agg #[.int .u8 (d64 i0).toNat, .int .u8 (d64 i1).toNat, .int .u8 (d64 i2).toNat, .int .u8 (d64 i3).toNat]) (by simp [results, Tryd.results67, go_sem]) rfl ⟨?_, ((((Below.refl _ w).alloc (Nat.le_refl _) _).alloc (by simp) _).alloc (by simp; omega) _)⟩
  have e0 := H0.out
  have e1 := H1.out
  have e2 := H2.out
  have e3 := H3.out
  rw [HN.out] at e0 e1 e2 e3
  have f0 : i0 = a.toNat / 4 := by omega
  have f1 : i1 = a.toNat % 4 * 16 + b.toNat / 16 := by omega
  have f2 : i2 = b.toNat % 16 * 4 + c.toNat / 64 := by omega
  have f3 : i3 = c.toNat % 64 := by omega
  rw [f0, f1, f2, f3]

end Go.Proofs.YtbdlicomkpnalaaDoor
