/-
  The walk of digest's schedule, at 32 bits.
  The sums at the end of digest's folded, at 32 bits.
-/
import Derived.Test.YtbdlicomkpnalaaDoorZb
import Derived.Test.YtbdlicomkpnalaaDoorZa
import Derived.Deep.RegionHeld
set_option linter.unusedSimpArgs false
set_option linter.unusedVariables false
namespace Go.Proofs.YtbdlicomkpnalaaDoor
open Go.RowKit

theorem size80_3 (l : List Nat) (hl : l.length = 80) : (Tryd.prog.info? 142).map (·.size) = some (cW .u32 l).length := by rw [cW_len, hl]; kernel_rfl
theorem size80a_3 (l : List Nat) (hl : l.length = 80) : (Tryd.prog.info? 142).map (·.size) = some (cW .u32 l).toArray.size := by rw [List.size_toArray]; exact size80_3 l hl

theorem wrapW3 (n : Int) : IntKind.wrap .u32 n = n % 4294967296 := by simp [IntKind.wrap, IntKind.bits, IntKind.signed]

set_option maxHeartbeats 2000000 in
set_option maxRecDepth 100000 in
theorem schedule32 (x : Addr) (cap : Nat) (l : List UInt8) (w : World) (hc : ∀ j (h : j < l.length), w.cell? (x.add j) = some (.int .u8 (l[j].toNat : Int))) (hl : l.length = 64) (hcap : 64 ≤ cap) :
    Calls Tryd.prog 95 #[.agg #[.int .u64 32, .int .i64 64, .int .u64 7, .int .u64 18, .int .u64 3, .int .u64 17, .int .u64 19, .int .u64 10, .int .u64 2, .int .u64 13, .int .u64 22, .int .u64 6, .int .u64 11, .int .u64 25], .slice (some x) 64 cap] w fun e w' => e = .returned (.agg (cW .u32 (w80V nar l)).toArray) ∧ Below w.heap.size w w' := by
  obtain ⟨L, hL⟩ : ∃ L, L = w80V nar l := ⟨_, rfl⟩
  have HL80 := hid (show L.length = 80 by rw [hL]; exact w80_len _ _ (by decide) (by decide))
  have HL := hid hL
  have HC := hid hc
  have HLL := hid hl
  rw [← hL]
  clear hL hc hl
  go_enter Tryd.func95, Tryd.ntmps95
  go_wp2_with fail
  refine (wordBytes32 _).mono ?_
  rintro e w1 ⟨rfl, hb1⟩
  have HA := hid (row_kept (row_kept (row_kept (heap_alloc_new w _) ((Below.refl _ _).alloc (Nat.le_refl _) _)) ((Below.refl _ _).alloc (Nat.le_refl _) _)) hb1)
  have HR := hid (((Rw.laid (l := List.replicate 80 0) (K := .u32) (World.size_alloc _ _).symm (by rfl)).more _).kept hb1)
  have HS := hid ((Rw.laid (g := w.heap.size + 1 + 1) (l := List.replicate 80 0) (K := .u32) (by simp) (by rfl)).kept hb1)
  have HB := hid (below2 ((((Below.refl _ w).alloc (Nat.le_refl _) _).alloc (by simp) _).alloc (by simp; omega) _) hb1)
  clear hb1
  go_wp2_with fail
  go_loopw [11] (fun v11 wr => ∃ k : Nat, k ≤ 16 ∧ v11 = .int .i64 k ∧ wr.heap[w.heap.size]? = some (.cells #[.int .u64 32, .int .i64 64, .int .u64 7, .int .u64 18, .int .u64 3, .int .u64 17, .int .u64 19, .int .u64 10, .int .u64 2, .int .u64 13, .int .u64 22, .int .u64 6, .int .u64 11, .int .u64 25] 73 (0, 0)) ∧ Rw wr (w.heap.size + 1) .u32 142 (List.replicate 80 0) ∧ Rw wr (w.heap.size + 1 + 1) .u32 142 (fillV L k 80) ∧ Below w.heap.size w wr) (fun v11 _ => 16 - (intOf v11).toNat)
  case atStart => exact ⟨0, by omega, rfl, HA.out, HR.out, by rw [fill_zero]; exact HS.out, HB.out⟩
  case round =>
    clear HA HR HS HB
    obtain ⟨k, hk, rfl, hA, hR, hS, hb⟩ := hrel
    by_cases hlt : k < 16
    · have HN := hid (show L.getD k 0 = wordV 4 l k by rw [HL.out]; exact w80_low _ _ _ (by decide) hlt)
      have cs := hS.cell k (by rw [fill_len _ _ _ (by omega) HL80.out]; omega)
      have cf := hS.free k
      have HA := hid hA
      have HR := hid hR
      have HS := hid hS
      have HB := hid hb
      clear hA hR hS hb
      obtain ⟨y, hy⟩ : ∃ y, y = (fillV L k 80).getD k 0 := ⟨_, rfl⟩
      rw [← hy] at cs
      clear hy
      have hi2 : (k : Int) < 80 := by omega
      have hsl : ∀ wx : World, (Instr.sliceAt 22 (.slice (some x) 64 cap) (some (.int .i64 ((k : Int) * 4))) (some (.int .i64 (((k : Int) + 1) * 4))) none).run Tryd.prog wx = .ok (.slice (some (x.add (k * 4))) (k * 4 + 4 - k * 4) (cap - k * 4)) wx := fun wx => slice_lh x 64 cap (k * 4) (k * 4 + 4) wx _ _ (by omega) (by omega) (by omega) (by omega) (by omega)
      rw [Nat.add_sub_cancel_left] at hsl
      have HRD := hid (fun j (h : j < ((l.drop (k * 4)).take 4).length) => (show wr.cell? ((x.add (k * 4)).add j) = some (.int .u8 (((l.drop (k * 4)).take 4)[j].toNat : Int)) by
        have hl := HLL.out
        have hj : j < 4 := by simp at h; omega
        have := HC.out (k * 4 + j) (by omega)
        rw [Addr.add_add, HB.out.cell (World.block_lt_of_cell? w _ this), this]
        simp))
      obtain ⟨Y, hY⟩ : ∃ Y, Y = wordV 4 l k := ⟨_, rfl⟩
      have HY := hid hY
      rw [← hY] at HN
      clear hY
      have HCL := hid (show Calls Tryd.prog 110 #[.slice (some (x.add (k * 4))) 4 (cap - k * 4)] wr fun e w' => e = .returned (.int .u32 (Y : Int)) ∧ wr = w' by
        rw [HY.out]
        exact read32 (x.add (k * 4)) (cap - k * 4) ((l.drop (k * 4)).take 4) wr HRD.out (by have := HLL.out; simp; omega))
      clear HRD
      go_wp2_with fail
      refine HCL.out.mono ?_
      rintro e w2 ⟨rfl, rfl⟩
      clear HCL hsl
      go_wp2_with fail
      go_roundw
      case rel =>
        refine ⟨k + 1, by omega, by go_num, ?_, (HR.out.far (by omega)), ?_, (HB.out.setCell (p := ⟨w.heap.size + 1 + 1, k, none⟩) (by show w.heap.size ≤ w.heap.size + 1 + 1; omega) _)⟩
        · exact (Below.heap_setCell wr ⟨w.heap.size + 1 + 1, k, none⟩ _ w.heap.size (by show w.heap.size ≠ w.heap.size + 1 + 1; omega)).trans HA.out
        · rw [← fill_step L k 80 (by omega) HL80.out Y HN.out]
          exact (HS.out.set k Y)
      case measure => simp [intOf]; omega
    · obtain rfl : k = 16 := by omega
      have HA := hid hA
      have HR := hid hR
      have HS := hid hS
      have HB := hid hb
      clear hA hR hS hb hk hlt
      go_wp2_with fail
      go_loopw [8] (fun v8 wr => ∃ k : Nat, 16 ≤ k ∧ k ≤ 64 ∧ v8 = .int .i64 k ∧ wr.heap[w.heap.size]? = some (.cells #[.int .u64 32, .int .i64 64, .int .u64 7, .int .u64 18, .int .u64 3, .int .u64 17, .int .u64 19, .int .u64 10, .int .u64 2, .int .u64 13, .int .u64 22, .int .u64 6, .int .u64 11, .int .u64 25] 73 (0, 0)) ∧ Rw wr (w.heap.size + 1) .u32 142 (List.replicate 80 0) ∧ Rw wr (w.heap.size + 1 + 1) .u32 142 (fillV L k 80) ∧ Below w.heap.size w wr) (fun v8 _ => 64 - (intOf v8).toNat)
      case atStart => exact ⟨16, by omega, by omega, rfl, HA.out, HR.out, HS.out, HB.out⟩
      case round =>
        clear HA HR HS HB
        obtain ⟨k, hk1, hk, rfl, hA, hR, hS, hb⟩ := hrel
        have c1 : wr.cell? ⟨w.heap.size, 1, none⟩ = some (.int .i64 64) := Lib.cell_of_heap hA 1
        by_cases hlt : k < 64
        · have hfl : (fillV L k 80).length = 80 := fill_len _ _ _ (by omega) HL80.out
          have c0 : wr.cell? ⟨w.heap.size, 0, none⟩ = some (.int .u64 32) := Lib.cell_of_heap hA 0
          have c2 : wr.cell? ⟨w.heap.size, 2, none⟩ = some (.int .u64 7) := Lib.cell_of_heap hA 2
          have c3 : wr.cell? ⟨w.heap.size, 3, none⟩ = some (.int .u64 18) := Lib.cell_of_heap hA 3
          have c4 : wr.cell? ⟨w.heap.size, 4, none⟩ = some (.int .u64 3) := Lib.cell_of_heap hA 4
          have c5 : wr.cell? ⟨w.heap.size, 5, none⟩ = some (.int .u64 17) := Lib.cell_of_heap hA 5
          have c6 : wr.cell? ⟨w.heap.size, 6, none⟩ = some (.int .u64 19) := Lib.cell_of_heap hA 6
          have c7 : wr.cell? ⟨w.heap.size, 7, none⟩ = some (.int .u64 10) := Lib.cell_of_heap hA 7
          obtain ⟨k2, hk2⟩ : ∃ m, m = k - 2 := ⟨_, rfl⟩
          obtain ⟨x2, hx2⟩ : ∃ x, x = L.getD k2 0 := ⟨_, rfl⟩
          have d2 : wr.cell? ⟨w.heap.size + 1 + 1, k2, none⟩ = some (.int .u32 (x2 : Int)) := by rw [hx2, ← fill_get L k 80 k2 (by omega) (by rw [HL80.out]; omega)]; exact hS.cell k2 (by omega)
          have hb2 : x2 < 4294967296 := by rw [hx2, HL.out]; exact w80_lt nar l k2 (by decide) (by decide) (by decide)
          obtain ⟨k7, hk7⟩ : ∃ m, m = k - 7 := ⟨_, rfl⟩
          obtain ⟨x7, hx7⟩ : ∃ x, x = L.getD k7 0 := ⟨_, rfl⟩
          have d7 : wr.cell? ⟨w.heap.size + 1 + 1, k7, none⟩ = some (.int .u32 (x7 : Int)) := by rw [hx7, ← fill_get L k 80 k7 (by omega) (by rw [HL80.out]; omega)]; exact hS.cell k7 (by omega)
          have hb7 : x7 < 4294967296 := by rw [hx7, HL.out]; exact w80_lt nar l k7 (by decide) (by decide) (by decide)
          obtain ⟨k15, hk15⟩ : ∃ m, m = k - 15 := ⟨_, rfl⟩
          obtain ⟨x15, hx15⟩ : ∃ x, x = L.getD k15 0 := ⟨_, rfl⟩
          have d15 : wr.cell? ⟨w.heap.size + 1 + 1, k15, none⟩ = some (.int .u32 (x15 : Int)) := by rw [hx15, ← fill_get L k 80 k15 (by omega) (by rw [HL80.out]; omega)]; exact hS.cell k15 (by omega)
          have hb15 : x15 < 4294967296 := by rw [hx15, HL.out]; exact w80_lt nar l k15 (by decide) (by decide) (by decide)
          obtain ⟨k16, hk16⟩ : ∃ m, m = k - 16 := ⟨_, rfl⟩
          obtain ⟨x16, hx16⟩ : ∃ x, x = L.getD k16 0 := ⟨_, rfl⟩
          have d16 : wr.cell? ⟨w.heap.size + 1 + 1, k16, none⟩ = some (.int .u32 (x16 : Int)) := by rw [hx16, ← fill_get L k 80 k16 (by omega) (by rw [HL80.out]; omega)]; exact hS.cell k16 (by omega)
          have hb16 : x16 < 4294967296 := by rw [hx16, HL.out]; exact w80_lt nar l k16 (by decide) (by decide) (by decide)
          obtain ⟨y, hy⟩ : ∃ y, y = (fillV L k 80).getD k 0 := ⟨_, rfl⟩
          have cs : wr.cell? ⟨w.heap.size + 1 + 1, k, none⟩ = some (.int .u32 (y : Int)) := by rw [hy]; exact hS.cell k (by omega)
          have cf := hS.free k
          obtain ⟨s1, hs1⟩ : ∃ s, smV 32 17 19 10 x2 = s := ⟨_, rfl⟩
          obtain ⟨s0, hs0⟩ : ∃ s, smV 32 7 18 3 x15 = s := ⟨_, rfl⟩
          have hbs1 : s1 < 4294967296 := by rw [← hs1]; exact sm_lt (W := 32) hb2
          have hbs0 : s0 < 4294967296 := by rw [← hs0]; exact sm_lt (W := 32) hb15
          obtain ⟨A1, hA1⟩ : ∃ a, a = (s1 + x7) % 4294967296 := ⟨_, rfl⟩
          obtain ⟨A2, hA2⟩ : ∃ a, a = (A1 + s0) % 4294967296 := ⟨_, rfl⟩
          obtain ⟨U, hU⟩ : ∃ a, a = (A2 + x16) % 4294967296 := ⟨_, rfl⟩
          have HU := hid (show L.getD k 0 = U by
            have e : L.getD k 0 = nxtV nar L k := by rw [HL.out]; exact w80_nxt nar l k (by decide) hk1 hlt
            rw [e, hU, hA2, hA1, ← hs1, ← hs0, hx2, hx7, hx15, hx16, hk2, hk7, hk15, hk16]
            show (smV 32 17 19 10 (L.getD (k - 2) 0) + L.getD (k - 7) 0 + smV 32 7 18 3 (L.getD (k - 15) 0) + L.getD (k - 16) 0) % 4294967296 = _
            omega)
          have f1 : IntKind.wrap .u32 ((s1 : Int) + (x7 : Int)) = (A1 : Int) := by rw [wrapW3, hA1]; omega
          have f2 : IntKind.wrap .u32 ((A1 : Int) + (s0 : Int)) = (A2 : Int) := by rw [wrapW3, hA2]; omega
          have f3 : IntKind.wrap .u32 ((A2 : Int) + (x16 : Int)) = (U : Int) := by rw [wrapW3, hU]; omega
          have g1 : ((s1 : Int) + (x7 : Int)) % 4294967296 = (A1 : Int) := by rw [hA1]; omega
          have g2 : ((A1 : Int) + (s0 : Int)) % 4294967296 = (A2 : Int) := by rw [hA2]; omega
          have g3 : ((A2 : Int) + (x16 : Int)) % 4294967296 = (U : Int) := by rw [hU]; omega
          have i2 : IntKind.i64.wrap ((k : Int) - 2) = (k2 : Int) := by rw [hk2, wrap_i64_id _ (by omega) (by omega)]; omega
          have l2 : (k2 : Int) < 80 := by omega
          have n2 : k2 ≠ k := by omega
          have i7 : IntKind.i64.wrap ((k : Int) - 7) = (k7 : Int) := by rw [hk7, wrap_i64_id _ (by omega) (by omega)]; omega
          have l7 : (k7 : Int) < 80 := by omega
          have n7 : k7 ≠ k := by omega
          have i15 : IntKind.i64.wrap ((k : Int) - 15) = (k15 : Int) := by rw [hk15, wrap_i64_id _ (by omega) (by omega)]; omega
          have l15 : (k15 : Int) < 80 := by omega
          have n15 : k15 ≠ k := by omega
          have i16 : IntKind.i64.wrap ((k : Int) - 16) = (k16 : Int) := by rw [hk16, wrap_i64_id _ (by omega) (by omega)]; omega
          have l16 : (k16 : Int) < 80 := by omega
          have n16 : k16 ≠ k := by omega
          have hkk : (k : Int) < 80 := by omega
          have HK1 := hid (fun (X Y : World) (hb : Below X.heap.size X Y) (h0 : But1 wr ⟨w.heap.size + 1 + 1, k, none⟩ (.int .u32 (U : Int)) X) => (show (fun wx : World => But1 wr ⟨w.heap.size + 1 + 1, k, none⟩ (.int .u32 (U : Int)) wx ∧ wx.cell? ⟨w.heap.size, 0, none⟩ = some (.int .u64 32) ∧ wx.cell? ⟨w.heap.size, 2, none⟩ = some (.int .u64 7) ∧ wx.cell? ⟨w.heap.size, 3, none⟩ = some (.int .u64 18) ∧ wx.cell? ⟨w.heap.size, 4, none⟩ = some (.int .u64 3) ∧ wx.cell? ⟨w.heap.size, 5, none⟩ = some (.int .u64 17) ∧ wx.cell? ⟨w.heap.size, 6, none⟩ = some (.int .u64 19) ∧ wx.cell? ⟨w.heap.size, 7, none⟩ = some (.int .u64 10) ∧ wx.cell? ⟨w.heap.size + 1 + 1, k2, none⟩ = some (.int .u32 (x2 : Int)) ∧ wx.cell? ⟨w.heap.size + 1 + 1, k7, none⟩ = some (.int .u32 (x7 : Int)) ∧ wx.cell? ⟨w.heap.size + 1 + 1, k15, none⟩ = some (.int .u32 (x15 : Int)) ∧ wx.cell? ⟨w.heap.size + 1 + 1, k16, none⟩ = some (.int .u32 (x16 : Int))) Y from let h := h0.next hb; ⟨h, h.cell c0 (by simp), h.cell c2 (by simp), h.cell c3 (by simp), h.cell c4 (by simp), h.cell c5 (by simp), h.cell c6 (by simp), h.cell c7 (by simp), h.cell d2 (by simp), h.cell d7 (by simp), h.cell d15 (by simp), h.cell d16 (by simp)⟩))
          have HK2 := hid (fun (X : World) (h0 : But1 wr ⟨w.heap.size + 1 + 1, k, none⟩ (.int .u32 (U : Int)) X) => (show (fun wx : World => But1 wr ⟨w.heap.size + 1 + 1, k, none⟩ (.int .u32 (U : Int)) wx ∧ wx.cell? ⟨w.heap.size, 0, none⟩ = some (.int .u64 32) ∧ wx.cell? ⟨w.heap.size, 2, none⟩ = some (.int .u64 7) ∧ wx.cell? ⟨w.heap.size, 3, none⟩ = some (.int .u64 18) ∧ wx.cell? ⟨w.heap.size, 4, none⟩ = some (.int .u64 3) ∧ wx.cell? ⟨w.heap.size, 5, none⟩ = some (.int .u64 17) ∧ wx.cell? ⟨w.heap.size, 6, none⟩ = some (.int .u64 19) ∧ wx.cell? ⟨w.heap.size, 7, none⟩ = some (.int .u64 10) ∧ wx.cell? ⟨w.heap.size + 1 + 1, k2, none⟩ = some (.int .u32 (x2 : Int)) ∧ wx.cell? ⟨w.heap.size + 1 + 1, k7, none⟩ = some (.int .u32 (x7 : Int)) ∧ wx.cell? ⟨w.heap.size + 1 + 1, k15, none⟩ = some (.int .u32 (x15 : Int)) ∧ wx.cell? ⟨w.heap.size + 1 + 1, k16, none⟩ = some (.int .u32 (x16 : Int))) (X.setCell ⟨w.heap.size + 1 + 1, k, none⟩ (.int .u32 (U : Int))) from let h := h0.put; ⟨h, h.cell c0 (by simp), h.cell c2 (by simp), h.cell c3 (by simp), h.cell c4 (by simp), h.cell c5 (by simp), h.cell c6 (by simp), h.cell c7 (by simp), h.cell d2 (by simp), h.cell d7 (by simp), h.cell d15 (by simp), h.cell d16 (by simp)⟩))
          have HK0 := hid (show (fun wx : World => But1 wr ⟨w.heap.size + 1 + 1, k, none⟩ (.int .u32 (U : Int)) wx ∧ wx.cell? ⟨w.heap.size, 0, none⟩ = some (.int .u64 32) ∧ wx.cell? ⟨w.heap.size, 2, none⟩ = some (.int .u64 7) ∧ wx.cell? ⟨w.heap.size, 3, none⟩ = some (.int .u64 18) ∧ wx.cell? ⟨w.heap.size, 4, none⟩ = some (.int .u64 3) ∧ wx.cell? ⟨w.heap.size, 5, none⟩ = some (.int .u64 17) ∧ wx.cell? ⟨w.heap.size, 6, none⟩ = some (.int .u64 19) ∧ wx.cell? ⟨w.heap.size, 7, none⟩ = some (.int .u64 10) ∧ wx.cell? ⟨w.heap.size + 1 + 1, k2, none⟩ = some (.int .u32 (x2 : Int)) ∧ wx.cell? ⟨w.heap.size + 1 + 1, k7, none⟩ = some (.int .u32 (x7 : Int)) ∧ wx.cell? ⟨w.heap.size + 1 + 1, k15, none⟩ = some (.int .u32 (x15 : Int)) ∧ wx.cell? ⟨w.heap.size + 1 + 1, k16, none⟩ = some (.int .u32 (x16 : Int))) wr.drew from let h := But1.start wr _ _; ⟨h, h.cell c0 (by simp), h.cell c2 (by simp), h.cell c3 (by simp), h.cell c4 (by simp), h.cell c5 (by simp), h.cell c6 (by simp), h.cell c7 (by simp), h.cell d2 (by simp), h.cell d7 (by simp), h.cell d15 (by simp), h.cell d16 (by simp)⟩)
          have HA := hid hA
          have HR := hid hR
          have HS := hid hS
          have HB := hid hb
          clear hA hR hS hb hfl hx2 hx7 hx15 hx16 hk2 hk7 hk15 hk16 hA1 hA2 hU hy n2 n7 n15 n16
          have HK16 := hid hk1
          clear hk1
          go_wp2_with fail
          go_region_held (fun wx : World => But1 wr ⟨w.heap.size + 1 + 1, k, none⟩ (.int .u32 (U : Int)) wx ∧ wx.cell? ⟨w.heap.size, 0, none⟩ = some (.int .u64 32) ∧ wx.cell? ⟨w.heap.size, 2, none⟩ = some (.int .u64 7) ∧ wx.cell? ⟨w.heap.size, 3, none⟩ = some (.int .u64 18) ∧ wx.cell? ⟨w.heap.size, 4, none⟩ = some (.int .u64 3) ∧ wx.cell? ⟨w.heap.size, 5, none⟩ = some (.int .u64 17) ∧ wx.cell? ⟨w.heap.size, 6, none⟩ = some (.int .u64 19) ∧ wx.cell? ⟨w.heap.size, 7, none⟩ = some (.int .u64 10) ∧ wx.cell? ⟨w.heap.size + 1 + 1, k2, none⟩ = some (.int .u32 (x2 : Int)) ∧ wx.cell? ⟨w.heap.size + 1 + 1, k7, none⟩ = some (.int .u32 (x7 : Int)) ∧ wx.cell? ⟨w.heap.size + 1 + 1, k15, none⟩ = some (.int .u32 (x15 : Int)) ∧ wx.cell? ⟨w.heap.size + 1 + 1, k16, none⟩ = some (.int .u32 (x16 : Int)))
            (first | exact HK0.out | exact HK1.out _ _ (by assumption) (by (try dsimp only at *); go_split_ands; assumption) | exact HK2.out _ (by (try dsimp only at *); go_split_ands; assumption))
            (first | (go_at_call 111; refine (small32 _ _ _ _ _ (by assumption) (by decide) (by decide) (by decide)).mono ?_; rintro e wa ⟨rfl, hba⟩; obtain ⟨csa, cfa⟩ := kept_both (a := ⟨w.heap.size + 1 + 1, k, none⟩) (v := .int .u32 (y : Int)) (by first | exact cs | assumption) (by first | exact cf | assumption) hba))
          all_goals
            go_wp2_with fail
            go_roundw
            case rel =>
              (try dsimp only at *)
              go_split_ands
              have hk1 := HK16.out
              have hq := But1.fin (wr := wr) (by assumption)
              have e1 := row_kept ((Below.heap_setCell wr ⟨w.heap.size + 1 + 1, k, none⟩ _ w.heap.size (by show w.heap.size ≠ w.heap.size + 1 + 1; omega)).trans HA.out) hq
              have e2 := (HR.out.far (b := w.heap.size + 1 + 1) (by omega)).kept hq
              have e3 := (HS.out.set k U).kept hq
              rw [fill_step L k 80 (by omega) HL80.out U HU.out] at e3
              have e4 := (HB.out.setCell (p := ⟨w.heap.size + 1 + 1, k, none⟩) (by show w.heap.size ≤ w.heap.size + 1 + 1; omega) _).trans (hq.mono (by rw [size_setCell]; exact HB.out.size))
              first
                | exact ⟨k + 1, by omega, by omega, by go_num, e1, e2, e3, e4⟩
                | ((repeat apply Exists.intro); refine ⟨?_, rfl⟩; exact ⟨k + 1, by omega, by omega, by go_num, e1, e2, e3, e4⟩)
                | ((repeat apply Exists.intro); exact ⟨⟨k + 1, by omega, by omega, by go_num, e1, e2, e3, e4⟩, rfl⟩)
            case measure => simp [intOf]; omega
        · obtain rfl : k = 64 := by omega
          have hS' : Rw wr (w.heap.size + 1 + 1) .u32 142 L := by
            have := hS
            rwa [show fillV L 64 80 = L by rw [HL.out]; exact w80_fill nar l (by decide)] at this
          have HT := hid (hR.put L (by rw [HL80.out]; rfl))
          have HBT := hid (below_setCells (b := w.heap.size + 1) (by omega) (cW .u32 L) 0 wr hb)
          have hth := hR.there (cW .u32 L).toArray.size (by rw [List.size_toArray, cW_len, HL80.out]; rfl)
          have HRG := hid hS'.range
          have hone := all_oneCell_toArray (cW_one .u32 L)
          have hi8 := size80_3 L HL80.out
          have hi8' := size80a_3 L HL80.out
          have HH := hid hth
          clear hA hR hS hS' hb hth hk hlt hk1
          go_wp2_with (first | refine wpList_load_mid rfl 142 (.tmp 5) rfl (w.heap.size + 1 + 1) 0 rfl (cW .u32 L) _ HRG.out Tryd.underlying142 rfl hi8 ?_ | refine wpList_store_mid rfl 142 (.tmp 4) (.tmp 64) rfl (w.heap.size + 1) 0 (cW .u32 L).toArray rfl rfl HH.out hi8' hone ?_)
          exact bodyPost_ret (Rw.result rfl _ _ (w.heap.size + 1) .u32 142 L rfl HT.out Tryd.underlying142 rfl hi8) rfl ⟨rfl, HBT.out⟩

end Go.Proofs.YtbdlicomkpnalaaDoor

namespace Go.Proofs.YtbdlicomkpnalaaDoor
open Go.RowKit

noncomputable def loop2_3 : Code := ((Tryd.f82.body.map loopsOf).getD []).getD 1 .skip

set_option maxHeartbeats 4000000 in
set_option maxRecDepth 100000 in
theorem adds3 (ra rb rc rd re rf rg rh : Nat) (SL Z : List Nat) (w W : World) (K : Act → World → Prop) (t0 t1 t2 t3 t5 t6 t7 t8 t9 t10 t11 t12 t13 t14 t15 t16 t17 t18 t19 t20 t21 t22 t23 t24 t25 t26 t27 t28 t29 t30 t31 t32 t33 t34 t35 t36 t37 t38 t39 t40 t41 t42 t43 t44 t45 t46 t47 t48 t49 t50 t51 t52 t53 t54 t55 t56 t57 t58 t59 t60 t61 t62 t63 t64 t65 t66 t67 t68 t69 t70 t71 t72 t73 t74 t75 t76 t77 t78 t79 t80 t81 t82 t83 t84 t85 t86 t87 t88 t89 t90 t91 t92 t93 t94 t95 t96 t97 t98 t99 t100 t103 t104 t105 t106 t107 t108 t109 t110 t111 t112 t113 : Value)
    (HM0 : Hid (Rw W (w.heap.size + 1) .u32 100 SL ∧ Rw W (w.heap.size + 1 + 1) .u32 100 (List.replicate 8 0) ∧ Below w.heap.size w W)) (HS8 : Hid (SL.length = 8)) (HZ8 : Hid (Z.length = 8))
    (HZ : Hid (∀ j, j < 8 → Z.getD j 0 = (SL.getD j 0 + [ra, rb, rc, rd, re, rf, rg, rh].getD j 0) % 4294967296))
    (HK : Hid (∀ (u19 u20 u102 u103 u104 u105 u106 u107 u108 u109 u110 u111 u112 : Value) (w2 : World), Rw w2 (w.heap.size + 1) .u32 100 Z ∧ Rw w2 (w.heap.size + 1 + 1) .u32 100 (List.replicate 8 0) ∧ Below w.heap.size w w2 → K ⟨#[t0, t1, t2, t3, .pointer (some ⟨w.heap.size + 1, 0, none⟩), t5, t6, t7, t8, t9, t10, t11, t12, t13, t14, t15, t16, t17, t18, u19, u20, t21, t22, t23, t24, t25, t26, t27, t28, t29, t30, t31, t32, t33, t34, t35, t36, t37, t38, t39, t40, t41, t42, t43, t44, t45, t46, t47, t48, t49, t50, t51, t52, t53, t54, t55, t56, t57, t58, t59, t60, t61, t62, t63, t64, t65, t66, t67, t68, t69, t70, t71, t72, t73, t74, t75, t76, t77, t78, t79, t80, t81, t82, t83, t84, t85, t86, t87, t88, t89, t90, t91, t92, t93, t94, t95, t96, t97, t98, t99, t100, .agg #[.int .u32 (ra : Int), .int .u32 (rb : Int), .int .u32 (rc : Int), .int .u32 (rd : Int), .int .u32 (re : Int), .int .u32 (rf : Int), .int .u32 (rg : Int), .int .u32 (rh : Int)], u102, u103, u104, u105, u106, u107, u108, u109, u110, u111, u112, t113], []⟩ w2)) :
    Code.wp Tryd.prog (.loop loop2_3) (exit2 K) ⟨#[t0, t1, t2, t3, .pointer (some ⟨w.heap.size + 1, 0, none⟩), t5, t6, t7, t8, t9, t10, t11, t12, t13, t14, t15, t16, t17, t18, t19, t20, t21, t22, t23, t24, t25, t26, t27, t28, t29, t30, t31, t32, t33, t34, t35, t36, t37, t38, t39, t40, t41, t42, t43, t44, t45, t46, t47, t48, t49, t50, t51, t52, t53, t54, t55, t56, t57, t58, t59, t60, t61, t62, t63, t64, t65, t66, t67, t68, t69, t70, t71, t72, t73, t74, t75, t76, t77, t78, t79, t80, t81, t82, t83, t84, t85, t86, t87, t88, t89, t90, t91, t92, t93, t94, t95, t96, t97, t98, t99, t100, .agg #[.int .u32 (ra : Int), .int .u32 (rb : Int), .int .u32 (rc : Int), .int .u32 (rd : Int), .int .u32 (re : Int), .int .u32 (rf : Int), .int .u32 (rg : Int), .int .u32 (rh : Int)], .int .i64 0, t103, t104, t105, t106, t107, t108, t109, t110, t111, t112, t113], []⟩ W := by
  have HIX := hid (show ∀ (j : Nat) (wx : World), j < 8 → (Instr.index 100 (.agg #[.int .u32 (ra : Int), .int .u32 (rb : Int), .int .u32 (rc : Int), .int .u32 (rd : Int), .int .u32 (re : Int), .int .u32 (rf : Int), .int .u32 (rg : Int), .int .u32 (rh : Int)]) (.int .i64 (j : Int))).run Tryd.prog wx = .ok (.int .u32 ([ra, rb, rc, rd, re, rf, rg, rh].getD j 0 : Nat)) wx by
    intro j wx hj
    rcases (show j = 0 ∨ j = 1 ∨ j = 2 ∨ j = 3 ∨ j = 4 ∨ j = 5 ∨ j = 6 ∨ j = 7 by omega) with rfl | rfl | rfl | rfl | rfl | rfl | rfl | rfl <;> kernel_rfl)
  conv => arg 2; whnf
  conv => arg 2; arg 1; whnf
  conv => arg 4; dsimp only
  go_loopw [102] (fun v102 wr => ∃ j : Nat, j ≤ 8 ∧ v102 = .int .i64 j ∧ Hid (Rw wr (w.heap.size + 1) .u32 100 (mixV Z SL j) ∧ Rw wr (w.heap.size + 1 + 1) .u32 100 (List.replicate 8 0) ∧ Below w.heap.size w wr)) (fun v102 _ => 8 - (intOf v102).toNat)
  case atStart => exact ⟨0, by omega, rfl, by rw [mix_zero]; exact HM0.out⟩
  case round =>
    clear HM0
    obtain ⟨j, hj, rfl, HM⟩ := hrel
    by_cases hlt : j < 8
    · obtain ⟨SJ, hSJ⟩ : ∃ x, x = SL.getD j 0 := ⟨_, rfl⟩
      obtain ⟨VJ, hVJ⟩ : ∃ x, x = [ra, rb, rc, rd, re, rf, rg, rh].getD j 0 := ⟨_, rfl⟩
      obtain ⟨ZJ, hZJ⟩ : ∃ x, x = (SJ + VJ) % 4294967296 := ⟨_, rfl⟩
      have hix : ∀ wx : World, (Instr.index 100 (.agg #[.int .u32 (ra : Int), .int .u32 (rb : Int), .int .u32 (rc : Int), .int .u32 (rd : Int), .int .u32 (re : Int), .int .u32 (rf : Int), .int .u32 (rg : Int), .int .u32 (rh : Int)]) (.int .i64 (j : Int))).run Tryd.prog wx = .ok (.int .u32 (VJ : Int)) wx := by intro wx; rw [hVJ]; exact HIX.out j wx hlt
      have cs : wr.cell? ⟨w.heap.size + 1, j, none⟩ = some (.int .u32 (SJ : Int)) := by
        rw [hSJ, ← mix_at Z SL j 8 HZ8.out HS8.out hlt]
        exact HM.out.1.cell j (by rw [mix_len Z SL j 8 HZ8.out HS8.out (by omega)]; exact hlt)
      have cf := HM.out.1.free j
      have HZJ := hid (show Z.getD j 0 = ZJ by rw [HZ.out j hlt, ← hSJ, ← hVJ, hZJ])
      have f1 : IntKind.wrap .u32 ((SJ : Int) + (VJ : Int)) = (ZJ : Int) := by rw [wrapW3, hZJ]; omega
      have f2 : ((SJ : Int) + (VJ : Int)) % 4294967296 = (ZJ : Int) := by rw [hZJ]; omega
      have hjj : (j : Int) < 8 := by omega
      clear hSJ hVJ hZJ
      go_wp2_with fail
      go_roundw
      case rel =>
        have e1 := HM.out.1.set j ZJ
        rw [mix_step Z SL j 8 ZJ HZ8.out HS8.out hlt HZJ.out] at e1
        have e2 := HM.out.2.1.far (b := w.heap.size + 1) (j := j) (x := .int .u32 (ZJ : Int)) (by omega)
        have e3 := HM.out.2.2.setCell (p := ⟨w.heap.size + 1, j, none⟩) (by show w.heap.size ≤ w.heap.size + 1; omega) (.int .u32 (ZJ : Int))
        first
          | exact ⟨j + 1, by omega, by go_num, e1, e2, e3⟩
          | ((repeat apply Exists.intro); refine ⟨?_, rfl⟩; exact ⟨j + 1, by omega, by go_num, e1, e2, e3⟩)
      case measure => simp [intOf]; omega
    · obtain rfl : j = 8 := by omega
      have hM := HM.out
      rw [mix_all Z SL 8 HZ8.out HS8.out] at hM
      have HM2 := hid hM
      clear hM hj hlt HM
      go_wp2_with fail
      exact HK.out _ _ _ _ _ _ _ _ _ _ _ _ _ _ HM2.out

end Go.Proofs.YtbdlicomkpnalaaDoor
