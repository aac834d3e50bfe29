/-
  The walk of the law DigestEdges.
-/
import Derived.Test.YtbdlicomkpnalaaDoorZIn
import Derived.Test.YtbdlicomkpnalaaDoorZLsm
import Derived.Test.YtbdlicomkpnalaaDoorZ0
set_option linter.unusedSimpArgs false
set_option linter.unusedVariables false
namespace Go.Proofs.YtbdlicomkpnalaaDoor
open Go.RowKit

def edN (c N : Nat) : List Nat := (List.range N).map fun i => (c + i) % 256
def edL (c N : Nat) : List UInt8 := (edN c N).map UInt8.ofNat
theorem edN_len (c N : Nat) : (edN c N).length = N := by simp [edN]
theorem edN_at (c N i : Nat) (h : i < N) : (edN c N).getD i 0 = (c + i) % 256 := by simp [edN, h]
theorem edL_len (c N : Nat) : (edL c N).length = N := by simp [edL, edN]
theorem edL_slb {w : World} {g : Nat} {c N : Nat} (h : Rw w g .u8 5 (edN c N)) : SlB w (.slice (some ⟨g, 0, none⟩) N N) (edL c N) := by
  refine .inr ⟨_, N, by rw [edL_len], fun j hj => ?_⟩
  have hj' : j < N := by rw [edL_len] at hj; exact hj
  rw [Addr.add_lit, Nat.zero_add, h.cell j (by rw [edN_len]; exact hj'), edN_at c N j hj']
  simp [edL, edN]

theorem wrap_u8 (x : Int) : IntKind.u8.wrap x = x % 256 := by simp [IntKind.wrap, IntKind.bits, IntKind.signed]

def EdInv (w wr : World) (k : Nat) : Prop := (∀ j, j < 3 → wr.cell? ⟨w.heap.size, j, none⟩ = some (.int .i64 ([256, 384, 512].getD j 0))) ∧ Below (w.heap.size + 1) w wr ∧ k ≤ 3

set_option maxHeartbeats 4000000 in
set_option maxRecDepth 100000 in
theorem digestEdges_walk (n c : Int) (w : World) (w0 : (Lit.int .i64 n).wf = true) (w1 : (Lit.int .u8 c).wf = true) (hg : Gt w) :
    Calls Tryd.prog 4 #[.int .i64 n, .int .u8 c] w fun e w' => e = .returned (.bool true) ∧ Below w.heap.size w w' := by
  have hn : -9223372036854775808 ≤ n ∧ n ≤ 9223372036854775807 := by simpa [Lit.wf, IntKind.min, IntKind.max, IntKind.bits, IntKind.signed] using w0
  have hc : 0 ≤ c ∧ c ≤ 255 := by simpa [Lit.wf, IntKind.min, IntKind.max, IntKind.bits, IntKind.signed] using w1
  obtain ⟨C, rfl⟩ := Int.eq_ofNat_of_zero_le hc.1
  have hC : C ≤ 255 := by omega
  have hwb := n_withinI_bounds n 0 260 (by omega)
  obtain ⟨N, hN⟩ := Int.eq_ofNat_of_zero_le hwb.1
  have hNb : N ≤ 260 := by omega
  have HN := hid hN
  have HWI := hid (fun X : World => n_within_any n 0 260 X hn.1 hn.2 (by decide) (by decide) (by decide))
  have HG := hid hg
  obtain ⟨i0, hi, hz0, hz1, hz2⟩ := info_parts infoByte
  clear w0 w1 hn hc hwb hN hg
  go_enter Tryd.func4, Tryd.ntmps4
  go_wp2_with fail
  refine (new_any w).mono ?_
  rintro e wa ⟨rfl, hT, hba⟩
  have HT := hid hT
  have HBA := hid hba
  clear hT hba
  go_wp2_with fail
  refine (HWI.out wa).mono ?_
  rintro e wb ⟨rfl, rfl⟩
  rw [HN.out]
  go_wp2_with (at_make; refine wpList_make_full _ rfl _ _ 22 rfl wa.heap.size 5 i0 (.int .u8 0) 1 Tryd.underlying22 hi hz0 hz1 .i64 .i64 _ _ N rfl rfl (by omega) (by omega) (by rw [hz2]; omega) (by unfold maxLen; omega) (Nat.le_refl _) ?_; intro wc hown0 hgrow0)
  have HBC := hid (show Below wa.heap.size wa wc from (Below.refl _ wa).grown hgrow0 (Nat.le_refl _) (fun k hk => by simp at hk))
  have HR0 := hid (show Rw wc wa.heap.size .u8 5 (fillV (edN C N) 0 N) by
    rw [fill_zero]
    rcases hown0.2 with ⟨h', _⟩ | ⟨g', cap', cur, h', _, hg, hnc, hcm, hcs, htake⟩
    · simp at h'
    · simp only [Value.slice.injEq, Option.some.injEq, Addr.mk.injEq, and_true, true_and] at h'
      obtain ⟨rfl, rfl⟩ := h'
      rw [List.take_of_length_le (by rw [Array.length_toList, hcs]; exact Nat.le_refl _), Nat.mul_one] at htake
      have htk : cur.toList = List.replicate N (.int .u8 0) := htake.trans (toList_madeCells_one _ _)
      unfold Rw
      rw [hg]
      congr 2
      rw [show cW .u8 (List.replicate N 0) = List.replicate N (.int .u8 0) by simp [cW], ← htk])
  clear hown0 hgrow0
  go_wp2_with fail
  go_loopw [7] (fun v7 wr => ∃ k : Nat, k ≤ N ∧ v7 = .int .i64 k ∧ Hid (Rw wr wa.heap.size .u8 5 (fillV (edN C N) k N)) ∧ Hid (Below wa.heap.size wa wr)) (fun v7 _ => N - (intOf v7).toNat)
  case atStart => exact ⟨0, Nat.zero_le _, rfl, HR0.out, HBC.out⟩
  case round =>
    clear HR0 HBC
    obtain ⟨k, hk, rfl, HR, HB⟩ := hrel
    by_cases hlt : k < N
    · obtain ⟨y, hy⟩ : ∃ y, y = (fillV (edN C N) k N).getD k 0 := ⟨_, rfl⟩
      have cs : wr.cell? ⟨wa.heap.size, k, none⟩ = some (.int .u8 (y : Int)) := by rw [hy]; exact HR.out.cell k (by rw [fill_len (edN C N) k N hk (edN_len C N)]; exact hlt)
      have cf := HR.out.free k
      obtain ⟨U, hU⟩ : ∃ U, U = (C + k) % 256 := ⟨_, rfl⟩
      have HF := hid (show (fillV (edN C N) k N).set k U = fillV (edN C N) (k + 1) N from fill_step _ k N hlt (edN_len C N) U (by rw [edN_at C N k hlt, hU]))
      have hU2 : ((C : Int) + (k : Int) % 256) % 256 = (U : Int) := by rw [hU]; omega
      have hU3 : ((C : Int) + (k : Int)) % 256 = (U : Int) := by rw [hU]; omega
      have hin : (k : Int) < (N : Int) := by omega
      clear hy hU
      go_wp2_with fail
      go_roundw
      case rel =>
        have e3 := HR.out.set k U
        rw [HF.out] at e3
        have e4 : Below wa.heap.size wa _ := HB.out.setCell (p := ⟨wa.heap.size, k, none⟩) (Nat.le_refl _) (.int .u8 (U : Int))
        first
          | exact ⟨k + 1, by omega, by go_num, e3, e4⟩
          | ((repeat apply Exists.intro); refine ⟨?_, rfl⟩; exact ⟨k + 1, by omega, by go_num, e3, e4⟩)
          | ((repeat apply Exists.intro); exact ⟨⟨k + 1, by omega, by go_num, e3, e4⟩, rfl⟩)
      case measure => simp [intOf]; omega
    · obtain rfl : k = N := by omega
      obtain ⟨W5, hW5⟩ : ∃ W5, W5 = wr := ⟨_, rfl⟩
      subst hW5
      have HL := hid (edL_slb (show Rw W5 wa.heap.size .u8 5 (edN C k) by have := HR.out; rwa [fill_all _ k (edN_len C k)] at this))
      have HBW := hid (below2 HBA.out HB.out)
      have HTW := hid (HT.out.kept HB.out)
      obtain ⟨l, hl⟩ : ∃ l, l = edL C k := ⟨_, rfl⟩
      rw [← hl] at HL
      have HLL := hid (show l.length = k by rw [hl]; exact edL_len C k)
      clear HR HB hlt hk hl HT HBA
      go_wp2_with fail
      go_loopw [33] (fun v33 wq => ∃ i : Nat, i ≤ 3 ∧ v33 = .int .i64 i ∧ Hid (Below W5.heap.size W5 wq ∧ (∀ j, j < 3 → wq.cell? ⟨W5.heap.size, j, none⟩ = some (.int .i64 ([256, 384, 512].getD j 0))))) (fun v33 _ => 3 - (intOf v33).toNat)
      case atStart =>
        refine ⟨0, by omega, rfl, (Below.refl _ W5).alloc (Nat.le_refl _) _, fun j hj => ?_⟩
        rcases (show j = 0 ∨ j = 1 ∨ j = 2 by omega) with rfl | rfl | rfl <;> simp
      case round =>
        obtain ⟨i, hi3, rfl, HQ⟩ := hrel
        by_cases hlt : i < 3
        · obtain ⟨bt, hbt⟩ : ∃ bt, bt = [256, 384, 512].getD i (0 : Int) := ⟨_, rfl⟩
          have hbs : ∃ r R, sumV sqr cbr bt l = some r ∧ r.length = R ∧ Int.tdiv bt 8 = (R : Int) ∧ R ≤ 64 := by
            rcases (show i = 0 ∨ i = 1 ∨ i = 2 by omega) with rfl | rfl | rfl
            · exact ⟨_, 32, by rw [hbt]; rfl, summed_len nar _ _ _ _ _ (by decide), by rw [hbt]; rfl, by decide⟩
            · exact ⟨_, 48, by rw [hbt]; rfl, summed_len wid _ _ _ _ _ (by decide), by rw [hbt]; rfl, by decide⟩
            · exact ⟨_, 64, by rw [hbt]; rfl, summed_len wid _ _ _ _ _ (by decide), by rw [hbt]; rfl, by decide⟩
          obtain ⟨r, R, hr, hrR, hdv, hR64⟩ := hbs
          have HRS := hid hr
          have HRR := hid hrR
          have cb : wr.cell? ⟨W5.heap.size, i, none⟩ = some (.int .i64 bt) := by rw [hbt]; exact HQ.out.2 i hlt
          have HBQ := hid (below2 HBW.out HQ.out.1)
          have HSM := hid (sum_any bt _ k k l wr (HG.out.kept HBQ.out) (HL.out.kept HQ.out.1) (Nat.le_refl _) (by unfold maxLen; omega) (by rw [HLL.out]; omega))
          have hin : (i : Int) < 3 := by omega
          clear hbt hr hrR
          go_wp2_with fail
          refine HSM.out.mono ?_
          rintro e w2 ⟨⟨hn, rfl⟩ | ⟨r2, G, R2, hr2, hR2, rfl, hown⟩, hb2⟩
          · rw [HRS.out] at hn; cases hn
          obtain rfl : r = r2 := Option.some.inj (HRS.out.symm.trans hr2)
          obtain rfl : R = R2 := HRR.out.symm.trans hR2
          have HS2 := hid (show SlB w2 (.slice (some ⟨G, 0, none⟩) R R) r by
            have := hown
            rw [← HRR.out] at this ⊢
            exact SlB.own this)
          have HQ2 := hid (below2 HQ.out.1 hb2)
          have HQC := hid (fun j hj => kept_cell (HQ.out.2 j hj) hb2)
          have HRM := hid (rsum_any w.heap.size bt _ k k l w2 (HTW.out.kept HQ2.out) (HL.out.kept HQ2.out) (fun h => by cases h) (by rw [HLL.out]; omega))
          clear hr2 hR2 hown hb2 HSM cb
          go_wp2_with fail
          refine HRM.out.mono ?_
          rintro e w3 ⟨⟨hn, rfl⟩ | ⟨r3, G3, c3, R3, hr3, hR3, rfl, hsl3⟩, hb3⟩
          · rw [HRS.out] at hn; cases hn
          obtain rfl : r = r3 := Option.some.inj (HRS.out.symm.trans hr3)
          obtain rfl : R = R3 := HRR.out.symm.trans hR3
          have hc1 : (convert 22 9 (.slice (some ⟨G, 0, none⟩) R R)).run Tryd.prog w3 = .ok (.string ⟨r.toArray⟩) w3 := (HS2.out.kept hb3).string (P := Tryd.prog) Tryd.underlying22 Tryd.underlying5 Tryd.underlying9
          have hc2 : (convert 22 9 (.slice (some ⟨G3, 0, none⟩) R c3)).run Tryd.prog w3 = .ok (.string ⟨r.toArray⟩) w3 := hsl3.string (P := Tryd.prog) Tryd.underlying22 Tryd.underlying5 Tryd.underlying9
          have HQ3 := hid (show Below W5.heap.size W5 w3 ∧ (∀ j, j < 3 → w3.cell? ⟨W5.heap.size, j, none⟩ = some (.int .i64 ([256, 384, 512].getD j 0))) from ⟨below2 HQ2.out hb3, fun j hj => kept_cell (HQC.out j hj) hb3⟩)
          clear hr3 hR3 hsl3 hb3 HRM HQC HS2 HQ HRS HRR
          go_wp2_with fail
          go_roundw
          case rel =>
            first
              | exact ⟨i + 1, by omega, by go_num, HQ3.out⟩
              | ((repeat apply Exists.intro); refine ⟨?_, rfl⟩; exact ⟨i + 1, by omega, by go_num, HQ3.out⟩)
              | ((repeat apply Exists.intro); exact ⟨⟨i + 1, by omega, by go_num, HQ3.out⟩, rfl⟩)
          case measure => simp [intOf]; omega
        · obtain rfl : i = 3 := by omega
          have HBQ := hid (below2 HBW.out HQ.out.1)
          have HK := hid (known8 wr (HG.out.kept HBQ.out))
          clear HQ hi3 hlt
          go_wp2_with fail
          refine HK.out.mono ?_
          rintro e w2 ⟨rfl, hb2⟩
          have HB2 := hid (below2 HBQ.out hb2)
          go_wp2_with fail
          go_ret
          exact ⟨rfl, HB2.out⟩

end Go.Proofs.YtbdlicomkpnalaaDoor
