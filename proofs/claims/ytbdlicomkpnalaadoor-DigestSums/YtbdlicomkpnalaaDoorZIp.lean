/-
  The walk of the law DigestSums.
-/
import Derived.Test.YtbdlicomkpnalaaDoorZIo
set_option linter.unusedSimpArgs false
set_option linter.unusedVariables false
namespace Go.Proofs.YtbdlicomkpnalaaDoor
open Go.RowKit

theorem IsRow.nilcap {K : IntKind} {w : World} {a : Option Addr} {len cap : Nat} {zs : List Int} (h : IsRow K w a len cap zs) : a = none → cap = 0 := by
  rcases h with ⟨rfl, rfl, rfl, rfl⟩ | ⟨x, rfl, _⟩
  · exact fun _ => rfl
  · intro h; cases h

theorem slice_to (g n cap b : Nat) (w : World) (hb : b ≤ cap) : (Instr.sliceAt 22 (.slice (some ⟨g, 0, none⟩) n cap) none (some (.int .i64 (b : Int))) none).run Tryd.prog w = .ok (.slice (some ⟨g, 0, none⟩) b cap) w := by
  rw [run_sliceAt_slice (h := undB), run_slice_h (ht := undB) (h0 := by omega) (h2 := by omega), sizeByte]
  simp only [Result.andThen, sliced, Int.toNat_natCast, Nat.zero_mul, Option.map_some, Nat.sub_zero, Addr.add_lit, Nat.zero_add, ite_self]

set_option maxHeartbeats 4000000 in
set_option maxRecDepth 100000 in
theorem digestSums_walk (bits : Int) (a0 : Option Addr) (len0 cap0 : Nat) (z0 : List Int) (a1 : Option Addr) (len1 cap1 : Nat) (z1 : List Int) (w : World) (wb : (Lit.int .i64 bits).wf = true) (w0 : IsRow .u8 w a0 len0 cap0 z0) (w1 : IsRow .u8 w a1 len1 cap1 z1) (hg : Gt w) :
    Calls Tryd.prog 3 #[.int .i64 bits, .slice a0 len0 cap0, .slice a1 len1 cap1] w fun e w' => e = .returned (.bool true) ∧ Below w.heap.size w w' := by
  obtain ⟨l0, hl0, hS0, hc0, hm0⟩ := w0.bytes
  obtain ⟨m, hl1, hS1, hc1, hm1⟩ := w1.bytes
  have HNC := hid w0.nilcap
  have HG := hid hg
  have HS0 := hid hS0
  have HS1 := hid hS1
  have HFW := hid (fewBytes_any a0 len0 cap0 1000 l0 w hl0 hS0 hc0 hm0 (by decide))
  have HM0 := hid hm0
  clear w0 w1 hg hS0 hS1 hl0 hc0 hm0 hl1 hc1 hm1 wb
  go_enter Tryd.func3, Tryd.ntmps3
  go_wp2_with fail
  refine HFW.out.mono ?_
  rintro e wz ⟨len, hlen, hlc, rfl, hS, rfl⟩
  obtain ⟨l, hl⟩ : ∃ l, l = l0.take 1000 := ⟨_, rfl⟩
  rw [← hl] at hlen hS
  have hlb : l.length ≤ 1000 := by rw [hl]; simp; omega
  have HS := hid hS
  have HLC := hid hlc
  have HLN := hid hlen
  have HLB := hid hlb
  clear hl hS hlc hlen HFW HS0 hlb
  go_wp2_with fail
  refine (new_any w).mono ?_
  rintro e wa ⟨rfl, hT, hba⟩
  have HT := hid hT
  have HBA := hid hba
  clear hT hba
  have HRY := hid (roomy_any a0 len cap0 l 165 wa (HS.out.kept HBA.out) (by have := HLB.out; omega))
  go_wp2_with fail
  refine HRY.out.mono ?_
  rintro e wc ⟨rfl, hF, hbc⟩
  have HF := hid hF
  have HBC := hid hbc
  clear hF hbc HRY
  go_wp2_with fail
  obtain ⟨LL, hLL⟩ : ∃ LL : List Int, LL = [256, 384, 512, bits] := ⟨_, rfl⟩
  have HLL := hid (show LL.length = 4 by rw [hLL]; rfl)
  have HB0 := hid (below2 HBA.out HBC.out)
  go_loopw [10] (fun v10 wq => ∃ i : Nat, i ≤ 4 ∧ v10 = .int .i64 i ∧ Hid (Below wc.heap.size wc wq ∧ (∀ j, j < 4 → wq.cell? ⟨wc.heap.size, j, none⟩ = some (.int .i64 (LL.getD j 0))))) (fun v10 _ => 4 - (intOf v10).toNat)
  case atStart =>
    refine ⟨0, by omega, rfl, (Below.refl _ wc).alloc (Nat.le_refl _) _, fun j hj => ?_⟩
    rw [hLL]
    rcases (show j = 0 ∨ j = 1 ∨ j = 2 ∨ j = 3 by omega) with rfl | rfl | rfl | rfl <;> simp
  case round =>
    obtain ⟨i, hi4, rfl, HQ⟩ := hrel
    by_cases hlt : i < 4
    · obtain ⟨bt, hbt⟩ : ∃ bt, bt = LL.getD i (0 : Int) := ⟨_, rfl⟩
      have cb : wr.cell? ⟨wc.heap.size, i, none⟩ = some (.int .i64 bt) := by rw [hbt]; exact HQ.out.2 i hlt
      have HBQ := hid (below2 HB0.out HQ.out.1)
      have HFV := hid (show SlB wr (.slice (some ⟨wa.heap.size, 0, none⟩) len (l.length + 80)) l by
        have h := (HF.out.kept HQ.out.1).take l.length (by simp)
        rw [List.take_left' rfl, ← HLN.out] at h
        rw [← HLN.out]
        exact h)
      have HSM := hid (sum_any bt _ len (l.length + 80) l wr (HG.out.kept HBQ.out) HFV.out (by rw [HLN.out]; omega) (by have := HLB.out; unfold maxLen; omega) (by have := HLB.out; omega))
      have hin : (i : Int) < 4 := by omega
      have hsl : ∀ wx, (Instr.sliceAt 22 (.slice (some ⟨wa.heap.size, 0, none⟩) (l.length + 80) (l.length + 80)) none (some (.int .i64 (len : Int))) none).run Tryd.prog wx = .ok (.slice (some ⟨wa.heap.size, 0, none⟩) len (l.length + 80)) wx := fun wx => slice_to _ _ _ _ wx (by rw [HLN.out]; omega)
      have HSM2 := hid (show ∀ X, Below wr.heap.size wr X → Calls Tryd.prog 11 #[.int .i64 bt, .slice (some ⟨wa.heap.size, 0, none⟩) len (l.length + 80)] X (SumPost bt l X) from fun X hX => sum_any bt _ len (l.length + 80) l X ((HG.out.kept HBQ.out).kept hX) (HFV.out.kept hX) (by rw [HLN.out]; omega) (by have := HLB.out; unfold maxLen; omega) (by have := HLB.out; omega))
      clear hbt HSM
      rcases hsv : sumV sqr cbr bt l with _ | r
      · have HSV := hid hsv
        have HSX := hid (show ∀ X, Below wr.heap.size wr X → Calls Tryd.prog 11 #[.int .i64 bt, .slice (some ⟨wa.heap.size, 0, none⟩) len (l.length + 80)] X fun e w' => e = .returned (.tuple #[.slice none 0 0, .int .i64 1]) ∧ Below X.heap.size X w' from fun X hX => by
          refine (HSM2.out X hX).mono ?_
          rintro e w' ⟨⟨hn, rfl⟩ | ⟨r, G, n, hr, hn, rfl, hown⟩, hb⟩
          · exact ⟨rfl, hb⟩
          · rw [HSV.out] at hr; cases hr)
        clear hsv HSM2 HFV
        have HK0 := hid (show (fun wx : World => Below wr.heap.size wr wx ∧ wx.cell? ⟨wc.heap.size, i, none⟩ = some (.int .i64 bt)) wr.drew from ⟨(Below.refl _ wr).drew, cb⟩)
        have HK1 := hid (fun (X Y : World) (hb : Below X.heap.size X Y) (h0 : Below wr.heap.size wr X) => (show (fun wx : World => Below wr.heap.size wr wx ∧ wx.cell? ⟨wc.heap.size, i, none⟩ = some (.int .i64 bt)) Y from ⟨below2 h0 hb, kept_cell cb (below2 h0 hb)⟩))
        go_wp2_with fail
        go_region_held (fun wx : World => Below wr.heap.size wr wx ∧ wx.cell? ⟨wc.heap.size, i, none⟩ = some (.int .i64 bt))
          (first | exact HK0.out | exact HK1.out _ _ (by assumption) (by (try dsimp only at *); go_split_ands; assumption))
          (first | (go_at_call 11; refine (HSX.out _ (by (try dsimp only at *); go_split_ands; assumption)).mono ?_; rintro e w2 ⟨rfl, hb2⟩))
        all_goals
          have HW2 := hid (show Below wr.heap.size wr w2 by (try dsimp only at *); go_split_ands; assumption)
          have cb2 : w2.cell? ⟨wc.heap.size, i, none⟩ = some (.int .i64 bt) := kept_cell cb HW2.out
          have HQ2 := hid (below2 HQ.out.1 HW2.out)
          have HRM := hid (rsum_any w.heap.size bt a0 len cap0 l w2 ((HT.out.kept HBC.out).kept HQ2.out) ((HS.out.kept HB0.out).kept HQ2.out) HNC.out (by have := HLB.out; omega))
          go_wp2_with fail
          refine HRM.out.mono ?_
          rintro e w3 ⟨⟨hn, rfl⟩ | ⟨r3, G3, c3, R3, hr3, hR3, rfl, hsl3⟩, hb3⟩
          case inr => rw [HSV.out] at hr3; cases hr3
          have hcv : (convert 22 9 (.slice none 0 0)).run Tryd.prog w3 = .ok (.string ⟨#[]⟩) w3 := Lib.run_convert_nil_bytes w3 22 9 5 0 Tryd.underlying22 Tryd.underlying5 Tryd.underlying9
          clear hn
          have HQ3 := hid (show Below wc.heap.size wc w3 ∧ (∀ j, j < 4 → w3.cell? ⟨wc.heap.size, j, none⟩ = some (.int .i64 (LL.getD j 0))) from ⟨below2 HQ2.out hb3, fun j hj => kept_cell (kept_cell (HQ.out.2 j hj) HW2.out) hb3⟩)
          clear hb3 HRM HQ HQ2 HW2 cb2 cb HK0 HK1 HSX
          go_wp2_with fail
          go_roundw
          case rel =>
            first
              | exact ⟨i + 1, by omega, by go_num, HQ3.out⟩
              | ((repeat apply Exists.intro); refine ⟨?_, rfl⟩; exact ⟨i + 1, by omega, by go_num, HQ3.out⟩)
              | ((repeat apply Exists.intro); exact ⟨⟨i + 1, by omega, by go_num, HQ3.out⟩, rfl⟩)
          case measure => simp [intOf]; omega
      · have HSV := hid hsv
        obtain ⟨R, hR⟩ : ∃ R, r.length = R := ⟨_, rfl⟩
        have HRR := hid hR
        have HSX := hid (show ∀ X, Below wr.heap.size wr X → Calls Tryd.prog 11 #[.int .i64 bt, .slice (some ⟨wa.heap.size, 0, none⟩) len (l.length + 80)] X fun e w' => ∃ G, e = .returned (.tuple #[.slice (some ⟨G, 0, none⟩) R R, .int .i64 0]) ∧ SlB w' (.slice (some ⟨G, 0, none⟩) R R) r ∧ Below X.heap.size X w' from fun X hX => by
          refine (HSM2.out X hX).mono ?_
          rintro e w' ⟨⟨hn, rfl⟩ | ⟨r2, G, n, hr, hn, rfl, hown⟩, hb⟩
          · rw [HSV.out] at hn; cases hn
          · obtain rfl : r = r2 := Option.some.inj (HSV.out.symm.trans hr)
            obtain rfl : R = n := HRR.out.symm.trans hn
            refine ⟨G, rfl, ?_, hb⟩
            rw [← HRR.out] at hown ⊢
            exact SlB.own hown)
        clear hsv hR HSM2 HFV
        have HK0 := hid (show (fun wx : World => Below wr.heap.size wr wx ∧ wx.cell? ⟨wc.heap.size, i, none⟩ = some (.int .i64 bt)) wr.drew from ⟨(Below.refl _ wr).drew, cb⟩)
        have HK1 := hid (fun (X Y : World) (hb : Below X.heap.size X Y) (h0 : Below wr.heap.size wr X) => (show (fun wx : World => Below wr.heap.size wr wx ∧ wx.cell? ⟨wc.heap.size, i, none⟩ = some (.int .i64 bt)) Y from ⟨below2 h0 hb, kept_cell cb (below2 h0 hb)⟩))
        go_wp2_with fail
        go_region_held (fun wx : World => Below wr.heap.size wr wx ∧ wx.cell? ⟨wc.heap.size, i, none⟩ = some (.int .i64 bt))
          (first | exact HK0.out | exact HK1.out _ _ (by assumption) (by (try dsimp only at *); go_split_ands; assumption))
          (first | (go_at_call 11; refine (HSX.out _ (by (try dsimp only at *); go_split_ands; assumption)).mono ?_; rintro e w2 ⟨G, rfl, hs2, hb2⟩))
        all_goals
          have HW2 := hid (show Below wr.heap.size wr w2 by (try dsimp only at *); go_split_ands; assumption)
          have cb2 : w2.cell? ⟨wc.heap.size, i, none⟩ = some (.int .i64 bt) := kept_cell cb HW2.out
          have HQ2 := hid (below2 HQ.out.1 HW2.out)
          have HRM := hid (rsum_any w.heap.size bt a0 len cap0 l w2 ((HT.out.kept HBC.out).kept HQ2.out) ((HS.out.kept HB0.out).kept HQ2.out) HNC.out (by have := HLB.out; omega))
          go_wp2_with fail
          refine HRM.out.mono ?_
          rintro e w3 ⟨⟨hn, rfl⟩ | ⟨r3, G3, c3, R3, hr3, hR3, rfl, hsl3⟩, hb3⟩
          case inl => rw [HSV.out] at hn; cases hn
          obtain rfl : r = r3 := Option.some.inj (HSV.out.symm.trans hr3)
          obtain rfl : R = R3 := HRR.out.symm.trans hR3
          have hc1 : (convert 22 9 (.slice (some ⟨G, 0, none⟩) R R)).run Tryd.prog w3 = .ok (.string ⟨r.toArray⟩) w3 := (hs2.kept hb3).string (P := Tryd.prog) Tryd.underlying22 Tryd.underlying5 Tryd.underlying9
          have hc2 : (convert 22 9 (.slice (some ⟨G3, 0, none⟩) R c3)).run Tryd.prog w3 = .ok (.string ⟨r.toArray⟩) w3 := hsl3.string (P := Tryd.prog) Tryd.underlying22 Tryd.underlying5 Tryd.underlying9
          clear hr3 hR3 hsl3 hs2
          have HQ3 := hid (show Below wc.heap.size wc w3 ∧ (∀ j, j < 4 → w3.cell? ⟨wc.heap.size, j, none⟩ = some (.int .i64 (LL.getD j 0))) from ⟨below2 HQ2.out hb3, fun j hj => kept_cell (kept_cell (HQ.out.2 j hj) HW2.out) hb3⟩)
          clear hb3 HRM HQ HQ2 HW2 cb2 cb HK0 HK1 HSX
          go_wp2_with fail
          go_roundw
          case rel =>
            first
              | exact ⟨i + 1, by omega, by go_num, HQ3.out⟩
              | ((repeat apply Exists.intro); refine ⟨?_, rfl⟩; exact ⟨i + 1, by omega, by go_num, HQ3.out⟩)
              | ((repeat apply Exists.intro); exact ⟨⟨i + 1, by omega, by go_num, HQ3.out⟩, rfl⟩)
          case measure => simp [intOf]; omega
    · obtain rfl : i = 4 := by omega
      have HBQ := hid (below2 HB0.out HQ.out.1)
      have HSb := hid ((HS.out.kept HBQ.out : SlB wr _ l))
      have HSc := hid ((HS1.out.kept HBQ.out : SlB wr _ m))
      obtain ⟨q, hq⟩ : ∃ q : Bool, q = decide (l = m) := ⟨_, rfl⟩
      have HSAME := hid (show ∀ X, Below wr.heap.size wr X → Calls Tryd.prog 13 #[.slice a0 len cap0, .slice a1 len1 cap1] X fun e w' => e = .returned (.bool q) ∧ X = w' from fun X hX => by
        rw [hq]
        exact same_d a0 a1 len cap0 len1 cap1 l m X (HSb.out.kept hX) (HSc.out.kept hX) (by rw [HLN.out]; have := HLB.out; omega))
      have HINT := hid (show ∀ X, Below wr.heap.size wr X → Calls Tryd.prog 14 #[.slice (some ⟨wa.heap.size, 0, none⟩) (l.length + 80) (l.length + 80), .slice a0 len cap0, .int .u8 165] X fun e w' => e = .returned (.bool true) ∧ Below X.heap.size X w' from fun X hX => intact_any wa.heap.size a0 len cap0 l 165 X ((HF.out.kept HQ.out.1).kept hX) (HSb.out.kept hX) (by have := HLB.out; omega))
      have HKN := hid (show ∀ X, Below wr.heap.size wr X → Calls Tryd.prog 15 #[] X fun e w' => e = .returned (.bool true) ∧ Below X.heap.size X w' from fun X hX => known8 X ((HG.out.kept HBQ.out).kept hX))
      obtain ⟨BL, hBL⟩ : ∃ x : ByteArray, x = ⟨l.toArray⟩ := ⟨_, rfl⟩
      obtain ⟨BM, hBM⟩ : ∃ x : ByteArray, x = ⟨m.toArray⟩ := ⟨_, rfl⟩
      have hc1 : (convert 22 9 (.slice a0 len cap0)).run Tryd.prog wr.drew = .ok (.string BL) wr.drew := by rw [hBL]; exact (HSb.out.kept (Below.refl _ wr).drew).string (P := Tryd.prog) Tryd.underlying22 Tryd.underlying5 Tryd.underlying9
      have hc2 : (convert 22 9 (.slice a1 len1 cap1)).run Tryd.prog wr.drew = .ok (.string BM) wr.drew := by rw [hBM]; exact (HSc.out.kept (Below.refl _ wr).drew).string (P := Tryd.prog) Tryd.underlying22 Tryd.underlying5 Tryd.underlying9
      have hqe : (BL.toList == BM.toList) = q := by
        rw [hq, hBL, hBM, ByteArray.toList_eq, ByteArray.toList_eq]
        by_cases h : l = m <;> simp [h]
      clear hBL hBM hq HQ HSb HSc hi4 hlt HF HS HS1
      have HK0 := hid (show (fun wx : World => Below wr.heap.size wr wx) wr.drew from (Below.refl _ wr).drew)
      have HK1 := hid (fun (X Y : World) (hb : Below X.heap.size X Y) (h0 : Below wr.heap.size wr X) => (show (fun wx : World => Below wr.heap.size wr wx) Y from below2 h0 hb))
      go_wp2_with fail
      go_region_held (fun wx : World => Below wr.heap.size wr wx)
        (first | exact HK0.out | assumption | exact HK1.out _ _ (by assumption) (by assumption))
        (first
          | (go_at_call 13; refine (HSAME.out _ (by assumption)).mono ?_; rintro e x1 ⟨rfl, rfl⟩)
          | (go_at_call 14; refine (HINT.out _ (by assumption)).mono ?_; rintro e x2 ⟨rfl, hx2⟩)
          | (go_at_call 15; refine (HKN.out _ (by assumption)).mono ?_; rintro e x3 ⟨rfl, hx3⟩))
      all_goals
        go_wp2_with fail
        go_ret
        exact ⟨rfl, below2 HBQ.out (by assumption)⟩

end Go.Proofs.YtbdlicomkpnalaaDoor
