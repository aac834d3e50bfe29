/-
  The walks of the document's own Text and Values of chapter 10.
-/
import Derived.Test.YtplabofdcnpcpaaZAy
import Derived.Test.YtplabofdcnpcpaaZAj
import Derived.Test.YtplabofdcnpcpaaZAn
set_option linter.unusedSimpArgs false
set_option linter.unusedVariables false
namespace Go.Proofs.Ytplabofdcnpcpaa
open Go.RowKit

theorem app_l10 (a b : ByteArray) : (a ++ b).data.toList = a.data.toList ++ b.data.toList := by simp

set_option maxHeartbeats 8000000 in
set_option maxRecDepth 100000 in
theorem rtext10 (v : Value) (rp : Bool) (L : List Ru) (w : World) (hv : PoAt w v L) (hl : L.length ≤ 1000) (hbk : bulkP L ≤ 1000000) :
    Calls Try.prog 21 #[.agg #[v, .bool rp]] w fun e w' => e = .returned (.string ⟨(txP L).toArray⟩) ∧ Below w.heap.size w w' := by
  obtain ⟨a1, c1, rfl, hc1, hm1, _⟩ := hv.view
  obtain ⟨n, hn⟩ : ∃ n, n = L.length := ⟨_, rfl⟩
  have HN := hid hn
  have HBK := hid hbk
  obtain ⟨W0, hW0⟩ : ∃ W, W = w.alloc (.cells #[.slice a1 n c1, .bool rp] 41) := ⟨_, rfl⟩
  have hb0 : Below w.heap.size w W0 := by rw [hW0]; exact (Below.refl _ w).alloc (Nat.le_refl _) _
  have HM0 := hid (show W0.heap[w.heap.size]? = some (.cells #[.slice a1 n c1, .bool rp] 41 (0, 0)) by rw [hW0]; exact heap_alloc_new w _)
  have HB0 := hid hb0
  have HV := hid (hv.kept hb0)
  have HW0 := hid hW0
  rw [← hn] at hl hc1 HV ⊢
  clear hn hv hbk hW0 hb0
  go_enter Try.func21, Try.ntmps21
  go_wp2_with fail
  rw [← HW0.out]
  clear HW0
  go_loopw [3, 4] (fun v3 v4 wr => ∃ (S : ByteArray) (k : Nat), k ≤ n ∧ v3 = .string S ∧ v4 = .int .i64 k ∧ S.size ≤ 1000000 ∧ Hid (S.data.toList = txP (L.take k) ∧ Below W0.heap.size W0 wr)) (fun _ v4 _ => n - (intOf v4).toNat)
  case atStart => exact ⟨⟨#[]⟩, 0, Nat.zero_le _, rfl, rfl, by decide, rfl, Below.refl _ _⟩
  case round =>
    obtain ⟨S, k, hk, rfl, rfl, hS, HR⟩ := hrel
    have d0 : wr.cell? ⟨w.heap.size, 0, none⟩ = some (.slice a1 n c1) := by rw [Lib.cell_of_heap (row_kept HM0.out HR.out.2)]; rfl
    by_cases hlt : k < n
    · have hkL : k < L.length := by have := HN.out; omega
      obtain ⟨a', c', ea, q3, q4, hvw⟩ := HV.out.view
      injection ea with ea1 ea2 ea3
      clear ea2 ea3 q3 q4
      subst ea1
      obtain ⟨b, off, u, rfl, hnm, hu, htx⟩ := hvw k hkL
      obtain ⟨VS, hVS⟩ : ∃ VS, VS = L[k].vals := ⟨_, rfl⟩
      rw [← hVS] at htx
      have HTX := hid htx
      obtain ⟨ua, uc, rfl, q5⟩ := htx
      obtain ⟨un, hun⟩ : ∃ un, un = VS.length := ⟨_, rfl⟩
      have HUN := hid hun
      rw [← hun] at hu HTX
      obtain ⟨N, hN⟩ : ∃ N : ByteArray, N = ⟨L[k].name.toArray⟩ := ⟨_, rfl⟩
      rw [← hN] at hnm
      have HC := hid (show ∀ Z, Below W0.heap.size W0 Z → Z.cell? ⟨w.heap.size, 0, none⟩ = some (.slice (some ⟨b, off, none⟩) n c1) ∧ Z.cell? ⟨b, off + k * 2, none⟩ = some (.string N) ∧ Z.cell? ⟨b, off + k * 2 + 1, none⟩ = some (.slice ua un uc) from fun Z hZ => ⟨by rw [Lib.cell_of_heap (row_kept HM0.out hZ)]; rfl, kept_cell hnm hZ, kept_cell hu hZ⟩)
      have htr : txR L[k] = N.data.toList ++ VS.flatMap fun v => 32 :: v := by unfold txR; rw [hN, hVS]
      have hbm := bulk_mem L k hkL
      rw [htr, List.length_append, ← Lib.size_eq] at hbm
      have hNz : N.size ≤ 1000000 := by have := HBK.out; omega
      have HVB := hid (fun j => (show ((VS.take j).flatMap fun v => (32 : UInt8) :: v).length ≤ 1000000 by have := vals_take VS j; have := HBK.out; omega))
      have hunb : un ≤ 1000000 := by have := vals_many VS; have := HBK.out; omega
      have HSN0 := hid (show txP (L.take (k + 1)) = txP (L.take k) ++ (if k = 0 then [] else [59, 32]) ++ (N.data.toList ++ VS.flatMap fun v => 32 :: v) by
        rw [List.take_succ_eq_append_getElem hkL, txP_snoc, ← htr]
        congr 2
        by_cases hk0 : k = 0
        · subst hk0; simp
        · have : L.take k ≠ [] := by intro e; have h7 := congrArg List.length e; rw [List.length_take, List.length_nil] at h7; omega
          rw [if_neg this, if_neg hk0])
      have HTL := hid (show (txP (L.take (k + 1))).length ≤ 1000000 by have := txP_len (L.take (k + 1)); have := bulk_take L (k + 1); have := HBK.out; omega)
      have hin : (k : Int) < (n : Int) := by omega
      obtain ⟨d0, d1, d2⟩ := HC.out wr HR.out.2
      clear hvw q5 hnm hu hun hVS hN htr hbm hkL
      by_cases hk0 : k = 0
      · have HSN := hid (show txP (L.take (k + 1)) = S.data.toList ++ N.data.toList ++ VS.flatMap fun v => 32 :: v by rw [HSN0.out, if_pos hk0, HR.out.1]; simp)
        have hk0' : ¬ ((0 : Int) < (k : Int)) := by omega
        have hk0n : ¬ (0 < k) := by omega
        obtain ⟨S1, hS1⟩ : ∃ T, T = S := ⟨_, rfl⟩
        have hS1z : S1.size ≤ 1000002 := by rw [hS1]; omega
        have HS1 := hid hS1
        clear HSN0 hk0
        go_wp2_with fail
        rw [← hS1] at HSN ⊢
        clear hS1
        go_loopw [3, 5] (fun v3 v5 wq => ∃ (T : ByteArray) (j : Nat), j ≤ un ∧ v3 = .string T ∧ v5 = .int .i64 j ∧ T.size ≤ 4000000 ∧ Hid (T.data.toList = S1.data.toList ++ N.data.toList ++ (VS.take j).flatMap (fun v => 32 :: v) ∧ Below W0.heap.size W0 wq)) (fun _ v5 _ => un - (intOf v5).toNat)
        case atStart => exact ⟨S1 ++ N, 0, Nat.zero_le _, rfl, rfl, by rw [ByteArray.size_append]; omega, (by simp), HR.out.2⟩
        case round =>
          clear d0 d1 d2
          obtain ⟨T, j, hj, rfl, rfl, hTz, HJ⟩ := hrel
          obtain ⟨d0, d1, d2⟩ := HC.out wr HJ.out.2
          by_cases hjl : j < un
          · have hjV : j < VS.length := by have := HUN.out; omega
            obtain ⟨ua', uc', eu, q1, q2, hcell⟩ := HTX.out.view
            injection eu with eu1 eu2 eu3
            clear eu2 eu3 q1 q2
            subst eu1
            obtain ⟨bv, ov, rfl, hcv⟩ := hcell j hjV
            obtain ⟨X, hX⟩ : ∃ X : ByteArray, X = ⟨VS[j].toArray⟩ := ⟨_, rfl⟩
            rw [← hX] at hcv
            have cX := kept_cell hcv HJ.out.2
            have HXL := hid (show (VS.take (j + 1)).flatMap (fun v => 32 :: v) = (VS.take j).flatMap (fun v => 32 :: v) ++ [32] ++ X.data.toList by
              rw [List.take_succ_eq_append_getElem hjV, List.flatMap_append, hX]; simp)
            have HT2 := hid (show (T ++ (⟨#[32]⟩ : ByteArray) ++ X).data.toList = S1.data.toList ++ N.data.toList ++ (VS.take (j + 1)).flatMap (fun v => 32 :: v) by
              rw [HXL.out, app_l10, app_l10, HJ.out.1]; simp)
            have hz1 : (⟨#[32]⟩ : ByteArray).size = 1 := rfl
            have hXz : X.size ≤ 1000000 := by
              have h1 := HVB.out (j + 1)
              rw [HXL.out] at h1
              rw [Lib.size_eq]
              simp only [List.length_append] at h1
              omega
            have HTZ := hid (show (T ++ (⟨#[32]⟩ : ByteArray) ++ X).size ≤ 4000000 by
              rw [Lib.size_eq, HT2.out]
              have h1 := HVB.out (j + 1)
              simp only [List.length_append, ← Lib.size_eq]
              omega)
            have hin2 : (j : Int) < (un : Int) := by omega
            clear hcell hjV hX hcv
            go_wp2_with fail
            go_roundw
            case rel =>
              first
                | exact ⟨_, j + 1, by omega, rfl, by go_num, HTZ.out, HT2.out, HJ.out.2⟩
                | ((repeat apply Exists.intro); refine ⟨?_, rfl⟩; exact ⟨_, j + 1, by omega, rfl, by go_num, HTZ.out, HT2.out, HJ.out.2⟩)
                | ((repeat apply Exists.intro); exact ⟨⟨_, j + 1, by omega, rfl, by go_num, HTZ.out, HT2.out, HJ.out.2⟩, rfl⟩)
            case measure => simp [intOf]; omega
          · obtain rfl : j = un := by omega
            have HF := hid (show T.data.toList = txP (L.take (k + 1)) ∧ Below W0.heap.size W0 wr by
              have h := HJ.out
              rw [List.take_of_length_le (by have := HUN.out; omega)] at h
              exact ⟨by rw [HSN.out]; exact h.1, h.2⟩)
            have HTZ := hid (show T.size ≤ 1000000 by rw [Lib.size_eq, HF.out.1]; exact HTL.out)
            have hng : ¬ ((j : Int) < (j : Int)) := by omega
            clear hj hjl HJ
            go_wp2_with fail
            go_roundw
            case rel =>
              first
                | exact ⟨T, k + 1, by omega, rfl, by go_num, HTZ.out, HF.out⟩
                | ((repeat apply Exists.intro); refine ⟨?_, rfl⟩; exact ⟨T, k + 1, by omega, rfl, by go_num, HTZ.out, HF.out⟩)
                | ((repeat apply Exists.intro); exact ⟨⟨T, k + 1, by omega, rfl, by go_num, HTZ.out, HF.out⟩, rfl⟩)
            case measure => simp [intOf]; omega
      · have HSN := hid (show txP (L.take (k + 1)) = (S ++ (⟨#[59, 32]⟩ : ByteArray)).data.toList ++ N.data.toList ++ VS.flatMap fun v => 32 :: v by rw [HSN0.out, if_neg hk0, ← HR.out.1]; simp)
        have hk0' : (0 : Int) < (k : Int) := by omega
        have hk0n : 0 < k := by omega
        have hz2 : (⟨#[59, 32]⟩ : ByteArray).size = 2 := rfl
        clear HSN0 hk0
        go_wp2_with fail
        obtain ⟨S1, hS1⟩ : ∃ T, T = S ++ (⟨#[59, 32]⟩ : ByteArray) := ⟨_, rfl⟩
        have hS1z : S1.size ≤ 1000002 := by rw [hS1, ByteArray.size_append]; omega
        rw [← hS1] at HSN ⊢
        clear hS1
        go_loopw [3, 5] (fun v3 v5 wq => ∃ (T : ByteArray) (j : Nat), j ≤ un ∧ v3 = .string T ∧ v5 = .int .i64 j ∧ T.size ≤ 4000000 ∧ Hid (T.data.toList = S1.data.toList ++ N.data.toList ++ (VS.take j).flatMap (fun v => 32 :: v) ∧ Below W0.heap.size W0 wq)) (fun _ v5 _ => un - (intOf v5).toNat)
        case atStart => exact ⟨S1 ++ N, 0, Nat.zero_le _, rfl, rfl, by rw [ByteArray.size_append]; omega, (by simp), HR.out.2⟩
        case round =>
          clear d0 d1 d2
          obtain ⟨T, j, hj, rfl, rfl, hTz, HJ⟩ := hrel
          obtain ⟨d0, d1, d2⟩ := HC.out wr HJ.out.2
          by_cases hjl : j < un
          · have hjV : j < VS.length := by have := HUN.out; omega
            obtain ⟨ua', uc', eu, q1, q2, hcell⟩ := HTX.out.view
            injection eu with eu1 eu2 eu3
            clear eu2 eu3 q1 q2
            subst eu1
            obtain ⟨bv, ov, rfl, hcv⟩ := hcell j hjV
            obtain ⟨X, hX⟩ : ∃ X : ByteArray, X = ⟨VS[j].toArray⟩ := ⟨_, rfl⟩
            rw [← hX] at hcv
            have cX := kept_cell hcv HJ.out.2
            have HXL := hid (show (VS.take (j + 1)).flatMap (fun v => 32 :: v) = (VS.take j).flatMap (fun v => 32 :: v) ++ [32] ++ X.data.toList by
              rw [List.take_succ_eq_append_getElem hjV, List.flatMap_append, hX]; simp)
            have HT2 := hid (show (T ++ (⟨#[32]⟩ : ByteArray) ++ X).data.toList = S1.data.toList ++ N.data.toList ++ (VS.take (j + 1)).flatMap (fun v => 32 :: v) by
              rw [HXL.out, app_l10, app_l10, HJ.out.1]; simp)
            have hz1 : (⟨#[32]⟩ : ByteArray).size = 1 := rfl
            have hXz : X.size ≤ 1000000 := by
              have h1 := HVB.out (j + 1)
              rw [HXL.out] at h1
              rw [Lib.size_eq]
              simp only [List.length_append] at h1
              omega
            have HTZ := hid (show (T ++ (⟨#[32]⟩ : ByteArray) ++ X).size ≤ 4000000 by
              rw [Lib.size_eq, HT2.out]
              have h1 := HVB.out (j + 1)
              simp only [List.length_append, ← Lib.size_eq]
              omega)
            have hin2 : (j : Int) < (un : Int) := by omega
            clear hcell hjV hX hcv
            go_wp2_with fail
            go_roundw
            case rel =>
              first
                | exact ⟨_, j + 1, by omega, rfl, by go_num, HTZ.out, HT2.out, HJ.out.2⟩
                | ((repeat apply Exists.intro); refine ⟨?_, rfl⟩; exact ⟨_, j + 1, by omega, rfl, by go_num, HTZ.out, HT2.out, HJ.out.2⟩)
                | ((repeat apply Exists.intro); exact ⟨⟨_, j + 1, by omega, rfl, by go_num, HTZ.out, HT2.out, HJ.out.2⟩, rfl⟩)
            case measure => simp [intOf]; omega
          · obtain rfl : j = un := by omega
            have HF := hid (show T.data.toList = txP (L.take (k + 1)) ∧ Below W0.heap.size W0 wr by
              have h := HJ.out
              rw [List.take_of_length_le (by have := HUN.out; omega)] at h
              exact ⟨by rw [HSN.out]; exact h.1, h.2⟩)
            have HTZ := hid (show T.size ≤ 1000000 by rw [Lib.size_eq, HF.out.1]; exact HTL.out)
            have hng : ¬ ((j : Int) < (j : Int)) := by omega
            clear hj hjl HJ
            go_wp2_with fail
            go_roundw
            case rel =>
              first
                | exact ⟨T, k + 1, by omega, rfl, by go_num, HTZ.out, HF.out⟩
                | ((repeat apply Exists.intro); refine ⟨?_, rfl⟩; exact ⟨T, k + 1, by omega, rfl, by go_num, HTZ.out, HF.out⟩)
                | ((repeat apply Exists.intro); exact ⟨⟨T, k + 1, by omega, rfl, by go_num, HTZ.out, HF.out⟩, rfl⟩)
            case measure => simp [intOf]; omega
    · obtain rfl : k = n := by omega
      have hng : ¬ ((k : Int) < (k : Int)) := by omega
      have HF := hid (show S = ⟨(txP L).toArray⟩ by
        have h := HR.out.1
        rw [List.take_of_length_le (by have := HN.out; omega)] at h
        exact ba_ext10 h)
      clear hk hlt
      go_wp2_with fail
      go_ret
      rw [HF.out]
      exact ⟨rfl, below2 HB0.out HR.out.2⟩

end Go.Proofs.Ytplabofdcnpcpaa
