/-
  The walk of the law PolicyParses.
-/
import Derived.Test.YtplabofdcnpcpaaZAzg
import Derived.Deep.RegionHeld
import Derived.BigRegion
set_option linter.unusedSimpArgs false
set_option linter.unusedVariables false
namespace Go.Proofs.Ytplabofdcnpcpaa
open Go.RowKit

theorem names4_tx (w : World) (s : ByteArray) : TxAt (w.alloc (.cells #[.string s, .string ⟨(forV 2).toArray⟩, .string ⟨(forV 6).toArray⟩, .string ⟨(forV 4).toArray⟩] 9)) (.slice (some ⟨w.heap.size, 0, none⟩) 4 4) [s.data.toList, forV 2, forV 6, forV 4] := by
  refine ⟨_, 4, rfl, Nat.le_refl _, by decide, fun j hj => ⟨_, _, rfl, ?_⟩⟩
  rw [Lib.cell_of_heap (heap_alloc_new w _), Nat.zero_add]
  match j, hj with
  | 0, _ => show _ = some (Value.string ⟨s.data.toList.toArray⟩); rw [Lib.mk_data]; rfl
  | 1, _ => rfl
  | 2, _ => rfl
  | 3, _ => rfl
  | j + 4, hj => exact absurd hj (by simp)

set_option maxHeartbeats 8000000 in
set_option maxRecDepth 100000 in
theorem policyParses_walk (s0 : ByteArray) (rp : Bool) (vH : Value) (LH : List Hd) (s3 : ByteArray) (w : World) (hs0 : s0.size ≤ 9223372036854775807) (hH : HdAt w vH LH) (hHz : Szd maxLen LH) (hs3 : s3.size ≤ 9223372036854775807) :
    Calls Try.prog 4 #[.string s0, .bool rp, vH, .string s3] w fun e w' => e = .returned (.bool true) ∧ Below w.heap.size w w' := by
  have HF := hid (few10 s0 800 w (by decide) hs0)
  obtain ⟨s, hs⟩ : ∃ s : ByteArray, s = ⟨(s0.data.toList.take 800).toArray⟩ := ⟨_, rfl⟩
  have hsz : s.size ≤ 800 := by rw [Lib.size_eq, hs]; simp; omega
  rw [← hs] at HF
  obtain ⟨L, hL⟩ : ∃ L, L = polV s.data.toList := ⟨_, rfl⟩
  have hn32 : L.length ≤ 32 := by rw [hL]; exact polV_len _
  have HBK := hid (show bulkP L ≤ 1000000 by rw [hL]; have := polV_bulk s.data.toList; rw [← Lib.size_eq] at this; omega)
  have HZ := hid (show ∀ r ∈ L, r.vals.length ≤ 1000000 by
    intro r hr
    rw [hL] at hr
    have := (polV_sz s.data.toList r hr).2.1
    rw [← Lib.size_eq] at this
    omega)
  have HP1 := hid (fun X => parseP s rp L X (by omega) hL.symm)
  have HP2 := hid (fun X => rparseP s rp L X (by omega) hL.symm)
  have HT1 := hid (fun v X (hv : PoAt X v L) => text10 v rp L X hv (by omega) HBK.out)
  have HT2 := hid (fun v X (hv : PoAt X v L) => rtext10 v rp L X hv (by omega) HBK.out)
  obtain ⟨T, hT⟩ : ∃ T : ByteArray, T = ⟨(txP L).toArray⟩ := ⟨_, rfl⟩
  rw [← hT] at HT1 HT2
  have HSM := hid (fun v1 v2 X (h1 : PoAt X v1 L) (h2 : PoAt X v2 L) => lsame10 v1 v2 rp L X h1 h2 (by omega) HZ.out)
  have HV1 := hid (fun v t X (hv : PoAt X v L) => valsU v rp L t X hv (by omega) HZ.out)
  have HV2 := hid (fun v t X (hv : PoAt X v L) => rvalsU v rp L t X hv (by omega))
  -- the headers
  have HFH := hid (fewHeaders_any vH LH 10 300 w hH hHz (by decide) (by decide))
  unfold HdPost at HFH
  obtain ⟨M, hM⟩ : ∃ M, M = fewH LH 10 300 := ⟨_, rfl⟩
  have HMB := hid (show bulkV M ≤ 1000000 by rw [hM]; have := bulk_few LH; omega)
  have HML := hid (show M.length ≤ 10 by rw [hM]; exact fewH_len _ _ _)
  have HMZ := hid (show Szd 300 M by rw [hM]; exact fewH_szd _ _ _)
  rw [← hM] at HFH
  obtain ⟨FP, hFP⟩ : ∃ F, F = fromV M := ⟨_, rfl⟩
  have HFL := hid (show FP.length ≤ 2000002 by rw [hFP]; exact from_len M HMB.out)
  have HFM := hid (show ∀ x ∈ FP, x.1.length ≤ 32 ∧ ∀ r ∈ x.1, r.vals.length ≤ 1000000 by rw [hFP]; exact fun x hx => from_mem HMB.out hx)
  have HF1 := hid (fun v X (hv : HdAt X v M) => fromP v M FP X hv (fun h hh => by have := HMZ.out h hh; omega) (by have := HML.out; omega) HMB.out hFP.symm)
  have HF2 := hid (fun v X (hv : HdAt X v M) => rfromP v M FP X hv (fun h hh => by have := HMZ.out h hh; omega) (by have := HML.out; omega) HMB.out hFP.symm)
  have HFO := hid (fun d X => for10 d X)
  obtain ⟨va, vc, hve, _, _, _⟩ := hH.view
  obtain ⟨vl, hvl⟩ : ∃ vl, vl = LH.length := ⟨_, rfl⟩
  rw [← hvl] at hve
  subst hve
  obtain ⟨n, hn⟩ : ∃ n, n = L.length := ⟨_, rfl⟩
  have HN := hid hn
  rw [← hn] at HP1 HP2 hn32
  obtain ⟨fn, hfn⟩ : ∃ n, n = FP.length := ⟨_, rfl⟩
  have HFN := hid hfn
  have hfnb : fn ≤ 2000002 := by rw [hfn]; exact HFL.out
  rw [← hfn] at HF1 HF2
  clear hs hL hT hM hFP hH hHz hvl hn hfn hs0
  go_enter Try.func4, Try.ntmps4
  go_wp2_with fail
  refine HF.out.mono ?_
  rintro e wz ⟨rfl, rfl⟩
  go_wp2_with fail
  refine HFH.out.mono ?_
  rintro e w1 ⟨vM, rfl, hownM, hb1⟩
  obtain ⟨ma, mc, rfl, hmc, hmm⟩ := own_form hownM
  have HHM := hid (own_hd hownM)
  have HB1 := hid hb1
  clear hownM hb1 HFH HF
  go_wp2_with fail
  refine (HP1.out _).mono ?_
  rintro e w2 ⟨a1, c1, rfl, ⟨g1, g2, hpo⟩, hb2⟩
  have hb3 := (Below.refl _ w2).alloc (Nat.le_refl _) (.cells #[.slice a1 n c1, .bool rp] 33)
  have HPO := hid (hpo.kept hb3)
  have HM1 := hid (heap_alloc_new w2 (.cells #[.slice a1 n c1, .bool rp] 33))
  have HB3 := hid (below2 HB1.out (below2 hb2 hb3))
  have HH3 := hid (HHM.out.kept (below2 hb2 hb3))
  clear hpo hb2 hb3 HP1 HHM HB1
  go_wp2_with fail
  refine (HP2.out _).mono ?_
  rintro e w4 ⟨a2, c2, rfl, ⟨g3, g4, hpo⟩, hb4⟩
  have hb5 := (Below.refl _ w4).alloc (Nat.le_refl _) (.cells #[.slice a2 n c2, .bool rp] 41)
  have HQO := hid (hpo.kept hb5)
  have HM2 := hid (heap_alloc_new w4 (.cells #[.slice a2 n c2, .bool rp] 41))
  have HPO5 := hid (HPO.out.kept (below2 hb4 hb5))
  have HM15 := hid (row_kept HM1.out (below2 hb4 hb5))
  have HB5 := hid (below2 HB3.out (below2 hb4 hb5))
  have HH5 := hid (HH3.out.kept (below2 hb4 hb5))
  obtain ⟨W5, hW5⟩ : ∃ W, W = w4.alloc (.cells #[.slice a2 n c2, .bool rp] 41) := ⟨_, rfl⟩
  rw [← hW5] at HQO HM2 HPO5 HM15 HB5 HH5
  have HC5 := hid (show ∀ Z, Below W5.heap.size W5 Z → Z.cell? ⟨w2.heap.size, 0, none⟩ = some (.slice a1 n c1) ∧ Z.cell? ⟨w2.heap.size, 1, none⟩ = some (.bool rp) ∧ Z.cell? ⟨w4.heap.size, 0, none⟩ = some (.slice a2 n c2) ∧ Z.cell? ⟨w4.heap.size, 1, none⟩ = some (.bool rp) from fun Z hZ => ⟨by rw [Lib.cell_of_heap (row_kept HM15.out hZ)]; rfl, by rw [Lib.cell_of_heap (row_kept HM15.out hZ)]; rfl, by rw [Lib.cell_of_heap (row_kept HM2.out hZ)]; rfl, by rw [Lib.cell_of_heap (row_kept HM2.out hZ)]; rfl⟩)
  clear hpo hb4 hb5 HP2 HPO HM1 HB3 HH3
  obtain ⟨d0, d1, d2, d3⟩ := HC5.out W5 (Below.refl _ _)
  have HS5 := hid (fun X (hX : Below W5.heap.size W5 X) => HSM.out (.slice a1 n c1) (.slice a2 n c2) X (HPO5.out.kept hX) (HQO.out.kept hX))
  have HT15 := hid (fun X (hX : Below W5.heap.size W5 X) => HT1.out (.slice a1 n c1) X (HPO5.out.kept hX))
  have HT25 := hid (fun X (hX : Below W5.heap.size W5 X) => HT2.out (.slice a2 n c2) X (HQO.out.kept hX))
  go_wp2_with fail
  rw [← hW5]
  clear hW5
  have HK1 := hid (fun (X Y : World) (hb : Below X.heap.size X Y) (h0 : Below W5.heap.size W5 X) => (show (fun wx : World => Below W5.heap.size W5 wx ∧ wx.cell? ⟨w2.heap.size, 0, none⟩ = some (.slice a1 n c1) ∧ wx.cell? ⟨w2.heap.size, 1, none⟩ = some (.bool rp) ∧ wx.cell? ⟨w4.heap.size, 0, none⟩ = some (.slice a2 n c2) ∧ wx.cell? ⟨w4.heap.size, 1, none⟩ = some (.bool rp)) Y from let h := h0.trans (hb.mono h0.size); ⟨h, HC5.out Y h⟩))
  have HK0 := hid (show (fun wx : World => Below W5.heap.size W5 wx ∧ wx.cell? ⟨w2.heap.size, 0, none⟩ = some (.slice a1 n c1) ∧ wx.cell? ⟨w2.heap.size, 1, none⟩ = some (.bool rp) ∧ wx.cell? ⟨w4.heap.size, 0, none⟩ = some (.slice a2 n c2) ∧ wx.cell? ⟨w4.heap.size, 1, none⟩ = some (.bool rp)) W5.drew from let h := (Below.refl _ W5).drew; ⟨h, HC5.out _ h⟩)
  go_region_held (fun wx : World => Below W5.heap.size W5 wx ∧ wx.cell? ⟨w2.heap.size, 0, none⟩ = some (.slice a1 n c1) ∧ wx.cell? ⟨w2.heap.size, 1, none⟩ = some (.bool rp) ∧ wx.cell? ⟨w4.heap.size, 0, none⟩ = some (.slice a2 n c2) ∧ wx.cell? ⟨w4.heap.size, 1, none⟩ = some (.bool rp))
    (first | exact HK0.out | exact HK1.out _ _ (by assumption) (by (try dsimp only at *); go_split_ands; assumption) | (go_split_ands; exact ⟨by assumption, by assumption, by assumption, by assumption, by assumption⟩))
    (first
      | (go_at_call 20; refine (HS5.out _ (by (try dsimp only at *); go_split_ands; assumption)).mono ?_; rintro e wa ⟨rfl, hba⟩)
      | (go_at_call 15; refine (HT15.out _ (by (try dsimp only at *); go_split_ands; assumption)).mono ?_; rintro e wb ⟨rfl, hbb⟩)
      | (go_at_call 21; refine (HT25.out _ (by (try dsimp only at *); go_split_ands; assumption)).mono ?_; rintro e wc ⟨rfl, hbc⟩))
  all_goals
    (try dsimp only at *)
    go_split_ands
    have hbw : Below W5.heap.size W5 wc := by assumption
    have HB6 := hid hbw
    have HF6 := hid (HFO.out 6)
    have HF4 := hid (HFO.out 4)
    have HFq := hid (HFO.out 2)
    obtain ⟨F2, hF2⟩ : ∃ F : ByteArray, F = ⟨(forV 2).toArray⟩ := ⟨_, rfl⟩
    obtain ⟨F6, hF6⟩ : ∃ F : ByteArray, F = ⟨(forV 6).toArray⟩ := ⟨_, rfl⟩
    obtain ⟨F4, hF4⟩ : ∃ F : ByteArray, F = ⟨(forV 4).toArray⟩ := ⟨_, rfl⟩
    have HTN := hid (names4_tx wc s3)
    rw [← hF2, ← hF6, ← hF4] at HTN
    rw [← hF2] at HFq
    rw [← hF6] at HF6
    rw [← hF4] at HF4
    obtain ⟨NL, hNL⟩ : ∃ N, N = [s3.data.toList, forV 2, forV 6, forV 4] := ⟨_, rfl⟩
    have HNL4 := hid (show NL.length = 4 by rw [hNL]; rfl)
    rw [← hNL] at HTN
    obtain ⟨W7, hW7⟩ : ∃ W, W = wc.alloc (.cells #[.string s3, .string F2, .string F6, .string F4] 9) := ⟨_, rfl⟩
    have HB7 := hid (show Below W5.heap.size W5 W7 by rw [hW7]; exact below2 hbw ((Below.refl _ wc).alloc (Nat.le_refl _) _))
    rw [← hW7] at HTN
    have HW7 := hid hW7
    clear d0 d1 d2 d3 hbw HK0 HK1 HS5 HT15 HT25 hF2 hF6 hF4 hNL hW7 HFO
    go_wp2_with fail
    refine (HFq.out _).mono ?_
    rintro e wz ⟨rfl, rfl⟩
    go_wp2_with fail
    refine (HF6.out _).mono ?_
    rintro e wz ⟨rfl, rfl⟩
    go_wp2_with fail
    refine (HF4.out _).mono ?_
    rintro e wz ⟨rfl, rfl⟩
    go_wp2_with fail
    rw [← HW7.out]
    clear HW7 HFq HF6 HF4
    go_loopw [12] (fun v12 wr => ∃ i : Nat, i ≤ 4 ∧ v12 = .int .i64 i ∧ Hid (Below W7.heap.size W7 wr)) (fun v12 _ => 4 - (intOf v12).toNat)
    case atStart => exact ⟨0, by decide, rfl, Below.refl _ _⟩
    case round =>
      obtain ⟨i, hi, rfl, HR⟩ := hrel
      have HBR := hid (below2 HB7.out HR.out)
      by_cases hlt : i < 4
      · have hiI : (i : Int) < 4 := by omega
        have hiN : i < NL.length := by have := HNL4.out; omega
        obtain ⟨ca, cc, eca, q1, q2, hcell⟩ := HTN.out.view
        injection eca with eca1 eca2 eca3
        clear eca2 eca3 q1 q2
        subst eca1
        obtain ⟨bc, oc, eb, hcl⟩ := hcell i hiN
        injection eb with eb
        injection eb with eb1 eb2
        subst eb1 eb2
        obtain ⟨X, hX⟩ : ∃ X : ByteArray, X = ⟨NL[i].toArray⟩ := ⟨_, rfl⟩
        rw [← hX, Nat.zero_add] at hcl
        have HCL := hid hcl
        obtain ⟨VS, hVS⟩ : ∃ V, V = oVs (valsV L X.data.toList) := ⟨_, rfl⟩
        obtain ⟨NM, hNM⟩ : ∃ V : ByteArray, V = ⟨(oNm (valsV L X.data.toList)).toArray⟩ := ⟨_, rfl⟩
        obtain ⟨bb, hbb⟩ : ∃ b, b = oIs (valsV L X.data.toList) := ⟨_, rfl⟩
        have HVZ := hid (show VS.length ≤ 1000000 by rw [hVS]; exact oVs_len HZ.out)
        have HVa := hid (fun Z (hZ : Below W5.heap.size W5 Z) => HV1.out (.slice a1 n c1) X Z (HPO5.out.kept hZ))
        have HVb := hid (fun Z (hZ : Below W5.heap.size W5 Z) => HV2.out (.slice a2 n c2) X Z (HQO.out.kept hZ))
        rw [← hVS, ← hNM, ← hbb] at HVa HVb
        obtain ⟨vn, hvn⟩ : ∃ n, n = VS.length := ⟨_, rfl⟩
        rw [← hvn] at HVa HVb
        have HVN := hid hvn
        obtain ⟨d0, d1, d2, d3⟩ := HC5.out wr HBR.out
        have cX := kept_cell HCL.out HR.out
        clear hcell hiN hX hcl hVS hNM hbb hvn
        go_wp2_with fail
        go_region_with (first | (go_at_call 22; refine (HVa.out _ (HBR.out.drew)).mono ?_; rintro e wa ⟨ua, uc, rfl, htxa, hba⟩))
        all_goals
          have hbra : Below wr.heap.size wr wa := (Below.refl _ wr).drew.trans hba
          have HBA := hid (below2 HBR.out hbra)
          have HTA := hid htxa
          obtain ⟨d0, d1, d2, d3⟩ := HC5.out wa HBA.out
          have cXa := kept_cell cX hbra
          have HRA := hid (below2 HR.out hbra)
          clear htxa hba hbra
          go_wp2_with fail
          go_region_with (first | (go_at_call 23; refine (HVb.out _ (HBA.out.drew)).mono ?_; rintro e wb ⟨ub, ud, rfl, htxb, hbb⟩))
          all_goals
            have hbab : Below wa.heap.size wa wb := (Below.refl _ wa).drew.trans hbb
            have HSS := hid (sameT_any (.slice ua vn uc) (.slice ub vn ud) VS VS wb (HTA.out.kept hbab) htxb HVZ.out HVZ.out)
            rw [show decide (VS = VS) = true by simp] at HSS
            have HRB := hid (below2 HRA.out hbab)
            clear htxb hbb hbab d0 d1 d2 d3 cXa
            go_wp2_with fail
            refine HSS.out.mono ?_
            rintro e wd ⟨rfl, hbd⟩
            have HRD := hid (below2 HRB.out hbd)
            clear hbd HSS
            go_wp2_with fail
            go_roundw
            case rel =>
              first
                | exact ⟨i + 1, by omega, by go_num, HRD.out⟩
                | ((repeat apply Exists.intro); refine ⟨?_, rfl⟩; exact ⟨i + 1, by omega, by go_num, HRD.out⟩)
                | ((repeat apply Exists.intro); exact ⟨⟨i + 1, by omega, by go_num, HRD.out⟩, rfl⟩)
            case measure => simp [intOf]; omega
      · obtain rfl : i = 4 := by omega
        have HH8 := hid (HH5.out.kept HBR.out)
        have HFa := hid (HF1.out _ wr HH8.out)
        have HB8 := hid (below2 HB5.out HBR.out)
        clear hi hlt
        go_wp2_with fail
        refine HFa.out.mono ?_
        rintro e w9 ⟨xa, xc, rfl, ⟨g5, g6, hplx⟩, hb9⟩
        have HFb := hid (HF2.out _ w9 (HH8.out.kept hb9))
        have HPX := hid hplx
        have HB9 := hid (below2 HB8.out hb9)
        clear hplx hb9 HFa HB8
        go_wp2_with fail
        refine HFb.out.mono ?_
        rintro e w10 ⟨ya, yc, rfl, ⟨g7, g8, hply⟩, hb10⟩
        have HPX2 := hid (HPX.out.kept hb10)
        have HPY := hid hply
        have HB10 := hid (below2 HB9.out hb10)
        clear hply hb10 HFb HB9 HPX
        go_wp2_with fail
        go_loopw [21] (fun v21 wr => ∃ i : Nat, i ≤ fn ∧ v21 = .int .i64 i ∧ Hid (Below w10.heap.size w10 wr)) (fun v21 _ => fn - (intOf v21).toNat)
        case atStart => exact ⟨0, Nat.zero_le _, rfl, Below.refl _ _⟩
        case round =>
          obtain ⟨i, hi, rfl, HJ⟩ := hrel
          by_cases hlt : i < fn
          · have hiI : (i : Int) < (fn : Int) := by omega
            have hiF : i < FP.length := by have := HFN.out; omega
            obtain ⟨xa', xc', ex, q1, q2, hcx⟩ := HPX2.out
            injection ex with ex1 ex2 ex3
            clear ex2 ex3 q1 q2
            subst ex1
            obtain ⟨bx, ox, ua, uc, rfl, f1, f2, po1⟩ := hcx i hiF
            obtain ⟨ya', yc', ey, q1, q2, hcy⟩ := HPY.out
            injection ey with ey1 ey2 ey3
            clear ey2 ey3 q1 q2
            subst ey1
            obtain ⟨by', oy, ub, ud, rfl, f3, f4, po2⟩ := hcy i hiF
            obtain ⟨LL, hLL⟩ : ∃ L, L = FP[i].1 := ⟨_, rfl⟩
            obtain ⟨fb, hfb⟩ : ∃ b, b = FP[i].2 := ⟨_, rfl⟩
            have hmem := HFM.out _ (List.getElem_mem hiF)
            rw [← hLL] at f1 f3 po1 po2 hmem
            rw [← hfb] at f2 f4
            obtain ⟨ll, hll⟩ : ∃ n, n = LL.length := ⟨_, rfl⟩
            rw [← hll] at f1 f3 po1 po2
            have h1 := kept_cell f1 HJ.out
            have h2 := kept_cell f2 HJ.out
            have h3 := kept_cell f3 HJ.out
            have h4 := kept_cell f4 HJ.out
            have HSJ := hid (fun Z (hZ : Below wr.heap.size wr Z) => lsame10 (.slice ua ll uc) (.slice ub ll ud) fb LL Z ((po1.kept HJ.out).kept hZ) ((po2.kept HJ.out).kept hZ) (by omega) hmem.2)
            clear hcx hcy f1 f2 f3 f4 po1 po2 hLL hfb hll hmem hiF
            go_wp2_with fail
            go_region_with (first | (go_at_call 20; refine (HSJ.out _ ((Below.refl _ wr).drew)).mono ?_; rintro e wa ⟨rfl, hba⟩))
            all_goals
              have HJ2 := hid (below2 HJ.out ((Below.refl _ wr).drew.trans hba))
              clear hba h1 h2 h3 h4
              go_wp2_with fail
              go_roundw
              case rel =>
                first
                  | exact ⟨i + 1, by omega, by go_num, HJ2.out⟩
                  | ((repeat apply Exists.intro); refine ⟨?_, rfl⟩; exact ⟨i + 1, by omega, by go_num, HJ2.out⟩)
                  | ((repeat apply Exists.intro); exact ⟨⟨i + 1, by omega, by go_num, HJ2.out⟩, rfl⟩)
              case measure => simp [intOf]; omega
          · obtain rfl : i = fn := by omega
            have hng : ¬ ((i : Int) < (i : Int)) := by omega
            have HKN := hid (known10 wr)
            have HB11 := hid (below2 HB10.out HJ.out)
            clear hi hlt
            go_wp2_with fail
            refine HKN.out.mono ?_
            rintro e w12 ⟨rfl, hb12⟩
            have HB12 := hid (below2 HB11.out hb12)
            clear hb12 HKN
            go_wp2_with fail
            go_ret
            exact ⟨rfl, HB12.out⟩

end Go.Proofs.Ytplabofdcnpcpaa
