/-
  The walk of the law PolicyFirst.
-/
import Derived.Test.YtplabofdcnpcpaaAn
set_option linter.unusedSimpArgs false
set_option linter.unusedVariables false
namespace Go.Proofs.Ytplabofdcnpcpaa
open Go.RowKit

theorem app_list (a b : ByteArray) : (a ++ b).data.toList = a.data.toList ++ b.data.toList := by simp

theorem valsP (v : Value) (L : List Ru) (n : List UInt8) (vs : List (List UInt8)) (nm : List UInt8) (s : ByteArray) (w : World) (hv : PoAt w v L) (hl : L.length ≤ 1000) (hz : ∀ r ∈ L, r.vals.length ≤ 1000000) (hs : s.data.toList = n) (ha : valsV L n = some (vs, nm)) :
    Calls Try.prog 22 #[.agg #[v, .bool false], .string s] w fun e w' => ∃ a c, e = .returned (.tuple #[.slice a vs.length c, .string ⟨nm.toArray⟩, .bool true]) ∧ (vs.length ≤ c ∧ c ≤ maxLen ∧ TxAt w' (.slice a vs.length c) vs) ∧ Below w.heap.size w w' := by
  have h := values10 v false L s w hv hl hz
  rw [hs, ha] at h
  refine h.mono ?_
  rintro e w' ⟨u, rfl, hown, hb⟩
  obtain ⟨a, c, rfl, h1, h2⟩ := own_form hown
  exact ⟨a, c, rfl, ⟨h1, h2, own_txt' hown⟩, hb⟩

set_option maxHeartbeats 8000000 in
set_option maxRecDepth 100000 in
theorem policyFirst_walk (s0 s1 : ByteArray) (w : World) (hs0 : s0.size ≤ 9223372036854775807) (hs1 : s1.size ≤ 9223372036854775807) :
    Calls Try.prog 7 #[.string s0, .string s1] w fun e w' => e = .returned (.bool true) ∧ Below w.heap.size w w' := by
  have HW1 := hid (word10 s0 w (by omega))
  have HW2 := hid (word10 s1 w (by omega))
  clear hs0 hs1
  go_enter Try.func7, Try.ntmps7
  go_wp2_with fail
  refine HW1.out.mono ?_
  rintro e wz ⟨⟨X, rfl, hX⟩, rfl⟩
  go_wp2_with fail
  refine HW2.out.mono ?_
  rintro e wz ⟨⟨Y, rfl, hY⟩, rfl⟩
  clear HW1 HW2
  have hXs : X.size ≤ 12 := by rw [Lib.size_eq]; exact hX.2
  have hYs : Y.size ≤ 12 := by rw [Lib.size_eq]; exact hY.2
  obtain ⟨x, hx⟩ : ∃ x, x = X.data.toList := ⟨_, rfl⟩
  obtain ⟨y, hy⟩ : ∃ y, y = Y.data.toList := ⟨_, rfl⟩
  rw [← hx] at hX
  rw [← hy] at hY
  have HXE := hid (show (⟨x.toArray⟩ : ByteArray) = X by rw [hx, Lib.mk_data])
  have HYE := hid (show (⟨y.toArray⟩ : ByteArray) = Y by rw [hy, Lib.mk_data])
  -- the three texts
  obtain ⟨T1, hT1⟩ : ∃ T : ByteArray, T = ((⟨#[100, 101, 102, 97, 117, 108, 116, 45, 115, 114, 99, 32]⟩ : ByteArray) ++ X ++ (⟨#[59, 32, 105, 109, 103, 45, 115, 114, 99, 32]⟩ : ByteArray) ++ Y ++ (⟨#[59, 32, 73, 109, 103, 45, 83, 114, 99, 32, 111, 116, 104, 101, 114]⟩ : ByteArray)) := ⟨_, rfl⟩
  obtain ⟨T2, hT2⟩ : ∃ T : ByteArray, T = ((⟨#[115, 99, 114, 105, 112, 116, 45, 115, 114, 99, 32]⟩ : ByteArray) ++ X) := ⟨_, rfl⟩
  obtain ⟨T3, hT3⟩ : ∃ T : ByteArray, T = ((⟨#[100, 101, 102, 97, 117, 108, 116, 45, 115, 114, 99, 32, 97, 59, 32, 115, 99, 114, 105, 112, 116, 45, 115, 114, 99, 32]⟩ : ByteArray) ++ X) := ⟨_, rfl⟩
  have HS1 := hid (show polV T1.data.toList = [⟨nDe, [x]⟩, ⟨nIm, [y]⟩] by
    rw [← first_1 x y hX.1 hY.1, hT1]
    congr 1
    simp only [app_list, ← hx, ← hy]
    simp)
  have HS2 := hid (show polV T2.data.toList = [⟨nSc, [x]⟩] by
    rw [← first_2 x hX.1, hT2]
    congr 1
    simp only [app_list, ← hx]
    simp)
  have HS3 := hid (show polV T3.data.toList = [⟨nDe, [[97]]⟩, ⟨nSc, [x]⟩] by
    rw [← first_3 x hX.1, hT3]
    congr 1
    simp only [app_list, ← hx]
    simp)
  have hz1 : T1.size ≤ 1000 := by rw [hT1]; simp only [ByteArray.size_append]; have e1 : (⟨#[100, 101, 102, 97, 117, 108, 116, 45, 115, 114, 99, 32]⟩ : ByteArray).size = 12 := rfl; have e2 : (⟨#[59, 32, 105, 109, 103, 45, 115, 114, 99, 32]⟩ : ByteArray).size = 10 := rfl; have e3 : (⟨#[59, 32, 73, 109, 103, 45, 83, 114, 99, 32, 111, 116, 104, 101, 114]⟩ : ByteArray).size = 15 := rfl; omega
  have hz2 : T2.size ≤ 1000 := by rw [hT2]; simp only [ByteArray.size_append]; have e1 : (⟨#[115, 99, 114, 105, 112, 116, 45, 115, 114, 99, 32]⟩ : ByteArray).size = 11 := rfl; omega
  have hz3 : T3.size ≤ 1000 := by rw [hT3]; simp only [ByteArray.size_append]; have e1 : (⟨#[100, 101, 102, 97, 117, 108, 116, 45, 115, 114, 99, 32, 97, 59, 32, 115, 99, 114, 105, 112, 116, 45, 115, 114, 99, 32]⟩ : ByteArray).size = 26 := rfl; omega
  have HP1 := hid (fun Z => parseP T1 false [⟨nDe, [x]⟩, ⟨nIm, [y]⟩] Z (by omega) HS1.out)
  have HP2 := hid (fun Z => parseP T2 false [⟨nSc, [x]⟩] Z (by omega) HS2.out)
  have HP3 := hid (fun Z => parseP T3 false [⟨nDe, [[97]]⟩, ⟨nSc, [x]⟩] Z (by omega) HS3.out)
  rw [hT1] at HP1
  rw [hT2] at HP2
  rw [hT3] at HP3
  clear HS1 HS2 HS3 hz1 hz2 hz3 hX hY hx hy hT1 hT2 hT3
  go_wp2_with fail
  refine (HP1.out _).mono ?_
  rintro e w1 ⟨a1, c1, rfl, ⟨h1, h2, hpo⟩, hb1⟩
  have hb2 := (Below.refl _ w1).alloc (Nat.le_refl _) (.cells #[.slice a1 2 c1, .bool false] 33)
  have HPO := hid (hpo.kept hb2)
  have HM := hid (heap_alloc_new w1 (.cells #[.slice a1 2 c1, .bool false] 33))
  have HB := hid (below2 hb1 hb2)
  have HV1 := hid (valsP (.slice a1 2 c1) _ nIm [y] nIm ⟨#[105, 109, 103, 45, 115, 114, 99]⟩ _ HPO.out (by simp) (by simp) rfl (ask_1 x y))
  clear hpo hb1 hb2 HP1
  go_wp2_with fail
  refine HV1.out.mono ?_
  rintro e w3 ⟨ua, uc, rfl, ⟨g1, g2, htx⟩, hb3⟩
  have HU := hid htx
  have HPO3 := hid (HPO.out.kept hb3)
  have HM3 := hid (row_kept HM.out hb3)
  have HB3 := hid (below2 HB.out hb3)
  obtain ⟨d0, d1⟩ := cells_p HM3.out
  have HV2 := hid (valsP (.slice a1 2 c1) _ nFo [x] nDe ⟨#[102, 111, 110, 116, 45, 115, 114, 99]⟩ _ HPO3.out (by simp) (by simp) rfl (ask_2 x y))
  clear htx hb3 HV1 HPO HM HB
  go_wp2_with fail
  refine HV2.out.mono ?_
  rintro e w4 ⟨va, vc, rfl, ⟨g3, g4, htx⟩, hb4⟩
  have HU4 := hid (HU.out.kept hb4)
  have HV4 := hid htx
  have HB4 := hid (below2 HB3.out hb4)
  clear htx hb4 HV2 HPO3 HM3 HB3 HU d0 d1
  go_wp2_with fail
  refine (HP2.out _).mono ?_
  rintro e w5 ⟨a2, c2, rfl, ⟨h3, h4, hpo⟩, hb5⟩
  have HVN := hid (values10 (.slice a2 1 c2) false [⟨nSc, [x]⟩] ⟨#[105, 109, 103, 45, 115, 114, 99]⟩ w5 hpo (by simp) (by simp))
  rw [show valsV [⟨nSc, [x]⟩] (⟨#[105, 109, 103, 45, 115, 114, 99]⟩ : ByteArray).data.toList = none from ask_3 x] at HVN
  unfold ValPost at HVN
  have HU5 := hid (HU4.out.kept hb5)
  have HV5 := hid (HV4.out.kept hb5)
  have HB5 := hid (below2 HB4.out hb5)
  clear hpo hb5 HP2 HU4 HV4 HB4
  go_wp2_with fail
  refine HVN.out.mono ?_
  rintro e w6 ⟨rfl, hb6⟩
  have HU6 := hid (HU5.out.kept hb6)
  have HV6 := hid (HV5.out.kept hb6)
  have HB6 := hid (below2 HB5.out hb6)
  clear hb6 HVN HU5 HV5 HB5
  go_wp2_with fail
  refine (HP3.out _).mono ?_
  rintro e w7 ⟨a3, c3, rfl, ⟨h5, h6, hpo⟩, hb7⟩
  have hb8 := (Below.refl _ w7).alloc (Nat.le_refl _) (.cells #[.slice a3 2 c3, .bool false] 33)
  have HQO := hid (hpo.kept hb8)
  have HQ := hid (heap_alloc_new w7 (.cells #[.slice a3 2 c3, .bool false] 33))
  have HU8 := hid (HU6.out.kept (below2 hb7 hb8))
  have HV8 := hid (HV6.out.kept (below2 hb7 hb8))
  have HB8 := hid (below2 HB6.out (below2 hb7 hb8))
  obtain ⟨W8, hW8⟩ : ∃ W, W = w7.alloc (.cells #[.slice a3 2 c3, .bool false] 33) := ⟨_, rfl⟩
  rw [← hW8] at HQO HQ HU8 HV8 HB8
  obtain ⟨d0, d1⟩ := cells_p HQ.out
  have HFR := hid (fun Z => for10 2 Z)
  rw [show (⟨(forV 2).toArray⟩ : ByteArray) = ⟨#[115, 99, 114, 105, 112, 116, 45, 115, 114, 99, 45, 101, 108, 101, 109]⟩ from rfl] at HFR
  have HV3 := hid (fun Z (hZ : Below W8.heap.size W8 Z) => valsP (.slice a3 2 c3) _ nSe [x] nSc ⟨#[115, 99, 114, 105, 112, 116, 45, 115, 114, 99, 45, 101, 108, 101, 109]⟩ Z (HQO.out.kept hZ) (by simp) (by simp) rfl (ask_4 x))
  clear hpo hb7 hb8 HP3 HU6 HV6 HB6
  go_wp2_with fail
  rw [← hW8]
  clear hW8
  go_region_with (first | (go_at_call 11; refine (HFR.out _).mono ?_; rintro e wz ⟨rfl, rfl⟩) | (go_at_call 22; refine (HV3.out _ (Below.refl _ W8).drew).mono ?_; rintro e w9 ⟨ta, tc, rfl, ⟨g5, g6, htx⟩, hb9⟩))
  all_goals
    have hb9' : Below W8.heap.size W8 w9 := (Below.refl _ W8).drew.trans hb9
    have HYL := hid (show Y.data.toList = y by rw [← HYE.out])
    have HXL := hid (show X.data.toList = x by rw [← HXE.out])
    have hb10 := (Below.refl _ w9).alloc (Nat.le_refl _) (.cells #[.string Y] 9)
    have HS1 := hid (sameT_any (.slice ua 1 uc) (.slice (some ⟨w9.heap.size, 0, none⟩) 1 1) [y] [y] _ (HU8.out.kept (below2 hb9' hb10)) (tx_lit1 w9 Y y HYL.out) (by simp) (by simp))
    rw [show decide ([y] = [y]) = true by simp] at HS1
    have HV10 := hid (HV8.out.kept (below2 hb9' hb10))
    have HT10 := hid (htx.kept hb10)
    have HB10 := hid (below2 HB8.out (below2 hb9' hb10))
    clear hb9 hb9' hb10 htx d0 d1 HU8 HV8 HB8 HQO HQ
    go_wp2_with fail
    refine HS1.out.mono ?_
    rintro e w11 ⟨rfl, hb11⟩
    have hb12 := (Below.refl _ w11).alloc (Nat.le_refl _) (.cells #[.string X] 9)
    have HS2 := hid (sameT_any (.slice va 1 vc) (.slice (some ⟨w11.heap.size, 0, none⟩) 1 1) [x] [x] _ (HV10.out.kept (below2 hb11 hb12)) (tx_lit1 w11 X x HXL.out) (by simp) (by simp))
    rw [show decide ([x] = [x]) = true by simp] at HS2
    have HT12 := hid (HT10.out.kept (below2 hb11 hb12))
    have HB12 := hid (below2 HB10.out (below2 hb11 hb12))
    clear hb11 hb12 HS1 HV10 HT10 HB10
    go_wp2_with fail
    refine HS2.out.mono ?_
    rintro e w13 ⟨rfl, hb13⟩
    have hb14 := (Below.refl _ w13).alloc (Nat.le_refl _) (.cells #[.string X] 9)
    have HS3 := hid (sameT_any (.slice ta 1 tc) (.slice (some ⟨w13.heap.size, 0, none⟩) 1 1) [x] [x] _ (HT12.out.kept (below2 hb13 hb14)) (tx_lit1 w13 X x HXL.out) (by simp) (by simp))
    rw [show decide ([x] = [x]) = true by simp] at HS3
    have HB14 := hid (below2 HB12.out (below2 hb13 hb14))
    clear hb13 hb14 HS2 HT12 HB12
    go_wp2_with fail
    refine HS3.out.mono ?_
    rintro e w15 ⟨rfl, hb15⟩
    have HKN := hid (known10 w15)
    have HB15 := hid (below2 HB14.out hb15)
    clear hb15 HS3 HB14
    go_wp2_with fail
    refine HKN.out.mono ?_
    rintro e w16 ⟨rfl, hb16⟩
    have HB16 := hid (below2 HB15.out hb16)
    clear hb16 HKN
    go_wp2_with fail
    go_ret
    exact ⟨rfl, HB16.out⟩

end Go.Proofs.Ytplabofdcnpcpaa
