/-
  The walk of the law HeadersChange.
-/
import Derived.Test.YtknlmifjadolpaaDoorZk
set_option linter.unusedSimpArgs false
set_option linter.unusedVariables false
namespace Go.Proofs.YtknlmifjadolpaaDoor
open Go.RowKit

set_option maxHeartbeats 8000000 in
set_option maxRecDepth 100000 in
theorem headersChange_walk (v0 : Value) (L0 : List Hd) (n v : ByteArray) (w : World) (hv0 : HdAt w v0 L0) (hz : Szd 140737488351232 L0) (hno : NilOk v0) (hn : n.size ≤ 140737488351232) (hv : v.size ≤ 140737488351232) (hg : G5 w) :
    Calls Tryd.prog 4 #[v0, .string n, .string v] w fun e w' => e = .returned (.bool true) ∧ Below w.heap.size w w' := by
  have HG := hid hg
  obtain ⟨a0, c0, rfl, hc0, hm0, _⟩ := hv0.view
  by_cases h70 : 70 < L0.length
  · have h70' : (70 : Int) < (L0.length : Int) := by omega
    have h70c : (70 : Int) ≤ (c0 : Int) := by omega
    obtain ⟨L, hL⟩ : ∃ L, L = L0.take 70 := ⟨_, rfl⟩
    have hLl : L.length = 70 := by rw [hL]; simp; omega
    have hLt := hd_take hv0 70 (by omega)
    rw [← hL] at hLt
    have hLt2 : HdAt w (.slice a0 L.length c0) L := by rw [hLl]; exact hLt
    have hNo2 : NilOk (.slice a0 L.length c0) := by
      rcases hno with e | ⟨x, m, c, e⟩
      · simp only [Value.slice.injEq] at e; omega
      · simp only [Value.slice.injEq] at e; exact .inr ⟨x, L.length, c0, by rw [e.1]⟩
    have hLle : L.length ≤ 70 := by omega
    have HZ := hid (show Szd 140737488351232 L by rw [hL]; exact fun h hh => hz h (List.mem_of_mem_take hh))
    have HL := hid hLt2
    have HNo := hid hNo2
    have HLl := hid hLl
    clear hLt hLt2 hNo2 hL hno hz hv0 hg hLl
    go_enter Tryd.func4, Tryd.ntmps4
    go_wp2_with fail
    rw [← HLl.out]
    refine (h_any _ _ _).mono ?_
    rintro e w1 ⟨rfl, hb1⟩
    have HL1 := hid (HL.out.kept hb1)
    go_wp2_with fail
    refine (roomy_any _ L ⟨#[45]⟩ ⟨#[45]⟩ _ HL1.out (by omega)).mono ?_
    rintro e w2 ⟨g2, rfl, hrow2, hb2'⟩
    have hb2 := belowT hb1 hb2'
    have HL2 := hid (HL1.out.kept hb2')
    have hfull := hrow2.at (by rw [List.length_append, markL_len]; unfold maxLen; omega)
    rw [show (L ++ markL ⟨(⟨#[45]⟩ : ByteArray).data.toList, (⟨#[45]⟩ : ByteArray).data.toList⟩).length = L.length + 80 by rw [List.length_append, markL_len]] at hfull
    have hm := hd_take hfull L.length (by rw [List.length_append, markL_len]; omega)
    rw [show (L ++ markL ⟨(⟨#[45]⟩ : ByteArray).data.toList, (⟨#[45]⟩ : ByteArray).data.toList⟩).take L.length = L by simp] at hm
    have HF2 := hid hfull
    have HM2 := hid hm
    have hs80 : (L.length : Int) ≤ ((L.length + 80 : Nat) : Int) := by omega
    clear hfull hm hrow2 hb1 hb2'
    go_wp2_with fail
    refine (add_any _ L n v _ HM2.out (by omega) hn (by omega)).mono ?_
    intro e w3 h3
    obtain ⟨v3, rfl, ha3, hb3'⟩ := h3.uni
    have hb3 := belowT hb2 hb3'
    have HA3 := hid ha3
    have HL3 := hid (HL2.out.kept hb3')
    have HF3 := hid (HF2.out.kept hb3')
    have HM3 := hid (HM2.out.kept hb3')
    clear h3 hb2 hb3' ha3
    go_wp2_with fail
    refine (radd_any _ L n v _ HL3.out HNo.out (by omega) hn (by omega)).mono ?_
    intro e w4 h4
    obtain ⟨v4, rfl, ha4, hb4'⟩ := h4.uni
    have hb4 := belowT hb3 hb4'
    have HA4 := hid ha4
    have HA3b := hid (HA3.out.kept hb4')
    have HL4 := hid (HL3.out.kept hb4')
    have HF4 := hid (HF3.out.kept hb4')
    have HM4 := hid (HM3.out.kept hb4')
    clear h4 hb3 hb4' ha4
    go_wp2_with fail
    refine (set_any _ L n v _ HM4.out (by omega) hn (by omega) HZ.out).mono ?_
    intro e w5 h5
    obtain ⟨v5, rfl, ha5, hb5'⟩ := h5.uni
    have hb5 := belowT hb4 hb5'
    have HA5 := hid ha5
    have HA3c := hid (HA3b.out.kept hb5')
    have HA4c := hid (HA4.out.kept hb5')
    have HL5 := hid (HL4.out.kept hb5')
    have HF5 := hid (HF4.out.kept hb5')
    have HM5 := hid (HM4.out.kept hb5')
    clear h5 hb4 hb5' ha5
    go_wp2_with fail
    refine (rset_any _ L n v _ HL5.out HNo.out (by omega) hn (by omega) HZ.out).mono ?_
    intro e w6 h6
    obtain ⟨v6, rfl, ha6, hb6'⟩ := h6.uni
    have hb6 := belowT hb5 hb6'
    have HA6 := hid ha6
    have HA3d := hid (HA3c.out.kept hb6')
    have HA4d := hid (HA4c.out.kept hb6')
    have HA5d := hid (HA5.out.kept hb6')
    have HL6 := hid (HL5.out.kept hb6')
    have HF6 := hid (HF5.out.kept hb6')
    have HM6 := hid (HM5.out.kept hb6')
    clear h6 hb5 hb6' ha6
    obtain ⟨E1, hE1⟩ : ∃ E, E = addE L n.data.toList v.data.toList := ⟨_, rfl⟩
    obtain ⟨E2, hE2⟩ : ∃ E, E = setE L n.data.toList v.data.toList := ⟨_, rfl⟩
    rw [← hE1, ← hE2]
    clear hE1 hE2
    have hl1 := addL_len L n.data.toList v.data.toList
    have hl2 := setL_len L n.data.toList v.data.toList
    go_wp2_with fail
    refine (sameH_any _ _ _ _ _ HA3d.out HA4d.out (by omega) (by omega)).mono ?_
    rintro e w7 ⟨rfl, hb7'⟩
    rw [show decide (addL L n.data.toList v.data.toList = addL L n.data.toList v.data.toList) = true by simp]
    have hb7 := belowT hb6 hb7'
    have HA5e := hid (HA5d.out.kept hb7')
    have HA6e := hid (HA6.out.kept hb7')
    have HL7 := hid (HL6.out.kept hb7')
    have HF7 := hid (HF6.out.kept hb7')
    have HM7 := hid (HM6.out.kept hb7')
    clear hb6 hb7'
    go_wp2_with fail
    refine (sameH_any _ _ _ _ _ HA5e.out HA6e.out (by omega) (by omega)).mono ?_
    rintro e w8 ⟨rfl, hb8'⟩
    rw [show decide (setL L n.data.toList v.data.toList = setL L n.data.toList v.data.toList) = true by simp]
    have hb8 := belowT hb7 hb8'
    have HL8 := hid (HL7.out.kept hb8')
    have HF8 := hid (HF7.out.kept hb8')
    have HM8 := hid (HM7.out.kept hb8')
    clear hb7 hb8' hl1 hl2
    go_wp2_with fail
    refine (drop_any _ L n _ HM8.out hn HZ.out (by omega)).mono ?_
    rintro e w9 ⟨v9, rfl, ho9, hb9', _⟩
    have HD9 := hid (own_hd ho9)
    have hb9 := belowT hb8 hb9'
    have HL9 := hid (HL8.out.kept hb9')
    have HF9 := hid (HF8.out.kept hb9')
    clear ho9 hb8 hb9'
    go_wp2_with fail
    refine (rdrop_any _ L n _ HL9.out hn HZ.out (by omega)).mono ?_
    rintro e w10 ⟨v10, rfl, ho10, hb10'⟩
    have HD10 := hid (own_hd ho10)
    have HD9b := hid (HD9.out.kept hb10')
    have hb10 := belowT hb9 hb10'
    have HL10 := hid (HL9.out.kept hb10')
    have HF10 := hid (HF9.out.kept hb10')
    clear ho10 hb9 hb10'
    have hdl := dropV_len L n.data.toList
    go_wp2_with fail
    refine (sameH_any _ _ _ _ _ HD9b.out HD10.out (by omega) (by omega)).mono ?_
    rintro e w11 ⟨rfl, hb11'⟩
    rw [show decide (dropV L n.data.toList = dropV L n.data.toList) = true by simp]
    have hb11 := belowT hb10 hb11'
    have HL11 := hid (HL10.out.kept hb11')
    have HF11 := hid (HF10.out.kept hb11')
    clear hb10 hb11' hdl
    go_wp2_with fail
    refine (h_any _ _ _).mono ?_
    rintro e w12 ⟨rfl, hb12'⟩
    have hb12 := belowT hb11 hb12'
    have HL12 := hid (HL11.out.kept hb12')
    have HF12 := hid (HF11.out.kept hb12')
    clear hb11 hb12'
    go_wp2_with fail
    refine (intact_any _ _ L ⟨#[45]⟩ ⟨#[45]⟩ _ HF12.out HL12.out (by omega)).mono ?_
    rintro e w13 ⟨rfl, hb13'⟩
    have hb13 := belowT hb12 hb13'
    clear hb12 hb13'
    go_wp2_with fail
    refine (known_any _ (HG.out.kept hb13)).mono ?_
    rintro e w14 ⟨rfl, hb14⟩
    go_wp2
    go_ret
    exact ⟨rfl, belowT hb13 hb14⟩
  · have h70' : ¬ (70 : Int) < (L0.length : Int) := by omega
    obtain ⟨L, hL⟩ : ∃ L, L = L0 := ⟨_, rfl⟩
    subst hL
    have HZ := hid hz
    have HL := hid hv0
    have HNo := hid hno
    clear hno hz hv0 hg
    go_enter Tryd.func4, Tryd.ntmps4
    go_wp2_with fail
    refine (h_any _ _ _).mono ?_
    rintro e w1 ⟨rfl, hb1⟩
    have HL1 := hid (HL.out.kept hb1)
    go_wp2_with fail
    refine (roomy_any _ L ⟨#[45]⟩ ⟨#[45]⟩ _ HL1.out (by omega)).mono ?_
    rintro e w2 ⟨g2, rfl, hrow2, hb2'⟩
    have hb2 := belowT hb1 hb2'
    have HL2 := hid (HL1.out.kept hb2')
    have hfull := hrow2.at (by rw [List.length_append, markL_len]; unfold maxLen; omega)
    rw [show (L ++ markL ⟨(⟨#[45]⟩ : ByteArray).data.toList, (⟨#[45]⟩ : ByteArray).data.toList⟩).length = L.length + 80 by rw [List.length_append, markL_len]] at hfull
    have hm := hd_take hfull L.length (by rw [List.length_append, markL_len]; omega)
    rw [show (L ++ markL ⟨(⟨#[45]⟩ : ByteArray).data.toList, (⟨#[45]⟩ : ByteArray).data.toList⟩).take L.length = L by simp] at hm
    have HF2 := hid hfull
    have HM2 := hid hm
    have hs80 : (L.length : Int) ≤ ((L.length + 80 : Nat) : Int) := by omega
    clear hfull hm hrow2 hb1 hb2'
    go_wp2_with fail
    refine (add_any _ L n v _ HM2.out (by omega) hn (by omega)).mono ?_
    intro e w3 h3
    obtain ⟨v3, rfl, ha3, hb3'⟩ := h3.uni
    have hb3 := belowT hb2 hb3'
    have HA3 := hid ha3
    have HL3 := hid (HL2.out.kept hb3')
    have HF3 := hid (HF2.out.kept hb3')
    have HM3 := hid (HM2.out.kept hb3')
    clear h3 hb2 hb3' ha3
    go_wp2_with fail
    refine (radd_any _ L n v _ HL3.out HNo.out (by omega) hn (by omega)).mono ?_
    intro e w4 h4
    obtain ⟨v4, rfl, ha4, hb4'⟩ := h4.uni
    have hb4 := belowT hb3 hb4'
    have HA4 := hid ha4
    have HA3b := hid (HA3.out.kept hb4')
    have HL4 := hid (HL3.out.kept hb4')
    have HF4 := hid (HF3.out.kept hb4')
    have HM4 := hid (HM3.out.kept hb4')
    clear h4 hb3 hb4' ha4
    go_wp2_with fail
    refine (set_any _ L n v _ HM4.out (by omega) hn (by omega) HZ.out).mono ?_
    intro e w5 h5
    obtain ⟨v5, rfl, ha5, hb5'⟩ := h5.uni
    have hb5 := belowT hb4 hb5'
    have HA5 := hid ha5
    have HA3c := hid (HA3b.out.kept hb5')
    have HA4c := hid (HA4.out.kept hb5')
    have HL5 := hid (HL4.out.kept hb5')
    have HF5 := hid (HF4.out.kept hb5')
    have HM5 := hid (HM4.out.kept hb5')
    clear h5 hb4 hb5' ha5
    go_wp2_with fail
    refine (rset_any _ L n v _ HL5.out HNo.out (by omega) hn (by omega) HZ.out).mono ?_
    intro e w6 h6
    obtain ⟨v6, rfl, ha6, hb6'⟩ := h6.uni
    have hb6 := belowT hb5 hb6'
    have HA6 := hid ha6
    have HA3d := hid (HA3c.out.kept hb6')
    have HA4d := hid (HA4c.out.kept hb6')
    have HA5d := hid (HA5.out.kept hb6')
    have HL6 := hid (HL5.out.kept hb6')
    have HF6 := hid (HF5.out.kept hb6')
    have HM6 := hid (HM5.out.kept hb6')
    clear h6 hb5 hb6' ha6
    obtain ⟨E1, hE1⟩ : ∃ E, E = addE L n.data.toList v.data.toList := ⟨_, rfl⟩
    obtain ⟨E2, hE2⟩ : ∃ E, E = setE L n.data.toList v.data.toList := ⟨_, rfl⟩
    rw [← hE1, ← hE2]
    clear hE1 hE2
    have hl1 := addL_len L n.data.toList v.data.toList
    have hl2 := setL_len L n.data.toList v.data.toList
    go_wp2_with fail
    refine (sameH_any _ _ _ _ _ HA3d.out HA4d.out (by omega) (by omega)).mono ?_
    rintro e w7 ⟨rfl, hb7'⟩
    rw [show decide (addL L n.data.toList v.data.toList = addL L n.data.toList v.data.toList) = true by simp]
    have hb7 := belowT hb6 hb7'
    have HA5e := hid (HA5d.out.kept hb7')
    have HA6e := hid (HA6.out.kept hb7')
    have HL7 := hid (HL6.out.kept hb7')
    have HF7 := hid (HF6.out.kept hb7')
    have HM7 := hid (HM6.out.kept hb7')
    clear hb6 hb7'
    go_wp2_with fail
    refine (sameH_any _ _ _ _ _ HA5e.out HA6e.out (by omega) (by omega)).mono ?_
    rintro e w8 ⟨rfl, hb8'⟩
    rw [show decide (setL L n.data.toList v.data.toList = setL L n.data.toList v.data.toList) = true by simp]
    have hb8 := belowT hb7 hb8'
    have HL8 := hid (HL7.out.kept hb8')
    have HF8 := hid (HF7.out.kept hb8')
    have HM8 := hid (HM7.out.kept hb8')
    clear hb7 hb8' hl1 hl2
    go_wp2_with fail
    refine (drop_any _ L n _ HM8.out hn HZ.out (by omega)).mono ?_
    rintro e w9 ⟨v9, rfl, ho9, hb9', _⟩
    have HD9 := hid (own_hd ho9)
    have hb9 := belowT hb8 hb9'
    have HL9 := hid (HL8.out.kept hb9')
    have HF9 := hid (HF8.out.kept hb9')
    clear ho9 hb8 hb9'
    go_wp2_with fail
    refine (rdrop_any _ L n _ HL9.out hn HZ.out (by omega)).mono ?_
    rintro e w10 ⟨v10, rfl, ho10, hb10'⟩
    have HD10 := hid (own_hd ho10)
    have HD9b := hid (HD9.out.kept hb10')
    have hb10 := belowT hb9 hb10'
    have HL10 := hid (HL9.out.kept hb10')
    have HF10 := hid (HF9.out.kept hb10')
    clear ho10 hb9 hb10'
    have hdl := dropV_len L n.data.toList
    go_wp2_with fail
    refine (sameH_any _ _ _ _ _ HD9b.out HD10.out (by omega) (by omega)).mono ?_
    rintro e w11 ⟨rfl, hb11'⟩
    rw [show decide (dropV L n.data.toList = dropV L n.data.toList) = true by simp]
    have hb11 := belowT hb10 hb11'
    have HL11 := hid (HL10.out.kept hb11')
    have HF11 := hid (HF10.out.kept hb11')
    clear hb10 hb11' hdl
    go_wp2_with fail
    refine (h_any _ _ _).mono ?_
    rintro e w12 ⟨rfl, hb12'⟩
    have hb12 := belowT hb11 hb12'
    have HL12 := hid (HL11.out.kept hb12')
    have HF12 := hid (HF11.out.kept hb12')
    clear hb11 hb12'
    go_wp2_with fail
    refine (intact_any _ _ L ⟨#[45]⟩ ⟨#[45]⟩ _ HF12.out HL12.out (by omega)).mono ?_
    rintro e w13 ⟨rfl, hb13'⟩
    have hb13 := belowT hb12 hb13'
    clear hb12 hb13'
    go_wp2_with fail
    refine (known_any _ (HG.out.kept hb13)).mono ?_
    rintro e w14 ⟨rfl, hb14⟩
    go_wp2
    go_ret
    exact ⟨rfl, belowT hb13 hb14⟩

end Go.Proofs.YtknlmifjadolpaaDoor
