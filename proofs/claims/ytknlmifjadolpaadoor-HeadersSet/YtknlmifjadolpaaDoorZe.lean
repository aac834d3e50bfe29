/-
  The walk of the law HeadersSet.
-/
import Derived.Test.YtknlmifjadolpaaDoorZd
set_option linter.unusedSimpArgs false
set_option linter.unusedVariables false
namespace Go.Proofs.YtknlmifjadolpaaDoor
open Go.RowKit

set_option maxHeartbeats 8000000 in
set_option maxRecDepth 100000 in
theorem headersSet_walk (v : Value) (L0 : List Hd) (n vl o : ByteArray) (w : World) (hv : HdAt w v L0) (hz : Szd 140737488351232 L0) (hn : n.size ≤ 140737488351232) (hvl : vl.size ≤ 140737488351232) (ho : o.size ≤ 140737488351232) (hg : G5 w) :
    Calls Tryd.prog 5 #[v, .string n, .string vl, .string o] w fun e w' => e = .returned (.bool true) ∧ Below w.heap.size w w' := by
  have HG := hid hg
  clear hg
  obtain ⟨L, hL⟩ : ∃ L, L = fewH L0 20 100 := ⟨_, rfl⟩
  have hLl : L.length ≤ 20 := by rw [hL]; exact fewH_len _ _ _
  have hLz : Szd 140737488351232 L := by rw [hL]; exact (fewH_szd L0 20 100).mono (by omega)
  have hLz2 : Szd 4096 L := by rw [hL]; exact (fewH_szd L0 20 100).mono (by omega)
  have HFew := hid (fewHeaders_any v L0 20 100 w hv (hz.mono (by unfold maxLen; omega)) (by decide) (by decide))
  rw [← hL] at HFew
  have HLz := hid hLz
  have HLz2 := hid hLz2
  clear hL hv hz hLz hLz2
  go_enter Tryd.func5, Tryd.ntmps5
  go_wp2_with fail
  refine HFew.out.mono ?_
  rintro e w1 ⟨v1, rfl, ho1, hb1⟩
  have H1 := hid (own_hd ho1)
  clear ho1 HFew
  go_wp2_with fail
  refine (set_any _ L n vl _ H1.out (by omega) hn (by omega) HLz.out).mono ?_
  intro e w2 h2
  obtain ⟨hb2', ⟨hne, rfl⟩ | ⟨he, v2, rfl, ho2⟩⟩ := h2
  · have hb2 := belowT hb1 hb2'
    obtain ⟨k, hk⟩ : ∃ k, k = setE L n.data.toList vl.data.toList := ⟨_, rfl⟩
    rw [← hk]
    rw [← hk] at hne
    have hne' : ((k : Int) == 0) = false := by rw [beq_eq_false_iff_ne]; omega
    clear hk hne
    go_wp2_with fail
    refine (known_any _ (HG.out.kept hb2)).mono ?_
    rintro e w3 ⟨rfl, hb3⟩
    go_wp2
    go_ret
    exact ⟨rfl, belowT hb2 hb3⟩
  · have hb2 := belowT hb1 hb2'
    obtain ⟨M, hM⟩ : ∃ M, M = setV L n.data.toList vl.data.toList := ⟨_, rfl⟩
    rw [← hM] at ho2
    have hMl : M.length ≤ 21 := by have := set_len L n.data.toList vl.data.toList; rw [hM]; omega
    have HMz := hid (show Szd 4096 M by rw [hM]; exact set_szd L _ _ 4096 HLz2.out he (by omega))
    have HM := hid hM
    have HVal := hid (setE_val L _ _ he)
    have H2 := hid (own_hd ho2)
    have H1b := hid (H1.out.kept hb2')
    clear ho2 hM he hb1 hb2'
    obtain ⟨X, hX⟩ : ∃ x : ByteArray, x = ⟨(valT vl.data.toList).toArray⟩ := ⟨_, rfl⟩
    have HGet := hid (get_any _ M n w2 H2.out hn (HMz.out.mono (by omega)) (by omega) (by have := HMz.out.bulk; omega))
    have hg1 := getT_one M n.data.toList (valT vl.data.toList) (by rw [HM.out]; exact set_sel _ _ _)
    rw [hg1.1, hg1.2, ← hX] at HGet
    have HVl : Hid (∀ w : World, Calls Tryd.prog 29 #[.string vl] w fun e w' => e = .returned (.tuple #[.string X, .bool true]) ∧ Below w.heap.size w w') := fun w => by
      have := value_any vl w (by omega)
      rw [HVal.out.1, show valA vl.data.toList = valT vl.data.toList by unfold valA; rw [HVal.out.1]; rfl, ← hX] at this
      exact this
    clear hg1 hX
    go_wp2_with fail
    refine HGet.out.mono ?_
    rintro e w3 ⟨rfl, hb3'⟩
    have hb3 := belowT hb2 hb3'
    have H1c := hid (H1b.out.kept hb3')
    have H2c := hid (H2.out.kept hb3')
    clear hb2 hb3' HGet
    go_wp2_with fail
    refine (HVl.out _).mono ?_
    rintro e w4 ⟨rfl, hb4'⟩
    have hb4 := belowT hb3 hb4'
    have H1d := hid (H1c.out.kept hb4')
    have H2d := hid (H2c.out.kept hb4')
    clear hb3 hb4'
    go_wp2_with fail
    refine (drop_any _ M n _ H2d.out hn (HMz.out.mono (by omega)) (by omega)).mono ?_
    rintro e w5 ⟨v5, rfl, ho5, hb5', hnn5⟩
    obtain ⟨D, hD⟩ : ∃ D, D = dropV L n.data.toList := ⟨_, rfl⟩
    rw [show dropV M n.data.toList = D by rw [HM.out, hD]; exact set_drop _ _ _] at ho5
    have hDl : D.length ≤ 20 := by rw [hD]; exact Nat.le_trans (dropV_len _ _) hLl
    have HDz := hid (show Szd 4096 D by rw [hD]; exact drop_szd L _ _ HLz2.out)
    have HDs := hid (show selV D n.data.toList = [] by rw [hD]; exact selV_drop _ _)
    have HD := hid hD
    have H5 := hid (own_hd ho5)
    have hb5 := belowT hb4 hb5'
    have H1e := hid (H1d.out.kept hb5')
    have H2e := hid (H2d.out.kept hb5')
    clear ho5 hD hb4 hb5' hnn5
    have HGet2 := hid (get_any _ D n w5 H5.out hn (HDz.out.mono (by omega)) (by omega) (by have := HDz.out.bulk; omega))
    rw [getB_none D _ HDs.out] at HGet2
    go_wp2_with fail
    refine HGet2.out.mono ?_
    rintro e w6 ⟨rfl, hb6'⟩
    have hb6 := belowT hb5 hb6'
    have H1f := hid (H1e.out.kept hb6')
    have H2f := hid (H2e.out.kept hb6')
    have H5f := hid (H5.out.kept hb6')
    clear hb5 hb6' HGet2
    go_wp2_with fail
    refine (drop_any _ L n _ H1f.out hn HLz.out (by omega)).mono ?_
    rintro e w7 ⟨v7, rfl, ho7, hb7', hnn7⟩
    rw [← HD.out] at ho7
    have H7 := hid (own_hd ho7)
    have hb7 := belowT hb6 hb7'
    have H1g := hid (H1f.out.kept hb7')
    have H2g := hid (H2f.out.kept hb7')
    have H5g := hid (H5f.out.kept hb7')
    clear ho7 hb6 hb7' hnn7
    go_wp2_with fail
    refine (sameH_any _ _ D D _ H5g.out H7.out (by omega) (by omega)).mono ?_
    rintro e w8 ⟨rfl, hb8'⟩
    rw [show decide (D = D) = true by simp]
    have hb8 := belowT hb7 hb8'
    have H1h := hid (H1g.out.kept hb8')
    have H2h := hid (H2g.out.kept hb8')
    clear hb7 hb8'
    go_wp2_with fail
    refine (h_any _ _ _).mono ?_
    rintro e w9 ⟨rfl, hb9'⟩
    have hb9 := belowT hb8 hb9'
    have H1i := hid (H1h.out.kept hb9')
    have H2i := hid (H2h.out.kept hb9')
    clear hb8 hb9'
    go_wp2_with fail
    refine (named_any _ _ o _ hn ho).mono ?_
    rintro e w10 ⟨rfl, hb10'⟩
    have hb10 := belowT hb9 hb10'
    have H1j := hid (H1i.out.kept hb10')
    have H2j := hid (H2i.out.kept hb10')
    clear hb9 hb10'
    by_cases hno : low n.data.toList = low o.data.toList
    · rw [show decide (low n.data.toList = low o.data.toList) = true by simpa using hno]
      clear hno
      go_wp2_with fail
      refine (known_any _ (HG.out.kept hb10)).mono ?_
      rintro e w11 ⟨rfl, hb11⟩
      go_wp2
      go_ret
      exact ⟨rfl, belowT hb10 hb11⟩
    · rw [show decide (low n.data.toList = low o.data.toList) = false by simpa using hno]
      have HSel := hid (show selV M o.data.toList = selV L o.data.toList by rw [HM.out]; exact set_other _ _ _ _ hno)
      clear hno
      obtain ⟨T, hT⟩ : ∃ x : ByteArray, x = ⟨(getT L o.data.toList).toArray⟩ := ⟨_, rfl⟩
      obtain ⟨tb, htb⟩ : ∃ x, x = getB L o.data.toList := ⟨_, rfl⟩
      have HG1 := hid (get_any _ L o w10 H1j.out ho HLz.out (by omega) (by have := HLz2.out.bulk; omega))
      rw [← hT, ← htb] at HG1
      have HG2 : Hid (∀ w11 : World, Below w10.heap.size w10 w11 → Calls Tryd.prog 16 #[v2, .string o] w11 fun e w' => e = .returned (.tuple #[.string T, .bool tb]) ∧ Below w11.heap.size w11 w') := fun w11 hb => by
        have := get_any _ M o w11 (H2j.out.kept hb) ho (HMz.out.mono (by omega)) (by omega) (by have := HMz.out.bulk; omega)
        rw [show getT M o.data.toList = getT L o.data.toList by unfold getT; rw [HSel.out], show getB M o.data.toList = getB L o.data.toList by unfold getB; rw [HSel.out], ← hT, ← htb] at this
        exact this
      clear hT htb
      go_wp2_with fail
      refine HG1.out.mono ?_
      rintro e w11 ⟨rfl, hb11'⟩
      have hb11 := belowT hb10 hb11'
      go_wp2_with fail
      refine (HG2.out _ hb11').mono ?_
      rintro e w12 ⟨rfl, hb12'⟩
      have hb12 := belowT hb11 hb12'
      clear hb10 hb11 hb11' hb12' HG1
      cases tb
      · go_wp2_with fail
        refine (known_any _ (HG.out.kept hb12)).mono ?_
        rintro e w13 ⟨rfl, hb13⟩
        go_wp2
        go_ret
        exact ⟨rfl, belowT hb12 hb13⟩
      · go_wp2_with fail
        refine (known_any _ (HG.out.kept hb12)).mono ?_
        rintro e w13 ⟨rfl, hb13⟩
        go_wp2
        go_ret
        exact ⟨rfl, belowT hb12 hb13⟩

end Go.Proofs.YtknlmifjadolpaaDoor
