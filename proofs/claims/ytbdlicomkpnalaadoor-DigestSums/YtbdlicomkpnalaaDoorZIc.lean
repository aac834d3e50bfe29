/-
  The walk of ostiaryref8.below.
-/
import Derived.Test.YtbdlicomkpnalaaDoorZ0
set_option linter.unusedSimpArgs false
set_option linter.unusedVariables false
namespace Go.Proofs.YtbdlicomkpnalaaDoor
open Go.RowKit

theorem vl_nought : ∀ (l : List Nat), (∀ x ∈ l, x = 0) → vlV l = 0
  | [], _ => rfl
  | o :: r, h => by rw [vlV, h o (by simp), vl_nought r (fun x hx => h x (by simp [hx]))]

theorem vl_five {A : List Nat} (hA : Lmb A) (hz : ∀ j, 5 ≤ j → A.getD j 0 = 0) : vlV (A.take 5) = vlV A ∧ vlV A < 65536 ^ 5 := by
  have h1 := vl_split A 5 (by rw [hA.1]; omega)
  have h2 : vlV (A.drop 5) = 0 := by
    apply vl_nought
    intro x hx
    obtain ⟨i, hi, rfl⟩ := List.mem_iff_getElem.1 hx
    have hi' : 5 + i < A.length := by rw [List.length_drop] at hi; omega
    have := hz (5 + i) (by omega)
    simpa [List.getD, hi'] using this
  have h3 := vl_lt (A.take 5) (fun x hx => lmb_mem hA x (List.mem_of_mem_take hx))
  rw [List.length_take, hA.1, show min 5 16 = 5 by decide] at h3
  rw [h2, Nat.mul_zero, Nat.add_zero] at h1
  exact ⟨h1.symm, by rw [h1]; exact h3⟩

theorem vl_ten {O : List Nat} (hO : Lmb O) (h : vlV O < 65536 ^ 10) : vlV (O.take 10) = vlV O := by
  have h1 := vl_split O 10 (by rw [hO.1]; omega)
  rcases Nat.eq_zero_or_pos (vlV (O.drop 10)) with h2 | h2
  · rw [h2] at h1; omega
  · have := Nat.mul_le_mul_left (65536 ^ 10) h2
    omega

def tst (cube : Bool) (p x : Nat) : Bool := if cube then decide (x * x * x ≤ 65536 ^ 12 * p) else decide (x * x ≤ 65536 ^ 8 * p)

theorem wpListw {P : Program} {ops : Array Oper} {Q : Exit → Act → World → Prop} {rest : List Oper} {a : Act} {w w' : World} (e : w = w') (h : wpList P ops Q rest a w) : wpList P ops Q rest a w' := e ▸ h

theorem ret_bb {a b : Bool} (h : a = b) : Ending.returned (.bool a) = .returned (.bool b) := by rw [h]

set_option maxHeartbeats 4000000 in
set_option maxRecDepth 100000 in
theorem below_false (A : List Nat) (p : Nat) (w : World) (hA : Lmb A) (hz : ∀ j, 5 ≤ j → A.getD j 0 = 0) (hp : p < 65536) :
    Calls Tryd.prog 55 #[.agg (cW .u64 A).toArray, .int .u64 (p : Int), .bool false] w fun e w' => e = .returned (.bool (tst false p (vlV A))) ∧ Below w.heap.size w w' := by
  obtain ⟨h5, h5l⟩ := vl_five hA hz
  have HA := hid hA
  have H5 := hid h5
  have H5L := hid h5l
  have hi8 := size16 A hA.1
  have HRA := hid (range_row (Rw.new w .u64 98 A))
  clear hA hz h5 h5l
  go_enter Tryd.func55, Tryd.ntmps55
  go_wp2_with (refine wpList_load_mid rfl 98 (.tmp 3) rfl w.heap.size 0 rfl (cW .u64 A) _ HRA.out Tryd.underlying98 rfl hi8 ?_)
  refine (times_any A A 5 5 _ HA.out HA.out (by omega) (by omega) (by omega)).mono ?_
  rintro e w1 ⟨O, rfl, hO, hv, hb1⟩
  rw [H5.out] at hv
  have HRK := hid ((Rw.new w .u64 98 A).kept hb1)
  have HB1 := hid (below2 ((Below.refl _ w).alloc (Nat.le_refl _) _) hb1)
  have HO := hid hO
  have HV := hid hv
  clear hb1 hO hv HRA
  have HZ := hid (Rw.new w1 .u64 98 zr16)
  have HH := hid (HZ.out.there (cW .u64 O).toArray.size (by rw [List.size_toArray, cW_len, HO.out.1]; rfl))
  have hone := all_oneCell_toArray (cW_one .u64 O)
  have hi1 := size16a O HO.out.1
  have hi2 := size16 O HO.out.1
  obtain ⟨W2, hW2⟩ : ∃ W2, W2 = (w1.alloc (.cells (cW .u64 zr16).toArray 98)).setCells w1.heap.size 0 (cW .u64 O) := ⟨_, rfl⟩
  have hBW : Below w1.heap.size w1 W2 := by rw [hW2]; exact below_setCells (Nat.le_refl _) _ _ _ ((Below.refl _ _).alloc (Nat.le_refl _) _)
  have HR2 := hid (show Rw W2 w1.heap.size .u64 98 O by rw [hW2]; exact HZ.out.put O (by rw [HO.out.1]; rfl))
  have HA2 := hid (HRK.out.kept hBW)
  have HB2 := hid (below2 HB1.out hBW)
  have HW2 := hid hW2
  have hgw : w.heap.size ≤ w1.heap.size := HB1.out.size
  have HRGA := hid HA2.out.range
  have HRGO := hid HR2.out.range
  clear hW2 hBW
  go_wp2_with (first | (refine wpList_store_mid rfl 98 (.tmp 7) (.tmp 13) rfl w1.heap.size 0 (cW .u64 O).toArray rfl rfl HH.out hi1 hone ?_; refine wpListw HW2.out ?_))
  have HTS := hid (show decide (vlV O ≤ 65536 ^ 8 * p) = tst false p (vlV A) by unfold tst; rw [HV.out]; rfl)
  have HOO : Hid (Lmb O) := HO

  obtain ⟨G, hG⟩ : ∃ G, G = w1.heap.size := ⟨_, rfl⟩
  rw [← hG] at HR2 ⊢
  clear hG
  go_loopw [9] (fun v9 wr => ∃ (i : Nat) (z : Int), i ≤ 16 ∧ z = (i : Int) - 1 ∧ v9 = .int .i64 z ∧ Hid (∀ j, i ≤ j → j < 16 → O.getD j 0 = (onlyV 8 p).getD j 0) ∧ wr = W2) (fun v9 _ => (intOf v9 + 1).toNat)
  case atStart => exact ⟨16, 15, by omega, rfl, rfl, fun j h1 h2 => by omega, rfl⟩
  case round =>
    obtain ⟨i, z, hi, hz, rfl, HAB, rfl⟩ := hrel
    rcases Nat.eq_zero_or_pos i with h0 | h0
    · have hz1 : z = -1 := by omega
      have HFI := hid (show true = tst false p (vlV A) by
        have : O = onlyV 8 p := vl_same _ _ HO.out (only_lmb 8 p hp) (fun j hj => HAB.out j (by omega) hj)
        rw [← HTS.out, this, only_vl 8 p (by decide)]
        simp)
      subst hz1
      clear hz HAB h0 hi
      go_wp2_with fail
      go_ret
      exact ⟨ret_bb HFI.out, HB2.out⟩
    · obtain ⟨q, hq⟩ : ∃ q, q = i - 1 := ⟨_, rfl⟩
      obtain rfl : z = (q : Int) := by omega
      obtain ⟨o, ho⟩ : ∃ o, o = O.getD q 0 := ⟨_, rfl⟩
      have cs : wr.cell? ⟨G, q, none⟩ = some (.int .u64 (o : Int)) := by rw [ho]; exact HR2.out.cell q (by rw [HO.out.1]; omega)
      have hq16 : (q : Int) < 16 := by omega
      have hq0 : (0 : Int) ≤ (q : Int) := by omega
      have hon := only_get 8 p q (by decide)
      have HCM := hid (fun (h : o ≠ (onlyV 8 p).getD q 0) => vl_cmp O (onlyV 8 p) q HO.out (only_lmb 8 p hp) (by omega) (fun j h1 h2 => HAB.out j (by omega) h2) (by rw [← ho]; exact h))
      have HNX := hid (fun (h : o = (onlyV 8 p).getD q 0) => (show ∀ j, q ≤ j → j < 16 → O.getD j 0 = (onlyV 8 p).getD j 0 from fun j h1 h2 => by
        rcases Nat.eq_or_lt_of_le h1 with rfl | h3
        · rw [← ho]; exact h
        · exact HAB.out j (by omega) h2))
      have Ho := hid ho
      have HQ := hid (show q + 1 = i by omega)
      clear ho hz HAB hq
      by_cases hat : q = 8
      · have hatI : ((q : Int) == 8) = true := by simp [hat]
        rw [if_pos hat] at hon
        rw [hon] at HCM HNX
        clear hon hat
        by_cases hop : o = p
        · have hne : ((o : Int) != (p : Int)) = false := by simp [hop]
          have HN2 := hid (HNX.out hop)
          clear hop
          go_wp2_with fail
          go_roundw
          case rel =>
            first
              | exact ⟨q, (q : Int) - 1, by omega, rfl, by first | rfl | go_num, HN2.out, by first | rfl | trivial⟩
              | ((repeat apply Exists.intro); refine ⟨?_, rfl⟩; exact ⟨q, (q : Int) - 1, by omega, rfl, by first | rfl | go_num, HN2.out, by first | rfl | trivial⟩)
          case measure => simp [intOf]
        · have hne : ((o : Int) != (p : Int)) = true := by simp; omega
          have HFI := hid (show decide (o < p) = tst false p (vlV A) by
            have := HCM.out hop
            rw [← HTS.out, decide_eq_decide, only_vl 8 p (by decide), ← Ho.out] at *
            omega)
          clear hop
          go_wp2_with fail
          go_ret
          exact ⟨ret_bb HFI.out, HB2.out⟩
      · have hatI : ((q : Int) == 8) = false := by simp; omega
        rw [if_neg hat] at hon
        rw [hon] at HCM HNX
        clear hon hat
        by_cases hop : o = 0
        · have hne : ((o : Int) != 0) = false := by simp [hop]
          have HN2 := hid (HNX.out hop)
          clear hop
          go_wp2_with fail
          go_roundw
          case rel =>
            first
              | exact ⟨q, (q : Int) - 1, by omega, rfl, by first | rfl | go_num, HN2.out, by first | rfl | trivial⟩
              | ((repeat apply Exists.intro); refine ⟨?_, rfl⟩; exact ⟨q, (q : Int) - 1, by omega, rfl, by first | rfl | go_num, HN2.out, by first | rfl | trivial⟩)
          case measure => simp [intOf]
        · have hne : ((o : Int) != 0) = true := by simp; omega
          have HFI := hid (show decide ((o : Int) < 0) = tst false p (vlV A) by
            have := HCM.out hop
            rw [← HTS.out, decide_eq_decide, only_vl 8 p (by decide), ← Ho.out] at *
            omega)
          clear hop
          go_wp2_with fail
          go_ret
          exact ⟨ret_bb HFI.out, HB2.out⟩


set_option maxHeartbeats 4000000 in
set_option maxRecDepth 100000 in
theorem below_true (A : List Nat) (p : Nat) (w : World) (hA : Lmb A) (hz : ∀ j, 5 ≤ j → A.getD j 0 = 0) (hp : p < 65536) :
    Calls Tryd.prog 55 #[.agg (cW .u64 A).toArray, .int .u64 (p : Int), .bool true] w fun e w' => e = .returned (.bool (tst true p (vlV A))) ∧ Below w.heap.size w w' := by
  obtain ⟨h5, h5l⟩ := vl_five hA hz
  have HA := hid hA
  have H5 := hid h5
  have H5L := hid h5l
  have hi8 := size16 A hA.1
  have HRA := hid (range_row (Rw.new w .u64 98 A))
  clear hA hz h5 h5l
  go_enter Tryd.func55, Tryd.ntmps55
  go_wp2_with (refine wpList_load_mid rfl 98 (.tmp 3) rfl w.heap.size 0 rfl (cW .u64 A) _ HRA.out Tryd.underlying98 rfl hi8 ?_)
  refine (times_any A A 5 5 _ HA.out HA.out (by omega) (by omega) (by omega)).mono ?_
  rintro e w1 ⟨O, rfl, hO, hv, hb1⟩
  rw [H5.out] at hv
  have HRK := hid ((Rw.new w .u64 98 A).kept hb1)
  have HB1 := hid (below2 ((Below.refl _ w).alloc (Nat.le_refl _) _) hb1)
  have HO := hid hO
  have HV := hid hv
  clear hb1 hO hv HRA
  have HZ := hid (Rw.new w1 .u64 98 zr16)
  have HH := hid (HZ.out.there (cW .u64 O).toArray.size (by rw [List.size_toArray, cW_len, HO.out.1]; rfl))
  have hone := all_oneCell_toArray (cW_one .u64 O)
  have hi1 := size16a O HO.out.1
  have hi2 := size16 O HO.out.1
  obtain ⟨W2, hW2⟩ : ∃ W2, W2 = (w1.alloc (.cells (cW .u64 zr16).toArray 98)).setCells w1.heap.size 0 (cW .u64 O) := ⟨_, rfl⟩
  have hBW : Below w1.heap.size w1 W2 := by rw [hW2]; exact below_setCells (Nat.le_refl _) _ _ _ ((Below.refl _ _).alloc (Nat.le_refl _) _)
  have HR2 := hid (show Rw W2 w1.heap.size .u64 98 O by rw [hW2]; exact HZ.out.put O (by rw [HO.out.1]; rfl))
  have HA2 := hid (HRK.out.kept hBW)
  have HB2 := hid (below2 HB1.out hBW)
  have HW2 := hid hW2
  have hgw : w.heap.size ≤ w1.heap.size := HB1.out.size
  have HRGA := hid HA2.out.range
  have HRGO := hid HR2.out.range
  clear hW2 hBW
  go_wp2_with (first | (refine wpList_store_mid rfl 98 (.tmp 7) (.tmp 13) rfl w1.heap.size 0 (cW .u64 O).toArray rfl rfl HH.out hi1 hone ?_; refine wpListw HW2.out ?_) | refine wpList_load_mid rfl 98 (.tmp 7) rfl w1.heap.size 0 rfl (cW .u64 O) _ HRGO.out Tryd.underlying98 rfl hi2 ?_ | refine wpList_load_mid rfl 98 (.tmp 3) rfl w.heap.size 0 rfl (cW .u64 A) _ HRGA.out Tryd.underlying98 rfl hi8 ?_)
  refine (times_any O A 10 5 W2 HO.out HA.out (by omega) (by omega) (by omega)).mono ?_
  rintro e w3 ⟨O3, rfl, hO3, hv3, hb3⟩
  have hlt10 : vlV O < 65536 ^ 10 := by
    rw [HV.out]
    exact Nat.lt_of_lt_of_eq (Nat.mul_lt_mul'' H5L.out H5L.out) (by decide)
  rw [vl_ten HO.out hlt10, H5.out, HV.out] at hv3
  have HO3 := hid hO3
  have HV3 := hid hv3
  have HR3 := hid (HR2.out.kept hb3)
  have HB3 := hid (below2 HB2.out hb3)
  clear hO3 hv3 hb3 hlt10 HR2 HA2 HB2 HRGA HRGO HH hone hi1 hi2 HW2
  have HH := hid (HR3.out.there (cW .u64 O3).toArray.size (by rw [List.size_toArray, cW_len, HO3.out.1, HO.out.1]))
  have hone := all_oneCell_toArray (cW_one .u64 O3)
  have hi1 := size16a O3 HO3.out.1
  obtain ⟨W4, hW4⟩ : ∃ W4, W4 = w3.setCells w1.heap.size 0 (cW .u64 O3) := ⟨_, rfl⟩
  have HR4 := hid (show Rw W4 w1.heap.size .u64 98 O3 by rw [hW4]; exact HR3.out.put O3 (by rw [HO3.out.1, HO.out.1]))
  have HB4 := hid (show Below w.heap.size w W4 by rw [hW4]; exact below_setCells hgw _ _ _ HB3.out)
  have HW4 := hid hW4
  clear hW4
  go_wp2_with (first | (refine wpList_store_mid rfl 98 (.tmp 7) (.tmp 17) rfl w1.heap.size 0 (cW .u64 O3).toArray rfl rfl HH.out hi1 hone ?_; refine wpListw HW4.out ?_))
  have HTS := hid (show decide (vlV O3 ≤ 65536 ^ 12 * p) = tst true p (vlV A) by unfold tst; rw [HV3.out]; rfl)

  obtain ⟨G, hG⟩ : ∃ G, G = w1.heap.size := ⟨_, rfl⟩
  rw [← hG] at HR4 ⊢
  clear hG
  go_loopw [9] (fun v9 wr => ∃ (i : Nat) (z : Int), i ≤ 16 ∧ z = (i : Int) - 1 ∧ v9 = .int .i64 z ∧ Hid (∀ j, i ≤ j → j < 16 → O3.getD j 0 = (onlyV 12 p).getD j 0) ∧ wr = W4) (fun v9 _ => (intOf v9 + 1).toNat)
  case atStart => exact ⟨16, 15, by omega, rfl, rfl, fun j h1 h2 => by omega, rfl⟩
  case round =>
    obtain ⟨i, z, hi, hz, rfl, HAB, rfl⟩ := hrel
    rcases Nat.eq_zero_or_pos i with h0 | h0
    · have hz1 : z = -1 := by omega
      have HFI := hid (show true = tst true p (vlV A) by
        have : O3 = onlyV 12 p := vl_same _ _ HO3.out (only_lmb 12 p hp) (fun j hj => HAB.out j (by omega) hj)
        rw [← HTS.out, this, only_vl 12 p (by decide)]
        simp)
      subst hz1
      clear hz HAB h0 hi
      go_wp2_with fail
      go_ret
      exact ⟨ret_bb HFI.out, HB4.out⟩
    · obtain ⟨q, hq⟩ : ∃ q, q = i - 1 := ⟨_, rfl⟩
      obtain rfl : z = (q : Int) := by omega
      obtain ⟨o, ho⟩ : ∃ o, o = O3.getD q 0 := ⟨_, rfl⟩
      have cs : wr.cell? ⟨G, q, none⟩ = some (.int .u64 (o : Int)) := by rw [ho]; exact HR4.out.cell q (by rw [HO3.out.1]; omega)
      have hq16 : (q : Int) < 16 := by omega
      have hq0 : (0 : Int) ≤ (q : Int) := by omega
      have hon := only_get 12 p q (by decide)
      have HCM := hid (fun (h : o ≠ (onlyV 12 p).getD q 0) => vl_cmp O3 (onlyV 12 p) q HO3.out (only_lmb 12 p hp) (by omega) (fun j h1 h2 => HAB.out j (by omega) h2) (by rw [← ho]; exact h))
      have HNX := hid (fun (h : o = (onlyV 12 p).getD q 0) => (show ∀ j, q ≤ j → j < 16 → O3.getD j 0 = (onlyV 12 p).getD j 0 from fun j h1 h2 => by
        rcases Nat.eq_or_lt_of_le h1 with rfl | h3
        · rw [← ho]; exact h
        · exact HAB.out j (by omega) h2))
      have Ho := hid ho
      have HQ := hid (show q + 1 = i by omega)
      clear ho hz HAB hq
      by_cases hat : q = 12
      · have hatI : ((q : Int) == 12) = true := by simp [hat]
        rw [if_pos hat] at hon
        rw [hon] at HCM HNX
        clear hon hat
        by_cases hop : o = p
        · have hne : ((o : Int) != (p : Int)) = false := by simp [hop]
          have HN2 := hid (HNX.out hop)
          clear hop
          go_wp2_with fail
          go_roundw
          case rel =>
            first
              | exact ⟨q, (q : Int) - 1, by omega, rfl, by first | rfl | go_num, HN2.out, by first | rfl | trivial⟩
              | ((repeat apply Exists.intro); refine ⟨?_, rfl⟩; exact ⟨q, (q : Int) - 1, by omega, rfl, by first | rfl | go_num, HN2.out, by first | rfl | trivial⟩)
          case measure => simp [intOf]
        · have hne : ((o : Int) != (p : Int)) = true := by simp; omega
          have HFI := hid (show decide (o < p) = tst true p (vlV A) by
            have := HCM.out hop
            rw [← HTS.out, decide_eq_decide, only_vl 12 p (by decide), ← Ho.out] at *
            omega)
          clear hop
          go_wp2_with fail
          go_ret
          exact ⟨ret_bb HFI.out, HB4.out⟩
      · have hatI : ((q : Int) == 12) = false := by simp; omega
        rw [if_neg hat] at hon
        rw [hon] at HCM HNX
        clear hon hat
        by_cases hop : o = 0
        · have hne : ((o : Int) != 0) = false := by simp [hop]
          have HN2 := hid (HNX.out hop)
          clear hop
          go_wp2_with fail
          go_roundw
          case rel =>
            first
              | exact ⟨q, (q : Int) - 1, by omega, rfl, by first | rfl | go_num, HN2.out, by first | rfl | trivial⟩
              | ((repeat apply Exists.intro); refine ⟨?_, rfl⟩; exact ⟨q, (q : Int) - 1, by omega, rfl, by first | rfl | go_num, HN2.out, by first | rfl | trivial⟩)
          case measure => simp [intOf]
        · have hne : ((o : Int) != 0) = true := by simp; omega
          have HFI := hid (show decide ((o : Int) < 0) = tst true p (vlV A) by
            have := HCM.out hop
            rw [← HTS.out, decide_eq_decide, only_vl 12 p (by decide), ← Ho.out] at *
            omega)
          clear hop
          go_wp2_with fail
          go_ret
          exact ⟨ret_bb HFI.out, HB4.out⟩


theorem below_any (cube : Bool) (A : List Nat) (p : Nat) (w : World) (hA : Lmb A) (hz : ∀ j, 5 ≤ j → A.getD j 0 = 0) (hp : p < 65536) :
    Calls Tryd.prog 55 #[.agg (cW .u64 A).toArray, .int .u64 (p : Int), .bool cube] w fun e w' => e = .returned (.bool (tst cube p (vlV A))) ∧ Below w.heap.size w w' := by
  cases cube
  · exact below_false A p w hA hz hp
  · exact below_true A p w hA hz hp

end Go.Proofs.YtbdlicomkpnalaaDoor
