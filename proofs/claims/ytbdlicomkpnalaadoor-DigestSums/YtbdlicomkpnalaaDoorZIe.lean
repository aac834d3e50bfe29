/-
  The walk of ostiaryref8.root.
-/
import Derived.Test.YtbdlicomkpnalaaDoorZId
set_option linter.unusedSimpArgs false
set_option linter.unusedVariables false
namespace Go.Proofs.YtbdlicomkpnalaaDoor
open Go.RowKit

theorem ret_u8 {a b : Int} (h : a = b) : Ending.returned (.int .u64 a) = .returned (.int .u64 b) := by rw [h]

/-- What the search lies in. -/
def Srt (w wr : World) (O : List Nat) (i T : Nat) (cube : Bool) (p : Nat) : Prop :=
  Lmb O ∧ (∀ j, 5 ≤ j → O.getD j 0 = 0) ∧ LowZ O i ∧ rtV (tst cube p) i (vlV O) = T ∧ Rw wr w.heap.size .u64 98 O ∧ Below w.heap.size w wr

set_option maxHeartbeats 4000000 in
set_option maxRecDepth 100000 in
theorem root_any (cube : Bool) (p : Nat) (w : World) (hp : p < 65536) :
    Calls Tryd.prog 30 #[.int .u64 (p : Int), .bool cube] w fun e w' => e = .returned (.int .u64 ((rootV cube p : Nat) : Int)) ∧ Below w.heap.size w w' := by
  obtain ⟨T, hT⟩ : ∃ T, T = rtV (tst cube p) 72 0 := ⟨_, rfl⟩
  have HT := hid hT
  have HRV := hid (show rootV cube p = T % 2 ^ 64 by rw [hT]; rfl)
  rw [HRV.out]
  clear hT
  go_enter Tryd.func30, Tryd.ntmps30
  go_wp2_with fail
  go_loopw [6] (fun v6 wr => ∃ (i : Nat) (z : Int) (O : List Nat), i ≤ 72 ∧ z = (i : Int) - 1 ∧ v6 = .int .i64 z ∧ Hid (Srt w wr O i T cube p)) (fun v6 _ => (intOf v6 + 1).toNat)
  case atStart =>
    refine ⟨72, 71, zr16, by omega, rfl, rfl, lmb_zero, fun j _ => ?_, ⟨fun j _ => ?_, fun _ => ?_⟩, ?_, ?_, ?_⟩
    · simp only [zr16, zrs, List.getD, List.getElem?_replicate]; split <;> rfl
    · simp only [zr16, zrs, List.getD, List.getElem?_replicate]; split <;> rfl
    · have : zr16.getD (72 / 16) 0 = 0 := by decide
      rw [this]
    · have : vlV zr16 = 0 := by decide
      rw [this]; exact HT.out.symm
    · exact Rw.laid rfl (by rfl)
    · exact (Below.refl _ w).alloc (Nat.le_refl _) _
  case round =>
    obtain ⟨i, z, O, hi, hz, rfl, HS⟩ := hrel
    rcases Nat.eq_zero_or_pos i with h0 | h0
    · obtain rfl : z = -1 := by omega
      obtain ⟨hO, _, _, hr, hR, hB⟩ := HS.out
      subst h0
      obtain ⟨x0, hx0⟩ : ∃ x, x = O.getD 0 0 := ⟨_, rfl⟩
      obtain ⟨x1, hx1⟩ : ∃ x, x = O.getD 1 0 := ⟨_, rfl⟩
      obtain ⟨x2, hx2⟩ : ∃ x, x = O.getD 2 0 := ⟨_, rfl⟩
      obtain ⟨x3, hx3⟩ : ∃ x, x = O.getD 3 0 := ⟨_, rfl⟩
      have b0 : x0 < 65536 := by rw [hx0]; exact hO.2 0
      have b1 : x1 < 65536 := by rw [hx1]; exact hO.2 1
      have b2 : x2 < 65536 := by rw [hx2]; exact hO.2 2
      have b3 : x3 < 65536 := by rw [hx3]; exact hO.2 3
      have c0 : wr.cell? ⟨w.heap.size, 0, none⟩ = some (.int .u64 (x0 : Int)) := by rw [hx0]; exact hR.cell 0 (by rw [hO.1]; omega)
      have c1 : wr.cell? ⟨w.heap.size, 1, none⟩ = some (.int .u64 (x1 : Int)) := by rw [hx1]; exact hR.cell 1 (by rw [hO.1]; omega)
      have c2 : wr.cell? ⟨w.heap.size, 2, none⟩ = some (.int .u64 (x2 : Int)) := by rw [hx2]; exact hR.cell 2 (by rw [hO.1]; omega)
      have c3 : wr.cell? ⟨w.heap.size, 3, none⟩ = some (.int .u64 (x3 : Int)) := by rw [hx3]; exact hR.cell 3 (by rw [hO.1]; omega)
      have hv : T % 2 ^ 64 = x0 + 65536 * (x1 + 65536 * (x2 + 65536 * x3)) := by rw [← hr, hx0, hx1, hx2, hx3]; exact vl_low4 hO
      obtain ⟨y1, hy1⟩ : ∃ y, y = x1 * 65536 := ⟨_, rfl⟩
      obtain ⟨y2, hy2⟩ : ∃ y, y = x2 * 4294967296 := ⟨_, rfl⟩
      obtain ⟨y3, hy3⟩ : ∃ y, y = x3 * 281474976710656 := ⟨_, rfl⟩
      obtain ⟨z1, hz1⟩ : ∃ y, y = x0 + y1 := ⟨_, rfl⟩
      obtain ⟨z2, hz2⟩ : ∃ y, y = z1 + y2 := ⟨_, rfl⟩
      obtain ⟨z3, hz3⟩ : ∃ y, y = z2 + y3 := ⟨_, rfl⟩
      have f1 : IntKind.u64.wrap ((x1 : Int) * 65536) = (y1 : Int) := by rw [IntKind.wrap_u64]; omega
      have f2 : IntKind.u64.wrap ((x2 : Int) * 4294967296) = (y2 : Int) := by rw [IntKind.wrap_u64]; omega
      have f3 : IntKind.u64.wrap ((x3 : Int) * 281474976710656) = (y3 : Int) := by rw [IntKind.wrap_u64]; omega
      have o1 : bits .or .u64 (x0 : Int) (y1 : Int) = (z1 : Int) := by
        rw [u64_or_nat _ _ (by omega) (by omega), hz1, hy1]
        have := or_up x0 x1 16 b0
        rw [show (2 : Nat) ^ 16 = 65536 by decide] at this
        rw [this]
      have o2 : bits .or .u64 (z1 : Int) (y2 : Int) = (z2 : Int) := by
        rw [u64_or_nat _ _ (by omega) (by omega), hz2, hy2]
        have := or_up z1 x2 32 (by omega)
        rw [show (2 : Nat) ^ 32 = 4294967296 by decide] at this
        rw [this]
      have o3 : bits .or .u64 (z2 : Int) (y3 : Int) = (z3 : Int) := by
        rw [u64_or_nat _ _ (by omega) (by omega), hz3, hy3]
        have := or_up z2 x3 48 (by omega)
        rw [show (2 : Nat) ^ 48 = 281474976710656 by decide] at this
        rw [this]
      have HV := hid (show z3 = T % 2 ^ 64 by rw [hv]; omega)
      have HB := hid hB
      clear hO hr hR hB hx0 hx1 hx2 hx3 hv hy1 hy2 hy3 hz1 hz2 hz3 HS hz hi
      go_wp2_with fail
      go_ret
      exact ⟨ret_u8 (by rw [← HV.out]), HB.out⟩
    · obtain ⟨k, hk⟩ : ∃ k, k = i - 1 := ⟨_, rfl⟩
      obtain rfl : i = k + 1 := by omega
      obtain rfl : z = (k : Int) := by omega
      obtain ⟨hO, hz5, hlo, hr, hR, hB⟩ := HS.out
      obtain ⟨j, hj⟩ : ∃ j, j = k / 16 := ⟨_, rfl⟩
      obtain ⟨r, hrr⟩ : ∃ r, r = k % 16 := ⟨_, rfl⟩
      obtain ⟨o, ho⟩ : ∃ o, o = O.getD j 0 := ⟨_, rfl⟩
      obtain ⟨b, hb⟩ : ∃ b, b = 2 ^ r := ⟨_, rfl⟩
      obtain ⟨y, hy⟩ : ∃ y, y = o + b := ⟨_, rfl⟩
      have hlo2 := low_at hlo
      rw [← hj, ← hrr, ← ho] at hlo2
      have hy16 : y < 65536 := by rw [hy, hb]; exact bit_room hlo2 (by rw [ho]; exact hO.2 j) (by omega)
      have t1 : (k : Int).tdiv 16 = (j : Int) := by rw [Int.tdiv_eq_ediv_of_nonneg (by omega)]; omega
      have t2 : (k : Int).tmod 16 = (r : Int) := by rw [Int.tmod_eq_emod_of_nonneg (by omega)]; omega
      have t1' : (k : Int) / 16 = (j : Int) := by omega
      have t2' : (k : Int) % 16 = (r : Int) := by omega
      have hb16 : b < 65536 := by rw [hb]; exact Nat.pow_lt_pow_right (by decide) (show r < 16 by omega)
      have t3 : (2 : Int) ^ r = (b : Int) := by rw [hb, Int.natCast_pow]; rfl
      have t4 : bits .or .u64 (o : Int) (b : Int) = (y : Int) := by
        rw [u64_or_nat _ _ (by rw [ho]; have := hO.2 j; omega) (by omega), hy, hb]
        rw [or_bit o r hlo2]
      have hj16 : (j : Int) < 16 := by omega
      have hr64 : r < 16 := by omega
      have hkk : (0 : Int) ≤ (k : Int) := by omega
      obtain ⟨O2, hO2⟩ : ∃ O2, O2 = O.set j y := ⟨_, rfl⟩
      have HO2 := hid (show Lmb O2 ∧ (∀ j', 5 ≤ j' → O2.getD j' 0 = 0) ∧ LowZ O2 k ∧ vlV O2 = vlV O + 2 ^ k by
        rw [hO2]
        refine ⟨lmb_set hO j y hy16, fun j' hj' => by rw [get_set _ _ _ _ (by omega)]; exact hz5 j' hj', ?_, ?_⟩
        · have := low_set (k := k) (O := O) (by rw [hO.1]; omega) hlo
          rw [← hj, ← hrr, ← ho, ← hb, ← hy] at this
          exact this
        · have := vl_bit O k (by rw [hO.1]; omega)
          rw [← hj, ← hrr, ← ho, ← hb, ← hy] at this
          exact this)
      have HRT := hid (show rtV (tst cube p) k (if tst cube p (vlV O2) then vlV O2 else vlV O) = T by
        rw [← hr, rtV, force_eq, HO2.out.2.2.2])
      have HOZ := hid (show LowZ O k from low_down hlo)
      -- the copy
      have HRG := hid hR.range
      have hi8 := size16 O hO.1
      have hi8a := size16a O hO.1
      have hone := all_oneCell_toArray (cW_one .u64 O)
      have HZ := hid (Rw.new wr .u64 98 zr16)
      have HH := hid (HZ.out.there (cW .u64 O).toArray.size (by rw [List.size_toArray, cW_len, hO.1]; rfl))
      obtain ⟨W2, hW2⟩ : ∃ W2, W2 = (wr.alloc (.cells (cW .u64 zr16).toArray 98)).setCells wr.heap.size 0 (cW .u64 O) := ⟨_, rfl⟩
      have hbW : Below wr.heap.size wr W2 := by rw [hW2]; exact below_setCells (Nat.le_refl _) _ _ _ ((Below.refl _ _).alloc (Nat.le_refl _) _)
      have hR2 : Rw W2 wr.heap.size .u64 98 O := by rw [hW2]; exact HZ.out.put O (by rw [hO.1]; rfl)
      have HW2 := hid hW2
      have cs : W2.cell? ⟨wr.heap.size, j, none⟩ = some (.int .u64 (o : Int)) := by rw [ho]; exact hR2.cell j (by rw [hO.1]; omega)
      have cf := hR2.free j
      obtain ⟨W3, hW3⟩ : ∃ W3, W3 = W2.setCell ⟨wr.heap.size, j, none⟩ (.int .u64 (y : Int)) := ⟨_, rfl⟩
      have hR3 : Rw W3 wr.heap.size .u64 98 O2 := by rw [hW3, hO2]; exact hR2.set j y
      have hbW3 : Below wr.heap.size wr W3 := by rw [hW3]; exact hbW.setCell (p := ⟨wr.heap.size, j, none⟩) (Nat.le_refl _) _
      have HW3 := hid hW3.symm
      have hi9 := size16 O2 HO2.out.1.1
      have hi9a := size16a O2 HO2.out.1.1
      have hone2 := all_oneCell_toArray (cW_one .u64 O2)
      have HRG3 := hid (show (W2.setCell ⟨wr.heap.size, j, none⟩ (.int .u64 (y : Int))).rangeAt wr.heap.size 0 (cW .u64 O2) by rw [← hW3]; exact hR3.range)
      have HR3 := hid hR3
      have HBW3 := hid hbW3
      have hgw : w.heap.size ≤ wr.heap.size := hB.size
      have hgn : w.heap.size ≠ wr.heap.size := by have := hR.lt; omega
      have HR0 := hid hR
      have HB0 := hid hB
      have HOL := hid hO.1
      have HOA : Hid (Lmb O ∧ ∀ j, 5 ≤ j → O.getD j 0 = 0) := ⟨hO, hz5⟩
      clear hO hz5 hlo hr hR hB hj hrr ho hb hy hlo2 hO2 hW2 hbW hR2 hW3 hR3 hbW3 HS hz hk h0
      go_wp2_with (first | refine wpList_load_mid rfl 98 (.tmp 5) rfl w.heap.size 0 rfl (cW .u64 O) _ HRG.out Tryd.underlying98 rfl hi8 ?_ | (refine wpList_store_mid rfl 98 (.tmp 7) (.tmp 12) rfl wr.heap.size 0 (cW .u64 O).toArray rfl rfl HH.out hi8a hone ?_; refine wpListw HW2.out ?_) | refine wpList_load_mid rfl 98 (.tmp 7) rfl wr.heap.size 0 rfl (cW .u64 O2) _ HRG3.out Tryd.underlying98 rfl hi9 ?_)
      rw [HW3.out]
      refine (below_any cube O2 p W3 HO2.out.1 HO2.out.2.1 hp).mono ?_
      rintro e w4 ⟨rfl, hb4⟩
      have HR4 := hid (HR3.out.kept hb4)
      have HR04 := hid ((HR0.out.kept HBW3.out).kept hb4)
      have HB4 := hid (below2 (below2 HB0.out HBW3.out) hb4)
      obtain ⟨x, hx⟩ : ∃ x, x = wr.heap.size := ⟨_, rfl⟩
      rw [← hx] at HR4 hgn hgw ⊢
      have HRT2 := hid HRT.out
      clear hb4 HRG3 HW3 HW2 HRG hi8 hi8a hone HZ HH cs cf HR3 HBW3 HR0 HB0 hx HRT
      cases hq : tst cube p (vlV O2) with
      | true =>
        have HRN := hid (show Srt w (w4.setCells w.heap.size 0 (cW .u64 O2)) O2 k T cube p from ⟨HO2.out.1, HO2.out.2.1, HO2.out.2.2.1, by have := HRT2.out; rw [hq] at this; exact this, HR04.out.put O2 (by rw [HO2.out.1.1, HOL.out]), below_setCells (Nat.le_refl _) _ _ _ HB4.out⟩)
        have HH := hid (HR04.out.there (cW .u64 O2).toArray.size (by rw [List.size_toArray, cW_len, HO2.out.1.1, HOL.out]))
        have HRG := hid HR4.out.range
        clear hq HRT2
        go_wp2_with (first | refine wpList_load_mid rfl 98 (.tmp 7) rfl x 0 rfl (cW .u64 O2) _ HRG.out Tryd.underlying98 rfl hi9 ?_ | refine wpList_store_mid rfl 98 (.tmp 5) (.tmp 29) rfl w.heap.size 0 (cW .u64 O2).toArray rfl rfl HH.out hi9a hone2 ?_)
        go_roundw
        case rel =>
          first
            | exact ⟨k, (k : Int) - 1, O2, by omega, rfl, by first | rfl | go_num, HRN.out⟩
            | ((repeat apply Exists.intro); refine ⟨?_, rfl⟩; exact ⟨k, (k : Int) - 1, O2, by omega, rfl, by first | rfl | go_num, HRN.out⟩)
        case measure => simp [intOf]
      | false =>
        have HRN := hid (fun (hO : Lmb O) (h5 : ∀ j, 5 ≤ j → O.getD j 0 = 0) => (show Srt w w4 O k T cube p from ⟨hO, h5, HOZ.out, by have := HRT2.out; rw [hq] at this; exact this, HR04.out, HB4.out⟩))
        have HRN2 := hid (HRN.out HOA.out.1 HOA.out.2)
        clear hq HRT2 HRN
        go_wp2_with fail
        go_roundw
        case rel =>
          first
            | exact ⟨k, (k : Int) - 1, O, by omega, rfl, by first | rfl | go_num, HRN2.out⟩
            | ((repeat apply Exists.intro); refine ⟨?_, rfl⟩; exact ⟨k, (k : Int) - 1, O, by omega, rfl, by first | rfl | go_num, HRN2.out⟩)
        case measure => simp [intOf]

end Go.Proofs.YtbdlicomkpnalaaDoor
