/-
  The walk of digest's summed, at 64 bits and 64 bytes.
-/
import Derived.Test.YtbdlicomkpnalaaDoorZLwr6
import Derived.Test.YtbdlicomkpnalaaDoorZi
import Derived.Test.YtbdlicomkpnalaaDoorZc
set_option linter.unusedSimpArgs false
set_option linter.unusedVariables false
namespace Go.Proofs.YtbdlicomkpnalaaDoor
open Go.RowKit

theorem start_bd64 (f : Nat) : BdS (2 ^ 64) (startV wid sqr f) := by
  have h : ∀ i, sqr.getD i 0 / 2 ^ (64 - 64) < 2 ^ 64 := by
    intro i
    have := sqr_lt i
    rw [Nat.div_lt_iff_lt_mul (Nat.two_pow_pos _)]
    exact this
  exact ⟨h _, h _, h _, h _, h _, h _, h _, h _⟩

theorem kindSize64 : (Tryd.prog.info? 73).map (·.size) = some ([.int .u64 64, .int .i64 80, .int .u64 1, .int .u64 8, .int .u64 7, .int .u64 19, .int .u64 61, .int .u64 6, .int .u64 28, .int .u64 34, .int .u64 39, .int .u64 14, .int .u64 18, .int .u64 41] : List Value).length := by kernel_rfl

theorem wpList_world_64 {P : Program} {ops : Array Oper} {Q : Exit → Act → World → Prop} {rest : List Oper} {a : Act} {w w' : World} (e : w = w') (h : wpList P ops Q rest a w) : wpList P ops Q rest a w' := e ▸ h

theorem ownsRow_lower8_64 {w : World} {B B' : Nat} {e : TypeId} {size : Nat} {v : Value} {n : Nat} {xs : List Value} (h : w.ownsRow B e size v n xs) (hB : B' ≤ B) : w.ownsRow B' e size v n xs := by
  refine ⟨h.1, ?_⟩
  rcases h.2 with hn | ⟨g, cap, cur, rfl, hb, rest⟩
  · exact .inl hn
  · exact .inr ⟨g, cap, cur, rfl, Nat.le_trans hB hb, rest⟩

set_option maxHeartbeats 4000000 in
set_option maxRecDepth 100000 in
theorem summed64 (fm : Nat) (a0 : Option Addr) (len cap : Nat) (l : List UInt8) (w : World) (hg : Gt w) (hv : SlB w (.slice a0 len cap) l) (hlc : len ≤ cap) (hcm : cap ≤ maxLen) (hl : l.length ≤ 100000) (hf : fm ≤ 8) :
    Calls Tryd.prog 33 #[.agg #[.int .u64 64, .int .i64 80, .int .u64 1, .int .u64 8, .int .u64 7, .int .u64 19, .int .u64 61, .int .u64 6, .int .u64 28, .int .u64 34, .int .u64 39, .int .u64 14, .int .u64 18, .int .u64 41], .int .i64 (fm : Int), .int .i64 64, .slice a0 len cap] w fun e' w' =>
      ∃ G, e' = .returned (.slice (some ⟨G, 0, none⟩) 64 64) ∧ w'.ownsRow w.heap.size 5 1 (.slice (some ⟨G, 0, none⟩) 64 64) 64 (Lib.byteCells (summedV wid sqr cbr fm 64 l)) ∧ Below w.heap.size w w' := by
  obtain ⟨a, b, c, d, e, f, g, h, hS⟩ : ∃ a b c d e f g h : Nat, startV wid sqr fm = ⟨a, b, c, d, e, f, g, h⟩ := ⟨_, _, _, _, _, _, _, _, rfl⟩
  obtain ⟨qa, qb, qc, qd, qe, qf, qg, qh, hQ⟩ : ∃ qa qb qc qd qe qf qg qh : Nat, workV wid cbr 128 (l.length / 128) ⟨a, b, c, d, e, f, g, h⟩ l = ⟨qa, qb, qc, qd, qe, qf, qg, qh⟩ := ⟨_, _, _, _, _, _, _, _, rfl⟩
  obtain ⟨ra, rb, rc, rd, re, rf, rg, rh, hR⟩ : ∃ ra rb rc rd re rf rg rh : Nat, workV wid cbr 128 2 ⟨qa, qb, qc, qd, qe, qf, qg, qh⟩ (endV wid l) = ⟨ra, rb, rc, rd, re, rf, rg, rh⟩ := ⟨_, _, _, _, _, _, _, _, rfl⟩
  have HSV := hid (show summedV wid sqr cbr fm 64 l = (toldV wid ⟨ra, rb, rc, rd, re, rf, rg, rh⟩).take 64 by
    show (toldV wid (workV wid cbr 128 2 (workV wid cbr 128 (l.length / 128) (startV wid sqr fm) l) (endV wid l))).take 64 = _
    rw [hS, hQ, hR])
  have HBS := hid (show BdS (2 ^ 64) ⟨a, b, c, d, e, f, g, h⟩ by rw [← hS]; exact start_bd64 fm)
  have HST := hid (show ∀ X : World, Gt X → Calls Tryd.prog 60 #[.agg #[.int .u64 64, .int .i64 80, .int .u64 1, .int .u64 8, .int .u64 7, .int .u64 19, .int .u64 61, .int .u64 6, .int .u64 28, .int .u64 34, .int .u64 39, .int .u64 14, .int .u64 18, .int .u64 41], .int .i64 (fm : Int)] X fun e' w' => e' = .returned (.agg #[.int .u64 (a : Int), .int .u64 (b : Int), .int .u64 (c : Int), .int .u64 (d : Int), .int .u64 (e : Int), .int .u64 (f : Int), .int .u64 (g : Int), .int .u64 (h : Int)]) ∧ Below X.heap.size X w' by
    intro X hX
    have := start64 fm X hf hX
    rw [hS] at this
    exact this)
  have HQ := hid hQ
  have HRR := hid hR
  have HG := hid hg
  have HV := hid hv
  have HLC := hid hlc
  have HCM := hid hcm
  have HL := hid hl
  rw [HSV.out]
  clear hS hQ hR hg hv hlc hcm hl
  have hks := kindSize64
  have hi8 : ∀ s : List Nat, s.length = 8 → (Tryd.prog.info? 77).map (·.size) = some (cW .u64 s).length := size8_6
  go_enter Tryd.func33, Tryd.ntmps33
  go_wp2_with fail
  refine (HST.out _ (HG.out.kept ((Below.refl _ w).alloc (Nat.le_refl _) _))).mono ?_
  rintro e1 w1 ⟨rfl, hb1⟩
  have HA1 := hid (row_kept (heap_alloc_new w _) hb1)
  have HB1 := hid (below2 ((Below.refl _ w).alloc (Nat.le_refl _) _) hb1)
  clear hb1
  have HZ := hid (Rw.new w1 .u64 77 (List.replicate 8 0))
  have HH := hid (HZ.out.there (cW .u64 [a, b, c, d, e, f, g, h]).toArray.size rfl)
  have hone := all_oneCell_toArray (cW_one .u64 [a, b, c, d, e, f, g, h])
  have hi1 := size8a_6 [a, b, c, d, e, f, g, h] rfl
  have hgn : w.heap.size ≠ w1.heap.size := by
    have h1 := (Array.getElem?_eq_some_iff.1 HA1.out).1
    omega
  have hgw : w.heap.size ≤ w1.heap.size := HB1.out.size
  have HPW := hid (fun (X : World) (hX : Rw X w1.heap.size .u64 77 [a, b, c, d, e, f, g, h] ∧ Below w1.heap.size w1 X) => (show X.rangeAt w.heap.size 0 [.int .u64 64, .int .i64 80, .int .u64 1, .int .u64 8, .int .u64 7, .int .u64 19, .int .u64 61, .int .u64 6, .int .u64 28, .int .u64 34, .int .u64 39, .int .u64 14, .int .u64 18, .int .u64 41] ∧ X.rangeAt w1.heap.size 0 (cW .u64 [a, b, c, d, e, f, g, h]) ∧ X.heap[w.heap.size]? = some (.cells #[.int .u64 64, .int .i64 80, .int .u64 1, .int .u64 8, .int .u64 7, .int .u64 19, .int .u64 61, .int .u64 6, .int .u64 28, .int .u64 34, .int .u64 39, .int .u64 14, .int .u64 18, .int .u64 41] 73 (0, 0)) ∧ Below w.heap.size w X ∧ Rw X w1.heap.size .u64 77 [a, b, c, d, e, f, g, h] from ⟨range_row (cs := [.int .u64 64, .int .i64 80, .int .u64 1, .int .u64 8, .int .u64 7, .int .u64 19, .int .u64 61, .int .u64 6, .int .u64 28, .int .u64 34, .int .u64 39, .int .u64 14, .int .u64 18, .int .u64 41]) (row_kept HA1.out hX.2), hX.1.range, row_kept HA1.out hX.2, below2 HB1.out hX.2, hX.1⟩))
  have HP0 := hid (show Rw ((w1.alloc (.cells (cW .u64 (List.replicate 8 0)).toArray 77)).setCells w1.heap.size 0 (cW .u64 [a, b, c, d, e, f, g, h])) w1.heap.size .u64 77 [a, b, c, d, e, f, g, h] ∧ Below w1.heap.size w1 ((w1.alloc (.cells (cW .u64 (List.replicate 8 0)).toArray 77)).setCells w1.heap.size 0 (cW .u64 [a, b, c, d, e, f, g, h])) from ⟨HZ.out.put [a, b, c, d, e, f, g, h] rfl, below_setCells (Nat.le_refl _) _ _ _ ((Below.refl _ _).alloc (Nat.le_refl _) _)⟩)
  have hi2 := size8_6 [a, b, c, d, e, f, g, h] rfl
  obtain ⟨W2, hW2⟩ : ∃ W2, W2 = (w1.alloc (.cells (cW .u64 (List.replicate 8 0)).toArray 77)).setCells w1.heap.size 0 (cW .u64 [a, b, c, d, e, f, g, h]) := ⟨_, rfl⟩
  rw [← hW2] at HP0
  have HPP := hid (HPW.out W2 HP0.out)
  have HRK := hid HPP.out.1
  have HRS := hid HPP.out.2.1
  have HW2 := hid hW2
  clear hW2
  obtain ⟨g0, hg0⟩ : ∃ g0, g0 = w1.heap.size := ⟨_, rfl⟩
  go_wp2_with (first | (refine wpList_store_mid rfl 77 (.tmp 9) (.tmp 12) rfl w1.heap.size 0 (cW .u64 [a, b, c, d, e, f, g, h]).toArray rfl rfl HH.out hi1 hone ?_; refine wpList_world_64 HW2.out ?_) | refine wpList_load_mid rfl 73 (.tmp 4) rfl w.heap.size 0 rfl [.int .u64 64, .int .i64 80, .int .u64 1, .int .u64 8, .int .u64 7, .int .u64 19, .int .u64 61, .int .u64 6, .int .u64 28, .int .u64 34, .int .u64 39, .int .u64 14, .int .u64 18, .int .u64 41] _ HRK.out Tryd.underlying73 rfl hks ?_ | refine wpList_load_mid rfl 77 (.tmp 9) rfl w1.heap.size 0 rfl (cW .u64 [a, b, c, d, e, f, g, h]) _ HRS.out Tryd.underlying77 rfl hi2 ?_)
  have HQ2 := hid HPP.out.2.2.2.2
  have HA2 := hid HPP.out.2.2.1
  have HB2 := hid HPP.out.2.2.2.1
  rw [← hg0] at hgn hgw HQ2 ⊢
  clear hg0 HZ HH hone hi1 HA1 HB1 HPP HPW HP0 HW2
  refine (worked_l64 a b c d e f g h qa qb qc qd qe qf qg qh a0 len cap (l.length / 128) l W2 (HG.out.kept HB2.out) (HV.out.kept HB2.out) HLC.out HCM.out (Nat.le_refl _) HBS.out HQ.out).mono ?_
  rintro e3 w3 ⟨rfl, hbq, hb3⟩
  have HBQ := hid hbq
  have HA3 := hid (row_kept HA2.out hb3)
  have HB3 := hid (below2 HB2.out hb3)
  have HR3 := hid (HQ2.out.kept hb3)
  clear hbq hb3 HA2 HB2 HQ2 HRK HRS hi2
  have HH := hid (HR3.out.there (cW .u64 [qa, qb, qc, qd, qe, qf, qg, qh]).toArray.size rfl)
  have hone := all_oneCell_toArray (cW_one .u64 [qa, qb, qc, qd, qe, qf, qg, qh])
  have hi1 := size8a_6 [qa, qb, qc, qd, qe, qf, qg, qh] rfl
  go_wp2_with (refine wpList_store_mid rfl 77 (.tmp 9) (.tmp 16) rfl g0 0 (cW .u64 [qa, qb, qc, qd, qe, qf, qg, qh]).toArray rfl rfl HH.out hi1 hone ?_)
  generalize hW4 : w3.setCells g0 0 (cW .u64 [qa, qb, qc, qd, qe, qf, qg, qh]) = W4
  have HB4 := hid (show Below w.heap.size w W4 by rw [← hW4]; exact below_setCells hgw _ _ _ HB3.out)
  have HR4 := hid (show Rw W4 g0 .u64 77 [qa, qb, qc, qd, qe, qf, qg, qh] by rw [← hW4]; exact HR3.out.put [qa, qb, qc, qd, qe, qf, qg, qh] rfl)
  have HA4 := hid (show W4.heap[w.heap.size]? = some (.cells #[.int .u64 64, .int .i64 80, .int .u64 1, .int .u64 8, .int .u64 7, .int .u64 19, .int .u64 61, .int .u64 6, .int .u64 28, .int .u64 34, .int .u64 39, .int .u64 14, .int .u64 18, .int .u64 41] 73 (0, 0)) by rw [← hW4]; exact (setCells_far hgn _ _ _).trans HA3.out)
  simp only [Act.put]
  clear hW4 HA3 HB3 HR3 HH hone hi1
  refine wp_cut (sum3_6 w.heap.size g0 qa qb qc qd qe qf qg qh ra rb rc rd re rf rg rh a0 len cap l W4 _ _ _ _ _ _ _ _ _ _ _ _ _ _ _ _ _ _ _ _ _ _ _ _ _ HA4 HR4 (HG.out.kept HB4.out) (HV.out.kept HB4.out) HLC HCM HL HBQ HRR ?_)
  intro u17 u18 u19 u20 u21 u22 w5 W6 hb5 hW6 hbr
  have HB6 := hid (show Below w.heap.size w W6 by rw [hW6]; exact below_setCells hgw _ _ _ (below2 HB4.out hb5))
  have HR6 := hid (show Rw W6 g0 .u64 77 [ra, rb, rc, rd, re, rf, rg, rh] by rw [hW6]; exact (HR4.out.kept hb5).put [ra, rb, rc, rd, re, rf, rg, rh] rfl)
  have HA6 := hid (show W6.heap[w.heap.size]? = some (.cells #[.int .u64 64, .int .i64 80, .int .u64 1, .int .u64 8, .int .u64 7, .int .u64 19, .int .u64 61, .int .u64 6, .int .u64 28, .int .u64 34, .int .u64 39, .int .u64 14, .int .u64 18, .int .u64 41] 73 (0, 0)) by rw [hW6]; exact (setCells_far hgn _ _ _).trans (row_kept HA4.out hb5))
  have HBR := hid hbr
  have HRK := hid (range_row (cs := [.int .u64 64, .int .i64 80, .int .u64 1, .int .u64 8, .int .u64 7, .int .u64 19, .int .u64 61, .int .u64 6, .int .u64 28, .int .u64 34, .int .u64 39, .int .u64 14, .int .u64 18, .int .u64 41]) HA6.out)
  have HRS := hid HR6.out.range
  have hi2 := size8_6 [ra, rb, rc, rd, re, rf, rg, rh] rfl
  clear hW6 hb5 hbr HA4 HB4 HR4
  go_wp2_with (first | refine wpList_load_mid rfl 73 (.tmp 4) rfl w.heap.size 0 rfl [.int .u64 64, .int .i64 80, .int .u64 1, .int .u64 8, .int .u64 7, .int .u64 19, .int .u64 61, .int .u64 6, .int .u64 28, .int .u64 34, .int .u64 39, .int .u64 14, .int .u64 18, .int .u64 41] _ HRK.out Tryd.underlying73 rfl hks ?_ | refine wpList_load_mid rfl 77 (.tmp 9) rfl g0 0 rfl (cW .u64 [ra, rb, rc, rd, re, rf, rg, rh]) _ HRS.out Tryd.underlying77 rfl hi2 ?_)
  refine (told64 ra rb rc rd re rf rg rh W6 HBR.out).mono ?_
  rintro e7 w7 ⟨G, rfl, hown, hb7⟩
  have HO := hid (ownsRow_lower8_64 hown HB6.out.size)
  have HB7 := hid (below2 HB6.out hb7)
  clear hown hb7
  go_wp2_with fail
  go_ret
  exact ⟨G, rfl, HO.out, HB7.out⟩

end Go.Proofs.YtbdlicomkpnalaaDoor
