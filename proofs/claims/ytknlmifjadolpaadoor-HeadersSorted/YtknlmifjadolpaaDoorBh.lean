/-
  The walk of the law HeadersSorted.
-/
import Derived.Test.YtknlmifjadolpaaDoorBg
import Derived.Test.YtknlmifjadolpaaDoorZc
set_option linter.unusedSimpArgs false
set_option linter.unusedVariables false
namespace Go.Proofs.YtknlmifjadolpaaDoor
open Go.RowKit

theorem less_ltN : ∀ a b : List UInt8, Op.bytesLess a b = ltN a b
  | [], [] => rfl
  | [], _ :: _ => rfl
  | _ :: _, [] => rfl
  | x :: a, y :: b => by
    have ih := less_ltN a b
    unfold ltN at ih ⊢
    rw [Op.bytesLess, cmp_cons, ih]
    by_cases h1 : x < y
    · simp [h1]
    · by_cases h2 : y < x
      · have : x ≠ y := fun e => by subst e; exact h1 h2
        simp [h1, h2, this]
      · have : x = y := by
          rw [UInt8.lt_iff_toNat_lt] at h1 h2
          exact UInt8.toNat_inj.1 (by omega)
        simp [h1, h2, this]

theorem belowT2 {B : Nat} {w w1 w2 : World} (h1 : Below B w w1) (h2 : Below w1.heap.size w1 w2) (hB : B ≤ w1.heap.size := by exact Below.size (by assumption)) : Below B w w2 := h1.trans (h2.mono hB)

set_option maxHeartbeats 16000000 in
set_option maxRecDepth 100000 in
theorem headersSorted_walk (v : Value) (L0 : List Hd) (w : World) (hv : HdAt w v L0) (hz : Szd 140737488351232 L0) (hg : G5 w) :
    Calls Tryd.prog 6 #[v] w fun e w' => e = .returned (.bool true) ∧ Below w.heap.size w w' := by
  have HG := hid hg
  clear hg
  obtain ⟨L, hL⟩ : ∃ L, L = fewH L0 20 200 := ⟨_, rfl⟩
  have hLl : L.length ≤ 20 := by rw [hL]; exact fewH_len _ _ _
  have HLz := hid (show Szd 200 L by rw [hL]; exact (fewH_szd L0 20 200))
  have HFew := hid (fewHeaders_any v L0 20 200 w hv (hz.mono (by unfold maxLen; omega)) (by decide) (by decide))
  rw [← hL] at HFew
  clear hL hv hz
  go_enter Tryd.func6, Tryd.ntmps6
  go_wp2_with fail
  refine HFew.out.mono ?_
  rintro e w1 ⟨v1, rfl, ho1, hb1⟩
  have H1 := hid (own_hd ho1)
  clear ho1 HFew
  go_wp2_with fail
  refine (sorted_any _ L _ H1.out hLl (HLz.out.mono (by decide))).mono ?_
  rintro e w2 ⟨v2, O, rfl, ho2, hso, hb2'⟩
  have hb2 := belowT hb1 hb2'
  have H1b := hid (H1.out.kept hb2')
  have H2 := hid (own_hd ho2)
  have HSo := hid hso
  have F := hso.facts
  have HF := hid F
  have hOl : O.length ≤ 20 := Nat.le_trans F.few hLl
  have HOz := hid (show Szd 10000 O from fun x hx => by
    obtain ⟨y, hy, e⟩ := F.named x hx
    refine ⟨?_, ?_⟩
    · rw [← e, low_len5]; exact Nat.le_trans (HLz.out y hy).1 (by decide)
    · refine Nat.le_trans (F.small 200 HLz.out x hx) ?_
      have : L.length * (200 + 2) ≤ 20 * (200 + 2) := Nat.mul_le_mul_right _ hLl
      omega)
  obtain ⟨a2, c2, rfl, hc2, hm2, hv2⟩ := H2.out.view
  have V2 := hid hv2
  clear ho2 hso F hb1 hb2' hv2
  go_wp2
  go_loopw [4] (fun i wr => ∃ k : Nat, k ≤ O.length ∧ i = .int .i64 k ∧ Below w2.heap.size w2 wr)
    (fun i _ => O.length - (intOf i).toNat)
  case atStart => exact ⟨0, Nat.zero_le _, rfl, Below.refl _ _⟩
  case round =>
    obtain ⟨k, hk, rfl, hbw⟩ := hrel
    by_cases hlt : k < O.length
    · have hlt' : (k : Int) < (O.length : Int) := by omega
      obtain ⟨b1, o1, rfl, e1, e2⟩ := V2.out k hlt
      have hblk : b1 < w2.heap.size := World.block_lt_of_cell? w2 _ e1
      obtain ⟨nk, hnk⟩ : ∃ x : ByteArray, x = ⟨O[k].name.toArray⟩ := ⟨_, rfl⟩
      obtain ⟨vl, hvl⟩ : ∃ x : ByteArray, x = ⟨O[k].value.toArray⟩ := ⟨_, rfl⟩
      have hNk : nk.data.toList = O[k].name := by rw [hnk]
      have hVl : vl.data.toList = O[k].value := by rw [hvl]
      have hns : nk.size ≤ 10000 := by rw [hnk, xsize]; exact (HOz.out _ (List.getElem_mem hlt)).1
      have hvs : vl.size ≤ 10000 := by rw [hvl, xsize]; exact (HOz.out _ (List.getElem_mem hlt)).2
      rw [← hnk] at e1
      rw [← hvl] at e2
      have f1 : wr.cell? ⟨b1, o1 + k * 2, none⟩ = some (.string nk) := (hbw.cell hblk).trans e1
      have f2 : wr.cell? ⟨b1, o1 + k * 2 + 1, none⟩ = some (.string vl) := (hbw.cell hblk).trans e2
      clear hnk hvl
      have HGt := hid (fun (X : World) (hX : Below w2.heap.size w2 X) => get_any _ L nk X (H1b.out.kept hX) (by omega) (HLz.out.mono (by decide)) (by omega) (by
        have h1 := bulkV_szd HLz.out
        have h3 : L.length * (200 + 2) ≤ 20 * (200 + 2) := Nat.mul_le_mul_right _ hLl
        omega))
      rw [hNk, HF.out.got _ (List.getElem_mem hlt)] at HGt
      have HSf := hid (fun (X : World) (hX : Below w2.heap.size w2 X) => safe_any nk vl X (HG.out.kept (belowT hb2 hX)) (by omega) (by omega))
      have HFb := hid (fun (X : World) => forbidden_any nk X (by omega))
      obtain ⟨sb, hsb⟩ : ∃ b, b = safeV nk.data.toList vl.data.toList := ⟨_, rfl⟩
      rw [← hsb] at HSf
      by_cases hsc : nk = ⟨#[115, 101, 116, 45, 99, 111, 111, 107, 105, 101]⟩
      · have hs2 : (nk.toList == [115, 101, 116, 45, 99, 111, 111, 107, 105, 101]) = true := by rw [hsc, Lib.toList_data]; rfl
        obtain ⟨V, hV⟩ : ∃ x : ByteArray, x = ⟨(getT L O[k].name).toArray⟩ := ⟨_, rfl⟩
        rw [← hV] at HGt
        have HNk := hid hNk
        clear hV hsc hNk hVl
        by_cases hk0 : k = 0
        · have hg0 : decide ((0 : Int) < (k : Int)) = false := by rw [decide_eq_false_iff_not]; omega
          have hg1 : decide (0 < k) = false := by rw [decide_eq_false_iff_not]; omega
          clear hk0
          go_wp2
          go_quiet (fail)
          go_wp2_with fail
          refine (HGt.out _ (below_drewN hbw _)).mono ?_
          rintro e w3 ⟨rfl, hb3'⟩
          have hb3 : Below w2.heap.size w2 w3 := (below_drewN hbw _).trans (hb3'.mono (by simpa using hbw.size))
          have g1 : w3.cell? ⟨b1, o1 + k * 2, none⟩ = some (.string nk) := (hb3.cell hblk).trans e1
          have g2 : w3.cell? ⟨b1, o1 + k * 2 + 1, none⟩ = some (.string vl) := (hb3.cell hblk).trans e2
          have HK := hid (fun (X : World) (hX : Below w2.heap.size w2 X) => (⟨hX, (hX.cell hblk).trans e1, (hX.cell hblk).trans e2⟩ : Below w2.heap.size w2 X ∧ X.cell? ⟨b1, o1 + k * 2, none⟩ = some (.string nk) ∧ X.cell? ⟨b1, o1 + k * 2 + 1, none⟩ = some (.string vl)))
          have hbD : Below w2.heap.size w2 w3.drew := hb3.drew
          clear hb3' f1 f2 e1 e2
          cases sb with
          | false =>
            clear hsb
            go_wp2
            (first
            | (go_region_with (first
                | (go_at_call 19; refine (HSf.out _ hbD).mono ?_; rintro e w4 ⟨rfl, hb4'⟩; have hb4 : Below w2.heap.size w2 w4 := belowT2 hbD hb4')))
            | fail "held")
            all_goals
              (try dsimp only at *)
              go_wp2
              go_roundw
              case rel => exact ⟨k + 1, by omega, by go_num, hb4⟩
              case measure => simp [intOf]; omega
          | true =>
            have hfb := safe_free _ _ hsb.symm
            rw [hfb] at HFb
            clear hsb hfb
            go_wp2
            (first
            | (go_region_held_law (fun wy => Below w2.heap.size w2 wy ∧ wy.cell? ⟨b1, o1 + k * 2, none⟩ = some (.string nk) ∧ wy.cell? ⟨b1, o1 + k * 2 + 1, none⟩ = some (.string vl))
              (first | exact HK.out _ hbD | exact HK.out _ (by assumption) | (go_split_ands; exact HK.out _ (by assumption)))
              (first
                | (go_at_call 19; refine (HSf.out _ (by (try dsimp only at *); go_split_ands; assumption)).mono ?_; rintro e w4 ⟨rfl, hb4'⟩; have hb4 : Below w2.heap.size w2 w4 := belowT2 hbD hb4')
                | (go_at_call 20; refine (HFb.out _).mono ?_; rintro e w5 ⟨rfl, hb5'⟩; have hb5 : Below w2.heap.size w2 w5 := belowT2 hb4 hb5')))
            | fail "held")
            all_goals
              (try dsimp only at *)
              go_wp2
              go_roundw
              case rel => exact ⟨k + 1, by omega, by go_num, hb5⟩
              case measure => simp [intOf]; omega
        · obtain ⟨m, hm⟩ : ∃ m, k = m + 1 := ⟨k - 1, by omega⟩
          have hmO : m < O.length := by omega
          obtain ⟨b', o', e0, e3, -⟩ := V2.out m hmO
          cases e0
          have hLt := List.pairwise_iff_getElem.1 HF.out.ordered m k hmO hlt (by omega)
          obtain ⟨np, hnp⟩ : ∃ x : ByteArray, x = ⟨O[m].name.toArray⟩ := ⟨_, rfl⟩
          rw [← hnp] at e3
          have f3 : wr.cell? ⟨b1, o1 + m * 2, none⟩ = some (.string np) := (hbw.cell hblk).trans e3
          have hless : Op.bytesLess nk.toList np.toList = false := by
            rw [less_ltN, Lib.toList_data, Lib.toList_data, HNk.out, hnp]
            exact hLt.1
          have HEq := hid (show (nk.toList == np.toList) = true → O[k].name = scN from fun q => by
            rw [beq_iff_eq, Lib.toList_data, Lib.toList_data, HNk.out, hnp] at q
            rw [show O[k].name = O[m].name from q]
            exact hLt.2 q.symm)
          have hg0 : (0 : Int) < (k : Int) := by omega
          have hg1 : 0 < k := by omega
          have hw1 : IntKind.i64.wrap ((k : Int) - 1) = (m : Int) := by rw [IntKind.wrap_i64]; omega
          have hw2 : (k : Int) - 1 = (m : Int) := by omega
          have hw3 : IntKind.i64.wrap (m : Int) = (m : Int) := by rw [IntKind.wrap_i64]; omega
          have hm0 : (0 : Int) ≤ (m : Int) := by omega
          have hm1 : (m : Int) < (O.length : Int) := by omega
          clear hm hLt hnp e3 hk0 hmO
          clear HEq
          by_cases heq : (nk.toList == np.toList) = true
          · go_wp2
            go_quiet (fail)
            go_wp2_with fail
            refine (HGt.out _ (below_drewN hbw _)).mono ?_
            rintro e w3 ⟨rfl, hb3'⟩
            have hb3 : Below w2.heap.size w2 w3 := (below_drewN hbw _).trans (hb3'.mono (by simpa using hbw.size))
            have g1 : w3.cell? ⟨b1, o1 + k * 2, none⟩ = some (.string nk) := (hb3.cell hblk).trans e1
            have g2 : w3.cell? ⟨b1, o1 + k * 2 + 1, none⟩ = some (.string vl) := (hb3.cell hblk).trans e2
            have HK := hid (fun (X : World) (hX : Below w2.heap.size w2 X) => (⟨hX, (hX.cell hblk).trans e1, (hX.cell hblk).trans e2⟩ : Below w2.heap.size w2 X ∧ X.cell? ⟨b1, o1 + k * 2, none⟩ = some (.string nk) ∧ X.cell? ⟨b1, o1 + k * 2 + 1, none⟩ = some (.string vl)))
            have hbD : Below w2.heap.size w2 w3.drew := hb3.drew
            clear hb3' f1 f2 e1 e2
            cases sb with
            | false =>
              clear hsb
              go_wp2
              (first
              | (go_region_with (first
                  | (go_at_call 19; refine (HSf.out _ hbD).mono ?_; rintro e w4 ⟨rfl, hb4'⟩; have hb4 : Below w2.heap.size w2 w4 := belowT2 hbD hb4')))
              | fail "held")
              all_goals
                (try dsimp only at *)
                go_wp2
                go_roundw
                case rel => exact ⟨k + 1, by omega, by go_num, hb4⟩
                case measure => simp [intOf]; omega
            | true =>
              have hfb := safe_free _ _ hsb.symm
              rw [hfb] at HFb
              clear hsb hfb
              go_wp2
              (first
              | (go_region_held_law (fun wy => Below w2.heap.size w2 wy ∧ wy.cell? ⟨b1, o1 + k * 2, none⟩ = some (.string nk) ∧ wy.cell? ⟨b1, o1 + k * 2 + 1, none⟩ = some (.string vl))
                (first | exact HK.out _ hbD | exact HK.out _ (by assumption) | (go_split_ands; exact HK.out _ (by assumption)))
                (first
                  | (go_at_call 19; refine (HSf.out _ (by (try dsimp only at *); go_split_ands; assumption)).mono ?_; rintro e w4 ⟨rfl, hb4'⟩; have hb4 : Below w2.heap.size w2 w4 := belowT2 hbD hb4')
                  | (go_at_call 20; refine (HFb.out _).mono ?_; rintro e w5 ⟨rfl, hb5'⟩; have hb5 : Below w2.heap.size w2 w5 := belowT2 hb4 hb5')))
              | fail "held")
              all_goals
                (try dsimp only at *)
                go_wp2
                go_roundw
                case rel => exact ⟨k + 1, by omega, by go_num, hb5⟩
                case measure => simp [intOf]; omega
          · have heq' : (nk.toList == np.toList) = false := by simpa using heq
            clear heq
            go_wp2
            go_quiet (fail)
            go_wp2_with fail
            refine (HGt.out _ (below_drewN hbw _)).mono ?_
            rintro e w3 ⟨rfl, hb3'⟩
            have hb3 : Below w2.heap.size w2 w3 := (below_drewN hbw _).trans (hb3'.mono (by simpa using hbw.size))
            have g1 : w3.cell? ⟨b1, o1 + k * 2, none⟩ = some (.string nk) := (hb3.cell hblk).trans e1
            have g2 : w3.cell? ⟨b1, o1 + k * 2 + 1, none⟩ = some (.string vl) := (hb3.cell hblk).trans e2
            have HK := hid (fun (X : World) (hX : Below w2.heap.size w2 X) => (⟨hX, (hX.cell hblk).trans e1, (hX.cell hblk).trans e2⟩ : Below w2.heap.size w2 X ∧ X.cell? ⟨b1, o1 + k * 2, none⟩ = some (.string nk) ∧ X.cell? ⟨b1, o1 + k * 2 + 1, none⟩ = some (.string vl)))
            have hbD : Below w2.heap.size w2 w3.drew := hb3.drew
            clear hb3' f1 f2 e1 e2
            cases sb with
            | false =>
              clear hsb
              go_wp2
              (first
              | (go_region_with (first
                  | (go_at_call 19; refine (HSf.out _ hbD).mono ?_; rintro e w4 ⟨rfl, hb4'⟩; have hb4 : Below w2.heap.size w2 w4 := belowT2 hbD hb4')))
              | fail "held")
              all_goals
                (try dsimp only at *)
                go_wp2
                go_roundw
                case rel => exact ⟨k + 1, by omega, by go_num, hb4⟩
                case measure => simp [intOf]; omega
            | true =>
              have hfb := safe_free _ _ hsb.symm
              rw [hfb] at HFb
              clear hsb hfb
              go_wp2
              (first
              | (go_region_held_law (fun wy => Below w2.heap.size w2 wy ∧ wy.cell? ⟨b1, o1 + k * 2, none⟩ = some (.string nk) ∧ wy.cell? ⟨b1, o1 + k * 2 + 1, none⟩ = some (.string vl))
                (first | exact HK.out _ hbD | exact HK.out _ (by assumption) | (go_split_ands; exact HK.out _ (by assumption)))
                (first
                  | (go_at_call 19; refine (HSf.out _ (by (try dsimp only at *); go_split_ands; assumption)).mono ?_; rintro e w4 ⟨rfl, hb4'⟩; have hb4 : Below w2.heap.size w2 w4 := belowT2 hbD hb4')
                  | (go_at_call 20; refine (HFb.out _).mono ?_; rintro e w5 ⟨rfl, hb5'⟩; have hb5 : Below w2.heap.size w2 w5 := belowT2 hb4 hb5')))
              | fail "held")
              all_goals
                (try dsimp only at *)
                go_wp2
                go_roundw
                case rel => exact ⟨k + 1, by omega, by go_num, hb5⟩
                case measure => simp [intOf]; omega
      · have hs2 : (nk.toList == [115, 101, 116, 45, 99, 111, 111, 107, 105, 101]) = false := by
          have := strNe hsc
          rw [Lib.toList_data ⟨#[115, 101, 116, 45, 99, 111, 111, 107, 105, 101]⟩] at this
          exact this
        have hne : O[k].name ≠ scN := fun e => hsc (xext (by rw [hNk, e]; rfl))
        rw [HF.out.valued _ (List.getElem_mem hlt) hne, show (⟨(O[k].value).toArray⟩ : ByteArray) = vl from xext (by rw [hVl])] at HGt
        have HNk := hid hNk
        have HNe := hid hne
        clear hNk hVl hsc hne
        by_cases hk0 : k = 0
        · have hg0 : decide ((0 : Int) < (k : Int)) = false := by rw [decide_eq_false_iff_not]; omega
          have hg1 : decide (0 < k) = false := by rw [decide_eq_false_iff_not]; omega
          clear hk0
          go_wp2
          go_quiet (fail)
          go_wp2_with fail
          refine (HGt.out _ (below_drewN hbw _)).mono ?_
          rintro e w3 ⟨rfl, hb3'⟩
          have hb3 : Below w2.heap.size w2 w3 := (below_drewN hbw _).trans (hb3'.mono (by simpa using hbw.size))
          have g1 : w3.cell? ⟨b1, o1 + k * 2, none⟩ = some (.string nk) := (hb3.cell hblk).trans e1
          have g2 : w3.cell? ⟨b1, o1 + k * 2 + 1, none⟩ = some (.string vl) := (hb3.cell hblk).trans e2
          have HK := hid (fun (X : World) (hX : Below w2.heap.size w2 X) => (⟨hX, (hX.cell hblk).trans e1, (hX.cell hblk).trans e2⟩ : Below w2.heap.size w2 X ∧ X.cell? ⟨b1, o1 + k * 2, none⟩ = some (.string nk) ∧ X.cell? ⟨b1, o1 + k * 2 + 1, none⟩ = some (.string vl)))
          have hbD : Below w2.heap.size w2 w3.drew := hb3.drew
          clear hb3' f1 f2 e1 e2
          cases sb with
          | false =>
            clear hsb
            go_wp2
            (first
            | (go_region_with (first
                | (go_at_call 19; refine (HSf.out _ hbD).mono ?_; rintro e w4 ⟨rfl, hb4'⟩; have hb4 : Below w2.heap.size w2 w4 := belowT2 hbD hb4')))
            | fail "held")
            all_goals
              (try dsimp only at *)
              go_wp2
              go_roundw
              case rel => exact ⟨k + 1, by omega, by go_num, hb4⟩
              case measure => simp [intOf]; omega
          | true =>
            have hfb := safe_free _ _ hsb.symm
            rw [hfb] at HFb
            clear hsb hfb
            go_wp2
            (first
            | (go_region_held_law (fun wy => Below w2.heap.size w2 wy ∧ wy.cell? ⟨b1, o1 + k * 2, none⟩ = some (.string nk) ∧ wy.cell? ⟨b1, o1 + k * 2 + 1, none⟩ = some (.string vl))
              (first | exact HK.out _ hbD | exact HK.out _ (by assumption) | (go_split_ands; exact HK.out _ (by assumption)))
              (first
                | (go_at_call 19; refine (HSf.out _ (by (try dsimp only at *); go_split_ands; assumption)).mono ?_; rintro e w4 ⟨rfl, hb4'⟩; have hb4 : Below w2.heap.size w2 w4 := belowT2 hbD hb4')
                | (go_at_call 20; refine (HFb.out _).mono ?_; rintro e w5 ⟨rfl, hb5'⟩; have hb5 : Below w2.heap.size w2 w5 := belowT2 hb4 hb5')))
            | fail "held")
            all_goals
              (try dsimp only at *)
              go_wp2
              go_roundw
              case rel => exact ⟨k + 1, by omega, by go_num, hb5⟩
              case measure => simp [intOf]; omega
        · obtain ⟨m, hm⟩ : ∃ m, k = m + 1 := ⟨k - 1, by omega⟩
          have hmO : m < O.length := by omega
          obtain ⟨b', o', e0, e3, -⟩ := V2.out m hmO
          cases e0
          have hLt := List.pairwise_iff_getElem.1 HF.out.ordered m k hmO hlt (by omega)
          obtain ⟨np, hnp⟩ : ∃ x : ByteArray, x = ⟨O[m].name.toArray⟩ := ⟨_, rfl⟩
          rw [← hnp] at e3
          have f3 : wr.cell? ⟨b1, o1 + m * 2, none⟩ = some (.string np) := (hbw.cell hblk).trans e3
          have hless : Op.bytesLess nk.toList np.toList = false := by
            rw [less_ltN, Lib.toList_data, Lib.toList_data, HNk.out, hnp]
            exact hLt.1
          have HEq := hid (show (nk.toList == np.toList) = true → O[k].name = scN from fun q => by
            rw [beq_iff_eq, Lib.toList_data, Lib.toList_data, HNk.out, hnp] at q
            rw [show O[k].name = O[m].name from q]
            exact hLt.2 q.symm)
          have hg0 : (0 : Int) < (k : Int) := by omega
          have hg1 : 0 < k := by omega
          have hw1 : IntKind.i64.wrap ((k : Int) - 1) = (m : Int) := by rw [IntKind.wrap_i64]; omega
          have hw2 : (k : Int) - 1 = (m : Int) := by omega
          have hw3 : IntKind.i64.wrap (m : Int) = (m : Int) := by rw [IntKind.wrap_i64]; omega
          have hm0 : (0 : Int) ≤ (m : Int) := by omega
          have hm1 : (m : Int) < (O.length : Int) := by omega
          clear hm hLt hnp e3 hk0 hmO
          have heq : (nk.toList == np.toList) = false := by
            cases q : (nk.toList == np.toList) with
            | false => rfl
            | true => exact absurd (HEq.out q) HNe.out
          clear HEq
          go_wp2
          go_quiet (fail)
          go_wp2_with fail
          refine (HGt.out _ (below_drewN hbw _)).mono ?_
          rintro e w3 ⟨rfl, hb3'⟩
          have hb3 : Below w2.heap.size w2 w3 := (below_drewN hbw _).trans (hb3'.mono (by simpa using hbw.size))
          have g1 : w3.cell? ⟨b1, o1 + k * 2, none⟩ = some (.string nk) := (hb3.cell hblk).trans e1
          have g2 : w3.cell? ⟨b1, o1 + k * 2 + 1, none⟩ = some (.string vl) := (hb3.cell hblk).trans e2
          have HK := hid (fun (X : World) (hX : Below w2.heap.size w2 X) => (⟨hX, (hX.cell hblk).trans e1, (hX.cell hblk).trans e2⟩ : Below w2.heap.size w2 X ∧ X.cell? ⟨b1, o1 + k * 2, none⟩ = some (.string nk) ∧ X.cell? ⟨b1, o1 + k * 2 + 1, none⟩ = some (.string vl)))
          have hbD : Below w2.heap.size w2 w3.drew := hb3.drew
          clear hb3' f1 f2 e1 e2
          cases sb with
          | false =>
            clear hsb
            go_wp2
            (first
            | (go_region_with (first
                | (go_at_call 19; refine (HSf.out _ hbD).mono ?_; rintro e w4 ⟨rfl, hb4'⟩; have hb4 : Below w2.heap.size w2 w4 := belowT2 hbD hb4')))
            | fail "held")
            all_goals
              (try dsimp only at *)
              go_wp2
              go_roundw
              case rel => exact ⟨k + 1, by omega, by go_num, hb4⟩
              case measure => simp [intOf]; omega
          | true =>
            have hfb := safe_free _ _ hsb.symm
            rw [hfb] at HFb
            clear hsb hfb
            go_wp2
            (first
            | (go_region_held_law (fun wy => Below w2.heap.size w2 wy ∧ wy.cell? ⟨b1, o1 + k * 2, none⟩ = some (.string nk) ∧ wy.cell? ⟨b1, o1 + k * 2 + 1, none⟩ = some (.string vl))
              (first | exact HK.out _ hbD | exact HK.out _ (by assumption) | (go_split_ands; exact HK.out _ (by assumption)))
              (first
                | (go_at_call 19; refine (HSf.out _ (by (try dsimp only at *); go_split_ands; assumption)).mono ?_; rintro e w4 ⟨rfl, hb4'⟩; have hb4 : Below w2.heap.size w2 w4 := belowT2 hbD hb4')
                | (go_at_call 20; refine (HFb.out _).mono ?_; rintro e w5 ⟨rfl, hb5'⟩; have hb5 : Below w2.heap.size w2 w5 := belowT2 hb4 hb5')))
            | fail "held")
            all_goals
              (try dsimp only at *)
              go_wp2
              go_roundw
              case rel => exact ⟨k + 1, by omega, by go_num, hb5⟩
              case measure => simp [intOf]; omega
    · have H2r := hid (H2.out.kept hbw)
      have H2c := hid H2r.out
      go_wp2_with fail
      refine (sorted_any _ O _ H2r.out hOl (HOz.out.mono (by decide))).mono ?_
      rintro e w3 ⟨v3, Q, rfl, ho3, hso3, hb3'⟩
      obtain rfl := HSo.out.again hso3
      have hb3 : Below w2.heap.size w2 w3 := belowT2 hbw hb3'
      have H3 := hid (own_hd ho3)
      have H2d := hid (H2.out.kept hb3)
      clear ho3 hso3
      go_wp2_with fail
      refine (sameH_any _ _ Q Q _ H3.out H2d.out (by omega) (by omega)).mono ?_
      rintro e w4 ⟨rfl, hb4'⟩
      rw [show decide (Q = Q) = true by simp]
      have hb4 := belowT hb2 (belowT2 hb3 hb4')
      go_wp2_with fail
      refine (known_any _ (HG.out.kept hb4)).mono ?_
      rintro e w5 ⟨rfl, hb5⟩
      go_wp2
      go_ret
      exact ⟨rfl, belowT hb4 hb5⟩

end Go.Proofs.YtknlmifjadolpaaDoor
