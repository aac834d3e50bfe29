/-
  The walk of the document's own Parse of chapter 10.
-/
import Derived.Test.YtplabofdcnpcpaaZAx
import Derived.BigRegion
import Derived.Deep.RegionLaw
set_option linter.unusedSimpArgs false
set_option linter.unusedVariables false
namespace Go.Proofs.Ytplabofdcnpcpaa
open Go.RowKit

/-- What stands in a round: the pieces, the policy under way. -/
def RJ (w wr : World) (l : List UInt8) (rp : Bool) (vC : Value) (C : List (List UInt8)) (i : Nat) (v : Value) (Q : List (ByteArray × Value)) (L : List Ru) : Prop :=
  polF (C.drop i) L = polV l ∧ L.length ≤ 32 ∧ wr.ownsRow (w.heap.size + 2) 9 1 vC C.length (cellsT C) ∧ PIr w wr rp v Q L

theorem RJ.kept {w wr wr' : World} {l : List UInt8} {rp : Bool} {vC : Value} {C : List (List UInt8)} {i : Nat} {v : Value} {Q : List (ByteArray × Value)} {L : List Ru} (h : RJ w wr l rp vC C i v Q L) (hb : Below wr.heap.size wr wr') : RJ w wr' l rp vC C i v Q L :=
  ⟨h.1, h.2.1, own_kept h.2.2.1 hb, h.2.2.2.kept hb⟩

theorem RJ.next {w wr : World} {l : List UInt8} {rp : Bool} {vC : Value} {C : List (List UInt8)} {i : Nat} {v : Value} {Q : List (ByteArray × Value)} {L : List Ru} (h : RJ w wr l rp vC C i v Q L) (hi : i < C.length) (hn : L.length < 32) (ha : addR L C[i] = L) : RJ w wr l rp vC C (i + 1) v Q L := by
  refine ⟨?_, h.2.1, h.2.2.1, h.2.2.2⟩
  have h1 := h.1
  rw [List.drop_eq_getElem_cons hi, polF, if_neg (by omega), ha] at h1
  exact h1

theorem RJ.po {w wr : World} {l : List UInt8} {rp : Bool} {vC : Value} {C : List (List UInt8)} {i : Nat} {v : Value} {Q : List (ByteArray × Value)} {L : List Ru} (h : RJ w wr l rp vC C i v Q L) : PoAt wr v L := own_po h.2.2.2.2.2.1 h.2.2.2.2.2.2.1

set_option maxHeartbeats 8000000 in
set_option maxRecDepth 100000 in
theorem rparse10 (s : ByteArray) (rp : Bool) (w : World) (hs : s.size ≤ 1000000) :
    Calls Try.prog 19 #[.string s, .bool rp] w (RParsePost s.data.toList rp w) := by
  obtain ⟨i0, hi, hz0, hz1, hz2⟩ := info_parts infoRuR
  obtain ⟨l, hl⟩ : ∃ l, l = s.data.toList := ⟨_, rfl⟩
  have HCT := hid (fun X => rcut10 s 59 X hs)
  unfold OwnT at HCT
  obtain ⟨C, hC⟩ : ∃ C, C = pcV 59 l := ⟨_, rfl⟩
  obtain ⟨m, hm⟩ : ∃ m, m = C.length := ⟨_, rfl⟩
  have hmb : m ≤ 1000001 := by rw [hm, hC]; have := pcV_len 59 l; rw [hl, ← Lib.size_eq] at this; rw [hl]; omega
  have HPZ := hid (show ∀ p ∈ C, p.length ≤ 1000000 by
    intro p hp
    rw [hC] at hp
    have := (pcV_mem 59 l p hp).2.1
    rw [hl, ← Lib.size_eq] at this
    omega)
  rw [← hl, ← hC, ← hm] at HCT
  have HM := hid hm
  have HJ0 := hid (show polF (C.drop 0) [] = polV l by rw [hC]; rfl)
  have HI0 := hid (show PIr w ((w.alloc (.cells #[.slice none 0 0, .bool false] 41)).alloc (.cells #[.slice none 0 0, .bool rp] 41)) rp (.slice none 0 0) [] [] from
    ⟨(Lib.alloc_old _ _ _ (by simp)).trans (heap_alloc_new w _), by have := heap_alloc_new (w.alloc (.cells #[.slice none 0 0, .bool false] 41)) (.cells #[.slice none 0 0, .bool rp] 41); simpa using this, World.ownsRow_nil _ _ _ _, RdO.nil _ _, ((Below.refl _ w).alloc (Nat.le_refl _) _).alloc (by simp) _⟩)
  rw [← hl]
  clear hl hs hC hm
  go_enter Try.func19, Try.ntmps19
  go_wp2_with fail
  refine (HCT.out _).mono ?_
  rintro e w1 ⟨vC, rfl, hown, hb1⟩
  obtain ⟨ca, cc, rfl, hcc, hcm⟩ := own_form hown
  have HRJ0 := hid (show RJ w w1 l rp (.slice ca m cc) C 0 (.slice none 0 0) [] [] from
    ⟨HJ0.out, by decide, by rw [← HM.out]; exact own_low10 hown (by simp), HI0.out.kept hb1⟩)
  clear hown hb1 HCT HJ0 HI0
  go_wp2_with fail
  go_loopw [7] (fun v7 wr => ∃ (i : Nat) (a : Option Addr) (n c : Nat) (Q : List (ByteArray × Value)) (L : List Ru), i ≤ m ∧ v7 = .int .i64 i ∧ n ≤ 32 ∧ Hid (n = L.length ∧ RJ w wr l rp (.slice ca m cc) C i (.slice a n c) Q L)) (fun v7 _ => m - (intOf v7).toNat)
  case atStart => exact ⟨0, none, 0, 0, [], [], Nat.zero_le _, rfl, by decide, rfl, HRJ0.out⟩
  case round =>
    clear HRJ0
    obtain ⟨i, a, n, c, Q, L, him, rfl, hn32, HR⟩ := hrel
    obtain ⟨c0, c1, z0⟩ := HR.out.2.2.2.2.cells
    have c4a : wr.cell? ⟨w.heap.size, 0, none⟩ = some (.slice none 0 0) := by rw [Lib.cell_of_heap HR.out.2.2.2.2.1]; rfl
    have c4b : wr.cell? ⟨w.heap.size, 1, none⟩ = some (.bool false) := by rw [Lib.cell_of_heap HR.out.2.2.2.2.1]; rfl
    have z4a : wr.frozen? ⟨w.heap.size, 0, none⟩ = false := Lib.frozen_of_heap HR.out.2.2.2.2.1 0
    have z4b : wr.frozen? ⟨w.heap.size, 1, none⟩ = false := Lib.frozen_of_heap HR.out.2.2.2.2.1 1
    by_cases hend : i = m
    · have HO := hid (HR.out.2.2.2.2.out (l := l) (by
        have h1 := HR.out.2.1
        rw [List.drop_eq_nil_of_le (by have := HM.out; omega)] at h1
        exact h1))
      have hng : ¬ ((i : Int) < (m : Int)) := by omega
      have hng2 : ¬ (i < m) := by omega
      clear hend
      go_wp2_with fail
      exact bodyPost_ret (results_q1 rfl _ _ w.heap.size a n c rp rfl HO.out.1) rfl HO.out.2
    · have hlt : i < m := by omega
      have hin : (i : Int) < (m : Int) := by omega
      by_cases hful : n = 32
      · have HO := hid (HR.out.2.2.2.2.out (l := l) (by
          have h1 := HR.out.2.1
          rw [polF_full _ _ (by have := HR.out.1; omega)] at h1
          exact h1))
        have hng : ¬ ((n : Int) < 32) := by omega
        clear hful hend
        go_wp2_with fail
        exact bodyPost_ret (results_q1 rfl _ _ w.heap.size a n c rp rfl HO.out.1) rfl HO.out.2
      · have hnl : n < 32 := by omega
        have hnl' : (n : Int) < 32 := by omega
        clear c4a c4b z4a z4b hful hend
        have hiC : i < C.length := by have := HM.out; omega
        obtain ⟨ca', cc', eca, q1, q2, hcell⟩ := (own_txt' HR.out.2.2.2.1).view
        injection eca with eca1 eca2 eca3
        clear eca2 eca3 q1 q2
        subst eca1
        obtain ⟨bc, oc, rfl, hcl⟩ := hcell i hiC
        obtain ⟨X, hX⟩ : ∃ X : ByteArray, X = ⟨C[i].toArray⟩ := ⟨_, rfl⟩
        rw [← hX] at hcl
        have hXs : X.size ≤ 1000000 := by rw [Lib.size_eq, hX]; exact HPZ.out _ (List.getElem_mem hiC)
        have HXC := hid (show ∃ h : i < C.length, C[i] = X.data.toList from ⟨hiC, by rw [hX]⟩)
        have HW := hid (rwords9_any X wr hXs)
        unfold WordsPost9 at HW
        clear hcell hiC hX
        cases hw : words9 X.data.toList with
        | nil =>
          rw [hw] at HW
          have HAD := hid (show addR L X.data.toList = L by unfold addR; rw [ruleV_nil hw])
          clear hw
          go_wp2_with fail
          refine HW.out.mono ?_
          rintro e w2 ⟨v2, rfl, hown2, hb2⟩
          obtain ⟨a2, cc2, rfl, _, _⟩ := own_form hown2
          have HR2 := hid (show n = L.length ∧ RJ w w2 l rp (.slice (some ⟨bc, oc, none⟩) m cc) C (i + 1) (.slice a n c) Q L from ⟨HR.out.1, by
            obtain ⟨h, hx⟩ := HXC.out
            exact (HR.out.2.kept hb2).next h (by have := HR.out.1; omega) (by rw [hx]; exact HAD.out)⟩)
          clear hown2 hb2 HW c0 c1 z0 hcl
          go_wp2_with fail
          go_roundw
          case rel =>
            first
              | exact ⟨i + 1, a, n, c, Q, L, by omega, by go_num, hn32, HR2.out⟩
              | ((repeat apply Exists.intro); refine ⟨?_, rfl⟩; exact ⟨i + 1, a, n, c, Q, L, by omega, by go_num, hn32, HR2.out⟩)
              | ((repeat apply Exists.intro); exact ⟨⟨i + 1, a, n, c, Q, L, by omega, by go_num, hn32, HR2.out⟩, rfl⟩)
          case measure => simp [intOf]; omega
        | cons x t =>
          rw [hw] at HW
          have HRV := hid (ruleV_cons hw)
          have hxb : x.length ≤ 1000000 ∧ t.length ≤ 1000000 := by
            have h1 := wds_len X.data.toList []
            rw [show wdsF X.data.toList [] = words9 X.data.toList from rfl, hw, ← Lib.size_eq] at h1
            have h2 := h1.2 x (by simp)
            have h3 := h1.1
            simp at h2 h3
            omega
          obtain ⟨wn, hwn⟩ : ∃ n, n = (x :: t).length := ⟨_, rfl⟩
          have HWN := hid (show wn = t.length + 1 by rw [hwn]; rfl)
          have hwn1 : 1 ≤ wn := by rw [hwn]; simp
          have hwnb : wn ≤ 1000001 := by rw [hwn]; simp; exact hxb.2
          rw [← hwn] at HW
          obtain ⟨X0, hX0⟩ : ∃ X : ByteArray, X = ⟨x.toArray⟩ := ⟨_, rfl⟩
          have hX0l : X0.data.toList = x := by rw [hX0]
          have HXA := hid (show (cellsT (x :: t))[0]? = some (.string X0) by rw [hX0]; rfl)
          have HLW := hid (fun Z => rlower_any X0 Z (by rw [Lib.size_eq, hX0l]; omega))
          rw [hX0l] at HLW
          obtain ⟨N, hN⟩ : ∃ N : ByteArray, N = ⟨(low x).toArray⟩ := ⟨_, rfl⟩
          have HNL := hid (show N.data.toList = low x by rw [hN])
          rw [← hN] at HLW
          have hwz : ((wn : Int) == 0) = false := by rw [beq_eq_false_iff_ne]; omega
          clear hw hwn hX0 hX0l hN hxb
          go_wp2_with fail
          refine HW.out.mono ?_
          rintro e w2 ⟨v2, rfl, hown2, hb2⟩
          have hown2' : w2.ownsRow wr.heap.size 9 1 v2 wn (cellsT (x :: t)) := hown2
          obtain ⟨A, wc, rfl, hwc, hwm⟩ := own_some hown2' (by omega)
          have cA : w2.cell? ⟨A, 0, none⟩ = some (.string X0) := by
            have := hown2'.cellAt (g := A) 0 (by omega)
            rw [this]; exact HXA.out
          have HO2 := hid hown2'
          have HR2 := hid (HR.out.2.kept hb2)
          have HB2 := hid hb2
          clear hown2 hown2' hb2 HW c0 c1 z0 hcl
          go_wp2_with fail
          refine (HLW.out _).mono ?_
          rintro e w3 ⟨rfl, hb3⟩
          have HR3 := hid (HR2.out.kept hb3)
          have HO3 := hid (own_kept HO2.out hb3)
          have HB3 := hid (below2 HB2.out hb3)
          have HN2 := hid HR.out.1
          have HPI0 := hid HR.out.2.2.2.2
          have HWS := hid (show w.heap.size + 2 ≤ wr.heap.size from HR.out.2.2.2.2.lt)
          obtain ⟨W0, hW0⟩ : ∃ W, W = wr := ⟨_, rfl⟩
          subst hW0
          clear hb3 HR2 HO2 HB2 cA HR
          go_wp2_with fail
          go_loopw [10, 11] (fun v10 v11 wq => ∃ (kn : Bool) (k : Nat), k ≤ n ∧ v10 = .bool kn ∧ v11 = .int .i64 k ∧ Hid (kn = hasR (L.take k) (low x) ∧ Below w3.heap.size w3 wq)) (fun _ v11 _ => n - (intOf v11).toNat)
          case atStart => exact ⟨false, 0, Nat.zero_le _, rfl, rfl, rfl, Below.refl _ _⟩
          case round =>
            obtain ⟨kn, k, hk, rfl, rfl, HK⟩ := hrel
            have HR5 := hid (HR3.out.kept HK.out.2)
            obtain ⟨c0, c1, z0⟩ := HR5.out.2.2.2.cells
            by_cases hkn : k < n
            · have hki : (k : Int) < (n : Int) := by omega
              have hkL : k < L.length := by have := HN2.out; omega
              obtain ⟨a', c', ea, q1, q2, hvw⟩ := HR5.out.po.view
              injection ea with ea1 ea2 ea3
              clear ea2 ea3 q1 q2
              subst ea1
              obtain ⟨b, off, u, rfl, g0, q5, q6⟩ := hvw k hkL
              obtain ⟨M, hM⟩ : ∃ M : ByteArray, M = ⟨L[k].name.toArray⟩ := ⟨_, rfl⟩
              rw [← hM] at g0
              obtain ⟨y, hy⟩ : ∃ y, y = (M.toList == N.toList) := ⟨_, rfl⟩
              have HYS := hid (show hasR (L.take (k + 1)) (low x) = (hasR (L.take k) (low x) || y) by
                unfold hasR
                rw [List.take_succ_eq_append_getElem hkL, List.any_append, hy, str_beq10, hM, HNL.out]
                simp)
              have hy2 := hy.symm
              clear q5 q6 hvw hM hkL hy
              cases kn with
              | true =>
                have HK2 := hid (show true = hasR (L.take (k + 1)) (low x) by rw [HYS.out, ← HK.out.1]; rfl)
                go_wp2_with fail
                go_roundw
                case rel =>
                  first
                    | exact ⟨true, k + 1, by omega, rfl, by go_num, HK2.out, HK.out.2⟩
                    | ((repeat apply Exists.intro); refine ⟨?_, rfl⟩; exact ⟨true, k + 1, by omega, rfl, by go_num, HK2.out, HK.out.2⟩)
                    | ((repeat apply Exists.intro); exact ⟨⟨true, k + 1, by omega, rfl, by go_num, HK2.out, HK.out.2⟩, rfl⟩)
                case measure => simp [intOf]; omega
              | false =>
                have HK2 := hid (show y = hasR (L.take (k + 1)) (low x) by rw [HYS.out, ← HK.out.1]; rfl)
                go_wp2_with fail
                go_roundw
                case rel =>
                  first
                    | exact ⟨y, k + 1, by omega, rfl, by go_num, HK2.out, HK.out.2⟩
                    | ((repeat apply Exists.intro); refine ⟨?_, rfl⟩; exact ⟨y, k + 1, by omega, rfl, by go_num, HK2.out, HK.out.2⟩)
                    | ((repeat apply Exists.intro); exact ⟨⟨y, k + 1, by omega, rfl, by go_num, HK2.out, HK.out.2⟩, rfl⟩)
                case measure => simp [intOf]; omega
            · obtain rfl : k = n := by omega
              have hng : ¬ ((k : Int) < (k : Int)) := by omega
              have HKF := hid (show kn = hasR L (low x) by have h := HK.out.1; rwa [List.take_of_length_le (by have := HN2.out; omega)] at h)
              have HB5 := hid (below2 HB3.out HK.out.2)
              have HO5 := hid (own_kept HO3.out HK.out.2)
              clear HK hk hkn
              cases kn with
              | true =>
                have HAD := hid (show addR L X.data.toList = L by unfold addR; rw [HRV.out]; simp [← HKF.out])
                have HR4 := hid (show k = L.length ∧ RJ w wr l rp (.slice (some ⟨bc, oc, none⟩) m cc) C (i + 1) (.slice a k c) Q L from ⟨HN2.out, by
                  obtain ⟨h, hx⟩ := HXC.out
                  exact HR5.out.next h (by have := HN2.out; omega) (by rw [hx]; exact HAD.out)⟩)
                go_wp2_with fail
                go_roundw
                case rel =>
                  first
                    | exact ⟨i + 1, a, k, c, Q, L, by omega, by go_num, hn32, HR4.out⟩
                    | ((repeat apply Exists.intro); refine ⟨?_, rfl⟩; exact ⟨i + 1, a, k, c, Q, L, by omega, by go_num, hn32, HR4.out⟩)
                    | ((repeat apply Exists.intro); exact ⟨⟨i + 1, a, k, c, Q, L, by omega, by go_num, hn32, HR4.out⟩, rfl⟩)
                case measure => simp [intOf]; omega
              | false =>
                have HAD := hid (show addR L X.data.toList = L ++ [⟨low x, t⟩] by unfold addR; rw [HRV.out]; simp [← HKF.out])
                have hsl : ∀ wx, (Instr.sliceAt 22 (.slice (some ⟨A, 0, none⟩) wn wc) (some (.int .i64 1)) none none).run Try.prog wx = .ok (tlC A wn wc) wx := fun wx => slice_wordsC A wn wc wx hwn1 hwc
                have HV := hid (tlC_slv HO5.out HWN.out)
                obtain ⟨va, vl, vcap, hV⟩ : ∃ a ln lc, tlC A wn wc = .slice a ln lc := ⟨_, _, _, rfl⟩
                rw [hV] at HV hsl
                have HO6 := hid (show wr.ownsRow (w.heap.size + 2) 80 2 (.slice a k c) k (cellsR Q) from by have h := HR5.out.2.2.2.2.2.1; rw [← HN2.out] at h; exact h)
                have hwr2 : w.heap.size + 2 ≤ wr.heap.size := HR5.out.2.2.2.lt
                have HM5 := hid HR5.out.2.2.2.2.1
                have c0a : (wr.alloc (.cells #[.string N, .slice va vl vcap] 80)).cell? ⟨w.heap.size + 1, 0, none⟩ = some (.slice a k c) := by
                  rw [Lib.cell_of_heap ((Lib.alloc_old wr _ _ (by omega)).trans HM5.out)]; rfl
                clear hV
                go_wp2_with fail
                go_region_law (first | (refine step_append_own0 rfl (.tmp 61) (.tmp 66) 39 rfl (w.heap.size + 2) 80 i0 _ 2 40 Try.underlying39 hi hz0 hz1 hz2 rfl (by decide) (.slice a k c) k (cellsR Q) rfl (by exact HO6.out.alloc _) ⟨wr.heap.size, 0, none⟩ 1 1 [.string N, .slice va vl vcap] rfl rfl (by intro q u hq; match q, hq with | 0, hq => simp at hq; subst hq; simp [Addr.add] | 1, hq => simp at hq; subst hq; simp [Addr.add]) (by intro u hu; simp at hu; rcases hu with rfl | rfl <;> rfl) (by unfold maxLen; omega) (by omega) (by simp; omega) ?_; intro v5 w5 hown hgrow hnil; obtain ⟨a5, c5, rfl, hc5, hm5⟩ := own_form hown; have hP4 := (Lib.alloc_old wr (.cells #[.string N, .slice va vl vcap] 80) _ (by omega)).trans HM5.out; have hP5 : w5.heap[w.heap.size + 1]? = some (.cells #[.slice a k c, .bool rp] 41 (0, 0)) := (hgrow.block _ (by simp; omega) (fun e => (by obtain ⟨cur, hc⟩ := ownsRow_kind (HO6.out.alloc (.cells #[.string N, .slice va vl vcap] 80)) _ e.symm; exact kind_nf hc hP4 (by decide) rfl))).trans hP4; have e0 : w5.cell? ⟨w.heap.size + 1, 0, none⟩ = some (.slice a k c) := (by rw [Lib.cell_of_heap hP5]; rfl); have y5 : w5.frozen? ⟨w.heap.size + 1, 0, none⟩ = false := Lib.frozen_of_heap hP5 0))
                all_goals
                  have hbA : Below wr.heap.size wr (wr.alloc (.cells #[.string N, .slice va vl vcap] 80)).drew := ((Below.refl _ wr).alloc (Nat.le_refl _) _).drew
                  have HR6 := hid (show k + 1 = (L ++ [(⟨low x, t⟩ : Ru)]).length ∧ RJ w (w5.setCell ⟨w.heap.size + 1, 0, none⟩ (.slice a5 (k + 1) c5)) l rp (.slice (some ⟨bc, oc, none⟩) m cc) C (i + 1) (.slice a5 (k + 1) c5) (Q ++ [(⟨(low x).toArray⟩, .slice va vl vcap)]) (L ++ [⟨low x, t⟩]) by
                    refine ⟨by rw [List.length_append, ← HN2.out]; rfl, ?_, ?_, ?_, ?_⟩
                    · obtain ⟨h, hx⟩ := HXC.out
                      have h1 := HR5.out.1
                      rw [List.drop_eq_getElem_cons h, polF, if_neg (by have := HN2.out; omega), hx, HAD.out] at h1
                      exact h1
                    · rw [List.length_append, ← HN2.out]; simp; omega
                    · refine ownsRow_same (own_kept HR5.out.2.2.1 hbA) fun g hg => ?_
                      obtain ⟨cur, hc⟩ := ownsRow_kind (own_kept HR5.out.2.2.1 hbA) g hg
                      exact PIr.texts (HR5.out.2.2.2.kept hbA) hgrow g ⟨cur, _, hc⟩
                    · refine PIr.snoc (r := ⟨low x, t⟩) (w2 := (wr.alloc (.cells #[.string N, .slice va vl vcap] 80)).drew) (B := W0.heap.size) HPI0.out (below2 HB5.out hbA) (HV.out.same fun g hg => hbA.block g (HV.out.lt g hg).2) (Nat.le_refl _) ?_ hgrow
                      rw [← HN2.out, show (⟨(low x).toArray⟩ : ByteArray) = N by rw [← HNL.out, Lib.mk_data]]
                      exact hown)
                  clear hown hgrow hnil hP4 hP5 hbA c0 c1 z0 c0a hc5 hm5
                  go_wp2_with fail
                  go_roundw
                  case rel =>
                    first
                      | exact ⟨i + 1, a5, k + 1, c5, _, _, by omega, by go_num, by omega, HR6.out⟩
                      | ((repeat apply Exists.intro); refine ⟨?_, rfl⟩; exact ⟨i + 1, a5, k + 1, c5, _, _, by omega, by go_num, by omega, HR6.out⟩)
                      | ((repeat apply Exists.intro); exact ⟨⟨i + 1, a5, k + 1, c5, _, _, by omega, by go_num, by omega, HR6.out⟩, rfl⟩)
                  case measure => simp [intOf]; omega

end Go.Proofs.Ytplabofdcnpcpaa
