/-
  The walk of the document's own From of chapter 10.
-/
import Derived.Test.YtplabofdcnpcpaaZGh
set_option linter.unusedSimpArgs false
set_option linter.unusedVariables false
namespace Go.Proofs.Ytplabofdcnpcpaa
open Go.RowKit

set_option maxHeartbeats 8000000 in
set_option maxRecDepth 100000 in
theorem rfrom10 (v : Value) (H : List Hd) (w : World) (h : HdAt w v H) (hz : Szd 1000000 H) (hl : H.length ≤ 1000000) (hb : bulkV H ≤ 1000000) :
    Calls Try.prog 24 #[v] w (RPolPost (fromV H) w) := by
  obtain ⟨i0, hi, hz0, hz1, hz2⟩ := info_parts infoPoR
  obtain ⟨va, vc, rfl, hvc, hvm, _⟩ := h.view
  have HH := hid h
  have HZ := hid hz
  have HBK := hid hb
  obtain ⟨vl, hvl⟩ : ∃ vl, vl = H.length := ⟨_, rfl⟩
  have HVL := hid hvl
  rw [← hvl] at hl hvc HH ⊢
  obtain ⟨A1, hA1⟩ : ∃ A : ByteArray, A = ⟨#[99, 111, 110, 116, 101, 110, 116, 45, 115, 101, 99, 117, 114, 105, 116, 121, 45, 112, 111, 108, 105, 99, 121]⟩ := ⟨_, rfl⟩
  obtain ⟨A2, hA2⟩ : ∃ A : ByteArray, A = ⟨#[99, 111, 110, 116, 101, 110, 116, 45, 115, 101, 99, 117, 114, 105, 116, 121, 45, 112, 111, 108, 105, 99, 121, 45, 114, 101, 112, 111, 114, 116, 45, 111, 110, 108, 121]⟩ := ⟨_, rfl⟩
  have HA1 := hid hA1
  have HA2 := hid hA2
  clear h hz hb hvl hA1 hA2
  go_enter Try.func24, Try.ntmps24
  go_wp2_with fail
  go_loopw [3, 4] (fun v3 v4 wr => ∃ t n : Nat, t ≤ 2 ∧ v4 = .int .i64 t ∧ Hid (FJ w wr H v3 n (restT H t))) (fun _ v4 _ => 2 - (intOf v4).toNat)
  case atStart => exact ⟨0, 0, by decide, rfl, [], [], rfl, rfl, World.ownsRow_nil _ _ _ _, RdPr.nil _ _, Below.refl _ _⟩
  case round =>
    obtain ⟨t, n0, ht, rfl, HR⟩ := hrel
    by_cases ht2 : t < 2
    · have htI : (t : Int) < 2 := by omega
      obtain ⟨NM, hNM⟩ : ∃ N : ByteArray, N = ⟨(nmT t).toArray⟩ := ⟨_, rfl⟩
      obtain ⟨fl, hfl⟩ : ∃ f, f = decide (t = 1) := ⟨_, rfl⟩
      have hfl2 : ((t : Int) == 1) = fl := by
        rw [hfl, Bool.eq_iff_iff]; simp; omega
      have HFL := hid hfl
      have HNL := hid (show NM.data.toList = nmT t by rw [hNM])
      have hNz : NM.size ≤ 1000 := by rw [Lib.size_eq, hNM]; show (nmT t).length ≤ _; unfold nmT; split <;> decide
      obtain ⟨WN, hWN⟩ : ∃ W, W = wr.alloc (.cells #[.string ⟨#[99, 111, 110, 116, 101, 110, 116, 45, 115, 101, 99, 117, 114, 105, 116, 121, 45, 112, 111, 108, 105, 99, 121]⟩, .string ⟨#[99, 111, 110, 116, 101, 110, 116, 45, 115, 101, 99, 117, 114, 105, 116, 121, 45, 112, 111, 108, 105, 99, 121, 45, 114, 101, 112, 111, 114, 116, 45, 111, 110, 108, 121]⟩] 9) := ⟨_, rfl⟩
      have hcN : WN.cell? ⟨wr.heap.size, t, none⟩ = some (.string NM) := by
        rw [hWN, Lib.cell_of_heap (heap_alloc_new wr _), hNM]
        have h01 : t = 0 ∨ t = 1 := by omega
        rcases h01 with rfl | rfl <;> rfl
      have HR1 := hid (show FJ w WN H u3 n0 (restH H t 0) by
        rw [← rest_turn H t ht2, hWN]
        exact HR.out.kept ((Below.refl _ wr).alloc (Nat.le_refl _) _))
      rw [hWN] at hcN
      have HWN := hid hWN
      clear hNM hfl hWN HR
      go_wp2_with fail
      rw [← HWN.out]
      clear HWN hcN
      go_loopw [3, 6] (fun v3 v6 wq => ∃ i n : Nat, i ≤ vl ∧ v6 = .int .i64 i ∧ Hid (FJ w wq H v3 n (restH H t i))) (fun _ v6 _ => vl - (intOf v6).toNat)
      case atStart => exact ⟨0, n0, Nat.zero_le _, rfl, HR1.out⟩
      case round =>
        clear HR1
        obtain ⟨i, n1, hil, rfl, HI⟩ := hrel
        by_cases hilt : i < vl
        · have hiI : (i : Int) < (vl : Int) := by omega
          have hiH : i < H.length := by have := HVL.out; omega
          obtain ⟨P1, Ps1, y1, y2, y3, y4, hbI⟩ := HI.out
          clear y1 y2 y3 y4
          obtain ⟨va', vc', ev, q1, q2, hcell⟩ := HH.out.view
          injection ev with ev1 ev2 ev3
          clear ev2 ev3 q1 q2
          subst ev1
          obtain ⟨bh, oh, rfl, e1, e2⟩ := hcell i hiH
          obtain ⟨HN, hHN⟩ : ∃ N : ByteArray, N = ⟨H[i].name.toArray⟩ := ⟨_, rfl⟩
          obtain ⟨HV, hHV⟩ : ∃ N : ByteArray, N = ⟨H[i].value.toArray⟩ := ⟨_, rfl⟩
          rw [← hHN] at e1
          rw [← hHV] at e2
          have hHNz : HN.size ≤ 1000000 := by rw [Lib.size_eq, hHN]; exact (HZ.out _ (List.getElem_mem hiH)).1
          have hHVz : HV.size ≤ 1000000 := by rw [Lib.size_eq, hHV]; exact (HZ.out _ (List.getElem_mem hiH)).2
          have HVX := hid (show ∃ h : i < H.length, HV.data.toList = H[i].value from ⟨hiH, by rw [hHV]⟩)
          have HCC := hid (show ∀ Z, Below w.heap.size w Z → Z.cell? ⟨bh, oh + i * 2, none⟩ = some (.string HN) ∧ Z.cell? ⟨bh, oh + i * 2 + 1, none⟩ = some (.string HV) from fun Z hZ => ⟨(hZ.cell (World.block_lt_of_cell? w _ e1)).trans e1, (hZ.cell (World.block_lt_of_cell? w _ e2)).trans e2⟩)
          obtain ⟨f1, f2⟩ := HCC.out wr hbI
          have HNA := hid (rnamed10 HN HV NM wr (by omega) (by omega))
          unfold hdVal at HNA
          obtain ⟨y, hy⟩ : ∃ y, y = decide (low HN.data.toList = low NM.data.toList) := ⟨_, rfl⟩
          have HY := hid (show ∃ h : i < H.length, y = isN (nmT t) H[i] from ⟨hiH, by
            rw [hy, HNL.out, hHN]
            unfold isN
            rw [Bool.eq_iff_iff]; simp⟩)
          rw [← hy] at HNA
          have HBI := hid hbI
          clear hcell e1 e2 hHN hHV hy hbI hiH
          go_wp2_with fail
          refine HNA.out.mono ?_
          rintro e w2 ⟨rfl, hb2⟩
          have HI2 := hid (HI.out.kept hb2)
          have HB2 := hid (below2 HBI.out hb2)
          clear hb2 f1 f2 HNA HI
          cases y with
          | false =>
            have HI3 := hid (show FJ w w2 H u3 n1 (restH H t (i + 1)) by
              obtain ⟨h, hy⟩ := HY.out
              rw [← rest_skip H t i h hy.symm]
              exact HI2.out)
            go_wp2_with fail
            go_roundw
            case rel =>
              first
                | exact ⟨i + 1, n1, by omega, by go_num, HI3.out⟩
                | ((repeat apply Exists.intro); refine ⟨?_, rfl⟩; exact ⟨i + 1, n1, by omega, by go_num, HI3.out⟩)
                | ((repeat apply Exists.intro); exact ⟨⟨i + 1, n1, by omega, by go_num, HI3.out⟩, rfl⟩)
            case measure => simp [intOf]; omega
          | true =>
            obtain ⟨f1, f2⟩ := HCC.out w2 HB2.out
            have HCT := hid (rcut10 HV 44 w2 hHVz)
            unfold OwnT at HCT
            obtain ⟨C, hC⟩ : ∃ C, C = pcV 44 HV.data.toList := ⟨_, rfl⟩
            obtain ⟨m, hm⟩ : ∃ m, m = C.length := ⟨_, rfl⟩
            have hmb : m ≤ 1000001 := by rw [hm, hC]; have := pcV_len 44 HV.data.toList; rw [← Lib.size_eq] at this; omega
            have HPZ := hid (show ∀ p ∈ C, p.length ≤ 1000000 by
              intro p hp
              rw [hC] at hp
              have := (pcV_mem 44 HV.data.toList p hp).2.1
              rw [← Lib.size_eq] at this
              omega)
            have HM := hid hm
            have HRS := hid (show restH H t i = restK C 0 fl (restH H t (i + 1)) by
              obtain ⟨h, hy⟩ := HY.out
              obtain ⟨_, hvx⟩ := HVX.out
              rw [rest_take H t i h hy.symm, hC, hvx, HFL.out])
            rw [← hC, ← hm] at HCT
            clear hC hm
            go_wp2_with fail
            refine HCT.out.mono ?_
            rintro e w3 ⟨vC, rfl, hownC, hb3⟩
            obtain ⟨ca, cc, rfl, hcc, hcm⟩ := own_form hownC
            have HOC := hid (show w3.ownsRow w.heap.size 9 1 (.slice ca m cc) C.length (cellsT C) by rw [← HM.out]; exact own_low10 hownC HB2.out.size)
            have HI3 := hid (show FJ w w3 H u3 n1 (restK C 0 fl (restH H t (i + 1))) by rw [← HRS.out]; exact HI2.out.kept hb3)
            obtain ⟨X, hX⟩ : ∃ X, X = restH H t (i + 1) := ⟨_, rfl⟩
            have HXX := hid hX
            rw [← hX] at HI3
            clear hownC hb3 f1 f2 HCT HI2 HRS hX
            go_wp2_with fail
            go_loopw [3, 8] (fun v3 v8 wq => ∃ k n : Nat, k ≤ m ∧ v8 = .int .i64 k ∧ Hid (FJ w wq H v3 n (restK C k fl X) ∧ wq.ownsRow w.heap.size 9 1 (.slice ca m cc) C.length (cellsT C))) (fun _ v8 _ => m - (intOf v8).toNat)
            case atStart => exact ⟨0, n1, Nat.zero_le _, rfl, HI3.out, HOC.out⟩
            case round =>
              clear HI3 HOC
              obtain ⟨k, n, hkm, rfl, HK⟩ := hrel
              by_cases hklt : k < m
              · have hkI : (k : Int) < (m : Int) := by omega
                have hkC : k < C.length := by have := HM.out; omega
                obtain ⟨ca', cc', eca, q1, q2, hcellC⟩ := (own_txt' HK.out.2).view
                injection eca with eca1 eca2 eca3
                clear eca2 eca3 q1 q2
                subst eca1
                obtain ⟨bc, oc, rfl, hcl⟩ := hcellC k hkC
                obtain ⟨PC, hPC⟩ : ∃ X : ByteArray, X = ⟨C[k].toArray⟩ := ⟨_, rfl⟩
                rw [← hPC] at hcl
                have hPz : PC.size ≤ 1000000 := by rw [Lib.size_eq, hPC]; exact HPZ.out _ (List.getElem_mem hkC)
                have HPE := hid (show ∃ h : k < C.length, C[k] = PC.data.toList from ⟨hkC, by rw [hPC]⟩)
                have HPA := hid (rparse10 PC fl wr hPz)
                unfold RParsePost at HPA
                obtain ⟨LP, hLP⟩ : ∃ L, L = polV PC.data.toList := ⟨_, rfl⟩
                have HLP := hid hLP
                obtain ⟨ln, hln⟩ : ∃ ln, ln = LP.length := ⟨_, rfl⟩
                have HLN := hid hln
                have hln32 : ln ≤ 32 := by rw [hln, hLP]; exact polV_len _
                rw [← hLP, ← hln] at HPA
                have hnb : n ≤ 2000002 := HK.out.1.len HBK.out
                clear hcellC hPC hLP hln hkC
                go_wp2_with fail
                refine HPA.out.mono ?_
                rintro e w5 ⟨v5, Q5, rfl, hown5, hrd5, hb5⟩
                obtain ⟨a5, c5, rfl, hc5, hm5⟩ := own_form hown5
                have hb6 := (Below.refl _ w5).alloc (Nat.le_refl _) (.cells #[.slice a5 ln c5, .bool fl] 41)
                have hb56 := below2 hb5 hb6
                obtain ⟨P1', Ps1', y1, y2, y3, y4, hbK⟩ := HK.out.1
                clear y1 y2 y3 y4
                have hwle : w.heap.size ≤ wr.heap.size := hbK.size
                have HON := hid (show OnRr (w5.alloc (.cells #[.slice a5 ln c5, .bool fl] 41)) w.heap.size (.slice a5 ln c5) LP from
                  ⟨Q5, by rw [← HLN.out]; exact own_low10 (own_kept hown5 hb6) hwle, (hrd5.kept hb6).low hwle⟩)
                have HK6 := hid (HK.out.1.kept hb56)
                have HO6 := hid (own_kept HK.out.2 hb56)
                have HMM := hid (heap_alloc_new w5 (.cells #[.slice a5 ln c5, .bool fl] 41))
                have d0 : (w5.alloc (.cells #[.slice a5 ln c5, .bool fl] 41)).cell? ⟨w5.heap.size, 0, none⟩ = some (.slice a5 ln c5) := by rw [Lib.cell_of_heap HMM.out]; rfl
                have d1 : (w5.alloc (.cells #[.slice a5 ln c5, .bool fl] 41)).cell? ⟨w5.heap.size, 1, none⟩ = some (.bool fl) := by rw [Lib.cell_of_heap HMM.out]; rfl
                clear hown5 hrd5 hb5 hb6 hb56 HPA hcl hc5 hm5 hbK
                by_cases hz : ln = 0
                · have HK7 := hid (show FJ w (w5.alloc (.cells #[.slice a5 ln c5, .bool fl] 41)) H u3 n (restK C (k + 1) fl X) ∧ (w5.alloc (.cells #[.slice a5 ln c5, .bool fl] 41)).ownsRow w.heap.size 9 1 (.slice (some ⟨bc, oc, none⟩) m cc) C.length (cellsT C) from ⟨by
                    obtain ⟨h, he⟩ := HPE.out
                    have h0 : LP = [] := List.eq_nil_of_length_eq_zero (by rw [← HLN.out]; exact hz)
                    rw [← restK_none C k h fl X (by rw [he, ← HLP.out]; exact h0)]
                    exact HK6.out, HO6.out⟩)
                  have hz' : ¬ ((0 : Int) < (ln : Int)) := by omega
                  have hz'' : ¬ (0 < ln) := by omega
                  clear hz
                  go_wp2_with fail
                  go_roundw
                  case rel =>
                    first
                      | exact ⟨k + 1, n, by omega, by go_num, HK7.out⟩
                      | ((repeat apply Exists.intro); refine ⟨?_, rfl⟩; exact ⟨k + 1, n, by omega, by go_num, HK7.out⟩)
                      | ((repeat apply Exists.intro); exact ⟨⟨k + 1, n, by omega, by go_num, HK7.out⟩, rfl⟩)
                  case measure => simp [intOf]; omega
                · have HRK := hid (show restK C k fl X = (LP, fl) :: restK C (k + 1) fl X by
                    obtain ⟨h, he⟩ := HPE.out
                    exact restK_some C k h fl X LP (by rw [he, ← HLP.out]) (fun e => hz (by rw [HLN.out, e]; rfl)))
                  have hz' : (0 : Int) < (ln : Int) := by omega
                  have hz'' : 0 < ln := by omega
                  obtain ⟨P6, Ps6, g1, g2, g3, g4, g5⟩ := HK6.out
                  have HG := hid (show ∃ Ps, fromV H = Ps ++ (LP, fl) :: restK C (k + 1) fl X ∧ n = Ps.length ∧ RdPr (w5.alloc (.cells #[.slice a5 ln c5, .bool fl] 41)) w.heap.size P6 Ps ∧ Below w.heap.size w (w5.alloc (.cells #[.slice a5 ln c5, .bool fl] 41)) from ⟨Ps6, by rw [← HRK.out]; exact g1, g2, g4, g5⟩)
                  have HG3 := hid g3
                  have hws : w.heap.size ≤ w5.heap.size + 1 := by have := g5.size; simpa using this
                  clear hz g1 g2 g3 g4 g5
                  go_wp2_with (at_builtin; refine wpList_append_own _ rfl _ _ 48 rfl w.heap.size 41 i0 _ 2 32 Try.underlying48 hi hz0 hz1 hz2 rfl (by decide) _ n (cellsP P6) rfl (HG3.out.alloc _) ⟨w5.heap.size + 1, 0, none⟩ 1 1 [.slice a5 ln c5, .bool fl] rfl rfl ?c1 ?c2 (by unfold maxLen; omega) (by omega) (by simp; omega) ?_)
                  case c1 =>
                    intro q u hq
                    match q, hq with
                    | 0, hq => simp at hq; subst hq; simp [Addr.add]
                    | 1, hq => simp at hq; subst hq; simp [Addr.add]
                  case c2 => intro u hu; simp at hu; rcases hu with rfl | rfl <;> rfl
                  intro v8 w8 hown hgrow hnil
                  have HK8 := hid (show FJ w w8 H v8 (n + 1) (restK C (k + 1) fl X) ∧ w8.ownsRow w.heap.size 9 1 (.slice (some ⟨bc, oc, none⟩) m cc) C.length (cellsT C) by
                    have hb7 := (Below.refl _ (w5.alloc (.cells #[.slice a5 ln c5, .bool fl] 41))).alloc (Nat.le_refl _) (.cells #[.slice a5 ln c5, .bool fl] 41)
                    obtain ⟨Ps, y1, y2, y3, y4⟩ := HG.out
                    refine ⟨?_, ?_⟩
                    · exact FJ.snoc (w2 := (w5.alloc (.cells #[.slice a5 ln c5, .bool fl] 41)).alloc (.cells #[.slice a5 ln c5, .bool fl] 41)) (L := LP) (fl := fl) (P := P6) (by have := HK6.out.kept hb7; rw [HRK.out] at this; exact this) (HON.out.keptB fun k _ _ _ hk _ => hb7.block k (Array.getElem?_eq_some_iff.1 hk).1) (own_kept HG3.out hb7) hown hgrow ⟨Ps, y1, y2, y3.kept hb7, below2 y4 hb7⟩
                    · have hk8 := grown_rr (own_kept HG3.out hb7) hgrow
                      refine ownsRow_same (own_kept HO6.out hb7) fun g hg => ?_
                      obtain ⟨cur, hc⟩ := ownsRow_kind (own_kept HO6.out hb7) g hg
                      exact hk8 _ _ _ _ hc (.inr rfl))
                  clear hown hgrow hnil HON d0 d1 HK6 HO6 HG HG3
                  go_wp2_with fail
                  go_roundw
                  case rel =>
                    first
                      | exact ⟨k + 1, n + 1, by omega, by go_num, HK8.out⟩
                      | ((repeat apply Exists.intro); refine ⟨?_, rfl⟩; exact ⟨k + 1, n + 1, by omega, by go_num, HK8.out⟩)
                      | ((repeat apply Exists.intro); exact ⟨⟨k + 1, n + 1, by omega, by go_num, HK8.out⟩, rfl⟩)
                  case measure => simp [intOf]; omega
              · obtain rfl : k = m := by omega
                have hng : ¬ ((k : Int) < (k : Int)) := by omega
                have HI4 := hid (show FJ w wr H u3 n (restH H t (i + 1)) by
                  have h := HK.out.1
                  rw [HM.out, restK_end, HXX.out] at h
                  exact h)
                clear HK hkm hklt
                go_wp2_with fail
                go_roundw
                case rel =>
                  first
                    | exact ⟨i + 1, n, by omega, by go_num, HI4.out⟩
                    | ((repeat apply Exists.intro); refine ⟨?_, rfl⟩; exact ⟨i + 1, n, by omega, by go_num, HI4.out⟩)
                    | ((repeat apply Exists.intro); exact ⟨⟨i + 1, n, by omega, by go_num, HI4.out⟩, rfl⟩)
                case measure => simp [intOf]; omega
        · obtain rfl : i = vl := by omega
          have hng : ¬ ((i : Int) < (i : Int)) := by omega
          have HR2 := hid (show FJ w wr H u3 n1 (restT H (t + 1)) by
            have h := HI.out
            rw [HVL.out, rest_end] at h
            exact h)
          clear HI hil hilt
          go_wp2_with fail
          go_roundw
          case rel =>
            first
              | exact ⟨t + 1, n1, by omega, by go_num, HR2.out⟩
              | ((repeat apply Exists.intro); refine ⟨?_, rfl⟩; exact ⟨t + 1, n1, by omega, by go_num, HR2.out⟩)
              | ((repeat apply Exists.intro); exact ⟨⟨t + 1, n1, by omega, by go_num, HR2.out⟩, rfl⟩)
          case measure => simp [intOf]; omega
    · obtain rfl : t = 2 := by omega
      have HF := hid (show RPolPost (fromV H) w (.returned u3) wr from by
        obtain ⟨P, Ps, g1, g2, g3, g4, g5⟩ := HR.out
        have e : fromV H = Ps := by rw [g1]; show Ps ++ [] = Ps; simp
        rw [e]
        exact ⟨u3, P, rfl, by rw [← g2]; exact g3, g4, g5⟩)
      clear ht ht2
      go_wp2_with fail
      go_ret
      exact HF.out

end Go.Proofs.Ytplabofdcnpcpaa
