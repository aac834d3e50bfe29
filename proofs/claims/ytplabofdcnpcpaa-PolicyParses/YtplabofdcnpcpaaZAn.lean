/-
  The walk of the law PolicyBack.
-/
import Derived.Test.YtplabofdcnpcpaaZAm
import Derived.Deep.QuietTactic
import Derived.BigQuiet
set_option linter.unusedSimpArgs false
set_option linter.unusedVariables false
namespace Go.Proofs.Ytplabofdcnpcpaa
open Go.RowKit

theorem below_dn10 {B : Nat} {a w : World} (h : Below B a w) (n : Nat) : Below B a (w.drewN n) := h.trans ⟨rfl, rfl, rfl, Nat.le_refl _, fun _ _ => rfl⟩

theorem ba_ext10 {a b : ByteArray} (h : a.data.toList = b.data.toList) : a = b := by
  cases a; cases b
  congr
  exact Array.toList_inj.1 h

set_option maxHeartbeats 400000 in
theorem few10 (s : ByteArray) (n : Nat) (w : World) (hn : n ≤ 1000000) (hs : s.size ≤ 9223372036854775807) :
    Calls Try.prog 17 #[.string s, .int .i64 n] w fun e w' => e = .returned (.string ⟨(s.data.toList.take n).toArray⟩) ∧ w = w' := by
  by_cases h : n < s.size
  · have h' : (n : Int) < (s.size : Int) := by omega
    have HE := hid (show s.extract 0 n = ⟨(s.data.toList.take n).toArray⟩ from ba_ext10 (by rw [Lib.extract_data]; simp))
    go_enter Try.func17, Try.ntmps17
    go_wp2
    go_ret
    rw [← HE.out]
    exact ⟨rfl, rfl⟩
  · have h' : ¬ ((n : Int) < (s.size : Int)) := by omega
    have HE := hid (show s = ⟨(s.data.toList.take n).toArray⟩ from ba_ext10 (by rw [List.take_of_length_le (by simp; omega)]))
    go_enter Try.func17, Try.ntmps17
    go_wp2
    go_ret
    rw [← HE.out]
    exact ⟨rfl, rfl⟩

set_option maxHeartbeats 8000000 in
set_option maxRecDepth 100000 in
theorem policyBack_walk (s0 : ByteArray) (rp : Bool) (w : World) (hs0 : s0.size ≤ 9223372036854775807) :
    Calls Try.prog 5 #[.string s0, .bool rp] w fun e w' => e = .returned (.bool true) ∧ Below w.heap.size w w' := by
  have HF := hid (few10 s0 800 w (by decide) (by omega))
  obtain ⟨s, hs⟩ : ∃ s : ByteArray, s = ⟨(s0.data.toList.take 800).toArray⟩ := ⟨_, rfl⟩
  have hsz : s.size ≤ 800 := by rw [Lib.size_eq, hs]; simp; omega
  rw [← hs] at HF
  obtain ⟨L, hL⟩ : ∃ L, L = polV s.data.toList := ⟨_, rfl⟩
  have hn32 : L.length ≤ 32 := by rw [hL]; exact polV_len _
  have HBK := hid (show bulkP L ≤ 1602 by rw [hL]; have := polV_bulk s.data.toList; rw [← Lib.size_eq] at this; omega)
  have HPW := hid (show L.Pairwise fun a b => a.name ≠ b.name by rw [hL]; exact (polV_ok _).2)
  obtain ⟨T, hT⟩ : ∃ T : ByteArray, T = ⟨(txP L).toArray⟩ := ⟨_, rfl⟩
  have HBT := hid (show polV T.data.toList = L by rw [hT, hL]; exact pol_back _)
  have HTS := hid (show T.size ≤ 1602 by rw [Lib.size_eq, hT]; have := txP_len L; have := HBK.out; show (txP L).length ≤ _; omega)
  have HP1 := hid (fun X => parseP s rp L X (by omega) hL.symm)
  have HP2 := hid (fun X => parseP T rp L X (by have := HTS.out; omega) HBT.out)
  have HTX := hid (fun v X (hv : PoAt X v L) => text10 v rp L X hv (by omega) (by have := HBK.out; omega))
  rw [← hT] at HTX
  obtain ⟨n, hn⟩ : ∃ n, n = L.length := ⟨_, rfl⟩
  have HN := hid hn
  rw [← hn] at HP1 HP2 hn32
  clear hs hL hT hn hs0
  go_enter Try.func5, Try.ntmps5
  go_wp2_with fail
  refine HF.out.mono ?_
  rintro e wz ⟨rfl, rfl⟩
  go_wp2_with fail
  refine (HP1.out _).mono ?_
  rintro e w1 ⟨a1, c1, rfl, ⟨h1, h2, hpo⟩, hb1⟩
  have hb2 := (Below.refl _ w1).alloc (Nat.le_refl _) (.cells #[.slice a1 n c1, .bool rp] 33)
  have HPO := hid (hpo.kept hb2)
  have HM := hid (heap_alloc_new w1 (.cells #[.slice a1 n c1, .bool rp] 33))
  have HB := hid (below2 hb1 hb2)
  have HT1 := hid (HTX.out (.slice a1 n c1) _ HPO.out)
  clear hpo hb1 hb2 HP1
  go_wp2_with fail
  refine HT1.out.mono ?_
  rintro e w3 ⟨rfl, hb3⟩
  have HPO3 := hid (HPO.out.kept hb3)
  have HM3 := hid (row_kept HM.out hb3)
  have HB3 := hid (below2 HB.out hb3)
  clear hb3 HPO HM HB HT1
  go_wp2_with fail
  refine (HP2.out _).mono ?_
  rintro e w4 ⟨a2, c2, rfl, ⟨h3, h4, hpo⟩, hb4⟩
  have hb5 := (Below.refl _ w4).alloc (Nat.le_refl _) (.cells #[.slice a2 n c2, .bool rp] 33)
  have HQO := hid (hpo.kept hb5)
  have HQ := hid (heap_alloc_new w4 (.cells #[.slice a2 n c2, .bool rp] 33))
  have HPO5 := hid (HPO3.out.kept (below2 hb4 hb5))
  have HM5 := hid (row_kept HM3.out (below2 hb4 hb5))
  have HB5 := hid (below2 HB3.out (below2 hb4 hb5))
  obtain ⟨W5, hW5⟩ : ∃ W, W = w4.alloc (.cells #[.slice a2 n c2, .bool rp] 33) := ⟨_, rfl⟩
  have hW5s : w4.heap.size + 1 = W5.heap.size := by rw [hW5]; simp
  rw [← hW5] at HQO HQ HPO5 HM5 HB5
  clear hpo hb4 hb5 HP2 HPO3 HM3 HB3
  go_wp2_with fail
  rw [← hW5]
  clear hW5 hW5s
  go_loopw [8] (fun v8 wr => ∃ i : Nat, i ≤ n ∧ v8 = .int .i64 i ∧ Hid (Below W5.heap.size W5 wr)) (fun v8 _ => n - (intOf v8).toNat)
  case atStart => exact ⟨0, Nat.zero_le _, rfl, Below.refl _ _⟩
  case round =>
    obtain ⟨i, hi, rfl, HR⟩ := hrel
    obtain ⟨d0, d1⟩ := cells_p (row_kept HM5.out HR.out)
    obtain ⟨e0, e1⟩ := cells_p (row_kept HQ.out HR.out)
    by_cases hlt : i < n
    · have hin : (i : Int) < (n : Int) := by omega
      go_wp2_with fail
      clear d0 d1 e0 e1
      obtain ⟨WI, hWI⟩ : ∃ W, W = wr := ⟨_, rfl⟩
      subst hWI
      go_loopw [9] (fun v9 wq => ∃ k : Nat, k ≤ i ∧ v9 = .int .i64 k ∧ Hid (Below W5.heap.size W5 wq)) (fun v9 _ => i - (intOf v9).toNat)
      case atStart => exact ⟨0, Nat.zero_le _, rfl, HR.out⟩
      case round =>
        obtain ⟨k, hk, rfl, HR2⟩ := hrel
        obtain ⟨d0, d1⟩ := cells_p (row_kept HM5.out HR2.out)
        by_cases hlk : k < i
        · have hki : (k : Int) < (i : Int) := by omega
          have hkn : (k : Int) < (n : Int) := by omega
          obtain ⟨a', c', ea, q1, q2, hvw⟩ := (HPO5.out.kept HR2.out).view
          injection ea with ea1 ea2 ea3
          clear ea2 ea3 q1 q2
          subst ea1
          have hkL : k < L.length := by have := HN.out; omega
          have hiL : i < L.length := by have := HN.out; omega
          obtain ⟨b, off, u, rfl, g0, q3, q4⟩ := hvw k hkL
          obtain ⟨b', off', u', eb, g1, q5, q6⟩ := hvw i hiL
          clear q3 q4 q5 q6
          injection eb with eb
          injection eb with eb1 eb2
          subst eb1 eb2
          have hne := (List.pairwise_iff_getElem.1 HPW.out) k i hkL hiL hlk
          obtain ⟨N1, hN1⟩ : ∃ N : ByteArray, N = ⟨L[k].name.toArray⟩ := ⟨_, rfl⟩
          obtain ⟨N2, hN2⟩ : ∃ N : ByteArray, N = ⟨L[i].name.toArray⟩ := ⟨_, rfl⟩
          have hbe : (N1.toList == N2.toList) = false := by
            rw [str_beq10, hN1, hN2]
            simpa using hne
          rw [← hN1] at g0
          rw [← hN2] at g1
          clear hvw hne hN1 hN2 hkL hiL
          go_wp2_with fail
          go_quiet (fail)
          go_wp2_with fail
          go_roundw
          case rel =>
            first
              | exact ⟨k + 1, by omega, by go_num, below_dn10 HR2.out _⟩
              | ((repeat apply Exists.intro); refine ⟨?_, rfl⟩; exact ⟨k + 1, by omega, by go_num, below_dn10 HR2.out _⟩)
              | ((repeat apply Exists.intro); exact ⟨⟨k + 1, by omega, by go_num, below_dn10 HR2.out _⟩, rfl⟩)
          case measure => simp [intOf]; omega
        · obtain rfl : k = i := by omega
          have hng : ¬ ((k : Int) < (k : Int)) := by omega
          clear d0 d1
          go_wp2_with fail
          go_roundw
          case rel =>
            first
              | exact ⟨k + 1, by omega, by go_num, HR2.out⟩
              | ((repeat apply Exists.intro); refine ⟨?_, rfl⟩; exact ⟨k + 1, by omega, by go_num, HR2.out⟩)
              | ((repeat apply Exists.intro); exact ⟨⟨k + 1, by omega, by go_num, HR2.out⟩, rfl⟩)
          case measure => simp [intOf]; omega
    · obtain rfl : i = n := by omega
      have hng : ¬ ((i : Int) < (i : Int)) := by omega
      have HT2 := hid (HTX.out (.slice a2 i c2) _ (HQO.out.kept HR.out))
      clear hi hlt
      go_wp2_with fail
      refine HT2.out.mono ?_
      rintro e w6 ⟨rfl, hb6⟩
      have hbR := below2 HR.out hb6
      have HB6 := hid (below2 HB5.out hbR)
      obtain ⟨k0, k1⟩ := cells_p (row_kept HM5.out hbR)
      obtain ⟨m0, m1⟩ := cells_p (row_kept HQ.out hbR)
      have HKN := hid (known10 w6)
      clear hb6 hbR HT2 d0 d1 e0 e1
      go_wp2_with fail
      refine HKN.out.mono ?_
      rintro e w7 ⟨rfl, hb7⟩
      have HB7 := hid (below2 HB6.out hb7)
      clear hb7 HKN
      go_wp2_with fail
      go_ret
      exact ⟨rfl, HB7.out⟩

end Go.Proofs.Ytplabofdcnpcpaa
