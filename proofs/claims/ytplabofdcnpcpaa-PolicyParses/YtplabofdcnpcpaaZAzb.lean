/-
  The walks of the document's own Values of chapter 10, and of the law's same.
-/
import Derived.Test.YtplabofdcnpcpaaZAza
import Derived.BigRegion
set_option linter.unusedSimpArgs false
set_option linter.unusedVariables false
namespace Go.Proofs.Ytplabofdcnpcpaa
open Go.RowKit

def RvPost (o : Option (List (List UInt8) × List UInt8)) (w : World) (e : Ending) (w' : World) : Prop :=
  match o with
  | none => e = .returned (.tuple #[.slice none 0 0, .string ⟨#[]⟩, .bool false]) ∧ Below w.heap.size w w'
  | some x => ∃ a c, e = .returned (.tuple #[.slice a x.1.length c, .string ⟨x.2.toArray⟩, .bool true]) ∧ TxAt w' (.slice a x.1.length c) x.1 ∧ Below w.heap.size w w'

theorem find_at {L : List Ru} {n : List UInt8} {k : Nat} (hk : k < L.length) (h1 : L[k].name = n) (h2 : ∀ j (h : j < L.length), j < k → L[j].name ≠ n) : findR L n = some L[k].vals := by
  unfold findR
  have : L.find? (fun r => decide (r.name = n)) = some L[k] := by
    rw [List.find?_eq_some_iff_getElem]
    exact ⟨by simpa using h1, k, hk, rfl, fun j hj => by simpa using h2 j (by omega) hj⟩
  rw [this]
  rfl
theorem find_no {L : List Ru} {n : List UInt8} (h2 : ∀ j (h : j < L.length), L[j].name ≠ n) : findR L n = none := by
  unfold findR
  rw [List.find?_eq_none.2 ?_]
  · rfl
  · intro r hr
    obtain ⟨j, hj, rfl⟩ := List.getElem_of_mem hr
    simpa using h2 j hj

set_option maxHeartbeats 8000000 in
set_option maxRecDepth 100000 in
theorem rvalues10 (v : Value) (rp : Bool) (L : List Ru) (s : ByteArray) (w : World) (hv : PoAt w v L) (hl : L.length ≤ 1000) :
    Calls Try.prog 23 #[.agg #[v, .bool rp], .string s] w (RvPost (valsV L s.data.toList) w) := by
  obtain ⟨a1, c1, rfl, hc1, hm1, _⟩ := hv.view
  obtain ⟨n, hn⟩ : ∃ n, n = L.length := ⟨_, rfl⟩
  have HN := hid hn
  have HV := hid hv
  obtain ⟨C, hC⟩ : ∃ C, C = chainV s.data.toList := ⟨_, rfl⟩
  have hC4 : C.length ≤ 4 := by rw [hC]; exact chainV_len _
  have HC := hid (fun X => rchain10 s X)
  unfold OwnT at HC
  rw [← hC] at HC
  have HGoal := hid (show valsV L s.data.toList = askV L (C.drop 0) by rw [hC]; rfl)
  obtain ⟨m, hm⟩ : ∃ m, m = C.length := ⟨_, rfl⟩
  have HM := hid hm
  rw [← hm] at HC hC4
  rw [← hn] at hl hc1 HV ⊢
  have hb0 := (Below.refl _ w).alloc (Nat.le_refl _) (.cells #[.slice a1 n c1, .bool rp] 41)
  have HB0 := hid hb0
  have hp0 := heap_alloc_new w (.cells #[.slice a1 n c1, .bool rp] 41)
  have HP0 := hid hp0
  clear hn hv hC hm hb0 hp0
  go_enter Try.func23, Try.ntmps23
  go_wp2_with fail
  refine (HC.out _).mono ?_
  rintro e w1 ⟨vc, rfl, hown, hb1⟩
  obtain ⟨ac, cc, rfl, hcc, hcm⟩ := own_form hown
  have HCA := hid (own_txt' (L := C) (by rw [← HM.out]; exact hown))
  have HB1 := hid (below2 HB0.out hb1)
  have HP1 := hid (row_kept HP0.out hb1)
  have HV1 := hid (HV.out.kept HB1.out)
  clear hown hb1 HC HP0 HB0 HV
  go_wp2_with fail
  go_loopw [8] (fun v8 wr => ∃ i : Nat, i ≤ m ∧ v8 = .int .i64 i ∧ Hid (valsV L s.data.toList = askV L (C.drop i) ∧ Below w1.heap.size w1 wr)) (fun v8 _ => m - (intOf v8).toNat)
  case atStart => exact ⟨0, Nat.zero_le _, rfl, HGoal.out, Below.refl _ _⟩
  case round =>
    clear HGoal
    obtain ⟨i, hi, rfl, HR⟩ := hrel
    by_cases hlt : i < m
    · have hiC : i < C.length := by have := HM.out; omega
      obtain ⟨ac', cc', eac, q1, q2, hcell⟩ := HCA.out.view
      injection eac with eac1 eac2 eac3
      clear eac2 eac3 q1 q2
      subst eac1
      obtain ⟨bc, oc, rfl, hcl⟩ := hcell i hiC
      obtain ⟨A, hA⟩ : ∃ A : ByteArray, A = ⟨C[i].toArray⟩ := ⟨_, rfl⟩
      rw [← hA] at hcl
      have HAL := hid (show ∃ h : i < C.length, A.data.toList = C[i] from ⟨hiC, by rw [hA]⟩)
      have HCL := hid hcl
      have hin : (i : Int) < (m : Int) := by omega
      obtain ⟨W2, hW2⟩ : ∃ W, W = wr := ⟨_, rfl⟩
      subst hW2
      clear hcell hiC hA hcl
      go_wp2_with fail
      go_loopw [9] (fun v9 wq => ∃ k : Nat, k ≤ n ∧ v9 = .int .i64 k ∧ Hid ((∀ j (h : j < L.length), j < k → L[j].name ≠ A.data.toList) ∧ Below w1.heap.size w1 wq)) (fun v9 _ => n - (intOf v9).toNat)
      case atStart => exact ⟨0, Nat.zero_le _, rfl, fun j _ h => by omega, HR.out.2⟩
      case round =>
        obtain ⟨k, hk, rfl, HK⟩ := hrel
        have p0 : wr.cell? ⟨w.heap.size, 0, none⟩ = some (.slice a1 n c1) := by rw [Lib.cell_of_heap (row_kept HP1.out HK.out.2)]; rfl
        by_cases hkn : k < n
        · have hkL : k < L.length := by have := HN.out; omega
          obtain ⟨a', c', ea, q3, q4, hvw⟩ := HV1.out.view
          injection ea with ea1 ea2 ea3
          clear ea2 ea3 q3 q4
          subst ea1
          obtain ⟨b, off, u, rfl, hnm, hu, htx⟩ := hvw k hkL
          have HTX := hid (htx.kept HK.out.2)
          obtain ⟨ua, uc, rfl, q5⟩ := htx
          obtain ⟨VS, hVS⟩ : ∃ VS, VS = L[k].vals := ⟨_, rfl⟩
          rw [← hVS] at hu HTX
          obtain ⟨un, hun⟩ : ∃ un, un = VS.length := ⟨_, rfl⟩
          have HUN := hid hun
          rw [← hun] at hu HTX
          obtain ⟨N, hN⟩ : ∃ N : ByteArray, N = ⟨L[k].name.toArray⟩ := ⟨_, rfl⟩
          rw [← hN] at hnm
          have HNL := hid (show ∃ h : k < L.length, N.data.toList = L[k].name ∧ VS = L[k].vals from ⟨hkL, by rw [hN], hVS⟩)
          have f0 := kept_cell hnm HK.out.2
          have f1 := kept_cell hu HK.out.2
          have f2 := kept_cell HCL.out HK.out.2
          have hki : (k : Int) < (n : Int) := by omega
          obtain ⟨y, hy⟩ : ∃ y, y = (N.toList == A.toList) := ⟨_, rfl⟩
          have HY := hid (show y = decide (N.data.toList = A.data.toList) by rw [hy, str_beq10])
          have hy2 := hy.symm
          clear hvw q5 hnm hu hun hVS hN hkL hy
          go_wp2_with fail
          go_quiet (fail)
          cases y with
          | false =>
            have HK2 := hid (show ∀ j (h : j < L.length), j < k + 1 → L[j].name ≠ A.data.toList from fun j h hj => by
              by_cases hjk : j = k
              · subst hjk
                obtain ⟨_, hn, _⟩ := HNL.out
                rw [← hn]
                have := HY.out
                simpa using this
              · exact HK.out.1 j h (by omega))
            go_wp2_with fail
            go_roundw
            case rel =>
              first
                | exact ⟨k + 1, by omega, by go_num, HK2.out, below_dn10 HK.out.2 _⟩
                | ((repeat apply Exists.intro); refine ⟨?_, rfl⟩; exact ⟨k + 1, by omega, by go_num, HK2.out, below_dn10 HK.out.2 _⟩)
                | ((repeat apply Exists.intro); exact ⟨⟨k + 1, by omega, by go_num, HK2.out, below_dn10 HK.out.2 _⟩, rfl⟩)
            case measure => simp [intOf]; omega
          | true =>
            have HVL := hid (show valsV L s.data.toList = some (VS, A.data.toList) by
              obtain ⟨h, ha⟩ := HAL.out
              obtain ⟨h3, hn, hvs⟩ := HNL.out
              rw [HR.out.1, ask_drop h, ← ha, find_at h3 (by rw [← hn]; have := HY.out; simpa using this) HK.out.1, hvs])
            have HBF := hid (below2 HB1.out HK.out.2)
            go_wp2_with fail
            go_quiet (fail)
            go_wp2_with fail
            go_ret3
            rw [HVL.out]
            refine ⟨ua, uc, ?_, ?_, below_dn10 (below_dn10 HBF.out _) _⟩
            · show _ = Ending.returned (.tuple #[.slice ua VS.length uc, .string ⟨A.data.toList.toArray⟩, .bool true])
              rw [Lib.mk_data, ← HUN.out]
              rfl
            · show TxAt _ (.slice ua VS.length uc) VS
              rw [← HUN.out]
              exact HTX.out.kept (below_dn10 (below_dn10 (Below.refl _ _) _) _)
        · obtain rfl : k = n := by omega
          have hng : ¬ ((k : Int) < (k : Int)) := by omega
          have HR2 := hid (show valsV L s.data.toList = askV L (C.drop (i + 1)) ∧ Below w1.heap.size w1 wr by
            refine ⟨?_, HK.out.2⟩
            obtain ⟨h, ha⟩ := HAL.out
            rw [HR.out.1, ask_drop h, ← ha, find_no (fun j h => HK.out.1 j h (by have := HN.out; omega))])
          clear hk hkn HK
          go_wp2_with fail
          go_roundw
          case rel =>
            first
              | exact ⟨i + 1, by omega, by go_num, HR2.out⟩
              | ((repeat apply Exists.intro); refine ⟨?_, rfl⟩; exact ⟨i + 1, by omega, by go_num, HR2.out⟩)
              | ((repeat apply Exists.intro); exact ⟨⟨i + 1, by omega, by go_num, HR2.out⟩, rfl⟩)
          case measure => simp [intOf]; omega
    · obtain rfl : i = m := by omega
      have hng : ¬ ((i : Int) < (i : Int)) := by omega
      have HVL := hid (show valsV L s.data.toList = none by
        rw [HR.out.1, List.drop_eq_nil_of_le (by have := HM.out; omega)]; rfl)
      have HBF := hid (below2 HB1.out HR.out.2)
      clear hi hlt
      go_wp2_with fail
      go_ret3
      rw [HVL.out]
      exact ⟨rfl, HBF.out⟩

end Go.Proofs.Ytplabofdcnpcpaa
