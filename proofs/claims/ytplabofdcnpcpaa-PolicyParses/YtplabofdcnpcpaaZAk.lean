/-
  The walks of slices.Clone at texts, of policy's Values.
-/
import Derived.Test.YtplabofdcnpcpaaZAg
import Derived.Test.YtplabofdcnpcpaaZAi
set_option linter.unusedSimpArgs false
set_option linter.unusedVariables false
namespace Go.Proofs.Ytplabofdcnpcpaa
open Go.RowKit

theorem clone10 (v : Value) (L : List (List UInt8)) (w : World) (h : TxAt w v L) (hl : L.length ≤ 1000000) :
    Calls Try.prog 40 #[v] w (OwnT L w) := by
  obtain ⟨a, cap, rfl, h1, h2, h3⟩ := h.view
  cases L with
  | nil =>
    cases a with
    | none =>
      refine (Try.slices_Clone_string_nil 0 cap w).mono ?_
      rintro e w' ⟨rfl, rfl⟩
      exact ⟨_, rfl, World.ownsRow_nil _ _ _ _, Below.refl _ _⟩
    | some a =>
      refine (Try.slices_Clone_string_zero a cap w).mono ?_
      rintro e w' ⟨v', rfl, hown, _, hb⟩
      exact ⟨v', rfl, hown, hb⟩
  | cons x t =>
    obtain ⟨b, off, rfl, _⟩ := h3 0 (by simp)
    refine (Try.slices_Clone_string b off (x :: t).length cap ((x :: t).map fun y => (⟨y.toArray⟩ : ByteArray)) w (by simp) (by omega) ?_).mono ?_
    · intro j hj
      have hj' : j < (x :: t).length := by simpa using hj
      obtain ⟨b', off', e, hc⟩ := h3 j hj'
      injection e with e
      injection e with e1 e2
      subst e1 e2
      rw [hc]
      simp only [List.getD_eq_getElem?_getD, List.getElem?_map, List.getElem?_eq_getElem hj']
      rfl
    · rintro e w' ⟨v', rfl, hown, _, hb⟩
      refine ⟨v', rfl, ?_, hb⟩
      have e : (((x :: t).map fun y => (⟨y.toArray⟩ : ByteArray)).take (x :: t).length).map Value.string = cellsT (x :: t) := by
        rw [List.take_of_length_le (by simp), List.map_map]; rfl
      rw [e] at hown
      exact hown

theorem idx_some (L : List Ru) (n : List UInt8) (h : ¬ (idxR L n < 0)) : ∃ (k : Nat) (hk : k < L.length), idxR L n = (k : Int) ∧ L[k].name = n ∧ findR L n = some L[k].vals := by
  unfold idxR at h ⊢
  cases hf : L.findIdx? fun r => decide (r.name = n) with
  | none => rw [hf] at h; exact absurd (by decide) h
  | some k =>
    rw [List.findIdx?_eq_some_iff_getElem] at hf
    obtain ⟨hk, h1, h2⟩ := hf
    refine ⟨k, hk, rfl, by simpa using h1, ?_⟩
    unfold findR
    have : L.find? (fun r => decide (r.name = n)) = some L[k] := by
      rw [List.find?_eq_some_iff_getElem]
      exact ⟨h1, k, hk, rfl, fun j hj => by simpa using h2 j hj⟩
    rw [this]
    rfl

theorem idx_none (L : List Ru) (n : List UInt8) (h : idxR L n < 0) : findR L n = none := by
  have h1 := idx_has L n
  rw [decide_eq_true h] at h1
  have h2 : hasR L n = false := by cases hh : hasR L n <;> simp [hh] at h1 ⊢
  unfold findR
  rw [List.find?_eq_none.2 ?_]
  · rfl
  · intro r hr
    unfold hasR at h2
    rw [List.any_eq_false] at h2
    exact h2 r hr

def ValPost (o : Option (List (List UInt8) × List UInt8)) (w : World) (e : Ending) (w' : World) : Prop :=
  match o with
  | none => e = .returned (.tuple #[.slice none 0 0, .string ⟨#[]⟩, .bool false]) ∧ Below w.heap.size w w'
  | some x => ∃ u, e = .returned (.tuple #[u, .string ⟨x.2.toArray⟩, .bool true]) ∧ w'.ownsRow w.heap.size 9 1 u x.1.length (cellsT x.1) ∧ Below w.heap.size w w'

theorem ask_drop {L : List Ru} {C : List (List UInt8)} {k : Nat} (hk : k < C.length) : askV L (C.drop k) = match findR L C[k] with | some v => some (v, C[k]) | none => askV L (C.drop (k + 1)) := by
  rw [List.drop_eq_getElem_cons hk]; rfl

theorem ite_len10 {c : Prop} [Decidable c] {a b : List (List UInt8)} (h1 : a.length ≤ 4) (h2 : b.length ≤ 4) : (if c then a else b).length ≤ 4 := by
  split
  · exact h1
  · exact h2
theorem chainV_len (n : List UInt8) : (chainV n).length ≤ 4 := by
  unfold chainV
  repeat (refine ite_len10 (by decide) ?_)
  decide

set_option maxHeartbeats 4000000 in
set_option maxRecDepth 100000 in
theorem values10 (v : Value) (rp : Bool) (L : List Ru) (s : ByteArray) (w : World) (hv : PoAt w v L) (hl : L.length ≤ 1000) (hz : ∀ r ∈ L, r.vals.length ≤ 1000000) :
    Calls Try.prog 22 #[.agg #[v, .bool rp], .string s] w (ValPost (valsV L s.data.toList) w) := by
  obtain ⟨a1, c1, rfl, hc1, hm1, _⟩ := hv.view
  obtain ⟨n, hn⟩ : ∃ n, n = L.length := ⟨_, rfl⟩
  have HN := hid hn
  have HV := hid hv
  have HZ := hid hz
  obtain ⟨C, hC⟩ : ∃ C, C = chainV s.data.toList := ⟨_, rfl⟩
  have hC4 : C.length ≤ 4 := by rw [hC]; exact chainV_len _
  have HC := hid (fun X => chain10 s X)
  unfold OwnT at HC
  rw [← hC] at HC
  have HGoal := hid (show valsV L s.data.toList = askV L (C.drop 0) by rw [hC]; rfl)
  obtain ⟨m, hm⟩ : ∃ m, m = C.length := ⟨_, rfl⟩
  have HM := hid hm
  rw [← hm] at HC hC4
  rw [← hn] at hl hc1 HV ⊢
  have hb0 := (Below.refl _ w).alloc (Nat.le_refl _) (.cells #[.slice a1 n c1, .bool rp] 33)
  have HB0 := hid hb0
  have hp0 := heap_alloc_new w (.cells #[.slice a1 n c1, .bool rp] 33)
  have HP0 := hid hp0
  clear hn hv hz hC hm hb0 hp0
  go_enter Try.func22, Try.ntmps22
  go_wp2_with fail
  refine (HC.out _).mono ?_
  rintro e w1 ⟨vc, rfl, hown, hb1⟩
  obtain ⟨ac, cc, rfl, hcc, hcm⟩ := own_form hown
  have HCA := hid (own_txt' (L := C) (by rw [← HM.out]; exact hown))
  have HB1 := hid (below2 HB0.out hb1)
  have HP1 := hid (row_kept HP0.out hb1)
  clear hown hb1 HC HP0 HB0
  go_wp2_with fail
  go_loopw [13] (fun v13 wr => ∃ k : Nat, k ≤ m ∧ v13 = .int .i64 k ∧ Hid (valsV L s.data.toList = askV L (C.drop k) ∧ Below w1.heap.size w1 wr)) (fun v13 _ => m - (intOf v13).toNat)
  case atStart => exact ⟨0, Nat.zero_le _, rfl, HGoal.out, Below.refl _ _⟩
  case round =>
    clear HGoal
    obtain ⟨k, hk, rfl, HR⟩ := hrel
    have HBR := hid (below2 HB1.out HR.out.2)
    have HPR := hid (row_kept HP1.out HR.out.2)
    have p0 : wr.cell? ⟨w.heap.size, 0, none⟩ = some (.slice a1 n c1) := by rw [Lib.cell_of_heap HPR.out]; rfl
    have p1 : wr.cell? ⟨w.heap.size, 1, none⟩ = some (.bool rp) := by rw [Lib.cell_of_heap HPR.out]; rfl
    by_cases hlt : k < m
    · have hkC : k < C.length := by have := HM.out; omega
      obtain ⟨ac', cc', eac, q1, q2, hcell⟩ := HCA.out.view
      injection eac with eac1 eac2 eac3
      clear eac2 eac3
      subst eac1
      obtain ⟨bc, oc, rfl, hcl⟩ := hcell k hkC
      obtain ⟨A, hA⟩ : ∃ A : ByteArray, A = ⟨C[k].toArray⟩ := ⟨_, rfl⟩
      rw [← hA] at hcl
      have HAL := hid (show ∃ h : k < C.length, A.data.toList = C[k] from ⟨hkC, by rw [hA]⟩)
      have q0 := kept_cell hcl HR.out.2
      have HPL := hid (place10 (.slice a1 n c1) rp L A wr (HV.out.kept HBR.out) (by have := HN.out; omega))
      obtain ⟨ix, hix⟩ : ∃ ix, ix = idxR L A.data.toList := ⟨_, rfl⟩
      have HIX := hid hix
      rw [← hix] at HPL
      have hin : (k : Int) < (m : Int) := by omega
      clear hcl hcell hkC hA hix q1 q2
      go_wp2_with fail
      refine HPL.out.mono ?_
      rintro e w4 ⟨rfl, hb4⟩
      have HB4 := hid hb4
      clear hb4 HPL
      by_cases hneg : ix < 0
      · have HS := hid (show valsV L s.data.toList = askV L (C.drop (k + 1)) ∧ Below w1.heap.size w1 w4 by
          refine ⟨?_, below2 HR.out.2 HB4.out⟩
          obtain ⟨h, ha⟩ := HAL.out
          rw [HR.out.1, ask_drop h, ← ha, idx_none L _ (by rw [← HIX.out]; exact hneg)])
        have hng : ¬ (0 ≤ ix) := by omega
        clear p0 p1 q0
        go_wp2_with fail
        go_roundw
        case rel =>
          first
            | exact ⟨k + 1, by omega, by go_num, HS.out⟩
            | ((repeat apply Exists.intro); refine ⟨?_, rfl⟩; exact ⟨k + 1, by omega, by go_num, HS.out⟩)
            | ((repeat apply Exists.intro); exact ⟨⟨k + 1, by omega, by go_num, HS.out⟩, rfl⟩)
        case measure => simp [intOf]; omega
      · obtain ⟨j, hj, hje, hjn, hjf⟩ := idx_some L A.data.toList (by rw [← HIX.out]; exact hneg)
        have hixj : ix = (j : Int) := by rw [HIX.out]; exact hje
        have hjn2 : j < n := by have := HN.out; omega
        have HVL := hid (show valsV L s.data.toList = some (L[j].vals, A.data.toList) by
          obtain ⟨h, ha⟩ := HAL.out
          rw [HR.out.1, ask_drop h, ← ha, hjf])
        obtain ⟨a', c', ea, q3, q4, hvw⟩ := HV.out.view
        injection ea with ea1 ea2 ea3
        clear ea2 ea3
        subst ea1
        obtain ⟨b, off, u, rfl, q6, hu, htx⟩ := hvw j hj
        clear q6
        have HTX := hid htx
        obtain ⟨ua, uc, rfl, q5⟩ := htx
        clear q3 q4 q5
        obtain ⟨un, hun⟩ : ∃ un, un = L[j].vals.length := ⟨_, rfl⟩
        rw [← hun] at hu HTX
        have HB4W := hid (below2 HBR.out HB4.out)
        have u0 := kept_cell hu HB4W.out
        have g0 := kept_cell p0 HB4.out
        have HCL := hid (clone10 (.slice ua un uc) L[j].vals w4 (HTX.out.kept HB4W.out) (HZ.out _ (List.getElem_mem hj)))
        unfold OwnT at HCL
        obtain ⟨Lv, hLv⟩ : ∃ Lv, Lv = L[j].vals := ⟨_, rfl⟩
        rw [← hLv] at HCL HVL
        have hge : (0 : Int) ≤ ix := by omega
        have hjI : (j : Int) < (n : Int) := by omega
        subst hixj
        clear hneg hje hjn hjf hvw hu hun hLv p0 p1 q0 HTX hj hge
        go_wp2_with fail
        refine HCL.out.mono ?_
        rintro e w5 ⟨u5, rfl, hown5, hb5⟩
        have HF := hid (show w5.ownsRow w.heap.size 9 1 u5 Lv.length (cellsT Lv) ∧ Below w.heap.size w w5 from ⟨own_low10 hown5 HB4W.out.size, below2 HB4W.out hb5⟩)
        clear hown5 hb5 HCL
        go_wp2_with fail
        go_ret3
        rw [HVL.out]
        refine ⟨u5, ?_, HF.out.1, HF.out.2⟩
        show _ = Ending.returned (.tuple #[u5, .string ⟨A.data.toList.toArray⟩, .bool true])
        rw [Lib.mk_data]
        rfl
    · obtain rfl : k = m := by omega
      have HVL := hid (show valsV L s.data.toList = none by
        rw [HR.out.1, List.drop_eq_nil_of_le (by have := HM.out; omega)]; rfl)
      clear hk hlt p0 p1
      go_wp2_with fail
      go_ret3
      rw [HVL.out]
      exact ⟨rfl, HBR.out⟩

end Go.Proofs.Ytplabofdcnpcpaa
