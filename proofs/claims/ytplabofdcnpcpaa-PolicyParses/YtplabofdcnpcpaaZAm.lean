/-
  The walks of the laws' known and word.
-/
import Derived.Test.YtplabofdcnpcpaaZGa
import Derived.Test.YtplabofdcnpcpaaZAh
import Derived.Test.YtplabofdcnpcpaaZAk
import Derived.Test.YtplabofdcnpcpaaZAl
import Derived.Test.YtplabofdcnpcpaaZGd
set_option linter.unusedSimpArgs false
set_option linter.unusedVariables false
namespace Go.Proofs.Ytplabofdcnpcpaa
open Go.RowKit

theorem parseP (s : ByteArray) (rp : Bool) (L : List Ru) (w : World) (hs : s.size ≤ 1000000000) (hL : polV s.data.toList = L) :
    Calls Try.prog 14 #[.string s, .bool rp] w fun e w' => ∃ a c, e = .returned (.agg #[.slice a L.length c, .bool rp]) ∧ (L.length ≤ c ∧ c ≤ maxLen ∧ PoAt w' (.slice a L.length c) L) ∧ Below w.heap.size w w' := by
  subst hL
  refine (parse10 s rp w hs).mono ?_
  rintro e w' ⟨v, Q, rfl, hown, hrd, hb⟩
  obtain ⟨a, c, rfl, h1, h2⟩ := own_form hown
  exact ⟨a, c, rfl, ⟨h1, h2, own_po hown hrd⟩, hb⟩

theorem tx_lit1 (w : World) (X : ByteArray) (l : List UInt8) (h : X.data.toList = l) : TxAt (w.alloc (.cells #[.string X] 9)) (.slice (some ⟨w.heap.size, 0, none⟩) 1 1) [l] := by
  refine ⟨_, 1, rfl, Nat.le_refl _, by decide, fun j hj => ⟨_, _, rfl, ?_⟩⟩
  obtain rfl : j = 0 := by simp at hj; omega
  show _ = some (Value.string ⟨l.toArray⟩)
  rw [← h, Lib.mk_data, Lib.cell_of_heap (heap_alloc_new w _)]
  rfl

theorem cells_p {w : World} {b : Nat} {x y : Value} (h : w.heap[b]? = some (.cells #[x, y] 33 (0, 0))) : w.cell? ⟨b, 0, none⟩ = some x ∧ w.cell? ⟨b, 1, none⟩ = some y :=
  ⟨by rw [Lib.cell_of_heap h]; rfl, by rw [Lib.cell_of_heap h]; rfl⟩

theorem kT_len : (polV kT).length = 2 := by decide +kernel
theorem kT_bulk : bulkP (polV kT) ≤ 1000000 := by decide +kernel

set_option maxHeartbeats 4000000 in
set_option maxRecDepth 100000 in
theorem known10 (w : World) : Calls Try.prog 16 #[] w fun e w' => e = .returned (.bool true) ∧ Below w.heap.size w w' := by
  have HP1 := hid (fun X => parseP ⟨#[73, 109, 103, 45, 83, 114, 99, 32, 97, 32, 32, 98, 59, 32, 59, 105, 109, 103, 45, 115, 114, 99, 32, 99, 59, 120]⟩ false (polV kT) X (by decide) rfl)
  have HP2 := hid (fun X => parseP ⟨#[100, 101, 102, 97, 117, 108, 116, 45, 115, 114, 99, 32, 97]⟩ false [⟨nDe, [[97]]⟩] X (by decide) run_2)
  rw [kT_len] at HP1
  obtain ⟨K1, hK1⟩ : ∃ K1, K1 = polV kT := ⟨_, rfl⟩
  have HKL := hid (show K1.length = 2 by rw [hK1]; exact kT_len)
  have HKB := hid (show bulkP K1 ≤ 1000000 by rw [hK1]; exact kT_bulk)
  have HKT := hid (show (⟨(txP K1).toArray⟩ : ByteArray) = ⟨#[105, 109, 103, 45, 115, 114, 99, 32, 97, 32, 98, 59, 32, 120]⟩ by rw [hK1, run_1])
  rw [← hK1] at HP1
  clear hK1
  go_enter Try.func16, Try.ntmps16
  go_wp2_with fail
  refine (HP1.out _).mono ?_
  rintro e w1 ⟨a1, c1, rfl, ⟨h1, h2, hpo⟩, hb1⟩
  have HPO1 := hid hpo
  have HB1 := hid (below2 hb1 ((Below.refl _ w1).alloc (Nat.le_refl _) (.cells #[.slice a1 2 c1, .bool false] 33)))
  have HM1 := hid (heap_alloc_new w1 (.cells #[.slice a1 2 c1, .bool false] 33))
  clear hpo hb1 HP1
  go_wp2_with fail
  refine (HP2.out _).mono ?_
  rintro e w2 ⟨a2, c2, rfl, ⟨h3, h4, hpo⟩, hb2⟩
  have HV := hid (values10 (.slice a2 1 c2) false [⟨nDe, [[97]]⟩] ⟨#[115, 99, 114, 105, 112, 116, 45, 115, 114, 99, 45, 101, 108, 101, 109]⟩ w2 hpo (by decide) (by decide))
  rw [show valsV [⟨nDe, [[97]]⟩] (⟨#[115, 99, 114, 105, 112, 116, 45, 115, 114, 99, 45, 101, 108, 101, 109]⟩ : ByteArray).data.toList = some ([[97]], nDe) from run_3] at HV
  unfold ValPost at HV
  have HB2 := hid (below2 HB1.out hb2)
  have HM2 := hid (row_kept HM1.out hb2)
  have HPO2 := hid (HPO1.out.kept (below2 ((Below.refl _ w1).alloc (Nat.le_refl _) (.cells #[.slice a1 2 c1, .bool false] 33)) hb2))
  clear hpo hb2 HP2 HB1 HM1 HPO1
  go_wp2_with fail
  refine HV.out.mono ?_
  rintro e w3 ⟨u3, rfl, hown3, hb3⟩
  obtain ⟨ua, uc, rfl, hu1, hu2⟩ := own_form hown3
  have HU := hid (own_txt' (L := [[97]]) hown3)
  have HB3 := hid (below2 HB2.out hb3)
  have HM3 := hid (row_kept HM2.out hb3)
  obtain ⟨d0, d1⟩ := cells_p HM3.out
  have HT := hid (text10 (.slice a1 2 c1) false K1 w3 (HPO2.out.kept hb3) (by have := HKL.out; omega) HKB.out)
  rw [HKT.out] at HT
  clear hown3 hb3 HV HB2 HM2 HPO2
  go_wp2_with fail
  refine HT.out.mono ?_
  rintro e w4 ⟨rfl, hb4⟩
  have HB4 := hid (below2 HB3.out hb4)
  have hb5 := (Below.refl _ w4).alloc (Nat.le_refl _) (.cells #[.string ⟨#[97]⟩] 9)
  have HS := hid (sameT_any (.slice ua 1 uc) (.slice (some ⟨w4.heap.size, 0, none⟩) 1 1) [[97]] [[97]] _ (HU.out.kept (below2 hb4 hb5)) (tx_lit1 w4 ⟨#[97]⟩ [97] rfl) (by decide) (by decide))
  have HB5 := hid (below2 HB4.out hb5)
  clear hb4 hb5 d0 d1 HT
  go_wp2_with fail
  refine HS.out.mono ?_
  rintro e w6 ⟨rfl, hb6⟩
  have HB6 := hid (below2 HB5.out hb6)
  clear hb6 HS
  go_wp2_with fail
  go_ret
  exact ⟨rfl, HB6.out⟩

/-- The small letters of a text, one at least, twelve at most. -/
def wdG (l : List UInt8) : Prop := ltW l ∧ l.length ≤ 12

set_option maxHeartbeats 2000000 in
set_option maxRecDepth 100000 in
theorem word10 (s : ByteArray) (w : World) (hs : s.size ≤ 9223372036854775807) :
    Calls Try.prog 28 #[.string s] w fun e w' => (∃ X : ByteArray, e = .returned (.string X) ∧ wdG X.data.toList) ∧ w = w' := by
  go_enter Try.func28, Try.ntmps28
  go_wp2_with fail
  go_loop [3, 4] (fun v3 v4 => ∃ (X : ByteArray) (k : Nat), v3 = .string X ∧ v4 = .int .i64 k ∧ k ≤ s.size ∧ X.size ≤ 12 ∧ Hid (wdG X.data.toList)) (fun _ v4 => s.size - (intOf v4).toNat)
  case atStart => exact ⟨⟨#[113]⟩, 0, rfl, rfl, Nat.zero_le _, by decide, ⟨by decide, by decide⟩, by decide⟩
  case round =>
    obtain ⟨X, k, rfl, rfl, hk, hX, HX⟩ := hrel
    by_cases hlt : k < s.size
    · have hin : (k : Int) < (s.size : Int) := by omega
      by_cases hf : X.size < 12
      · have hf' : (X.size : Int) < 12 := by omega
        have hb8 : s[k].toNat < 256 := s[k].toNat_lt
        have HE := hid (show s.extract k (k + 1) = ⟨#[s[k]]⟩ by
          rw [← Lib.mk_data (s.extract k (k + 1))]
          congr 2
          rw [Lib.extract_data]
          simp only [show k + 1 - k = 1 by omega]
          rw [List.drop_eq_getElem_cons (by simpa using hlt)]
          rfl)
        by_cases h1 : 97 ≤ s[k].toNat
        · by_cases h2 : s[k].toNat ≤ 122
          · have h1' : (97 : Int) ≤ (s[k].toNat : Int) := by omega
            have h2' : (s[k].toNat : Int) ≤ 122 := by omega
            have HN := hid (show wdG (X ++ s.extract k (k + 1)).data.toList ∧ (X ++ s.extract k (k + 1)).size ≤ 12 by
              rw [HE.out]
              have e : (X ++ (⟨#[s[k]]⟩ : ByteArray)).data.toList = X.data.toList ++ [s[k]] := by simp
              have e2 : (X ++ (⟨#[s[k]]⟩ : ByteArray)).size = X.size + 1 := by rw [ByteArray.size_append]; rfl
              refine ⟨⟨⟨by rw [e]; simp, fun c hc => ?_⟩, ?_⟩, by omega⟩
              · rw [e] at hc
                rcases List.mem_append.1 hc with hc | hc
                · exact HX.out.1.2 c hc
                · rw [List.mem_singleton.1 hc]; exact ⟨h1, h2⟩
              · rw [← Lib.size_eq, e2]; omega)
            have hlen : ¬ (9223372036854775807 < X.size + (s.extract k (k + 1)).size) := by rw [HE.out]; have : (⟨#[s[k]]⟩ : ByteArray).size = 1 := rfl; omega
            clear h1 h2
            go_wp2_with fail
            go_round
            case rel => exact ⟨_, k + 1, rfl, by go_num, by omega, HN.out.2, HN.out.1⟩
            case measure => simp [intOf]; omega
          · have h1' : (97 : Int) ≤ (s[k].toNat : Int) := by omega
            have h2' : ¬ ((s[k].toNat : Int) ≤ 122) := by omega
            clear h1 h2
            go_wp2_with fail
            go_round
            case rel => exact ⟨_, k + 1, rfl, by go_num, by omega, hX, HX.out⟩
            case measure => simp [intOf]; omega
        · have h1' : ¬ ((97 : Int) ≤ (s[k].toNat : Int)) := by omega
          clear h1
          go_wp2_with fail
          go_round
          case rel => exact ⟨_, k + 1, rfl, by go_num, by omega, hX, HX.out⟩
          case measure => simp [intOf]; omega
      · have hf' : ¬ ((X.size : Int) < 12) := by omega
        go_wp2_with fail
        go_ret
        exact ⟨⟨X, rfl, HX.out⟩, rfl⟩
    · have hin : ¬ ((k : Int) < (s.size : Int)) := by omega
      go_wp2_with fail
      go_ret
      exact ⟨⟨X, rfl, HX.out⟩, rfl⟩

end Go.Proofs.Ytplabofdcnpcpaa
