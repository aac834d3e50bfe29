/-
  The walk of the law InfraNumerals.
-/
import Derived.Test.YthmhljnfjjblcaaWk
import Derived.Test.YthmhljnfjjblcaaWl
import Derived.Test.YthmhljnfjjblcaaWn
import Derived.Test.YthmhljnfjjblcaaKc
import Derived.Test.YthmhljnfjjblcaaPj
import Derived.Test.YthmhljnfjjblcaaPe
import Derived.Deep.RegionWith
set_option linter.unusedSimpArgs false
set_option linter.unusedVariables false
namespace Go.Proofs.Ythmhljnfjjblcaa
open Go.RowKit

def emptyN : Value → Nat
  | .string s => if s.size = 0 then 1 else 0
  | _ => 0

theorem ten_digits (d : Nat) (h : d < 10) : ((ByteArray.mk #[48, 49, 50, 51, 52, 53, 54, 55, 56, 57]).extract d (d + 1)).data.toList = [decD d] := by
  rw [Lib.extract_data]
  rcases (show d = 0 ∨ d = 1 ∨ d = 2 ∨ d = 3 ∨ d = 4 ∨ d = 5 ∨ d = 6 ∨ d = 7 ∨ d = 8 ∨ d = 9 from by omega) with rfl | rfl | rfl | rfl | rfl | rfl | rfl | rfl | rfl | rfl <;> rfl

theorem size_ten : (ByteArray.mk #[48, 49, 50, 51, 52, 53, 54, 55, 56, 57]).size = 10 := rfl

theorem pow_bound (k j N : Nat) (h : k * 10 ^ j ≤ N) (hk : 0 < k) (hN : N ≤ 9223372036854775807) : j ≤ 18 := by
  rcases Nat.lt_or_ge 18 j with h1 | h1
  · exfalso
    have h2 : 10 ^ 19 ≤ 10 ^ j := Nat.pow_le_pow_right (by omega) h1
    have h3 : 10 ^ j ≤ k * 10 ^ j := Nat.le_mul_of_pos_left _ hk
    have h4 : (10 : Nat) ^ 19 = 10000000000000000000 := by decide
    omega
  · exact h1

theorem ins_form (u : ByteArray) (I : Nat) (c : UInt8) (h : u.data.toList.all digC = true) : intOk (u.data.toList.take I ++ c :: (u.data.toList.drop I).take (u.size - I)) = digC c := by
  have h1 := intOk_in (u.data.toList.take I) (u.data.toList.drop I) c (by rw [List.take_append_drop]; exact h)
  have h2 : (u.data.toList.drop I).take (u.size - I) = u.data.toList.drop I := List.take_of_length_le (by simp)
  rw [h2, ← h1]
  simp

set_option maxHeartbeats 2000000 in
theorem infraNumerals_walk (n m0 at0 c : Int) (w : World) (w0 : (Lit.int .i64 n).wf = true) (w1 : (Lit.int .i64 m0).wf = true) (w2 : (Lit.int .i64 at0).wf = true) (w3 : (Lit.int .u8 c).wf = true) :
    Calls Try.prog 9 #[.int .i64 n, .int .i64 m0, .int .i64 at0, .int .u8 c] w fun e w' => e = .returned (.bool true) ∧ Below w.heap.size w w' := by
  have hn : -9223372036854775808 ≤ n ∧ n ≤ 9223372036854775807 := by simpa [Lit.wf, IntKind.min, IntKind.max, IntKind.bits, IntKind.signed] using w0
  have hm : -9223372036854775808 ≤ m0 ∧ m0 ≤ 9223372036854775807 := by simpa [Lit.wf, IntKind.min, IntKind.max, IntKind.bits, IntKind.signed] using w1
  have ha : -9223372036854775808 ≤ at0 ∧ at0 ≤ 9223372036854775807 := by simpa [Lit.wf, IntKind.min, IntKind.max, IntKind.bits, IntKind.signed] using w2
  have hc : 0 ≤ c ∧ c ≤ 255 := by simpa [Lit.wf, IntKind.min, IntKind.max, IntKind.bits, IntKind.signed] using w3
  clear w0 w1 w2 w3
  obtain ⟨hn1, hn2⟩ := hn
  obtain ⟨hc1, hc2⟩ := hc
  obtain ⟨c8, rfl⟩ : ∃ c8 : UInt8, c = (c8.toNat : Int) := ⟨UInt8.ofNat c.toNat, by simp; omega⟩
  clear hc1 hc2
  have hwb := withinI_bounds m0 0 20 (by omega)
  obtain ⟨M, hM⟩ := Int.eq_ofNat_of_zero_le hwb.1
  have hMb : M ≤ 20 := by omega
  clear hwb
  by_cases hneg : n < 0
  · obtain ⟨N, hN⟩ := Int.eq_ofNat_of_zero_le (show 0 ≤ -(n + 1) by omega)
    have hNb : N ≤ 9223372036854775807 := by omega
    go_enter Try.func9, Try.ntmps9
    go_wp2
    have HN := hid hN
    clear hN hneg hn1 hn2
    go_loop [9, 10] (fun ts ks => ∃ (t : ByteArray) (k : Nat), ts = .string t ∧ ks = .int .i64 k ∧ k * 10 ^ t.size + natV t.data.toList = N ∧ t.data.toList.all digC = true ∧ t.size ≤ 19) (fun ts ks => (intOf ks).toNat + emptyN ts)
    case atStart => exact ⟨⟨#[]⟩, N, rfl, rfl, by show N * 10 ^ 0 + natV [] = N; simp [natV], rfl, by decide⟩
    case round =>
      obtain ⟨t, k, rfl, rfl, hv, hall, hts⟩ := hrel
      have HV := hid hv
      have HA := hid hall
      have hkN : k ≤ N := by
        have h1 : k * 1 ≤ k * 10 ^ t.size := Nat.mul_le_mul_left k (Nat.one_le_pow _ _ (by omega))
        omega
      have HP : Hid (0 < k → t.size ≤ 18) := fun hk => pow_bound k t.size N (by omega) hk hNb
      clear hv hall
      by_cases hgo : 0 < k ∨ t.size = 0
      · have ht18 : t.size ≤ 18 := by
          rcases hgo with h | h
          · exact HP.out h
          · omega
        have hst : ∀ x : ByteArray, x = (ByteArray.mk #[48, 49, 50, 51, 52, 53, 54, 55, 56, 57]).extract (k % 10) (k % 10 + 1) ++ t → x.data.toList = decD (k % 10) :: t.data.toList := by
          rintro x rfl
          rw [ByteArray.data_append, Array.toList_append, ten_digits _ (Nat.mod_lt _ (by omega))]; rfl
        have HS := hid hst
        clear hst
        have hsz1 : ((ByteArray.mk #[48, 49, 50, 51, 52, 53, 54, 55, 56, 57]).extract (k % 10) (k % 10 + 1)).size = 1 := by simp [size_ten]; omega
        have hend : ∀ x : ByteArray, x = (ByteArray.mk #[48, 49, 50, 51, 52, 53, 54, 55, 56, 57]).extract (k % 10) (k % 10 + 1) ++ t → k / 10 * 10 ^ x.size + natV x.data.toList = N ∧ x.data.toList.all digC = true ∧ x.size ≤ 19 ∧ x.size ≠ 0 := by
          intro x hx
          have e := HS.out x hx
          have el : x.size = (decD (k % 10) :: t.data.toList).length := by rw [← e]; simp
          refine ⟨?_, ?_, ?_, ?_⟩
          · rw [el, e, natV_step]; simpa using HV.out
          · rw [e, List.all_cons, HA.out, decD_dig _ (Nat.mod_lt _ (by omega))]; rfl
          · rw [el]; simp; omega
          · rw [el]; simp
        have HE := hid hend
        clear hend
        by_cases hk : 0 < k
        · have hk' : (0 : Int) < (k : Int) := by omega
          clear hgo
          go_wp2
          go_round
          case rel =>
            obtain ⟨e1, e2, e3, _⟩ := HE.out _ rfl
            exact ⟨_, k / 10, rfl, by go_num, e1, e2, e3⟩
          case measure =>
            obtain ⟨_, _, _, e4⟩ := HE.out _ rfl
            simp only [intOf, emptyN, if_neg e4]
            omega
        · have hk' : (k : Int) ≤ 0 := by omega
          have ht0 : t.size = 0 := by omega
          have he : t.toList.isEmpty = true := by
            rw [Lib.toList_data, List.isEmpty_iff]
            exact List.eq_nil_of_length_eq_zero (by simpa using ht0)
          have HT0 := hid ht0
          clear hgo ht0
          go_wp2
          go_round
          case rel =>
            obtain ⟨e1, e2, e3, _⟩ := HE.out _ rfl
            exact ⟨_, k / 10, rfl, by go_num, e1, e2, e3⟩
          case measure =>
            obtain ⟨_, _, _, e4⟩ := HE.out _ rfl
            simp only [intOf, emptyN, if_neg e4, if_pos HT0.out]
            omega
      · have hk' : (k : Int) ≤ 0 := by omega
        have ht0 : t.size ≠ 0 := by omega
        have he : t.toList.isEmpty = false := by
          rw [Lib.toList_data, List.isEmpty_eq_false_iff]
          intro h
          apply ht0
          have := congrArg List.length h
          simpa using this
        have HVN : Hid (natV t.data.toList = N) := by
          have h1 := HV.out
          have h2 : k = 0 := by omega
          subst h2
          rw [Nat.zero_mul, Nat.zero_add] at h1
          exact h1
        have HT0 := hid ht0
        clear hgo ht0 HP
        go_wp2
        go_loop [9, 12] (fun ts js => ∃ (u : ByteArray) (j : Nat), ts = .string u ∧ js = .int .i64 j ∧ j ≤ M ∧ u.size ≤ 19 + j ∧ natV u.data.toList = N ∧ u.data.toList.all digC = true ∧ u.size ≠ 0) (fun _ js => M - (intOf js).toNat)
        case atStart => exact ⟨t, 0, rfl, rfl, Nat.zero_le _, by omega, HVN.out, HA.out, HT0.out⟩
        case round =>
          obtain ⟨u, j, rfl, rfl, hj, hus, huv, hua, hu0⟩ := hrel
          have HUV := hid huv
          have HUA := hid hua
          have HU0 := hid hu0
          clear huv hua hu0
          by_cases hjM : j < M
          · have hjM' : (j : Int) < (M : Int) := by omega
            have hs48 : (ByteArray.mk #[48]).size = 1 := rfl
            go_wp2_with (go_at_call 35; refine (within_any m0 0 20 _ hm.1 hm.2 (by omega) (by omega) (by omega)).mono ?_; rintro e w' ⟨rfl, rfl⟩)
            go_round
            case rel =>
              have e : (ByteArray.mk #[48] ++ u).data.toList = 48 :: u.data.toList := by simp
              refine ⟨_, j + 1, rfl, by go_num, by omega, ?_, ?_, ?_, ?_⟩
              · simp [hs48]; omega
              · rw [e, natV_nought]; exact HUV.out
              · rw [e, List.all_cons, HUA.out]; decide
              · simp [hs48]
            case measure => simp [intOf]; omega
          · obtain rfl : j = M := by omega
            go_wp2_with (go_at_call 35; refine (within_any m0 0 20 _ hm.1 hm.2 (by omega) (by omega) (by omega)).mono ?_; rintro e w' ⟨rfl, rfl⟩)
            have hul : u.data.toList ≠ [] := by
              intro h
              apply HU0.out
              have := congrArg List.length h
              simpa using this
            obtain ⟨q1, q2⟩ := intV_of u.data.toList HUA.out hul (by rw [HUV.out]; omega)
            rw [HUV.out] at q1
            obtain ⟨q3, q4⟩ := intV_more u.data.toList 53 HUA.out (by decide) (by rw [HUV.out]; omega)
            rw [HUV.out] at q3
            refine (int_at u w N true (by omega) q1 q2).mono ?_
            rintro e w' ⟨rfl, rfl⟩
            clear q1 q2
            have h53 : (ByteArray.mk #[53]).size = 1 := rfl
            go_wp2_with fail
            obtain ⟨V, hV⟩ : ∃ V, V = intV (u.data.toList ++ [53]) := ⟨_, rfl⟩
            rw [← hV] at q3
            refine (int_at _ _ V true ?_ ?_ ?_).mono ?_
            · simp [h53]; omega
            · rw [hV]; simp
            · simpa using q4
            rintro e w' ⟨rfl, rfl⟩
            clear hV q4 hul
            have hwb := withinI_bounds at0 0 u.size (by omega)
            obtain ⟨I, hI⟩ := Int.eq_ofNat_of_zero_le hwb.1
            have hIb : I ≤ u.size := by omega
            clear hwb
            go_wp2_with fail
            refine (within_any at0 0 u.size w ha.1 ha.2 (by omega) (by omega) (by omega)).mono ?_
            rintro e w' ⟨rfl, rfl⟩
            rw [hI]
            clear hI hM
            go_wp2_with fail
            have hII : (I : Int) ≤ (u.size : Int) := by omega
            have hII0 : (0 : Int) ≤ (I : Int) := by omega
            have hcv : (convert 22 9 (.slice (some ⟨w.heap.size, 0, none⟩) 1 1)).run Try.prog (w.alloc (.cells #[.int .u8 (c8.toNat : Int)] 5)) = .ok (.string ⟨#[c8]⟩) (w.alloc (.cells #[.int .u8 (c8.toNat : Int)] 5)) := (SlB.laid w _ _ _ [c8] 1 rfl).string (P := Try.prog) Try.underlying22 Try.underlying5 Try.underlying9
            have hcv2 : (convert 22 9 (.slice (some ⟨w.heap.size, 0, none⟩) 1 1)).run Try.prog (w.alloc (.cells #[.int .u8 (c8.toNat : Int)] 5)).drew = .ok (.string ⟨#[c8]⟩) (w.alloc (.cells #[.int .u8 (c8.toNat : Int)] 5)).drew := (SlB.laid w.drew _ _ _ [c8] 1 rfl).string (P := Try.prog) Try.underlying22 Try.underlying5 Try.underlying9
            have hs8 : (ByteArray.mk #[c8]).size = 1 := rfl
            have hok := ins_form u I c8 HUA.out
            have HOK := hid hok
            clear hok
            go_region_with (go_at_call 13; refine (int_any _ _ ?_).mono ?_; (simp [hs8]; omega); rintro e w' ⟨rfl, rfl⟩)
            clear hcv hcv2
            by_cases hdg : digC c8 = true
            · have hok := HOK.out
              rw [hdg] at hok
              have hb : 48 ≤ (c8.toNat : Int) ∧ (c8.toNat : Int) ≤ 57 := by simp [digC, digitI] at hdg; omega
              obtain ⟨hb1, hb2⟩ := hb
              have hd1 : decide (48 ≤ (c8.toNat : Int)) = true := by simp; omega
              have hd2 : decide ((c8.toNat : Int) ≤ 57) = true := by simp; omega
              go_wp2_with fail
              refine (known_any _).mono ?_
              rintro e w5 ⟨rfl, hb5⟩
              go_wp2
              go_ret
              refine ⟨rfl, ?_⟩
              exact ((Below.refl _ w).alloc (Nat.le_refl _) _).drew.trans (hb5.mono (by simp))
            · have hok := HOK.out
              have hdg' : digC c8 = false := by simpa using hdg
              rw [hdg'] at hok
              have hb : (c8.toNat : Int) < 48 ∨ 57 < (c8.toNat : Int) := by simp [digC, digitI] at hdg'; omega
              clear hdg hdg'
              rcases hb with hb | hb
              · have hd1 : decide (48 ≤ (c8.toNat : Int)) = false := by simp; omega
                go_wp2_with fail
                refine (known_any _).mono ?_
                rintro e w5 ⟨rfl, hb5⟩
                go_wp2
                go_ret
                refine ⟨rfl, ?_⟩
                exact ((Below.refl _ w).alloc (Nat.le_refl _) _).drew.trans (hb5.mono (by simp))
              · have hd1 : decide (48 ≤ (c8.toNat : Int)) = true := by simp; omega
                have hd2 : decide ((c8.toNat : Int) ≤ 57) = false := by simp; omega
                go_wp2_with fail
                refine (known_any _).mono ?_
                rintro e w5 ⟨rfl, hb5⟩
                go_wp2
                go_ret
                refine ⟨rfl, ?_⟩
                exact ((Below.refl _ w).alloc (Nat.le_refl _) _).drew.trans (hb5.mono (by simp))
  · obtain ⟨N, rfl⟩ := Int.eq_ofNat_of_zero_le (show 0 ≤ n by omega)
    have hNb : N ≤ 9223372036854775807 := by omega
    have hd0 : decide ((N : Int) < 0) = false := by simp
    clear hn1 hn2 hneg
    go_enter Try.func9, Try.ntmps9
    go_wp2
    go_loop [9, 10] (fun ts ks => ∃ (t : ByteArray) (k : Nat), ts = .string t ∧ ks = .int .i64 k ∧ k * 10 ^ t.size + natV t.data.toList = N ∧ t.data.toList.all digC = true ∧ t.size ≤ 19) (fun ts ks => (intOf ks).toNat + emptyN ts)
    case atStart => exact ⟨⟨#[]⟩, N, rfl, rfl, by show N * 10 ^ 0 + natV [] = N; simp [natV], rfl, by decide⟩
    case round =>
      obtain ⟨t, k, rfl, rfl, hv, hall, hts⟩ := hrel
      have HV := hid hv
      have HA := hid hall
      have hkN : k ≤ N := by
        have h1 : k * 1 ≤ k * 10 ^ t.size := Nat.mul_le_mul_left k (Nat.one_le_pow _ _ (by omega))
        omega
      have HP : Hid (0 < k → t.size ≤ 18) := fun hk => pow_bound k t.size N (by omega) hk hNb
      clear hv hall
      by_cases hgo : 0 < k ∨ t.size = 0
      · have ht18 : t.size ≤ 18 := by
          rcases hgo with h | h
          · exact HP.out h
          · omega
        have hst : ∀ x : ByteArray, x = (ByteArray.mk #[48, 49, 50, 51, 52, 53, 54, 55, 56, 57]).extract (k % 10) (k % 10 + 1) ++ t → x.data.toList = decD (k % 10) :: t.data.toList := by
          rintro x rfl
          rw [ByteArray.data_append, Array.toList_append, ten_digits _ (Nat.mod_lt _ (by omega))]; rfl
        have HS := hid hst
        clear hst
        have hsz1 : ((ByteArray.mk #[48, 49, 50, 51, 52, 53, 54, 55, 56, 57]).extract (k % 10) (k % 10 + 1)).size = 1 := by simp [size_ten]; omega
        have hend : ∀ x : ByteArray, x = (ByteArray.mk #[48, 49, 50, 51, 52, 53, 54, 55, 56, 57]).extract (k % 10) (k % 10 + 1) ++ t → k / 10 * 10 ^ x.size + natV x.data.toList = N ∧ x.data.toList.all digC = true ∧ x.size ≤ 19 ∧ x.size ≠ 0 := by
          intro x hx
          have e := HS.out x hx
          have el : x.size = (decD (k % 10) :: t.data.toList).length := by rw [← e]; simp
          refine ⟨?_, ?_, ?_, ?_⟩
          · rw [el, e, natV_step]; simpa using HV.out
          · rw [e, List.all_cons, HA.out, decD_dig _ (Nat.mod_lt _ (by omega))]; rfl
          · rw [el]; simp; omega
          · rw [el]; simp
        have HE := hid hend
        clear hend
        by_cases hk : 0 < k
        · have hk' : (0 : Int) < (k : Int) := by omega
          clear hgo
          go_wp2
          go_round
          case rel =>
            obtain ⟨e1, e2, e3, _⟩ := HE.out _ rfl
            exact ⟨_, k / 10, rfl, by go_num, e1, e2, e3⟩
          case measure =>
            obtain ⟨_, _, _, e4⟩ := HE.out _ rfl
            simp only [intOf, emptyN, if_neg e4]
            omega
        · have hk' : (k : Int) ≤ 0 := by omega
          have ht0 : t.size = 0 := by omega
          have he : t.toList.isEmpty = true := by
            rw [Lib.toList_data, List.isEmpty_iff]
            exact List.eq_nil_of_length_eq_zero (by simpa using ht0)
          have HT0 := hid ht0
          clear hgo ht0
          go_wp2
          go_round
          case rel =>
            obtain ⟨e1, e2, e3, _⟩ := HE.out _ rfl
            exact ⟨_, k / 10, rfl, by go_num, e1, e2, e3⟩
          case measure =>
            obtain ⟨_, _, _, e4⟩ := HE.out _ rfl
            simp only [intOf, emptyN, if_neg e4, if_pos HT0.out]
            omega
      · have hk' : (k : Int) ≤ 0 := by omega
        have ht0 : t.size ≠ 0 := by omega
        have he : t.toList.isEmpty = false := by
          rw [Lib.toList_data, List.isEmpty_eq_false_iff]
          intro h
          apply ht0
          have := congrArg List.length h
          simpa using this
        have HVN : Hid (natV t.data.toList = N) := by
          have h1 := HV.out
          have h2 : k = 0 := by omega
          subst h2
          rw [Nat.zero_mul, Nat.zero_add] at h1
          exact h1
        have HT0 := hid ht0
        clear hgo ht0 HP
        go_wp2
        go_loop [9, 12] (fun ts js => ∃ (u : ByteArray) (j : Nat), ts = .string u ∧ js = .int .i64 j ∧ j ≤ M ∧ u.size ≤ 19 + j ∧ natV u.data.toList = N ∧ u.data.toList.all digC = true ∧ u.size ≠ 0) (fun _ js => M - (intOf js).toNat)
        case atStart => exact ⟨t, 0, rfl, rfl, Nat.zero_le _, by omega, HVN.out, HA.out, HT0.out⟩
        case round =>
          obtain ⟨u, j, rfl, rfl, hj, hus, huv, hua, hu0⟩ := hrel
          have HUV := hid huv
          have HUA := hid hua
          have HU0 := hid hu0
          clear huv hua hu0
          by_cases hjM : j < M
          · have hjM' : (j : Int) < (M : Int) := by omega
            have hs48 : (ByteArray.mk #[48]).size = 1 := rfl
            go_wp2_with (go_at_call 35; refine (within_any m0 0 20 _ hm.1 hm.2 (by omega) (by omega) (by omega)).mono ?_; rintro e w' ⟨rfl, rfl⟩)
            go_round
            case rel =>
              have e : (ByteArray.mk #[48] ++ u).data.toList = 48 :: u.data.toList := by simp
              refine ⟨_, j + 1, rfl, by go_num, by omega, ?_, ?_, ?_, ?_⟩
              · simp [hs48]; omega
              · rw [e, natV_nought]; exact HUV.out
              · rw [e, List.all_cons, HUA.out]; decide
              · simp [hs48]
            case measure => simp [intOf]; omega
          · obtain rfl : j = M := by omega
            go_wp2_with (go_at_call 35; refine (within_any m0 0 20 _ hm.1 hm.2 (by omega) (by omega) (by omega)).mono ?_; rintro e w' ⟨rfl, rfl⟩)
            have hul : u.data.toList ≠ [] := by
              intro h
              apply HU0.out
              have := congrArg List.length h
              simpa using this
            obtain ⟨q1, q2⟩ := intV_of u.data.toList HUA.out hul (by rw [HUV.out]; omega)
            rw [HUV.out] at q1
            obtain ⟨q3, q4⟩ := intV_more u.data.toList 53 HUA.out (by decide) (by rw [HUV.out]; omega)
            rw [HUV.out] at q3
            refine (int_at u w N true (by omega) q1 q2).mono ?_
            rintro e w' ⟨rfl, rfl⟩
            clear q1 q2
            have h53 : (ByteArray.mk #[53]).size = 1 := rfl
            go_wp2_with fail
            obtain ⟨V, hV⟩ : ∃ V, V = intV (u.data.toList ++ [53]) := ⟨_, rfl⟩
            rw [← hV] at q3
            refine (int_at _ _ V true ?_ ?_ ?_).mono ?_
            · simp [h53]; omega
            · rw [hV]; simp
            · simpa using q4
            rintro e w' ⟨rfl, rfl⟩
            clear hV q4 hul
            have hwb := withinI_bounds at0 0 u.size (by omega)
            obtain ⟨I, hI⟩ := Int.eq_ofNat_of_zero_le hwb.1
            have hIb : I ≤ u.size := by omega
            clear hwb
            go_wp2_with fail
            refine (within_any at0 0 u.size w ha.1 ha.2 (by omega) (by omega) (by omega)).mono ?_
            rintro e w' ⟨rfl, rfl⟩
            rw [hI]
            clear hI hM
            go_wp2_with fail
            have hII : (I : Int) ≤ (u.size : Int) := by omega
            have hII0 : (0 : Int) ≤ (I : Int) := by omega
            have hcv : (convert 22 9 (.slice (some ⟨w.heap.size, 0, none⟩) 1 1)).run Try.prog (w.alloc (.cells #[.int .u8 (c8.toNat : Int)] 5)) = .ok (.string ⟨#[c8]⟩) (w.alloc (.cells #[.int .u8 (c8.toNat : Int)] 5)) := (SlB.laid w _ _ _ [c8] 1 rfl).string (P := Try.prog) Try.underlying22 Try.underlying5 Try.underlying9
            have hcv2 : (convert 22 9 (.slice (some ⟨w.heap.size, 0, none⟩) 1 1)).run Try.prog (w.alloc (.cells #[.int .u8 (c8.toNat : Int)] 5)).drew = .ok (.string ⟨#[c8]⟩) (w.alloc (.cells #[.int .u8 (c8.toNat : Int)] 5)).drew := (SlB.laid w.drew _ _ _ [c8] 1 rfl).string (P := Try.prog) Try.underlying22 Try.underlying5 Try.underlying9
            have hs8 : (ByteArray.mk #[c8]).size = 1 := rfl
            have hok := ins_form u I c8 HUA.out
            have HOK := hid hok
            clear hok
            go_region_with (go_at_call 13; refine (int_any _ _ ?_).mono ?_; (simp [hs8]; omega); rintro e w' ⟨rfl, rfl⟩)
            clear hcv hcv2
            by_cases hdg : digC c8 = true
            · have hok := HOK.out
              rw [hdg] at hok
              have hb : 48 ≤ (c8.toNat : Int) ∧ (c8.toNat : Int) ≤ 57 := by simp [digC, digitI] at hdg; omega
              obtain ⟨hb1, hb2⟩ := hb
              have hd1 : decide (48 ≤ (c8.toNat : Int)) = true := by simp; omega
              have hd2 : decide ((c8.toNat : Int) ≤ 57) = true := by simp; omega
              go_wp2_with fail
              refine (known_any _).mono ?_
              rintro e w5 ⟨rfl, hb5⟩
              go_wp2
              go_ret
              refine ⟨rfl, ?_⟩
              exact ((Below.refl _ w).alloc (Nat.le_refl _) _).drew.trans (hb5.mono (by simp))
            · have hok := HOK.out
              have hdg' : digC c8 = false := by simpa using hdg
              rw [hdg'] at hok
              have hb : (c8.toNat : Int) < 48 ∨ 57 < (c8.toNat : Int) := by simp [digC, digitI] at hdg'; omega
              clear hdg hdg'
              rcases hb with hb | hb
              · have hd1 : decide (48 ≤ (c8.toNat : Int)) = false := by simp; omega
                go_wp2_with fail
                refine (known_any _).mono ?_
                rintro e w5 ⟨rfl, hb5⟩
                go_wp2
                go_ret
                refine ⟨rfl, ?_⟩
                exact ((Below.refl _ w).alloc (Nat.le_refl _) _).drew.trans (hb5.mono (by simp))
              · have hd1 : decide (48 ≤ (c8.toNat : Int)) = true := by simp; omega
                have hd2 : decide ((c8.toNat : Int) ≤ 57) = false := by simp; omega
                go_wp2_with fail
                refine (known_any _).mono ?_
                rintro e w5 ⟨rfl, hb5⟩
                go_wp2
                go_ret
                refine ⟨rfl, ?_⟩
                exact ((Below.refl _ w).alloc (Nat.le_refl _) _).drew.trans (hb5.mono (by simp))

end Go.Proofs.Ythmhljnfjjblcaa
