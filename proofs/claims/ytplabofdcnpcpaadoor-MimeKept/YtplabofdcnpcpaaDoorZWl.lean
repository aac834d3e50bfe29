/-
  The walk of infra.Int. 
-/
import Derived.Test.YtplabofdcnpcpaaDoorZWa
import Derived.Test.YtplabofdcnpcpaaDoorZGa
set_option linter.unusedSimpArgs false
set_option linter.unusedVariables false
namespace Go.Proofs.YtplabofdcnpcpaaDoor
open Go.RowKit

set_option maxHeartbeats 400000 in
theorem timesTenAnd_any (n d : Int) (w : World) (h0 : 0 ≤ n) (h1 : n ≤ 9223372036854775807) (h2 : 0 ≤ d) (h3 : d ≤ 9) :
    Calls Tryd.prog 124 #[.int .i64 n, .int .i64 d] w fun e w' => e = .returned (.int .i64 (ten n d)) ∧ w = w' := by
  by_cases h : (9223372036854775807 - d) / 10 < n
  · have HT := hid (show ten n d = 9223372036854775807 by unfold ten; rw [if_pos h])
    go_enter Tryd.func124, Tryd.ntmps124
    go_wp2
    go_ret
    exact ⟨ret_int HT.out.symm, rfl⟩
  · have HT := hid (show ten n d = n * 10 + d by unfold ten; rw [if_neg h])
    have h' : n ≤ (9223372036854775807 - d) / 10 := by omega
    clear h
    go_enter Tryd.func124, Tryd.ntmps124
    go_wp2
    go_ret
    exact ⟨ret_int HT.out.symm, rfl⟩

set_option maxHeartbeats 1000000 in
theorem int_any (s : ByteArray) (w : World) (hs : s.size ≤ 140737488351232) :
    Calls Tryd.prog 111 #[.string s] w fun e w' => e = .returned (.tuple #[.int .i64 (intV s.data.toList), .bool (intOk s.data.toList)]) ∧ w = w' := by
  by_cases he : s.size = 0
  · have hl : s.data.toList = [] := List.eq_nil_of_length_eq_zero (by simpa using he)
    have he' : s.toList.isEmpty = true := by rw [Lib.toList_data, hl]; rfl
    have HV := hid (show intV s.data.toList = 0 by rw [hl]; rfl)
    have HO := hid (show intOk s.data.toList = false by rw [hl]; rfl)
    clear hl
    go_enter Tryd.func111, Tryd.ntmps111
    go_wp2
    go_ret2
    exact ⟨ret_ib HV.out.symm HO.out.symm, rfl⟩
  · have hl : s.data.toList.isEmpty = false := by
      rw [List.isEmpty_eq_false_iff]
      intro h
      apply he
      have := congrArg List.length h
      simpa using this
    have he' : s.toList.isEmpty = false := by rw [Lib.toList_data, hl]
    have HL := hid hl
    clear hl
    go_enter Tryd.func111, Tryd.ntmps111
    go_wp2
    go_loop [4, 10] (fun n i => ∃ k : Nat, k ≤ s.size ∧ i = .int .i64 k ∧ (s.data.toList.take k).all digP = true ∧ n = .int .i64 (numI (s.data.toList.take k))) (fun _ i => s.size - (intOf i).toNat)
    case atStart => exact ⟨0, Nat.zero_le _, rfl, rfl, rfl⟩
    case round =>
      obtain ⟨k, hk, rfl, hall, rfl⟩ := hrel
      have hr := numI_range _ hall
      have HA := hid hall
      clear hall
      by_cases hlt : k < s.size
      · have HT := hid (take_snoc s k hlt)
        have HN := hid (numI_snoc (s.data.toList.take k) s[k])
        generalize numI (s.data.toList.take k) = n at *
        by_cases hd : digitI (s[k].toNat : Int) = true
        · have hd2 : 48 ≤ (s[k].toNat : Int) ∧ (s[k].toNat : Int) ≤ 57 := by simp [digitI] at hd; omega
          obtain ⟨hd3, hd4⟩ := hd2
          go_wp2_with (first | (go_at_call 98; refine (digit_any _ _).mono ?_; rintro e w' ⟨rfl, rfl⟩) | (go_at_call 124; refine (timesTenAnd_any _ _ _ (by omega) (by omega) (by omega) (by omega)).mono ?_; rintro e w' ⟨rfl, rfl⟩))
          go_round
          case rel => exact ⟨k + 1, by omega, by go_num, by rw [HT.out, List.all_append, HA.out]; simp [digP, hd], by rw [HT.out, HN.out]⟩
          case measure => simp [intOf]; omega
        · have hd' : digitI (s[k].toNat : Int) = false := by simpa using hd
          clear hd
          go_wp2_with (go_at_call 98; refine (digit_any _ _).mono ?_; rintro e w' ⟨rfl, rfl⟩)
          go_ret2
          have : s.data.toList.all digP = false := by
            rw [List.all_eq_false]
            refine ⟨s[k], ?_, by simp [digP, hd']⟩
            have : s[k] = s.data.toList[k]'(by simpa using hlt) := rfl
            rw [this]; exact List.getElem_mem _
          exact ⟨ret_ib (by simp [intV, this]) (by simp [intOk, this]), rfl⟩
      · have ha := HA.out
        rw [take_all s k hlt] at ha ⊢
        have ha' := hid ha
        clear ha
        go_wp2
        go_ret2
        exact ⟨ret_ib (by simp [intV, ha'.out, HL.out]) (by simp [intOk, ha'.out, HL.out]), rfl⟩

end Go.Proofs.YtplabofdcnpcpaaDoor
