/-
  The walks of headers' functions on bounds and bytes, and of the laws' small functions.
-/
import Derived.Test.YtplabofdcnpcpaaDoorZXe
import Derived.Test.YtplabofdcnpcpaaDoorZWl
import Derived.Deep.LoopGhost
set_option linter.unusedSimpArgs false
set_option linter.unusedVariables false
namespace Go.Proofs.YtplabofdcnpcpaaDoor
open Go.RowKit

set_option maxHeartbeats 400000 in
theorem spans_any (a b : Int) (w : World) :
    Calls Tryd.prog 93 #[.int .i64 a, .int .i64 b] w fun e w' => e = .returned (.bool (spansI a b)) ∧ w = w' := by
  by_cases h : b < 0
  · have HS := hid (show spansI a b = decide (0 ≤ a) by rw [spansI, if_pos h])
    go_enter Tryd.func93, Tryd.ntmps93
    go_wp2
    go_ret
    exact ⟨ret_bool HS.out.symm, rfl⟩
  · have HS := hid (show spansI a b = decide (a ≤ b) by rw [spansI, if_neg h])
    go_enter Tryd.func93, Tryd.ntmps93
    go_wp2
    go_ret
    exact ⟨ret_bool HS.out.symm, rfl⟩

theorem xempty_yes (s : ByteArray) (h : s.data.toList = []) : s.toList.isEmpty = true := by rw [Lib.toList_data, h]; rfl
theorem xempty_no (s : ByteArray) (h : s.data.toList ≠ []) : s.toList.isEmpty = false := by
  rw [Lib.toList_data]
  cases hl : s.data.toList with
  | nil => exact absurd hl h
  | cons a b => rfl

set_option maxHeartbeats 400000 in
theorem bound_any (s : ByteArray) (w : World) (hs : s.size ≤ 140737488351232) :
    Calls Tryd.prog 92 #[.string s] w fun e w' => e = .returned (.tuple #[.int .i64 (bndV s.data.toList), .bool (bndOk s.data.toList)]) ∧ w = w' := by
  by_cases h : s.data.toList = []
  · have he := xempty_yes s h
    have HS := hid (show bndV s.data.toList = -1 ∧ bndOk s.data.toList = true by rw [h]; exact ⟨rfl, rfl⟩)
    clear h
    go_enter Tryd.func92, Tryd.ntmps92
    go_wp2
    go_ret2
    exact ⟨ret_ib HS.out.1.symm HS.out.2.symm, rfl⟩
  · have he := xempty_no s h
    have HS := hid (show bndV s.data.toList = intV s.data.toList ∧ bndOk s.data.toList = intOk s.data.toList by
      refine ⟨by rw [bndV, if_neg h], ?_⟩
      unfold bndOk
      rw [show (s.data.toList == []) = false by simpa using h]
      rfl)
    clear h
    go_enter Tryd.func92, Tryd.ntmps92
    go_wp2_with (go_at_call 111; refine (int_any s _ hs).mono ?_; rintro e w' ⟨rfl, rfl⟩)
    go_ret2
    exact ⟨ret_ib HS.out.1.symm HS.out.2.symm, rfl⟩

def riskI (c : Int) : Bool := c == 34 || (c == 40 || (c == 41 || (c == 58 || (c == 60 || (c == 62 || (c == 63 || (c == 64 || (c == 91 || (c == 92 || (c == 93 || (c == 123 || (c == 125 || (c == 127 || (decide (c < 32) && !(c == 9)))))))))))))))
def langI (c : Int) : Bool := c == 32 || (c == 42 || (c == 44 || (c == 45 || (c == 46 || (c == 59 || (c == 61 || (letterI c || digitI c)))))))
def harmV (l : List UInt8) : Bool := l.all fun c => !riskI c.toNat
def langV (l : List UInt8) : Bool := l.all fun c => langI c.toNat

set_option maxHeartbeats 1000000 in
theorem risky_any (c : Int) (w : World) :
    Calls Tryd.prog 88 #[.int .u8 c] w fun e w' => e = .returned (.bool (riskI c)) ∧ w = w' := by
  go_enter Tryd.func88, Tryd.ntmps88
  go_wp2
  all_goals
    go_ret
    exact ⟨ret_bool (by first | (simp [riskI, *]; done) | (rw [Bool.eq_iff_iff]; simp [riskI, *]; done) | (rw [Bool.eq_iff_iff]; simp [riskI, *]; omega)), rfl⟩

set_option maxHeartbeats 1000000 in
theorem languageByte_any (c : Int) (w : World) :
    Calls Tryd.prog 89 #[.int .u8 c] w fun e w' => e = .returned (.bool (langI c)) ∧ w = w' := by
  go_enter Tryd.func89, Tryd.ntmps89
  go_wp2
  all_goals
    go_ret
    exact ⟨ret_bool (by rw [Bool.eq_iff_iff]; simp [langI, letterI, digitI, *]; try omega), rfl⟩

theorem all_stop (p : UInt8 → Bool) (s : ByteArray) (k : Nat) (h : k < s.size) (hp : p s[k] = false) : s.data.toList.all p = false := by
  rw [List.all_eq_false]
  refine ⟨s[k], ?_, by simp [hp]⟩
  have : s[k] = s.data.toList[k]'(by simpa using h) := rfl
  rw [this]; exact List.getElem_mem _

set_option maxHeartbeats 1000000 in
theorem harmless_any (s : ByteArray) (w : World) (hs : s.size ≤ 140737488351232) :
    Calls Tryd.prog 66 #[.string s] w fun e w' => e = .returned (.bool (harmV s.data.toList)) ∧ w = w' := by
  go_enter Tryd.func66, Tryd.ntmps66
  go_wp2
  go_loop [3, 6] (fun x i => ∃ k : Nat, k ≤ s.size ∧ i = .int .i64 k ∧ harmV (s.data.toList.take k) = true) (fun x i => s.size - (intOf i).toNat)
  case atStart => exact ⟨0, Nat.zero_le _, rfl, rfl⟩
  case round =>
    obtain ⟨k, hk, rfl, hall⟩ := hrel
    have HA := hid hall
    clear hall
    by_cases hlt : k < s.size
    · have HT := hid (take_snoc s k hlt)
      by_cases ht : riskI (s[k].toNat : Int) = false
      · go_wp2_with (go_at_call 88; refine (risky_any _ _).mono ?_; rintro e w' ⟨rfl, rfl⟩)
        go_round
        case rel => exact ⟨k + 1, by omega, by go_num, by unfold harmV; rw [HT.out, List.all_append]; have := HA.out; unfold harmV at this; rw [this]; simp [ht]⟩
        case measure => simp [intOf]; omega
      · have ht' : riskI (s[k].toNat : Int) = true := by simpa using ht
        clear ht
        go_wp2_with (go_at_call 88; refine (risky_any _ _).mono ?_; rintro e w' ⟨rfl, rfl⟩)
        go_ret
        exact ⟨ret_bool (all_stop (fun c => !riskI c.toNat) s k hlt (by simp [ht'])).symm, rfl⟩
    · have ha := HA.out
      rw [take_all s k hlt] at ha
      have HB := hid ha
      clear ha
      go_wp2
      go_ret
      exact ⟨ret_bool HB.out.symm, rfl⟩

set_option maxHeartbeats 1000000 in
theorem languages_any (s : ByteArray) (w : World) (hs : s.size ≤ 140737488351232) :
    Calls Tryd.prog 67 #[.string s] w fun e w' => e = .returned (.bool (langV s.data.toList)) ∧ w = w' := by
  go_enter Tryd.func67, Tryd.ntmps67
  go_wp2
  go_loop [3, 6] (fun x i => ∃ k : Nat, k ≤ s.size ∧ i = .int .i64 k ∧ langV (s.data.toList.take k) = true) (fun x i => s.size - (intOf i).toNat)
  case atStart => exact ⟨0, Nat.zero_le _, rfl, rfl⟩
  case round =>
    obtain ⟨k, hk, rfl, hall⟩ := hrel
    have HA := hid hall
    clear hall
    by_cases hlt : k < s.size
    · have HT := hid (take_snoc s k hlt)
      by_cases ht : langI (s[k].toNat : Int) = true
      · go_wp2_with (go_at_call 89; refine (languageByte_any _ _).mono ?_; rintro e w' ⟨rfl, rfl⟩)
        go_round
        case rel => exact ⟨k + 1, by omega, by go_num, by unfold langV; rw [HT.out, List.all_append]; have := HA.out; unfold langV at this; rw [this]; simp [ht]⟩
        case measure => simp [intOf]; omega
      · have ht' : langI (s[k].toNat : Int) = false := by simpa using ht
        clear ht
        go_wp2_with (go_at_call 89; refine (languageByte_any _ _).mono ?_; rintro e w' ⟨rfl, rfl⟩)
        go_ret
        exact ⟨ret_bool (all_stop (fun c => langI c.toNat) s k hlt (by simp [ht'])).symm, rfl⟩
    · have ha := HA.out
      rw [take_all s k hlt] at ha
      have HB := hid ha
      clear ha
      go_wp2
      go_ret
      exact ⟨ret_bool HB.out.symm, rfl⟩

theorem xtens_app (d : Nat) (h : d < 10) (T : List UInt8) : (⟨#[48, 49, 50, 51, 52, 53, 54, 55, 56, 57]⟩ : ByteArray).extract d (d + 1) ++ ⟨T.toArray⟩ = ⟨(decC d :: T).toArray⟩ := by
  refine xext ?_
  rw [ByteArray.data_append, Array.toList_append]
  have : ((⟨#[48, 49, 50, 51, 52, 53, 54, 55, 56, 57]⟩ : ByteArray).extract d (d + 1)).data.toList = [decC d] := by
    rcases (show d = 0 ∨ d = 1 ∨ d = 2 ∨ d = 3 ∨ d = 4 ∨ d = 5 ∨ d = 6 ∨ d = 7 ∨ d = 8 ∨ d = 9 from by omega) with
      rfl | rfl | rfl | rfl | rfl | rfl | rfl | rfl | rfl | rfl <;> (rw [Lib.extract_data]; rfl)
  rw [this]; rfl

theorem tNe {T : List UInt8} (h : T ≠ []) : (⟨T.toArray⟩ : ByteArray).toList.isEmpty = false := xempty_no _ h

theorem wrd_q : Wrd [113] := ⟨by simp, by decide⟩

theorem word_app (s : ByteArray) (k : Nat) (h : k < s.size) (T : List UInt8) : (⟨T.toArray⟩ : ByteArray) ++ s.extract k (k + 1) = ⟨(T ++ [s[k]]).toArray⟩ := by
  refine xext ?_
  rw [ByteArray.data_append, Array.toList_append, Lib.extract_data, show k + 1 - k = 1 by omega, drop_cons s k h]
  rfl

end Go.Proofs.YtplabofdcnpcpaaDoor
