/-
  The walk of infra.Token. 
-/
import Derived.Test.YtplabofdcnpcpaaDoorZWa
import Derived.Test.YtplabofdcnpcpaaDoorZGa
set_option linter.unusedSimpArgs false
set_option linter.unusedVariables false
namespace Go.Proofs.YtplabofdcnpcpaaDoor
open Go.RowKit

def tokC (c : UInt8) : Bool := tokI c.toNat
/-- Not empty, and each byte one of a token's. -/
def tokL (l : List UInt8) : Bool := l.all tokC && !l.isEmpty

set_option maxHeartbeats 400000 in
theorem token_any (s : ByteArray) (w : World) (hs : s.size ≤ 140737488351232) :
    Calls Tryd.prog 46 #[.string s] w fun e w' => e = .returned (.bool (tokL s.data.toList)) ∧ w = w' := by
  go_enter Tryd.func46, Tryd.ntmps46
  go_wp2
  go_loop [6] (fun i => ∃ k : Nat, k ≤ s.size ∧ i = .int .i64 k ∧ (s.data.toList.take k).all tokC = true) (fun i => s.size - (intOf i).toNat)
  case atStart => exact ⟨0, Nat.zero_le _, rfl, rfl⟩
  case round =>
    obtain ⟨k, hk, rfl, hall⟩ := hrel
    have HA := hid hall
    clear hall
    by_cases hlt : k < s.size
    · have HT := hid (take_snoc s k hlt)
      by_cases ht : tokI (s[k].toNat : Int) = true
      · go_wp2_with (go_at_call 72; refine (tokenByte_any _ _).mono ?_; rintro e w' ⟨rfl, rfl⟩)
        go_round
        case rel => exact ⟨k + 1, by omega, by go_num, by rw [HT.out, List.all_append, HA.out]; simp [tokC, ht]⟩
        case measure => simp [intOf]; omega
      · have ht' : tokI (s[k].toNat : Int) = false := by simpa using ht
        clear ht
        go_wp2_with (go_at_call 72; refine (tokenByte_any _ _).mono ?_; rintro e w' ⟨rfl, rfl⟩)
        go_ret
        refine ⟨ret_bool ?_, rfl⟩
        have : s.data.toList.all tokC = false := by
          rw [List.all_eq_false]
          refine ⟨s[k], ?_, by simp [tokC, ht']⟩
          have : s[k] = s.data.toList[k]'(by simpa using hlt) := rfl
          rw [this]; exact List.getElem_mem _
        simp [tokL, this]
    · have ha := HA.out
      rw [take_all s k hlt] at ha
      go_wp2
      go_ret
      exact ⟨ret_bool (by rw [Lib.toList_data]; simp [tokL, ha]), rfl⟩

end Go.Proofs.YtplabofdcnpcpaaDoor
