/-
  The walks of package infra's functions on single bytes.
-/
import Derived.Test.YtdpihilikhbamaaGreatDoorProg
import Derived.Test.YtdpihilikhbamaaGreatDoorPa
import Derived.WalkKit
import Derived.WalkSpells
import Derived.WalkLawsBesides
set_option linter.unusedSimpArgs false
set_option linter.unusedVariables false
namespace Go.Proofs.YtdpihilikhbamaaGreatDoor
open Go.RowKit

set_option maxHeartbeats 400000 in
theorem digit_any (c : Int) (w : World) :
    Calls Tryz.prog 83 #[.int .u8 c] w fun e w' => e = .returned (.bool (digitI c)) ∧ w = w' := by
  go_enter Tryz.func83, Tryz.ntmps83
  go_wp2
  all_goals
    go_ret
    exact ⟨ret_bool (by rw [Bool.eq_iff_iff]; simp [digitI]; omega), rfl⟩

set_option maxHeartbeats 1000000 in
theorem value16_any (c : Int) (w : World) (h0 : 0 ≤ c) (h1 : c ≤ 255) :
    Calls Tryz.prog 70 #[.int .u8 c] w fun e w' => e = .returned (.tuple #[.int .u8 (val16I c), .bool (is16I c)]) ∧ w = w' := by
  go_enter Tryz.func70, Tryz.ntmps70
  go_wp2
  all_goals
    go_ret2
    exact ⟨ret_ib (by simp [val16I]; omega) (by rw [Bool.eq_iff_iff]; simp [is16I, digitI]; omega), rfl⟩

end Go.Proofs.YtdpihilikhbamaaGreatDoor
