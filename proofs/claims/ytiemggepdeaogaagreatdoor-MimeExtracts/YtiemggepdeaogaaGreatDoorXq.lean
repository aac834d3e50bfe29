/-
  The walks of ostiarykeep.Few and ostiarybook.Within.
-/
import Derived.Test.YtiemggepdeaogaaGreatDoorXe
set_option linter.unusedSimpArgs false
set_option linter.unusedVariables false
namespace Go.Proofs.YtiemggepdeaogaaGreatDoor
open Go.RowKit

set_option maxHeartbeats 400000 in
theorem xfew_any (s : ByteArray) (n : Nat) (w : World) (hn : n ≤ 1000000) (hs : s.size ≤ 9223372036854775807) :
    Calls Tryz.prog 11 #[.string s, .int .i64 n] w fun e w' => e = .returned (.string ⟨(s.data.toList.take n).toArray⟩) ∧ w = w' := by
  by_cases h : n < s.size
  · have h' : (n : Int) < (s.size : Int) := by omega
    have HE := hid (show s.extract 0 n = ⟨(s.data.toList.take n).toArray⟩ from xext (by rw [Lib.extract_data]; simp))
    go_enter Tryz.func11, Tryz.ntmps11
    go_wp2
    go_ret
    rw [← HE.out]
    exact ⟨rfl, rfl⟩
  · have h' : ¬ ((n : Int) < (s.size : Int)) := by omega
    have HE := hid (show s = ⟨(s.data.toList.take n).toArray⟩ from xext (by rw [List.take_of_length_le (by simp; omega)]))
    go_enter Tryz.func11, Tryz.ntmps11
    go_wp2
    go_ret
    rw [← HE.out]
    exact ⟨rfl, rfl⟩

def xwithinI (n lo hi : Int) : Int :=
  let r := n.tmod (hi - lo + 1)
  if r < 0 then lo + (r + hi - lo + 1) else lo + r

theorem xwithin_mod (n m : Int) (hm : 0 < m) : -m < n.tmod m ∧ n.tmod m < m := by
  refine ⟨?_, Int.tmod_lt_of_pos n hm⟩
  have h1 := Int.tmod_lt_of_pos (-n) hm
  rw [Int.neg_tmod] at h1
  omega

theorem xwithinI_bounds (n lo hi : Int) (h : lo ≤ hi) : lo ≤ xwithinI n lo hi ∧ xwithinI n lo hi ≤ hi := by
  have hb := xwithin_mod n (hi - lo + 1) (by omega)
  unfold xwithinI
  simp only
  split <;> omega

end Go.Proofs.YtiemggepdeaogaaGreatDoor
