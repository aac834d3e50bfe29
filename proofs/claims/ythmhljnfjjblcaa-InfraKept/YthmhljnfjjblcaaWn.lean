/-
  The walks of ostiarykeep.FewBytes and ostiarybook.Within.
-/
import Derived.Test.YthmhljnfjjblcaaProg
import Derived.Test.YthmhljnfjjblcaaPs
import Derived.Test.YthmhljnfjjblcaaPa
import Derived.WalkSpells
import Derived.WalkLawsBesides
set_option linter.unusedSimpArgs false
set_option linter.unusedVariables false
namespace Go.Proofs.Ythmhljnfjjblcaa
open Go.RowKit

set_option maxHeartbeats 400000 in
theorem fewBytes_any (a : Option Addr) (len cap n : Nat) (l : List UInt8) (w : World) (hl : l.length = len) (hS : SlB w (.slice a len cap) l) (hc : len ≤ cap) (hm : cap ≤ maxLen) (hn : n ≤ 9223372036854775807) :
    Calls Try.prog 19 #[.slice a len cap, .int .i64 n] w fun e w' => ∃ len', len' = (l.take n).length ∧ len' ≤ cap ∧ e = .returned (.slice a len' cap) ∧ SlB w (.slice a len' cap) (l.take n) ∧ w = w' := by
  unfold maxLen at hm
  by_cases h : n < len
  · have h' : (n : Int) < (len : Int) := by omega
    go_enter Try.func19, Try.ntmps19
    go_wp2
    go_ret
    exact ⟨n, by simp; omega, by omega, rfl, hS.take n (by omega), rfl⟩
  · have h' : (len : Int) ≤ (n : Int) := by omega
    go_enter Try.func19, Try.ntmps19
    go_wp2
    go_ret
    have e : l.take n = l := List.take_of_length_le (by omega)
    rw [e]
    exact ⟨len, hl.symm, hc, rfl, hS, rfl⟩

theorem within_mod (n m : Int) (hm : 1 ≤ m) : 0 - m < n.tmod m ∧ n.tmod m < m := by
  have h1 := Int.tmod_lt_of_pos n (b := m) (by omega)
  have h2 := Int.tmod_lt_of_pos (-n) (b := m) (by omega)
  rw [Int.neg_tmod] at h2
  omega

/-- A number brought into lo .. hi. -/
def withinI (n lo hi : Int) : Int := if n.tmod (hi - lo + 1) < 0 then lo + (n.tmod (hi - lo + 1) + hi - lo + 1) else lo + n.tmod (hi - lo + 1)

theorem withinI_bounds (n lo hi : Int) (h : lo ≤ hi) : lo ≤ withinI n lo hi ∧ withinI n lo hi ≤ hi := by
  have := within_mod n (hi - lo + 1) (by omega)
  unfold withinI
  split <;> omega

set_option maxHeartbeats 400000 in
theorem within_any (n lo hi : Int) (w : World) (h0 : -9223372036854775808 ≤ n) (h1 : n ≤ 9223372036854775807) (hlo : 0 ≤ lo) (hlh : lo ≤ hi) (hhi : hi ≤ 1099511627776) :
    Calls Try.prog 35 #[.int .i64 n, .int .i64 lo, .int .i64 hi] w fun e w' => e = .returned (.int .i64 (withinI n lo hi)) ∧ w = w' := by
  have hb := within_mod n (hi - lo + 1) (by omega)
  have hm0 : (hi - lo + 1 == 0) = false := by simp; omega
  obtain ⟨b1, b2⟩ := hb
  by_cases hneg : n.tmod (hi - lo + 1) < 0
  · have HW := hid (show withinI n lo hi = lo + (n.tmod (hi - lo + 1) + hi - lo + 1) by unfold withinI; rw [if_pos hneg])
    go_enter Try.func35, Try.ntmps35
    go_wp2
    go_ret
    exact ⟨ret_int HW.out.symm, rfl⟩
  · have HW := hid (show withinI n lo hi = lo + n.tmod (hi - lo + 1) by unfold withinI; rw [if_neg hneg])
    go_enter Try.func35, Try.ntmps35
    go_wp2
    go_ret
    exact ⟨ret_int HW.out.symm, rfl⟩

end Go.Proofs.Ythmhljnfjjblcaa
