/-
  The walk of ostiarybook's Same at lists of string.
-/
import Derived.Test.YtplabofdcnpcpaaDoorZGb
import Derived.Deep.QuietTactic
import Derived.BigQuiet
set_option linter.unusedSimpArgs false
set_option linter.unusedVariables false
namespace Go.Proofs.YtplabofdcnpcpaaDoor
open Go.RowKit

set_option maxHeartbeats 4000000 in
set_option maxRecDepth 100000 in
theorem bsames (v1 v2 : Value) (n : Nat) (X : List ByteArray) (B : Nat) (w : World) (h1 : KpL 1 9 w B v1 n X) (h2 : KpL 1 9 w B v2 n X) (hl : n ≤ 1000000001) :
    Calls Tryd.prog 38 #[v1, v2] w fun e w' => e = .returned (.bool true) ∧ Below w.heap.size w w' := by
  obtain ⟨a1, c1, rfl, hc1, hm1⟩ := h1.slice
  obtain ⟨a2, c2, rfl, hc2, hm2⟩ := h2.slice
  have HV1 := hid h1
  have HV2 := hid h2
  clear h1 h2
  go_enter Tryd.func38, Tryd.ntmps38
  go_wp2_with fail
  go_loopw [5] (fun v5 wr => ∃ k : Nat, k ≤ n ∧ v5 = .int .i64 k ∧ Hid (Below w.heap.size w wr)) (fun v5 _ => n - (intOf v5).toNat)
  case atStart => exact ⟨0, Nat.zero_le _, rfl, Below.refl _ w⟩
  case round =>
    obtain ⟨k, hk, rfl, HR⟩ := hrel
    by_cases hlt : k < n
    · obtain ⟨b1, o1, rfl, e0⟩ := HV1.out.cell1 k hlt
      obtain ⟨b2, o2, rfl, g0⟩ := HV2.out.cell1 k hlt
      obtain ⟨S0, hS0⟩ : ∃ S, S = X.getD (k) ⟨#[]⟩ := ⟨_, rfl⟩
      rw [← hS0] at e0 g0
      have f0 := kept_cell e0 HR.out
      have k0 := kept_cell g0 HR.out
      have hin : (k : Int) < (n : Int) := by omega
      clear e0 g0 hS0
      go_wp2_with fail
      go_quiet (fail)
      go_wp2_with fail
      go_roundw
      case rel =>
        first
          | exact ⟨k + 1, by omega, by go_num, Go.below_drewN HR.out _⟩
          | ((repeat apply Exists.intro); refine ⟨?_, rfl⟩; exact ⟨k + 1, by omega, by go_num, Go.below_drewN HR.out _⟩)
          | ((repeat apply Exists.intro); exact ⟨⟨k + 1, by omega, by go_num, Go.below_drewN HR.out _⟩, rfl⟩)
      case measure => simp [intOf]; omega
    · obtain rfl : k = n := by omega
      clear hk hlt
      go_wp2_with fail
      go_ret
      exact ⟨rfl, HR.out⟩

end Go.Proofs.YtplabofdcnpcpaaDoor
