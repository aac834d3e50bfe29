/-
  The walks of infra.Lower and infra.Strip.
-/
import Derived.Test.YtplabofdcnpcpaaDoorZWa
import Derived.Test.YtplabofdcnpcpaaDoorZGa
set_option linter.unusedSimpArgs false
set_option linter.unusedVariables false
namespace Go.Proofs.YtplabofdcnpcpaaDoor
open Go.RowKit

set_option maxHeartbeats 1000000 in
theorem lower_any (s : ByteArray) (w : World) (hs : s.size ≤ 140737488351232) :
    Calls Tryd.prog 33 #[.string s] w fun e w' => e = .returned (.string ⟨(low s.data.toList).toArray⟩) ∧ Below w.heap.size w w' := by
  have hcv := run_bytes_of_string (P := Tryd.prog) w 9 83 5 s Tryd.underlying9 Tryd.underlying83 Tryd.underlying5
  have hcap := grownCap_ge w s.size 0 5
  have hr0 := rowIs_bytes w 5 s (grownCap w s.size 0 5) hcap
  have hb0 : Below w.heap.size w (w.drew.alloc (.cells (bytesRow s (grownCap w s.size 0 5)) 5 ((bytesRow s (grownCap w s.size 0 5)).size, (bytesRow s (grownCap w s.size 0 5)).size + 1))) := (Below.refl _ w).drew.alloc (Nat.le_refl _) _
  generalize (w.drew.alloc (.cells (bytesRow s (grownCap w s.size 0 5)) 5 ((bytesRow s (grownCap w s.size 0 5)).size, (bytesRow s (grownCap w s.size 0 5)).size + 1))) = w0 at hcv hr0 hb0
  generalize grownCap w s.size 0 5 = cap at hcv hcap
  go_enter Tryd.func33, Tryd.ntmps33
  go_wp2
  clear hcv
  go_loopw [10] (fun i wr => ∃ k : Nat, k ≤ s.size ∧ i = .int .i64 k ∧ rowIs wr w.heap.size 5 (lowTo s.data.toList k) ∧ Below w.heap.size w wr)
    (fun i _ => s.size - (intOf i).toNat)
  case atStart => exact ⟨0, Nat.zero_le _, rfl, by rw [lowTo_zero]; exact hr0, hb0⟩
  case round =>
    obtain ⟨k, hk, rfl, hr, hbw⟩ := hrel
    by_cases hlt : k < s.size
    · have hl : k < s.data.toList.length := by simpa using hlt
      have hl' : k < (lowTo s.data.toList k).length := by rw [lowTo_length]; exact hl
      have hc := hr.cell k hl'
      rw [lowTo_at _ _ hl] at hc
      have hf := hr.frozen k hl'
      have hsucc := lowTo_succ s.data.toList k hl
      have hat := lowTo_at s.data.toList k hl hl'
      generalize s.data.toList[k] = c at hc hsucc hat
      have HS := hid hsucc
      have HAt := hid hat
      clear hsucc hat
      have hc8 : c.toNat < 256 := c.toNat_lt
      by_cases hu : 65 ≤ c.toNat ∧ c.toNat ≤ 90
      · have h1 : (65 : Int) ≤ (c.toNat : Int) := by omega
        have h2 : (c.toNat : Int) ≤ 90 := by omega
        have HL := hid (lowC_yes c hu)
        clear hu
        go_wp2
        go_roundw
        case rel =>
          refine ⟨k + 1, by omega, by go_num, ?_, hbw.setCell (p := ⟨w.heap.size, k, none⟩) (Nat.le_refl _) _⟩
          rw [HS.out, ← HL.out]
          exact hr.set k _
        case measure => simp [intOf]; omega
      · have HL := hid (lowC_no c hu)
        have hu' : (c.toNat : Int) < 65 ∨ 90 < (c.toNat : Int) := by omega
        clear hu
        rcases hu' with h1 | h1
        all_goals
          go_wp2
          go_roundw
          case rel =>
            refine ⟨k + 1, by omega, by go_num, ?_, hbw⟩
            have e : lowC c = (lowTo s.data.toList k)[k] := by rw [HL.out, HAt.out]
            rw [HS.out, e, List.set_getElem_self]
            exact hr
          case measure => simp [intOf]; omega
    · have hk' : k = s.data.toList.length := by simp; omega
      have hr' : rowIs wr w.heap.size 5 (low s.data.toList) := by rw [← lowTo_all, ← hk']; exact hr
      clear hr hk'
      have hcv := hr'.string (P := Tryd.prog) (src := 83) (dst := 9) (cap := cap) Tryd.underlying83 Tryd.underlying5 Tryd.underlying9
      rw [show (low s.data.toList).length = s.size by simp [low]] at hcv
      go_wp2
      go_ret
      exact ⟨rfl, hbw⟩

end Go.Proofs.YtplabofdcnpcpaaDoor
