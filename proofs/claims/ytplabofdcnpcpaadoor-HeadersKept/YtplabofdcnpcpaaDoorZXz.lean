/-
  What the rows' lists and the world's shape give at this translation: the library's own variable is there; a start for the witness.
-/
import Derived.Test.YtplabofdcnpcpaaDoorZGf
import Derived.Test.YtplabofdcnpcpaaDoorTie
import Derived.Stop.LaidErr
import Derived.LaidMore
set_option linter.unusedSimpArgs false
set_option linter.unusedVariables false
namespace Go.Proofs.YtplabofdcnpcpaaDoor
open Go.RowKit

def laid5 : List (String × DataW Unit) := [("unicode/utf8.acceptRanges", Rows.laid_unicode_utf8_acceptRanges), ("unicode/utf8.first", Rows.laid_unicode_utf8_first)]

theorem g5_of_shaped {W : World} (hsh : W.ShapedOpen Tryd.prog) : G5 W := Tryd.laysM145.s1_3 W hsh

theorem ownK : ownKnob Tryd.prog.godebug = none := by kernel_rfl

/-- A start for the witness: what the door lays, and the pinned table beside it. -/
noncomputable def startW (os : Os) : World :=
  { World.doorLaid Tryd.prog 19 os with heap := (World.doorLaid Tryd.prog 19 os).heap.setIfInBounds 1 (.cells (Pinned.utf8FirstZ.map fun (n : Nat) => Value.int .u8 (n : Int)).toArray 145 (0, 0)) }

theorem door_met (os : Os) (args : Array Value) : laidMetH Tryd.prog laid5 ((startW os).forCall (fun _ _ => 0) ⟨#[], args, []⟩).memory :=
  laidMetH_of_parts3 (fuel := 8) (laidMet_of_run' 8 (by kernel_rfl) (by kernel_rfl)) (by kernel_rfl) (by kernel_rfl)

theorem spot_none {w : World} {x : Addr} {v : Value} (h : w.cell? x = some v) : x.spot = none := by
  unfold World.cell? at h
  cases hs : x.spot with
  | none => rfl
  | some y =>
    rw [hs] at h
    split at h
    · simp at h
    · cases h

/-- A list of texts that came in. -/
theorem tx_arg {w : World} {x : Addr} {len cap : Nat} {ss : List ByteArray} (hl : len ≤ cap) (hm : cap ≤ maxLen) (hz : ss.length = cap) (hcell : ∀ i, i < ss.length → w.cell? (x.add i) = some (.string (ss.getD i ByteArray.empty))) (hws : ∀ s ∈ ss, s.size ≤ maxLen) :
    ∃ L, TxAt w (.slice (some x) len cap) L ∧ ∀ y ∈ L, y.length ≤ maxLen := by
  have hL : ((ss.take len).map (·.data.toList)).length = len := by simp; omega
  refine ⟨(ss.take len).map (·.data.toList), ⟨some x, cap, by rw [hL], by omega, hm, fun j hj => ?_⟩, fun y hy => ?_⟩
  · rw [hL] at hj
    have h0 := hcell 0 (by omega)
    have hsp : x.spot = none := spot_none (by simpa [Addr.add] using h0)
    refine ⟨x.block, x.off, by rw [← hsp], ?_⟩
    have hc := hcell j (by omega)
    have e : x.add j = ⟨x.block, x.off + j, none⟩ := by
      unfold Addr.add
      split
      · subst_vars; rw [← hsp]; rfl
      · rfl
    rw [e] at hc
    rw [hc]
    have hjs : j < ss.length := by omega
    simp [List.getD, hjs]
  · simp only [List.mem_map] at hy
    obtain ⟨s, hs, rfl⟩ := hy
    have := hws s (List.mem_of_mem_take hs)
    simpa using this

end Go.Proofs.YtplabofdcnpcpaaDoor
