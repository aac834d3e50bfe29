/-
  The walks of ostiarybook's Same, Roomy, Intact at bytes.
-/
import Derived.Test.YtplabofdcnpcpaaWn
import Derived.Test.YtplabofdcnpcpaaWb
import Derived.Laws.CopyOwn
import Derived.Deep.QuietTactic
import Derived.BigQuiet
import Derived.WalkSmall
import Derived.Lib.BufferMore
set_option linter.unusedSimpArgs false
set_option linter.unusedVariables false
namespace Go.Proofs.Ytplabofdcnpcpaa
open Go.RowKit

theorem SlB.some {w : World} {a : Option Addr} {len cap : Nat} {l : List UInt8} (h : SlB w (.slice a len cap) l) (h0 : 0 < l.length) : ∃ x, a = some x ∧ len = l.length ∧ ∀ j (hj : j < l.length), w.cell? (x.add j) = some (.int .u8 (l[j].toNat : Int)) := by
  rcases h with ⟨c, e, rfl⟩ | ⟨x, c, e, hc⟩
  · simp at h0
  · obtain ⟨rfl, rfl, rfl⟩ := Value.slice.inj e
    exact ⟨x, rfl, rfl, hc⟩

theorem SlB.length {w : World} {a : Option Addr} {len cap : Nat} {l : List UInt8} (h : SlB w (.slice a len cap) l) : len = l.length := by
  rcases h with ⟨c, e, rfl⟩ | ⟨x, c, e, hc⟩
  · obtain ⟨_, rfl, _⟩ := Value.slice.inj e
    rfl
  · obtain ⟨_, rfl, _⟩ := Value.slice.inj e
    rfl

theorem byte_ne {a b : UInt8} (h : a ≠ b) : ((a.toNat : Int) != (b.toNat : Int)) = true := by
  rw [bne_iff_ne]
  intro e
  exact h (UInt8.toNat_inj.1 (by omega))

theorem byteCells_get (l : List UInt8) (j : Nat) (h : j < l.length) : (Lib.byteCells l)[j]? = some (.int .u8 (l[j].toNat : Int)) := by simp [Lib.byteCells, h]

theorem byteCells_set (l : List UInt8) (j : Nat) (c : UInt8) : (Lib.byteCells l).set j (.int .u8 (c.toNat : Int)) = Lib.byteCells (l.set j c) := by simp [Lib.byteCells, List.map_set]

theorem byteCells_rep (n : Nat) : Lib.byteCells (List.replicate n 0) = List.replicate n (.int .u8 0) := by simp [Lib.byteCells]

theorem byteCells_one_cell (l : List UInt8) : ∀ v ∈ Lib.byteCells l, v.oneCell' = true := by
  intro v hv
  simp only [Lib.byteCells, List.mem_map] at hv
  obtain ⟨b, _, rfl⟩ := hv
  rfl

theorem roomy_step (x : List UInt8) (c : UInt8) (k : Nat) (h : k < 80) : (x ++ (List.replicate k c ++ List.replicate (80 - k) 0)).set (x.length + k) c = x ++ (List.replicate (k + 1) c ++ List.replicate (80 - (k + 1)) 0) := by
  rw [List.set_append_right _ _ (by omega), List.set_append_right _ _ (by simp)]
  have e1 : x.length + k - x.length - (List.replicate k c).length = 0 := by simp
  have e2 : List.replicate (80 - k) (0 : UInt8) = 0 :: List.replicate (80 - (k + 1)) 0 := by
    rw [← List.replicate_succ]; congr 1; omega
  rw [e1, e2, List.replicate_succ', List.append_assoc]
  rfl

end Go.Proofs.Ytplabofdcnpcpaa
