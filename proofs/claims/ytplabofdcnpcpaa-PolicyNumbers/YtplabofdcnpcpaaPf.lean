/-
  Plain facts: a row of bytes in memory that is the call's own; texts lowered and stripped.
-/
import Derived.Test.YtplabofdcnpcpaaPb
import Derived.Lib.BufferMore
set_option linter.unusedSimpArgs false
set_option linter.unusedVariables false
namespace Go.Proofs.Ytplabofdcnpcpaa
open Go.RowKit

/-- Block g holds the bytes l at its head, and none of these is frozen. -/
def rowIs (w : World) (g : Nat) (e : TypeId) (l : List UInt8) : Prop :=
  ∃ (C : Array Value) (fz : Nat × Nat), w.heap[g]? = some (.cells C e fz) ∧ l.length ≤ fz.1 ∧ ∀ j (h : j < l.length), C[j]? = some (.int .u8 (l[j].toNat : Int))

theorem rowIs.cell {w : World} {g : Nat} {e : TypeId} {l : List UInt8} (h : rowIs w g e l) (j : Nat) (hj : j < l.length) : w.cell? ⟨g, j, none⟩ = some (.int .u8 (l[j].toNat : Int)) := by
  obtain ⟨C, fz, hg, _, hc⟩ := h
  rw [Lib.cell_of_heap hg]; exact hc j hj

theorem rowIs.frozen {w : World} {g : Nat} {e : TypeId} {l : List UInt8} (h : rowIs w g e l) (j : Nat) (hj : j < l.length) : w.frozen? ⟨g, j, none⟩ = false := by
  obtain ⟨C, fz, hg, hf, _⟩ := h
  simp [World.frozen?, hg]
  omega

theorem rowIs.set {w : World} {g : Nat} {e : TypeId} {l : List UInt8} (h : rowIs w g e l) (j : Nat) (c : UInt8) : rowIs (w.setCell ⟨g, j, none⟩ (.int .u8 (c.toNat : Int))) g e (l.set j c) := by
  obtain ⟨C, fz, hg, hf, hc⟩ := h
  refine ⟨_, fz, Lib.heap_setCell_same hg _, by simpa using hf, ?_⟩
  intro i hi
  have hi' : i < l.length := by simpa using hi
  have hCi := hc i hi'
  have hlt : i < C.size := (Array.getElem?_eq_some_iff.1 hCi).1
  by_cases e : j = i
  · subst e; simp [hlt]
  · simp [Array.getElem?_setIfInBounds, e, hCi]

theorem rowIs.drew {w : World} {g : Nat} {e : TypeId} {l : List UInt8} (h : rowIs w g e l) : rowIs w.drew g e l := h

/-- '[]byte(s)': the new row. -/
theorem rowIs_bytes (w : World) (e : TypeId) (s : ByteArray) (cap : Nat) (hcap : s.size ≤ cap) : rowIs (w.drew.alloc (.cells (bytesRow s cap) e ((bytesRow s cap).size, (bytesRow s cap).size + 1))) w.heap.size e s.data.toList := by
  refine ⟨_, _, heap_alloc_new w.drew _, ?_, ?_⟩
  · simp [bytesRow]
  · intro j hj
    have hj' : j < s.data.size := by simpa using hj
    rw [bytesRow_at s cap j hj']
    simp

theorem rowIs.string {P : Program} {w : World} {g cap : Nat} {e src dst : TypeId} {l : List UInt8} (h : rowIs w g e l) (hs : P.underlying src = some (.slice e)) (he : P.underlying e = some (.int .u8)) (hd : P.underlying dst = some .string) :
    (convert src dst (.slice (some ⟨g, 0, none⟩) l.length cap)).run P w = .ok (.string ⟨l.toArray⟩) w := by
  refine run_convert_bytes_back w src dst e ⟨g, 0, none⟩ cap l hs he hd fun j hj => ?_
  have := h.cell j hj
  rw [Addr.add_lit]
  simpa using this

def lowC (c : UInt8) : UInt8 := if 65 ≤ c.toNat ∧ c.toNat ≤ 90 then UInt8.ofNat (c.toNat + 32) else c
def low (l : List UInt8) : List UInt8 := l.map lowC

theorem lowC_yes (c : UInt8) (h : 65 ≤ c.toNat ∧ c.toNat ≤ 90) : ((lowC c).toNat : Int) = (c.toNat : Int) + 32 := by
  unfold lowC; rw [if_pos h]
  have : (UInt8.ofNat (c.toNat + 32)).toNat = (c.toNat + 32) % 256 := by simp
  rw [this]; omega

theorem lowC_no (c : UInt8) (h : ¬ (65 ≤ c.toNat ∧ c.toNat ≤ 90)) : lowC c = c := by unfold lowC; rw [if_neg h]

/-- The first k lowered. -/
def lowTo (l : List UInt8) (k : Nat) : List UInt8 := (l.take k).map lowC ++ l.drop k

theorem lowTo_length (l : List UInt8) (k : Nat) : (lowTo l k).length = l.length := by simp [lowTo]; omega

theorem lowTo_at (l : List UInt8) (k : Nat) (h : k < l.length) (h' : k < (lowTo l k).length) : (lowTo l k)[k] = l[k] := by
  simp [lowTo, List.getElem_append, List.length_take]
  have : min k l.length = k := by omega
  simp [this]

theorem lowTo_succ (l : List UInt8) (k : Nat) (h : k < l.length) : lowTo l (k + 1) = (lowTo l k).set k (lowC l[k]) := by
  have e1 : (l.take k).length = k := by simp; omega
  unfold lowTo
  rw [List.take_succ_eq_append_getElem h, List.drop_eq_getElem_cons h, List.map_append, List.set_append_right _ _ (by simp; omega)]
  have e2 : k - (List.map lowC (List.take k l)).length = 0 := by simp; omega
  rw [e2, List.append_assoc]; rfl

theorem lowTo_zero (l : List UInt8) : lowTo l 0 = l := by simp [lowTo]
theorem lowTo_all (l : List UInt8) : lowTo l l.length = low l := by simp [lowTo, low]

end Go.Proofs.Ytplabofdcnpcpaa
