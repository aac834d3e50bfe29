/-
  The walk of ostiarylaw5.h: a header made of two texts. 
-/
import Derived.Test.YtplabofdcnpcpaaDoorZXh
import Derived.Deep.MidRow
set_option linter.unusedSimpArgs false
set_option linter.unusedVariables false
namespace Go.Proofs.YtplabofdcnpcpaaDoor
open Go.RowKit

/-- A header as a value. -/
def hdVal (n v : ByteArray) : Value := .agg #[.string n, .string v]

theorem infoHd : (Tryd.prog.info? 38).map (fun i => (i.zero, i.size, i.bytes)) = some (some (.agg #[.string ByteArray.empty, .string ByteArray.empty]), 2, 32) := by kernel_rfl
theorem infoTx : (Tryd.prog.info? 9).map (fun i => (i.zero, i.size, i.bytes)) = some (some (.string ByteArray.empty), 1, 16) := by kernel_rfl

theorem info3 {i : Option TypeInfo} {z : Value} {a b : Nat} (h : i.map (fun i => (i.zero, i.size, i.bytes)) = some (some z, a, b)) : ∃ j, i = some j ∧ j.zero = some z ∧ j.size = a ∧ j.bytes = b := by
  cases i with
  | none => cases h
  | some j =>
    simp at h
    exact ⟨j, rfl, h.1, h.2.1, h.2.2⟩

theorem results_h1 {fn : Func} {p : Tmp} (h : fn.results = #[.cell p 38]) (tmps : Array Value) (w : World) (b : Nat) (n v : ByteArray) (hp : tmps.getD p undef = .pointer (some ⟨b, 0, none⟩)) (hc : w.rangeAt b 0 [.string n, .string v]) : (results fn tmps).run Tryd.prog w = .ok (hdVal n v) w := by
  rw [Array.getD_eq_getD_getElem?] at hp
  simp only [results, h]
  simp [Sem.run_bind, Result.andThen, hp, asAddr, run_loadVar_mid w b 0 38 [.string n, .string v] _ hc Tryd.underlying38 rfl (by kernel_rfl), hdVal]

set_option maxHeartbeats 400000 in
theorem h_any (n v : ByteArray) (w : World) :
    Calls Tryd.prog 40 #[.string n, .string v] w fun e w' => e = .returned (hdVal n v) ∧ Below w.heap.size w w' := by
  go_enter Tryd.func40, Tryd.ntmps40
  go_wp2
  exact bodyPost_ret (results_h1 rfl _ _ w.heap.size n v rfl (by simp [World.rangeAt, World.cell?_alloc_new, go_sem])) rfl ⟨rfl, (Below.refl _ _).alloc (Nat.le_refl _) _⟩

end Go.Proofs.YtplabofdcnpcpaaDoor
