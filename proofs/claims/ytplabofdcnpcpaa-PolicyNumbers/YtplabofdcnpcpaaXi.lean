/-
  The walk of ostiarylaw5.h: a header made of two texts. 
-/
import Derived.Test.YtplabofdcnpcpaaXh
import Derived.Deep.MidRow
set_option linter.unusedSimpArgs false
set_option linter.unusedVariables false
namespace Go.Proofs.Ytplabofdcnpcpaa
open Go.RowKit

/-- A header as a value. -/
def hdVal (n v : ByteArray) : Value := .agg #[.string n, .string v]

theorem infoHd : (Try.prog.info? 29).map (fun i => (i.zero, i.size, i.bytes)) = some (some (.agg #[.string ByteArray.empty, .string ByteArray.empty]), 2, 32) := by kernel_rfl
theorem infoTx : (Try.prog.info? 9).map (fun i => (i.zero, i.size, i.bytes)) = some (some (.string ByteArray.empty), 1, 16) := by kernel_rfl

theorem info3 {i : Option TypeInfo} {z : Value} {a b : Nat} (h : i.map (fun i => (i.zero, i.size, i.bytes)) = some (some z, a, b)) : ∃ j, i = some j ∧ j.zero = some z ∧ j.size = a ∧ j.bytes = b := by
  cases i with
  | none => cases h
  | some j =>
    simp at h
    exact ⟨j, rfl, h.1, h.2.1, h.2.2⟩

theorem results_h1 {fn : Func} {p : Tmp} (h : fn.results = #[.cell p 29]) (tmps : Array Value) (w : World) (b : Nat) (n v : ByteArray) (hp : tmps.getD p undef = .pointer (some ⟨b, 0, none⟩)) (hc : w.rangeAt b 0 [.string n, .string v]) : (results fn tmps).run Try.prog w = .ok (hdVal n v) w := by
  rw [Array.getD_eq_getD_getElem?] at hp
  simp only [results, h]
  simp [Sem.run_bind, Result.andThen, hp, asAddr, run_loadVar_mid w b 0 29 [.string n, .string v] _ hc Try.underlying29 rfl (by kernel_rfl), hdVal]

end Go.Proofs.Ytplabofdcnpcpaa
