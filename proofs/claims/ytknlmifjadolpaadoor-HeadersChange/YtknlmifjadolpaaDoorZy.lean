/-
  A list of headers that came in is nil in all its parts, or not at all.
-/
import Derived.Test.YtknlmifjadolpaaDoorZz
import Derived.Test.YtknlmifjadolpaaDoorZh
set_option linter.unusedSimpArgs false
set_option linter.unusedVariables false
namespace Go.Proofs.YtknlmifjadolpaaDoor
open Go.RowKit

theorem hd_nilok {H : Type} {enc : TypeId × Value → H} {W : World} {a : Option Addr} {len cap : Nat} {x : DataW H × List MemPlace} {fuel : Nat}
    (hf : DataW.trod enc Tryd.prog W 0 (fun _ => true) true fuel 22 [.slice a len cap] = some x) : NilOk (.slice a len cap) := by
  obtain ⟨f0, f1, hu, o0, o1, t0, t1⟩ := undHd
  have c1 : Tryd.prog.cellsOf 9 = 1 := by kernel_rfl
  rcases Deep.open_slice_pairs Tryd.underlying22 hu (by kernel_rfl) o0 o1 (by rw [t0]; exact c1) (by rw [t1]; exact c1) hf with ⟨hcs, _⟩ | ⟨y, len', cap', m, n, V0, V1, D0, D1, P0, P1, hcs, _⟩
  · simp only [List.cons.injEq, and_true] at hcs
    exact .inl hcs
  · simp only [List.cons.injEq, and_true] at hcs
    exact .inr ⟨y, len', cap', hcs⟩

end Go.Proofs.YtknlmifjadolpaaDoor
