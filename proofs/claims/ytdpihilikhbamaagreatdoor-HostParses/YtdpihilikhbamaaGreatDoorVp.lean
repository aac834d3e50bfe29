/-
  An array of eight numbers held against itself.
-/
import Derived.Test.YtdpihilikhbamaaGreatDoorVo
import Derived.ChangeKeysEq
import Derived.Laws.StructEq
set_option linter.unusedSimpArgs false
set_option linter.unusedVariables false
namespace Go.Proofs.YtdpihilikhbamaaGreatDoor
open Go.RowKit

theorem part16 (x : List Nat) (i : Nat) (hi : i < x.length) (w : World) : (part 33 (cells16 x).toArray (i * 1)).run Tryz.prog w = .ok (.int .u16 (x[i] : Int)) w := by
  simp [part, isAgg, run_underlying Tryz.underlying33, cells16, hi]

theorem eqItems_refl (x : List Nat) (w : World) : ∀ is : List Nat, (∀ i ∈ is, i < x.length) → (Op.eqItems 9999 33 1 (cells16 x).toArray (cells16 x).toArray is).run Tryz.prog w = .ok true w
  | [], _ => by simp [Op.eqItems]
  | i :: is, h => by
    have hi := h i (by simp)
    have ih := eqItems_refl x w is (fun j hj => h j (by simp [hj]))
    simp only [Op.eqItems, Sem.run_bind, part16 x i hi w, Result.andThen_ok]
    rw [run_equalIn_int w 9998 33 .u16 .u16 _ _ Tryz.underlying33]
    simp only [Result.andThen_ok, beq_self_eq_true, Bool.not_true, Bool.false_eq_true, if_false]
    exact ih

theorem run_equal8 (x : List Nat) (h8 : x.length = 8) (w : World) : (Op.equalIn 10000 34 (.agg (cells16 x).toArray) (.agg (cells16 x).toArray)).run Tryz.prog w = .ok true w := by
  obtain ⟨i0, hi, _⟩ := info_parts infoU16
  rw [show (10000 : Nat) = 9999 + 1 from rfl, run_equalIn_array w 9999 _ _ Tryz.underlying34 hi, show Tryz.prog.cellsOf 33 = 1 by kernel_rfl]
  exact eqItems_refl x w _ (fun i hi => by rw [h8]; simpa using hi)

end Go.Proofs.YtdpihilikhbamaaGreatDoor
