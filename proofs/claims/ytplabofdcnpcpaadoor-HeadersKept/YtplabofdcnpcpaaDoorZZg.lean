/-
  The walks of the document's own answers: ostiaryref5's Value, fits, Drop, Add. 
-/
import Derived.Test.YtplabofdcnpcpaaDoorZZf
import Derived.Laws.AppendOwnNone
set_option linter.unusedSimpArgs false
set_option linter.unusedVariables false
namespace Go.Proofs.YtplabofdcnpcpaaDoor
open Go.RowKit

theorem badC_int (c : UInt8) : badC c = ((c.toNat : Int) == 0 || ((c.toNat : Int) == 10 || (c.toNat : Int) == 13)) := by
  have e0 := byteInt c 0 (by omega)
  have e10 := byteInt c 10 (by omega)
  have e13 := byteInt c 13 (by omega)
  have f0 : ((c.toNat : Int) == 0) = decide (c = 0) := e0
  have f10 : ((c.toNat : Int) == 10) = decide (c = 10) := e10
  have f13 : ((c.toNat : Int) == 13) = decide (c = 13) := e13
  rw [f0, f10, f13]
  unfold badC
  rw [Bool.eq_iff_iff]; simp

theorem ret_si {a b : ByteArray} {x y : Int} (h : a = b) (g : x = y) : Ending.returned (.tuple #[.string a, .int .i64 x]) = .returned (.tuple #[.string b, .int .i64 y]) := by rw [h, g]

theorem isN_dec (n : List UInt8) (h : Hd) : decide (low h.name = low n) = isN n h := by
  unfold isN; rw [Bool.eq_iff_iff]; simp

end Go.Proofs.YtplabofdcnpcpaaDoor
