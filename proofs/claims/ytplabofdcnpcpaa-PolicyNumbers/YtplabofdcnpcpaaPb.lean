/-
  Plain facts on lists of bytes: base 64 without its blanks and its padding.
-/
import Derived.Test.YtplabofdcnpcpaaPa
import Derived.Lib.Strings
import Derived.Lib.UnsafeStr
import Derived.Laws.IdiomStrings
import Derived.Laws.AppendOwn
set_option linter.unusedSimpArgs false
set_option linter.unusedVariables false
namespace Go.Proofs.Ytplabofdcnpcpaa

theorem take_snoc (s : ByteArray) (k : Nat) (h : k < s.size) : s.data.toList.take (k + 1) = s.data.toList.take k ++ [s[k]] := by
  rw [List.take_succ_eq_append_getElem (by simpa using h)]; rfl

theorem take_all (s : ByteArray) (k : Nat) (h : ¬ k < s.size) : s.data.toList.take k = s.data.toList :=
  List.take_of_length_le (by simp; omega)

theorem byteCells_one (c : UInt8) : Lib.byteCells [c] = [.int .u8 c.toNat] := rfl

/-- Without the blanks. -/
def noBlanks (l : List UInt8) : List UInt8 := l.filter fun c => !blankI c.toNat

theorem noBlanks_le (l : List UInt8) : (noBlanks l).length ≤ l.length := List.length_filter_le _ _

theorem noBlanks_snoc_yes (l : List UInt8) (c : UInt8) (h : blankI c.toNat = true) : noBlanks (l ++ [c]) = noBlanks l := by
  simp [noBlanks, List.filter_append, h]

theorem noBlanks_snoc_no (l : List UInt8) (c : UInt8) (h : blankI c.toNat = false) : noBlanks (l ++ [c]) = noBlanks l ++ [c] := by
  simp [noBlanks, List.filter_append, h]

/-- Of a length that four divides, one or two signs of padding at the end are left out. -/
def noPadding (l : List UInt8) : List UInt8 := if l.length % 4 = 0 then Lib.trimSuffix (Lib.trimSuffix l [61]) [61] else l

/-- 'string(b)' of a row that the call owns. -/
theorem run_string_own {P : Program} {w : World} {base : Nat} {e src dst : TypeId} {v : Value} {l : List UInt8} (hs : P.underlying src = some (.slice e)) (he : P.underlying e = some (.int .u8)) (hd : P.underlying dst = some .string)
    (h : w.ownsRow base e 1 v l.length (Lib.byteCells l)) (hnn : v ≠ .slice none 0 0) : (convert src dst v).run P w = .ok (.string ⟨l.toArray⟩) w := by
  rcases h.2 with ⟨hv, _⟩ | ⟨g, cap, cur, rfl, _⟩
  · exact absurd hv hnn
  · refine run_convert_bytes_back w src dst e ⟨g, 0, none⟩ cap l hs he hd fun j hj => ?_
    exact h.cells (g := g) rfl j _ (by simp [Lib.byteCells, hj])

end Go.Proofs.Ytplabofdcnpcpaa
