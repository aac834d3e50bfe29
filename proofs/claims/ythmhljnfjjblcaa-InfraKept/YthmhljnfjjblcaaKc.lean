/-
  Contracts at known values: what a call answers where the plain function is known.
-/
import Derived.Test.YthmhljnfjjblcaaWi
import Derived.Test.YthmhljnfjjblcaaWj
import Derived.Test.YthmhljnfjjblcaaWl
import Derived.Test.YthmhljnfjjblcaaWm
import Derived.Test.YthmhljnfjjblcaaWf
import Derived.Test.YthmhljnfjjblcaaWg
set_option linter.unusedSimpArgs false
set_option linter.unusedVariables false
namespace Go.Proofs.Ythmhljnfjjblcaa
open Go.RowKit

theorem strip_at (s : ByteArray) (w : World) (l : List UInt8) (hs : s.size ≤ 140737488351232) (h : strip s.data.toList = l) :
    Calls Try.prog 14 #[.string s] w fun e w' => e = .returned (.string ⟨l.toArray⟩) ∧ w = w' := by
  rw [← h]; exact strip_any s w hs

theorem lower_at (s : ByteArray) (w : World) (l : List UInt8) (hs : s.size ≤ 140737488351232) (h : low s.data.toList = l) :
    Calls Try.prog 16 #[.string s] w fun e w' => e = .returned (.string ⟨l.toArray⟩) ∧ Below w.heap.size w w' := by
  rw [← h]; exact lower_any s w hs

theorem int_at (s : ByteArray) (w : World) (n : Int) (b : Bool) (hs : s.size ≤ 140737488351232) (h : intV s.data.toList = n) (hb : intOk s.data.toList = b) :
    Calls Try.prog 13 #[.string s] w fun e w' => e = .returned (.tuple #[.int .i64 n, .bool b]) ∧ w = w' := by
  rw [← h, ← hb]; exact int_any s w hs

theorem percent_at (s : ByteArray) (set : Int) (w : World) (l : List UInt8) (hs : s.size ≤ 35184372088832) (h : pct set s.data.toList = l) :
    Calls Try.prog 17 #[.string s, .int .i64 set] w fun e w' => e = .returned (.string ⟨l.toArray⟩) ∧ Below w.heap.size w w' := by
  rw [← h]; exact percent_any s set w hs

theorem unpercent_at (s : ByteArray) (w : World) (l : List UInt8) (hs : s.size ≤ 140737488351232) (h : unpct s.data.toList = l) :
    Calls Try.prog 33 #[.string s] w fun e w' => e = .returned (.string ⟨l.toArray⟩) ∧ Below w.heap.size w w' := by
  rw [← h]; exact unpercent_any s w hs

theorem decode_at (v : Value) (l m : List UInt8) (w : World) (hv : SlB w v l) (hs : l.length ≤ 35184372088832) (h : dec l = m) :
    Calls Try.prog 15 #[v] w fun e w' => e = .returned (.string ⟨m.toArray⟩) ∧ Below w.heap.size w w' := by
  rw [← h]; exact decode_any v l w hv hs

theorem below2 {a b c : World} (h1 : Below a.heap.size a b) (h2 : Below b.heap.size b c) : Below a.heap.size a c := h1.trans (h2.mono h1.size)
theorem below5 {a b c d e f : World} (h1 : Below a.heap.size a b) (h2 : Below b.heap.size b c) (h3 : Below c.heap.size c d) (h4 : Below d.heap.size d e) (h5 : Below e.heap.size e f) : Below a.heap.size a f :=
  below2 (below2 (below2 (below2 h1 h2) h3) h4) h5

end Go.Proofs.Ythmhljnfjjblcaa
