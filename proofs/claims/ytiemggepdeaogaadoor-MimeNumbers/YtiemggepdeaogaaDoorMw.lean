/-
  The walk of the law MimeNumbers.
-/
import Derived.Test.YtiemggepdeaogaaDoorMv
import Derived.Test.YtiemggepdeaogaaDoorMp
set_option linter.unusedSimpArgs false
set_option linter.unusedVariables false
namespace Go.Proofs.YtiemggepdeaogaaDoor
open Go.RowKit

def xcN : List UInt8 := [88, 45, 67, 111, 110, 116, 101, 110, 116, 45, 84, 121, 112, 101, 45, 79, 112, 116, 105, 111, 110, 115]
def nuA : List Hd := kindsH [[116, 101, 120, 116, 47, 112, 108, 97, 105, 110]] ++ [⟨xcN, [78, 111, 83, 110, 105, 102, 102, 44, 32, 120]⟩]
def nuB : List Hd := kindsH [[116, 101, 120, 116, 47, 106, 97, 118, 97, 115, 99, 114, 105, 112, 116]] ++ [⟨xcN, [110, 111, 115, 110, 105, 102, 102]⟩]
def nuC : List Hd := kindsH [[120, 47, 121]]

set_option maxHeartbeats 1000000 in
set_option maxRecDepth 100000 in
theorem grp6_any (s : ByteArray) (w : World) (hG : G5 w) (hs : s.size ≤ 10000) :
    Calls Tryd.prog 12 #[.string s] w fun e w' => e = .returned (.int .i64 (grpV (knV s.data.toList).major (knV s.data.toList).minor)) ∧ Below w.heap.size w w' := by
  have HG := hid hG
  clear hG
  have hkl := kn_len s.data.toList
  rw [← Lib.size_eq] at hkl
  have HP := hid (parse6_any s w HG.out (by omega))
  unfold KnPost at HP
  generalize knOk s.data.toList = ok at *
  generalize knV s.data.toList = t at *
  obtain ⟨tj, tn, tps⟩ := t
  simp only at HP hkl ⊢
  have hms : (ba tn).size ≤ 9223372036854775807 := by rw [ba_size]; omega
  have HGr : Hid (∀ X x n c, Calls Tryd.prog 23 #[.agg #[.string (ba tj), .string (ba tn), .slice x n c]] X fun e w' => e = .returned (.int .i64 (grpV tj tn)) ∧ Below X.heap.size X w') := fun X x n c => group_any (ba tj) (ba tn) x n c X hms
  generalize grpV tj tn = g at *
  clear hms hkl
  go_enter Tryd.func12, Tryd.ntmps12
  go_wp2_with fail
  refine HP.out.mono ?_
  rintro e w1 ⟨v, rfl, ho1, hb1⟩
  obtain ⟨q1, q2, q3, rfl⟩ := own_slice ho1
  have hT := show Tri (w1.alloc (.cells #[.string (ba tj), .string (ba tn), .slice q1 q2 q3] 28)) w1.heap.size (ba tj) (ba tn) (.slice q1 q2 q3) from heap_alloc_new _ _
  have HBa := hid (hb1.alloc hb1.size (.cells #[.string (ba tj), .string (ba tn), .slice q1 q2 q3] 28))
  obtain ⟨x0, x1, x2⟩ := hT.cells
  clear hT ho1 hb1
  unfold knVal
  go_wp2_with fail
  refine (HGr.out _ _ _ _).mono ?_
  rintro e w2 ⟨rfl, hb2⟩
  go_wp2
  go_ret
  exact ⟨rfl, belowT HBa.out hb2⟩

theorem nu_szd (L : List Hd) (h : L.all (fun x => decide (x.name.length ≤ 1000) && decide (x.value.length ≤ 1000)) = true) : Szd 140737488351232 L := by
  intro x hx
  have := List.all_eq_true.1 h x hx
  simp at this
  omega

theorem nu_blk (v : Value) (L : List Hd) (d : Int) (r : Bool) (w : World) (hG : G5 w) (h : HdAt w v L) (h1 : L.all (fun x => decide (x.name.length ≤ 1000) && decide (x.value.length ≤ 1000)) = true) (h2 : L.length ≤ 10) (h3 : bulkV L ≤ 10000) (hr : blkV L d = r) :
    Calls Tryd.prog 13 #[v, .int .i64 d] w fun e w' => e = .returned (.bool r) ∧ Below w.heap.size w w' := by
  rw [← hr]
  exact blocked_any v L d w hG h (nu_szd L h1) (by omega) (by omega)

theorem nu_t0 : texV [97] = [] := by decide +kernel
theorem nu_t1 : texV [47, 98] = [] := by decide +kernel
theorem nu_t2 : texV [97, 47, 98, 59, 99, 61] = [97, 47, 98] := by decide +kernel
theorem nu_t3 : texV [97, 47, 98, 59, 99, 61, 49, 59, 67, 61, 50, 59, 100] = [97, 47, 98, 59, 99, 61, 49] := by decide +kernel
theorem nu_g0 : grpV (knV [105, 109, 97, 103, 101, 47, 115, 118, 103, 43, 120, 109, 108]).major (knV [105, 109, 97, 103, 101, 47, 115, 118, 103, 43, 120, 109, 108]).minor = 3 := by decide +kernel
theorem nu_g1 : grpV (knV [116, 101, 120, 116, 47, 106, 115, 99, 114, 105, 112, 116]).major (knV [116, 101, 120, 116, 47, 106, 115, 99, 114, 105, 112, 116]).minor = 1 := by decide +kernel
theorem nu_g2 : grpV (knV [97, 112, 112, 108, 105, 99, 97, 116, 105, 111, 110, 47, 108, 100, 43, 106, 115, 111, 110]).major (knV [97, 112, 112, 108, 105, 99, 97, 116, 105, 111, 110, 47, 108, 100, 43, 106, 115, 111, 110]).minor = 2 := by decide +kernel
theorem nu_g3 : grpV (knV [105, 109, 97, 103, 101, 47, 112, 110, 103]).major (knV [105, 109, 97, 103, 101, 47, 112, 110, 103]).minor = 4 := by decide +kernel
theorem nu_g4 : grpV (knV [116, 101, 120, 116, 47, 99, 115, 115]).major (knV [116, 101, 120, 116, 47, 99, 115, 115]).minor = 5 := by decide +kernel
theorem nu_g5 : grpV (knV [118, 105, 100, 101, 111, 47, 120]).major (knV [118, 105, 100, 101, 111, 47, 120]).minor = 6 := by decide +kernel
theorem nu_g6 : grpV (knV [97, 47, 98]).major (knV [97, 47, 98]).minor = 0 := by decide +kernel
theorem nu_b1 : blkV nuA 2 = true := by decide +kernel
theorem nu_b2 : blkV nuA 3 = true := by decide +kernel
theorem nu_b3 : blkV nuA 4 = false := by decide +kernel
theorem nu_b4 : blkV nuB 2 = false := by decide +kernel
theorem nu_b5 : blkV nuC 2 = false := by decide +kernel
theorem nu_star : exV [[42, 47, 42]] = (knNone, false) := by decide +kernel

end Go.Proofs.YtiemggepdeaogaaDoor
