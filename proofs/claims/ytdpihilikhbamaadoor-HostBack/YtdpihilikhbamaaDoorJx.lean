/-
  An argument of eight pieces, opened and shut.
-/
import Derived.Test.YtdpihilikhbamaaDoorVi
import Derived.OpenShut
import Derived.ChangeOld
set_option linter.unusedSimpArgs false
set_option linter.unusedVariables false
namespace Go.Proofs.YtdpihilikhbamaaDoor
open Go.ChangeShapes Go.WideShapes Go.ChangeAt Go.RowKit

theorem eight_mk {α : Type} (x : List α) (h : x.length = 8) : ∃ x0 x1 x2 x3 x4 x5 x6 x7, x = [x0, x1, x2, x3, x4, x5, x6, x7] := by
  match x, h with
  | [x0, x1, x2, x3, x4, x5, x6, x7], _ => exact ⟨x0, x1, x2, x3, x4, x5, x6, x7, rfl⟩

theorem piece_open {H : Type} {enc : TypeId × Value → H} {w : World} {base m : Nat} {sp : Nat → Bool} {held : Bool} {c : Value} {y : DataW H × List MemPlace} (h : DataW.trod enc Tryd.prog w base sp held m 26 [c] = some y) :
    ∃ n : Nat, c = .int .u16 (n : Int) ∧ y = (.lit (.int .u16 (n : Int)), []) ∧ n < 65536 := by
  obtain ⟨z, h1, h2, h3⟩ := DataW.trod_int Tryd.underlying26 h
  have hb := bounds_u16 h3
  obtain ⟨n, rfl⟩ := Int.eq_ofNat_of_zero_le hb.1
  simp only [List.cons.injEq, and_true] at h1
  exact ⟨n, h1, h2, by omega⟩

def lits16 {H : Type} (x : List Nat) : DataW H := .agg (x.map fun n : Nat => .lit (.int .u16 (n : Int)))

set_option maxRecDepth 100000 in
theorem open_arr8 {H : Type} {enc : TypeId × Value → H} {w : World} {base b0 : Nat} {r : Reach} {sp : Nat → Bool} {held : Bool} {v : Value} {d : DataW H} {ps : List MemPlace}
    (hval : Value.okWide Tryd.prog w r b0 27 v) (hd : DataW.Trod enc Tryd.prog w base sp held 27 v d ps) :
    ∃ x : List Nat, v = agg8 x ∧ d = lits16 x ∧ ps = [] ∧ (x.length = 8 ∧ ∀ k ∈ x, k < 65536) := by
  have c8 : Tryd.prog.cellsOf 27 = 8 := by kernel_rfl
  have c1 : Tryd.prog.cellsOf 26 = 1 := by kernel_rfl
  simp only [Value.okWide, Tryd.underlying27] at hval
  obtain ⟨cs, rfl, h2, _⟩ := hval
  rw [c8] at h2
  obtain ⟨fuel, hf⟩ := hd
  obtain ⟨ys, m, _, ex, _, hl, hel⟩ := DataW.trod_array Tryd.underlying27 hf
  obtain ⟨l⟩ := cs
  obtain ⟨a0, a1, a2, a3, a4, a5, a6, a7, rfl⟩ := eight_mk l (by simpa using h2)
  obtain ⟨y0, y1, y2, y3, y4, y5, y6, y7, rfl⟩ := eight_mk ys hl
  rw [c1] at hel
  have e0 := hel 0 (by omega)
  have e1 := hel 1 (by omega)
  have e2 := hel 2 (by omega)
  have e3 := hel 3 (by omega)
  have e4 := hel 4 (by omega)
  have e5 := hel 5 (by omega)
  have e6 := hel 6 (by omega)
  have e7 := hel 7 (by omega)
  simp [Value.cells] at e0 e1 e2 e3 e4 e5 e6 e7
  obtain ⟨n0, rfl, rfl, l0⟩ := piece_open e0
  obtain ⟨n1, rfl, rfl, l1⟩ := piece_open e1
  obtain ⟨n2, rfl, rfl, l2⟩ := piece_open e2
  obtain ⟨n3, rfl, rfl, l3⟩ := piece_open e3
  obtain ⟨n4, rfl, rfl, l4⟩ := piece_open e4
  obtain ⟨n5, rfl, rfl, l5⟩ := piece_open e5
  obtain ⟨n6, rfl, rfl, l6⟩ := piece_open e6
  obtain ⟨n7, rfl, rfl, l7⟩ := piece_open e7
  simp only [Prod.mk.injEq] at ex
  refine ⟨[n0, n1, n2, n3, n4, n5, n6, n7], rfl, ex.1, by rw [ex.2]; rfl, rfl, ?_⟩
  intro k hk
  simp at hk
  omega

set_option maxRecDepth 100000 in
theorem shut_arr8 {H : Type} {enc : TypeId × Value → H} {w : World} {base : Nat} {sp : Nat → Bool} {held : Bool} (x : List Nat) (hx : x.length = 8 ∧ ∀ k ∈ x, k < 65536) :
    DataW.Trod enc Tryd.prog w base sp held 27 (agg8 x) (lits16 x) [] := by
  have c8 : Tryd.prog.cellsOf 27 = 8 := by kernel_rfl
  have c1 : Tryd.prog.cellsOf 26 = 1 := by kernel_rfl
  obtain ⟨h8, h16⟩ := hx
  obtain ⟨x0, x1, x2, x3, x4, x5, x6, x7, rfl⟩ := eight_mk x h8
  have hw : ∀ n ∈ [x0, x1, x2, x3, x4, x5, x6, x7], (Lit.int .u16 (n : Int)).wf = true := fun n hn => by
    have := h16 n hn
    simp [Lit.wf, IntKind.min, IntKind.max, IntKind.signed, IntKind.bits]
    omega
  simp only [List.mem_cons, List.not_mem_nil, or_false, forall_eq_or_imp, forall_eq] at hw
  obtain ⟨w0, w1, w2, w3, w4, w5, w6, w7⟩ := hw
  refine ⟨2, ?_⟩
  simp [DataW.trod, Value.cells, agg8, cells16, lits16, Tryd.underlying27, Tryd.underlying26, c8, c1, List.range_succ, List.mapM_cons, w0, w1, w2, w3, w4, w5, w6, w7]

end Go.Proofs.YtdpihilikhbamaaDoor
