/-
  A list of headers that came in: what a walk is told of it.
-/
import Derived.Test.YtplabofdcnpcpaaDoorZXz
import Derived.Deep.SlicePairs
import Derived.SizedLaws
set_option linter.unusedSimpArgs false
set_option linter.unusedVariables false
namespace Go.Proofs.YtplabofdcnpcpaaDoor
open Go.RowKit

section
variable {H : Type} {P : Program}

theorem wAll_mem {e : TypeId} : ∀ {l : List (DataW H)} {d : DataW H}, d ∈ l → ∀ n ∈ d.weights P e, n ∈ DataW.weightsAll P e l
  | [], _, h, _, _ => by cases h
  | a :: l, d, h, n, hn => by
    rw [DataW.weightsAll, List.mem_append]
    rcases List.mem_cons.1 h with rfl | h
    · exact .inl hn
    · exact .inr (wAll_mem h n hn)

theorem sized_hd {ts : List TypeId} {ds : List (DataW H)} (h : (DataW.weightsEach P ts ds).all (· ≤ reachBytes) = true) {j : Nat} {t e : TypeId} {f0 f1 : Field} {elems spare : List (DataW H)} (ht : ts[j]? = some t) (hd : ds[j]? = some (.slice elems spare))
    (hu : P.underlying t = some (.slice e)) (he : P.underlying e = some (.struct #[f0, f1])) {x y : List UInt8} (hm : DataW.agg [.lit (.string x), .lit (.string y)] ∈ elems) : x.length ≤ 140737488351232 ∧ y.length ≤ 140737488351232 := by
  have key : ∀ n ∈ (DataW.agg [.lit (.string x), .lit (.string y)] : DataW H).weights P e, n ≤ 140737488351232 := fun n hn => by
    have h1 : n ∈ DataW.weightsAll P e elems := wAll_mem hm n hn
    have h2 : n ∈ (DataW.slice elems spare : DataW H).weights P t := by
      rw [DataW.weights, hu]
      simp only [List.mem_cons, List.mem_append]
      exact .inr (.inl h1)
    have := List.all_eq_true.1 h _ (DataW.weights_mem_each ht hd n h2)
    exact of_decide_eq_true this
  constructor
  · exact key x.length (by rw [DataW.weights, he]; simp [DataW.weightsEach, DataW.weights])
  · exact key y.length (by rw [DataW.weights, he]; simp [DataW.weightsEach, DataW.weights])

end

theorem undHd : ∃ f0 f1, Tryd.prog.underlying 38 = some (.struct #[f0, f1]) ∧ f0.offset = 0 ∧ f1.offset = 1 ∧ f0.type = 9 ∧ f1.type = 9 := ⟨_, _, Tryd.underlying38, rfl, rfl, rfl, rfl⟩

theorem addr_add {x : Addr} (h : x.spot = none) (j : Nat) : x.add j = ⟨x.block, x.off + j, none⟩ := by
  unfold Addr.add
  split
  · subst_vars; rw [← h]; rfl
  · rfl

/-- A list of headers that came in. -/
theorem hd_arg {H : Type} {enc : TypeId × Value → H} {W : World} {a : Option Addr} {len cap : Nat} {d : DataW H} {p : List MemPlace} {ts : List TypeId} {ds : List (DataW H)} {j fuel : Nat}
    (hf : DataW.trod enc Tryd.prog W 0 (fun _ => true) true fuel 22 [.slice a len cap] = some (d, p)) (hwt : (DataW.weightsEach Tryd.prog ts ds).all (· ≤ reachBytes) = true) (ht : ts[j]? = some 22) (hd : ds[j]? = some d) :
    ∃ L, HdAt W (.slice a len cap) L ∧ Szd 140737488351232 L := by
  obtain ⟨f0, f1, hu, o0, o1, t0, t1⟩ := undHd
  have c1 : Tryd.prog.cellsOf 9 = 1 := by kernel_rfl
  rcases Deep.open_slice_pairs Tryd.underlying22 hu (by kernel_rfl) o0 o1 (by rw [t0]; exact c1) (by rw [t1]; exact c1) hf with ⟨hcs, _⟩ | ⟨x, len', cap', m, n, V0, V1, D0, D1, P0, P1, hcs, _, hl, hm, hmm, hx, hcell⟩
  · simp at hcs
    obtain ⟨rfl, rfl, rfl⟩ := hcs
    exact ⟨[], hd_nil _, fun h hh => by simp at hh⟩
  · simp at hcs
    obtain ⟨rfl, rfl, rfl⟩ := hcs
    have hlm : len ≤ m := by rw [hmm]; simp; omega
    have hx1 := (Prod.mk.injEq _ _ _ _ ▸ hx : _ ∧ _).1
    have each : ∀ i, i < len → ∃ s : ByteArray × ByteArray, W.cell? (x.add (i * 2)) = some (.string s.1) ∧ W.cell? (x.add (i * 2 + 1)) = some (.string s.2) ∧ s.1.data.toList.length ≤ 140737488351232 ∧ s.2.data.toList.length ≤ 140737488351232 := fun i hi => by
      obtain ⟨q0, q1, r0, r1⟩ := hcell i (by omega)
      rw [t0] at r0
      rw [t1] at r1
      obtain ⟨s0, e0, y0, _⟩ := DataW.trod_string Tryd.underlying9 r0
      obtain ⟨s1, e1, y1, _⟩ := DataW.trod_string Tryd.underlying9 r1
      simp at e0 e1 y0 y1
      rw [e0] at q0
      rw [e1] at q1
      have hmem : DataW.agg [.lit (.string s0.data.toList), .lit (.string s1.data.toList)] ∈ ((List.range len).map fun i => (DataW.agg [D0 i, D1 i] : DataW H)) := by
        rw [List.mem_map]
        refine ⟨i, by simpa using hi, ?_⟩
        rw [y0.1, y1.1]
      have := sized_hd hwt ht (by rw [hd, hx1]) Tryd.underlying22 hu hmem
      exact ⟨(s0, s1), q0, q1, this⟩
    obtain ⟨F, hF⟩ := Deep.choose_lt each
    have hL : ((List.range len).map fun i => (⟨(F i).1.data.toList, (F i).2.data.toList⟩ : Hd)).length = len := by simp
    refine ⟨(List.range len).map fun i => ⟨(F i).1.data.toList, (F i).2.data.toList⟩, ⟨some x, cap, by rw [hL], by rw [hL]; exact hl, hm, fun i hi => ?_⟩, fun h hh => ?_⟩
    · rw [hL] at hi
      have h0 := hF 0 (by omega)
      have hsp : x.spot = none := spot_none (by simpa [Addr.add] using h0.1)
      obtain ⟨q0, q1, _⟩ := hF i hi
      rw [addr_add hsp] at q0 q1
      refine ⟨x.block, x.off, by rw [← hsp], ?_, ?_⟩
      · rw [q0]; simp
      · rw [Nat.add_assoc, q1]; simp
    · rw [List.mem_map] at hh
      obtain ⟨i, hi, rfl⟩ := hh
      exact (hF i (by simpa using hi)).2.2

end Go.Proofs.YtplabofdcnpcpaaDoor
