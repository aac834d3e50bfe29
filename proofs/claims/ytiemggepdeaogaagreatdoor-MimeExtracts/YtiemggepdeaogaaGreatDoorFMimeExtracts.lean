/-
  The kind of a list of headers is told, and what is blocked, as the document says, for any list and destination (the law keeps 12 headers, each text cut at 200 bytes). Conditions: none of its own; the library's two tables lie as the program's text lays them (the given card's own premise, tied).
-/
import Derived.Test.YtiemggepdeaogaaGreatDoorXz
import Derived.Deep.SlicePairs
import Derived.SizedLaws
import Derived.Test.YtiemggepdeaogaaGreatDoorCards
import Derived.Test.YtiemggepdeaogaaGreatDoorTie
import Derived.Test.YtiemggepdeaogaaGreatDoorOf
import Derived.ProofKit
import Derived.OpenShut
import Derived.ShutString
import Derived.ChangeOld
import Derived.Below
import Derived.Deep.DeepHandedRow
import Derived.SliceStrings
set_option linter.unusedSimpArgs false
set_option linter.unusedVariables false
namespace Go.Proofs.YtiemggepdeaogaaGreatDoor
open Go.RowKit

section
variable {H : Type} {P : Program}

theorem wAll_mem {e : TypeId} : ∀ {l : List (DataW H)} {d : DataW H}, d ∈ l → ∀ n ∈ d.weights P e, n ∈ DataW.weightsAll P e l
  | [], _, h, _, _ => by cases h
  | a :: l, d, h, n, hn => by
    rw [DataW.weightsAll, List.mem_append]
    rcases List.mem_cons.1 h with rfl | h
    · exact .inl hn
    · exact .inr (wAll_mem h n hn)

theorem sized_hd {ts : List TypeId} {ds : List (DataW H)} (h : (DataW.weightsEach P ts ds).all (· ≤ reachBytes) = true) {j : Nat} {t e : TypeId} {f0 f1 : Field} {elems spare : List (DataW H)} (ht : ts[j]? = some t) (hd : ds[j]? = some (.slice elems spare))
    (hu : P.underlying t = some (.slice e)) (he : P.underlying e = some (.struct #[f0, f1])) {x y : List UInt8} (hm : DataW.agg [.lit (.string x), .lit (.string y)] ∈ elems) : x.length ≤ 140737488351232 ∧ y.length ≤ 140737488351232 := by
  have key : ∀ n ∈ (DataW.agg [.lit (.string x), .lit (.string y)] : DataW H).weights P e, n ≤ 140737488351232 := fun n hn => by
    have h1 : n ∈ DataW.weightsAll P e elems := wAll_mem hm n hn
    have h2 : n ∈ (DataW.slice elems spare : DataW H).weights P t := by
      rw [DataW.weights, hu]
      simp only [List.mem_cons, List.mem_append]
      exact .inr (.inl h1)
    have := List.all_eq_true.1 h _ (DataW.weights_mem_each ht hd n h2)
    exact of_decide_eq_true this
  constructor
  · exact key x.length (by rw [DataW.weights, he]; simp [DataW.weightsEach, DataW.weights])
  · exact key y.length (by rw [DataW.weights, he]; simp [DataW.weightsEach, DataW.weights])

end

theorem undHd : ∃ f0 f1, Tryz.prog.underlying 39 = some (.struct #[f0, f1]) ∧ f0.offset = 0 ∧ f1.offset = 1 ∧ f0.type = 9 ∧ f1.type = 9 := ⟨_, _, Tryz.underlying39, rfl, rfl, rfl, rfl⟩

theorem addr_add {x : Addr} (h : x.spot = none) (j : Nat) : x.add j = ⟨x.block, x.off + j, none⟩ := by
  unfold Addr.add
  split
  · subst_vars; rw [← h]; rfl
  · rfl

/-- A list of headers that came in. -/
theorem hd_arg {H : Type} {enc : TypeId × Value → H} {W : World} {a : Option Addr} {len cap : Nat} {d : DataW H} {p : List MemPlace} {ts : List TypeId} {ds : List (DataW H)} {j fuel : Nat}
    (hf : DataW.trod enc Tryz.prog W 0 (fun _ => true) true fuel 22 [.slice a len cap] = some (d, p)) (hwt : (DataW.weightsEach Tryz.prog ts ds).all (· ≤ reachBytes) = true) (ht : ts[j]? = some 22) (hd : ds[j]? = some d) :
    ∃ L, HdAt W (.slice a len cap) L ∧ Szd 140737488351232 L := by
  obtain ⟨f0, f1, hu, o0, o1, t0, t1⟩ := undHd
  have c1 : Tryz.prog.cellsOf 9 = 1 := by kernel_rfl
  rcases Deep.open_slice_pairs Tryz.underlying22 hu (by kernel_rfl) o0 o1 (by rw [t0]; exact c1) (by rw [t1]; exact c1) hf with ⟨hcs, _⟩ | ⟨x, len', cap', m, n, V0, V1, D0, D1, P0, P1, hcs, _, hl, hm, hmm, hx, hcell⟩
  · simp at hcs
    obtain ⟨rfl, rfl, rfl⟩ := hcs
    exact ⟨[], hd_nil _, fun h hh => by simp at hh⟩
  · simp at hcs
    obtain ⟨rfl, rfl, rfl⟩ := hcs
    have hlm : len ≤ m := by rw [hmm]; simp; omega
    have hx1 := (Prod.mk.injEq _ _ _ _ ▸ hx : _ ∧ _).1
    have each : ∀ i, i < len → ∃ s : ByteArray × ByteArray, W.cell? (x.add (i * 2)) = some (.string s.1) ∧ W.cell? (x.add (i * 2 + 1)) = some (.string s.2) ∧ s.1.data.toList.length ≤ 140737488351232 ∧ s.2.data.toList.length ≤ 140737488351232 := fun i hi => by
      obtain ⟨q0, q1, r0, r1⟩ := hcell i (by omega)
      rw [t0] at r0
      rw [t1] at r1
      obtain ⟨s0, e0, y0, _⟩ := DataW.trod_string Tryz.underlying9 r0
      obtain ⟨s1, e1, y1, _⟩ := DataW.trod_string Tryz.underlying9 r1
      simp at e0 e1 y0 y1
      rw [e0] at q0
      rw [e1] at q1
      have hmem : DataW.agg [.lit (.string s0.data.toList), .lit (.string s1.data.toList)] ∈ ((List.range len).map fun i => (DataW.agg [D0 i, D1 i] : DataW H)) := by
        rw [List.mem_map]
        refine ⟨i, by simpa using hi, ?_⟩
        rw [y0.1, y1.1]
      have := sized_hd hwt ht (by rw [hd, hx1]) Tryz.underlying22 hu hmem
      exact ⟨(s0, s1), q0, q1, this⟩
    obtain ⟨F, hF⟩ := Deep.choose_lt each
    have hL : ((List.range len).map fun i => (⟨(F i).1.data.toList, (F i).2.data.toList⟩ : Hd)).length = len := by simp
    refine ⟨(List.range len).map fun i => ⟨(F i).1.data.toList, (F i).2.data.toList⟩, ⟨some x, cap, by rw [hL], by rw [hL]; exact hl, hm, fun i hi => ?_⟩, fun h hh => ?_⟩
    · rw [hL] at hi
      have h0 := hF 0 (by omega)
      have hsp : x.spot = none := spot_none (by simpa [Addr.add] using h0.1)
      obtain ⟨q0, q1, _⟩ := hF i hi
      rw [addr_add hsp] at q0 q1
      refine ⟨x.block, x.off, by rw [← hsp], ?_, ?_⟩
      · rw [q0]; simp
      · rw [Nat.add_assoc, q1]; simp
    · rw [List.mem_map] at hh
      obtain ⟨i, hi, rfl⟩ := hh
      exact (hF i (by simpa using hi)).2.2

end Go.Proofs.YtiemggepdeaogaaGreatDoor

namespace Go.Proofs.YtiemggepdeaogaaGreatDoor
open Go.ChangeShapes Go.WideShapes Go.ChangeAt Go.RowKit
open Go.ChangeMaps (open_string shut_string)

set_option maxRecDepth 100000 in
theorem mimeExtracts_contract (H : Type) (enc : TypeId × Value → H) (W : World) (base : Nat) (args : Array Value) (ds gs : List (DataW H)) (before : List MemPlace)
    (hval0 : ∀ (j : Nat) t v, Tryz.f3.params[j]? = some t → args[j]? = some v → Value.okWide Tryz.prog W .any base t v)
    (hW : DataW.Whole enc Tryz.prog Tryz.f3.params.toList Rows.mimeExtractsSpec.vars false W args.toList ds gs before) (hwt : (DataW.weightsEach Tryz.prog (Tryz.f3.params.toList ++ (OpenSpec.ofChange Rows.mimeExtractsSpec).bare.plain.varTypes Tryz.prog) (ds ++ gs)).all (· ≤ reachBytes) = true) (hL : laidMetH Tryz.prog laid5 W) (hsh : W.ShapedOpen Tryz.prog) :
    Calls Tryz.prog 3 args W fun e W' => ∃ v, e = .returned v ∧ Rows.mimeExtractsSpec.post enc Tryz.prog Tryz.f3 false true false false W args v W' := by
  have laidOut : laidOutB Tryz.prog = true := by kernel_rfl
  have hgd := g5_of_shaped hsh
  have hval : ∀ (j : Nat) t v, Tryz.f3.params[j]? = some t → args[j]? = some v → Value.okWide Tryz.prog W .any base t v := hval0
  have hW' := hW
  obtain ⟨p, q, hA0, hV, rfl, hfz, hnd⟩ := hW
  have hA : DataW.TrodAll enc Tryz.prog W 0 (fun _ => true) true Tryz.f3.params.toList args.toList ds p := hA0
  rw [Tryz.params3] at hA hval
  obtain ⟨v0, vs0, d0, ds0, p0, q0, hargs, rfl, rfl, h0, r0⟩ := trodAll_cons hA
  obtain ⟨v1, vs1, d1, ds1, p1, q1, rfl, rfl, rfl, h1, r1⟩ := trodAll_cons r0
  obtain ⟨rfl, rfl, rfl⟩ := trodAll_nil r1
  obtain rfl : args = #[v0, v1] := by cases args; simp_all
  obtain ⟨rfl, rfl⟩ := trodVars_none hV
  obtain ⟨a0, len0, cap0, rfl⟩ := okWide_slice Tryz.underlying22 (hval 0 22 v0 rfl rfl)
  have k0 := h0
  have lt0 : ∀ x ∈ p0, x.block < W.heap.size := by obtain ⟨m, hm⟩ := k0; exact DataW.trod_lt m _ _ _ hm
  obtain ⟨a1, rfl, rfl, rfl, w1⟩ := open_int Tryz.underlying3 (hval 1 3 v1 rfl rfl) h1
  obtain ⟨L0, w0, z0⟩ : ∃ L, HdAt W (.slice a0 len0 cap0) L ∧ Szd 140737488351232 L := by
    obtain ⟨fuel, hf⟩ := h0
    exact hd_arg (by simpa [Value.cells] using hf) hwt (j := 0) rfl rfl
  clear hA0 hval0
  refine (mimeExtracts_walk _ L0 a1 W w0 z0 w1 hgd).mono fun e W' ⟨he, bel⟩ => ?_
  subst he
  exact ⟨_, rfl, _, _, _, [], _, [], hW', trodAll_mk1 (shut_bool Tryz.underlying4 _), (trodAll_cons_mk (Below.trod laidOut (by kernel_rfl) (of_decide_eq_true (by kernel_rfl)) k0 bel lt0) (trodAll_cons_mk (shut_int Tryz.underlying3 w1) trodAll_mk0)), rfl, bel.frame _, fun h => by cases h⟩

theorem mimeExtracts_reads (os : Os) {H : Type} (enc : TypeId × Value → H) : ∃ places, DataW.whole enc Tryz.prog ((startW os).forCall (fun _ _ => 0) ⟨#[], #[.slice none 0 0, .int .i64 0], []⟩).memory Tryz.f3.params.toList Rows.mimeExtractsSpec.vars false (#[.slice none 0 0, .int .i64 0] : Array Value).toList 8 = some ([.nil, .lit (.int .i64 0)], [], places) :=
  ⟨[], by kernel_rfl⟩

set_option maxRecDepth 100000 in
theorem mimeExtracts_lifted (os : Os) (started : os.Started) (H : Type) (enc : TypeId × Value → H) (F : Stop.Interp) :
    ReturnsInHanded {} Tryz.checked os 3 .any ((OpenSpec.ofChange Rows.mimeExtractsSpec).preRow enc Tryz.prog Tryz.f3 Rows.mimeExtractsRow.domain false Rows.mimeExtractsRow.laid) (((OpenSpec.ofChange Rows.mimeExtractsSpec).at F).post enc Tryz.prog Tryz.f3 false true false false) := by
  obtain ⟨places, hx⟩ := mimeExtracts_reads os enc
  refine returnsInHanded_of_row (C := Tryz.checked) (s := OpenSpec.ofChange Rows.mimeExtractsSpec) ownK started (by kernel_rfl) Tryz.func3
    (witness_row_at (enc := enc) (C := Tryz.checked) false (startW os) #[.slice none 0 0, .int .i64 0] rfl (by kernel_rfl) (by kernel_rfl) (by kernel_rfl)
      (OpenSpec.preRow_of_cond 8 hx (by kernel_rfl) (fun k hk => by cases hk) (by kernel_rfl) (door_met os _))) ?_
  intro W base args ds gs before hval hW _ _ hwt hL hsh _
  exact mimeExtracts_contract H enc W base args ds gs before hval hW hwt hL hsh

theorem mimeExtracts_said : Rows.MimeExtractsSaid :=
  OpenClaim.holds_of_cond 3 Tryz.f3 rfl rfl rfl rfl rfl rfl rfl ⟨rfl, rfl, rfl, rfl, rfl⟩ rfl rfl rfl rfl rfl (by kernel_rfl) Tryz.func3 (by kernel_rfl)
    (of_decide_eq_true (by kernel_rfl)) (by unfold Func.isWrapper; rw [if_neg (by decide +kernel)]; exact ⟨rfl, rfl⟩)
    (fun os started H enc _ F => by rw [OpenClaim.pre_eq_preRow]; exact mimeExtracts_lifted os started H enc F)

theorem mimeExtracts_plain (f : FuncId) (fn : Func) (hf : Tryz.pinned.checked.prog.funcNamed "ostiary/ostiarylaw6.MimeExtracts" = some f) (hfn : Tryz.pinned.checked.prog.funcs[f]? = some fn) :
    false = Tryz.pinned.checked.prog.looks [] ∧ ∀ (j : Nat) t, fn.params[j]? = some t → Tryz.pinned.checked.prog.wantsStandIn t = false := by
  obtain rfl : f = 3 := Option.some.inj ((show Tryz.prog.funcNamed "ostiary/ostiarylaw6.MimeExtracts" = some 3 by kernel_rfl).symm.trans hf) |>.symm
  obtain rfl : fn = Tryz.f3 := (Option.some.inj (Tryz.func3.symm.trans hfn)).symm
  refine ⟨by kernel_rfl, fun j t ht => ?_⟩
  rw [Tryz.params3] at ht
  have ht2 : t = 22 ∨ t = 3 := by
    have := Array.mem_of_getElem? ht
    simp at this
    omega
  rcases ht2 with rfl | rfl
  · exact (show Tryz.prog.wantsStandIn 22 = false by kernel_rfl)
  · exact (show Tryz.prog.wantsStandIn 3 = false by kernel_rfl)

theorem mimeExtracts_holds : Rows.MimeExtractsCardSaid :=
  Claim7.holds_tied_plain_at .later [] _ _ _ _ mimeExtracts_said (fun _ h => by cases h) (by kernel_rfl) (fun _ h => by cases h) mimeExtracts_row_tie rfl ⟨rfl, rfl⟩ (by kernel_rfl) rfl mimeExtracts_plain (by kernel_rfl)

end Go.Proofs.YtiemggepdeaogaaGreatDoor
