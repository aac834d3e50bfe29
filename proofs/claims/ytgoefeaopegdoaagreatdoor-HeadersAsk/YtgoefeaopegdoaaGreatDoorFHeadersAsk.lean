/-
  HeadersAsk: for any headers, name and value the call returns true, and the arguments read as before.
-/
import Derived.Test.YtgoefeaopegdoaaGreatDoorCards
import Derived.Test.YtgoefeaopegdoaaGreatDoorTie
import Derived.Test.YtgoefeaopegdoaaGreatDoorQh1
import Derived.Test.YtgoefeaopegdoaaGreatDoorQh2
import Derived.Test.YtgoefeaopegdoaaGreatDoorQh3
import Derived.Test.YtgoefeaopegdoaaGreatDoorQh4
import Derived.Test.YtgoefeaopegdoaaGreatDoorQh5
import Derived.Test.YtgoefeaopegdoaaGreatDoorQh6
import Derived.Test.YtgoefeaopegdoaaGreatDoorQh7
import Derived.Test.YtgoefeaopegdoaaGreatDoorQh8
import Derived.Test.YtgoefeaopegdoaaGreatDoorQh9
import Derived.Test.YtgoefeaopegdoaaGreatDoorQh10
import Derived.Test.YtgoefeaopegdoaaGreatDoorQh11
import Derived.Test.YtgoefeaopegdoaaGreatDoorQh12
import Derived.ProofKit
import Derived.OpenShut
import Derived.ShutString
import Derived.ChangeOld
import Derived.Below
import Derived.Deep.DeepHandedRow
import Derived.SliceStrings
set_option linter.unusedSimpArgs false
set_option linter.unusedVariables false
namespace Go.Proofs.YtgoefeaopegdoaaGreatDoor
open Go.ChangeShapes Go.WideShapes Go.ChangeAt Go.RowKit
open Go.ChangeMaps (open_string shut_string)

set_option maxRecDepth 100000 in
theorem headersAsk_contract (H : Type) (enc : TypeId × Value → H) (W : World) (base : Nat) (args : Array Value) (ds gs : List (DataW H)) (before : List MemPlace)
    (hval0 : ∀ (j : Nat) t v, Tryz.f8.params[j]? = some t → args[j]? = some v → Value.okWide Tryz.prog W .any base t v)
    (hW : DataW.Whole enc Tryz.prog Tryz.f8.params.toList Rows.headersAskSpec.vars false W args.toList ds gs before) (hwt : (DataW.weightsEach Tryz.prog (Tryz.f8.params.toList ++ (OpenSpec.ofChange Rows.headersAskSpec).bare.plain.varTypes Tryz.prog) (ds ++ gs)).all (· ≤ reachBytes) = true) (hL : laidMetH Tryz.prog laid5 W) (hsh : W.ShapedOpen Tryz.prog) :
    Calls Tryz.prog 8 args W fun e W' => ∃ v, e = .returned v ∧ Rows.headersAskSpec.post enc Tryz.prog Tryz.f8 false true false false W args v W' := by
  have laidOut : laidOutB Tryz.prog = true := by kernel_rfl
  have hgd := g5_of_shaped hsh
  have hval : ∀ (j : Nat) t v, Tryz.f8.params[j]? = some t → args[j]? = some v → Value.okWide Tryz.prog W .any base t v := hval0
  have hW' := hW
  obtain ⟨p, q, hA0, hV, rfl, hfz, hnd⟩ := hW
  have hA : DataW.TrodAll enc Tryz.prog W 0 (fun _ => true) true Tryz.f8.params.toList args.toList ds p := hA0
  rw [Tryz.params8] at hA hval
  obtain ⟨v0, vs0, d0, ds0, p0, q0, hargs, rfl, rfl, h0, r0⟩ := trodAll_cons hA
  obtain ⟨v1, vs1, d1, ds1, p1, q1, rfl, rfl, rfl, h1, r1⟩ := trodAll_cons r0
  obtain ⟨v2, vs2, d2, ds2, p2, q2, rfl, rfl, rfl, h2, r2⟩ := trodAll_cons r1
  obtain ⟨rfl, rfl, rfl⟩ := trodAll_nil r2
  obtain rfl : args = #[v0, v1, v2] := by cases args; simp_all
  obtain ⟨rfl, rfl⟩ := trodVars_none hV
  obtain ⟨a0, len0, cap0, rfl⟩ := okWide_slice Tryz.underlying25 (hval 0 25 v0 rfl rfl)
  have k0 := h0
  have lt0 : ∀ x ∈ p0, x.block < W.heap.size := by obtain ⟨m, hm⟩ := k0; exact DataW.trod_lt m _ _ _ hm
  obtain ⟨a1, rfl, rfl, rfl, w1⟩ := open_string Tryz.underlying9 (hval 1 9 v1 rfl rfl) h1
  obtain ⟨a2, rfl, rfl, rfl, w2⟩ := open_string Tryz.underlying9 (hval 2 9 v2 rfl rfl) h2
  obtain ⟨L0, w0, z0⟩ : ∃ L, HdAt W (.slice a0 len0 cap0) L ∧ Szd 140737488351232 L := by
    obtain ⟨fuel, hf⟩ := h0
    exact hd_arg (by simpa [Value.cells] using hf) hwt (j := 0) rfl rfl
  have z1 : a1.size ≤ 140737488351232 := by have := sized_string hwt (j := 1) (t := 9) rfl rfl; simpa [reachBytes] using this
  have z2 : a2.size ≤ 140737488351232 := by have := sized_string hwt (j := 2) (t := 9) rfl rfl; simpa [reachBytes] using this
  clear hA0 hval0
  refine (headersAsk_walk _ L0 a1 a2 W w0 z0 z1 z2 hgd).mono fun e W' ⟨he, bel⟩ => ?_
  subst he
  exact ⟨_, rfl, _, _, _, [], _, [], hW', trodAll_mk1 (shut_bool Tryz.underlying4 _), (trodAll_cons_mk (Below.trod laidOut (by kernel_rfl) (of_decide_eq_true (by kernel_rfl)) k0 bel lt0) (trodAll_cons_mk (shut_string Tryz.underlying9 w1) (trodAll_cons_mk (shut_string Tryz.underlying9 w2) trodAll_mk0))), rfl, bel.frame _, fun h => by cases h⟩

theorem headersAsk_reads (os : Os) {H : Type} (enc : TypeId × Value → H) : ∃ places, DataW.whole enc Tryz.prog ((startW os).forCall (fun _ _ => 0) ⟨#[], #[.slice none 0 0, .string ByteArray.empty, .string ByteArray.empty], []⟩).memory Tryz.f8.params.toList Rows.headersAskSpec.vars false (#[.slice none 0 0, .string ByteArray.empty, .string ByteArray.empty] : Array Value).toList 8 = some ([.nil, .lit (.string []), .lit (.string [])], [], places) :=
  ⟨[], by kernel_rfl⟩

set_option maxRecDepth 100000 in
theorem headersAsk_lifted (os : Os) (started : os.Started) (H : Type) (enc : TypeId × Value → H) (F : Stop.Interp) :
    ReturnsInHanded {} Tryz.checked os 8 .any ((OpenSpec.ofChange Rows.headersAskSpec).preRow enc Tryz.prog Tryz.f8 Rows.headersAskRow.domain false Rows.headersAskRow.laid) (((OpenSpec.ofChange Rows.headersAskSpec).at F).post enc Tryz.prog Tryz.f8 false true false false) := by
  obtain ⟨places, hx⟩ := headersAsk_reads os enc
  refine returnsInHanded_of_row (C := Tryz.checked) (s := OpenSpec.ofChange Rows.headersAskSpec) ownK started (by kernel_rfl) Tryz.func8
    (witness_row_at (enc := enc) (C := Tryz.checked) false (startW os) #[.slice none 0 0, .string ByteArray.empty, .string ByteArray.empty] rfl (by kernel_rfl) (by kernel_rfl) (by kernel_rfl)
      (OpenSpec.preRow_of_cond 8 hx (by kernel_rfl) (fun k hk => by cases hk) (by kernel_rfl) (door_met os _))) ?_
  intro W base args ds gs before hval hW _ _ hwt hL hsh _
  exact headersAsk_contract H enc W base args ds gs before hval hW hwt hL hsh

theorem headersAsk_f1 : (Rows.headersAskRow.inPlace == Tryz.prog.inPlace 8) = true := by kernel_rfl
theorem headersAsk_f2 : (Rows.headersAskRow.unfollowed == Tryz.prog.unfollowed 8) = true := by kernel_rfl
theorem headersAsk_f3 : (Rows.headersAskRow.recurses == Tryz.prog.recurses 8) = true := by kernel_rfl
theorem headersAsk_f4 : (Rows.headersAskRow.named == Tryz.prog.varsNamed 8) = true := by kernel_rfl
theorem headersAsk_closed : joinedFacts Tryz.prog 8 Tryz.f8 (OpenSpec.ofChange Rows.headersAskSpec).bare Rows.headersAskRow = true := by
  unfold joinedFacts
  rw [headersAsk_f1, headersAsk_f2, headersAsk_f3, headersAsk_f4]
  kernel_rfl

theorem headersAsk_said : Rows.HeadersAskSaid :=
  OpenClaim.holds_of_cond 8 Tryz.f8 rfl rfl rfl rfl rfl rfl rfl ⟨rfl, rfl, rfl, rfl, rfl⟩ rfl rfl rfl rfl rfl (by kernel_rfl) Tryz.func8 headersAsk_closed
    (of_decide_eq_true (by kernel_rfl)) (by unfold Func.isWrapper; rw [if_neg (by decide +kernel)]; exact ⟨rfl, rfl⟩)
    (fun os started H enc _ F => by rw [OpenClaim.pre_eq_preRow]; exact headersAsk_lifted os started H enc F)

theorem headersAsk_plain (f : FuncId) (fn : Func) (hf : Tryz.pinned.checked.prog.funcNamed "ostiary/ostiarylaw5.HeadersAsk" = some f) (hfn : Tryz.pinned.checked.prog.funcs[f]? = some fn) :
    false = Tryz.pinned.checked.prog.looks [] ∧ ∀ (j : Nat) t, fn.params[j]? = some t → Tryz.pinned.checked.prog.wantsStandIn t = false := by
  obtain rfl : f = 8 := Option.some.inj ((show Tryz.prog.funcNamed "ostiary/ostiarylaw5.HeadersAsk" = some 8 by kernel_rfl).symm.trans hf) |>.symm
  obtain rfl : fn = Tryz.f8 := (Option.some.inj (Tryz.func8.symm.trans hfn)).symm
  refine ⟨by kernel_rfl, fun j t ht => ?_⟩
  rw [Tryz.params8] at ht
  have ht2 : t = 25 ∨ t = 9 := by
    have := Array.mem_of_getElem? ht
    simp at this
    omega
  rcases ht2 with rfl | rfl
  · exact (show Tryz.prog.wantsStandIn 25 = false by kernel_rfl)
  · exact (show Tryz.prog.wantsStandIn 9 = false by kernel_rfl)

theorem goes_none (P : Program) (c : OpenClaim) (hs : c.start = .entering) (h : P.funcs.any Func.goes = false) : false = c.goesBy P := by
  unfold OpenClaim.goesBy Program.goesAt
  rw [hs]
  unfold Program.goesFrom
  cases P.funcNamed c.func with
  | none => rfl
  | some f =>
    show false = (P.goes f || false)
    unfold Program.goes
    rw [h, Bool.and_false, Bool.or_false, Bool.or_false]
    symm
    rw [List.any_eq_false]
    intro g _
    cases hf : P.funcs[g]? with
    | none => simp
    | some fn =>
      have hm : fn ∈ P.funcs := Array.mem_of_getElem? hf
      have := Array.any_eq_false'.1 h fn hm
      simpa using this

theorem headersAsk_goes : Tryz.prog.funcs.any Func.goes = false := by kernel_rfl

theorem headersAsk_holds : Rows.HeadersAskCardSaid :=
  Claim7.holds_tied_plain_at .later [] _ _ _ _ headersAsk_said (fun _ h => by cases h) (by kernel_rfl) (fun _ h => by cases h) headersAsk_row_tie rfl ⟨rfl, rfl⟩ (by kernel_rfl) rfl headersAsk_plain (goes_none _ _ rfl headersAsk_goes)

end Go.Proofs.YtgoefeaopegdoaaGreatDoor
