/-
  OriginQueries: for any text and any pairs, of bulk at most 1048576 together, the call returns true, and the arguments read as before.
-/
import Derived.Test.YtgoefeaopegdoaaGreatDoorCards
import Derived.Test.YtgoefeaopegdoaaGreatDoorTie
import Derived.Test.YtgoefeaopegdoaaGreatDoorQa1
import Derived.Test.YtgoefeaopegdoaaGreatDoorQa2
import Derived.Test.YtgoefeaopegdoaaGreatDoorQa3
import Derived.Test.YtgoefeaopegdoaaGreatDoorQa4
import Derived.Test.YtgoefeaopegdoaaGreatDoorQa5
import Derived.Test.YtgoefeaopegdoaaGreatDoorQa6
import Derived.Test.YtgoefeaopegdoaaGreatDoorQa7
import Derived.Test.YtgoefeaopegdoaaGreatDoorQa8
import Derived.Test.YtgoefeaopegdoaaGreatDoorQa9
import Derived.Test.YtgoefeaopegdoaaGreatDoorQa10
import Derived.Test.YtgoefeaopegdoaaGreatDoorQa11
import Derived.Test.YtgoefeaopegdoaaGreatDoorQa12
import Derived.Test.YtgoefeaopegdoaaGreatDoorQa13
import Derived.Test.YtgoefeaopegdoaaGreatDoorQa14
import Derived.Test.YtgoefeaopegdoaaGreatDoorQa15
import Derived.Test.YtgoefeaopegdoaaGreatDoorQa16
import Derived.Test.YtgoefeaopegdoaaGreatDoorQa17
import Derived.Test.YtgoefeaopegdoaaGreatDoorQa18
import Derived.Test.YtgoefeaopegdoaaGreatDoorQa19
import Derived.Test.YtgoefeaopegdoaaGreatDoorQa20
import Derived.Test.YtgoefeaopegdoaaGreatDoorQa21
import Derived.Test.YtgoefeaopegdoaaGreatDoorQa22
import Derived.Test.YtgoefeaopegdoaaGreatDoorQa23
import Derived.Test.YtgoefeaopegdoaaGreatDoorQa24
import Derived.Test.YtgoefeaopegdoaaGreatDoorQa25
import Derived.Test.YtgoefeaopegdoaaGreatDoorQa26
import Derived.Test.YtgoefeaopegdoaaGreatDoorQa27
import Derived.Test.YtgoefeaopegdoaaGreatDoorQq1
import Derived.Test.YtgoefeaopegdoaaGreatDoorQq2
import Derived.Test.YtgoefeaopegdoaaGreatDoorQq3
import Derived.Test.YtgoefeaopegdoaaGreatDoorQq4
import Derived.SizedLaws
import Derived.ProofKit
import Derived.OpenShut
import Derived.ShutString
import Derived.ChangeOld
import Derived.Below
import Derived.Deep.DeepHandedRow
import Derived.SliceStrings
set_option linter.unusedSimpArgs false
set_option linter.unusedVariables false
namespace Go.Proofs.YtgoefeaopegdoaaGreatDoor
open Go.ChangeShapes Go.WideShapes Go.ChangeAt Go.RowKit
open Go.ChangeMaps (open_string shut_string)

set_option maxRecDepth 100000 in
theorem originQueriesUpto_contract (H : Type) (enc : TypeId × Value → H) (W : World) (base : Nat) (args : Array Value) (ds gs : List (DataW H)) (before : List MemPlace)
    (hval0 : ∀ (j : Nat) t v, Tryz.f6.params[j]? = some t → args[j]? = some v → Value.okWide Tryz.prog W .any base t v)
    (hW : DataW.Whole enc Tryz.prog Tryz.f6.params.toList Rows.originQueriesSpec.vars false W args.toList ds gs before) (hwt : (DataW.weightsEach Tryz.prog (Tryz.f6.params.toList ++ (Rows.OpenSpec.upto Rows.originQueriesSpec).bare.plain.varTypes Tryz.prog) (ds ++ gs)).all (· ≤ reachBytes) = true) (hk : Rows.uptoSmall H (ds ++ gs) = true) (hL : laidMetH Tryz.prog laid7 W) (hsh : W.ShapedOpen Tryz.prog) :
    Calls Tryz.prog 6 args W fun e W' => ∃ v, e = .returned v ∧ Rows.originQueriesSpec.post enc Tryz.prog Tryz.f6 false true false false W args v W' := by
  have laidOut : laidOutB Tryz.prog = true := by kernel_rfl
  have hgd := gd7_of_laid hL hsh
  have hg5 := g5_of_shaped hsh
  have hval : ∀ (j : Nat) t v, Tryz.f6.params[j]? = some t → args[j]? = some v → Value.okWide Tryz.prog W .any base t v := hval0
  have hW' := hW
  obtain ⟨p, q, hA0, hV, rfl, hfz, hnd⟩ := hW
  have hA : DataW.TrodAll enc Tryz.prog W 0 (fun _ => true) true Tryz.f6.params.toList args.toList ds p := hA0
  rw [Tryz.params6] at hA hval
  obtain ⟨v0, vs0, d0, ds0, p0, q0, hargs, rfl, rfl, h0, r0⟩ := trodAll_cons hA
  obtain ⟨v1, vs1, d1, ds1, p1, q1, rfl, rfl, rfl, h1, r1⟩ := trodAll_cons r0
  obtain ⟨rfl, rfl, rfl⟩ := trodAll_nil r1
  obtain rfl : args = #[v0, v1] := by cases args; simp_all
  obtain ⟨rfl, rfl⟩ := trodVars_none hV
  obtain ⟨a0, rfl, rfl, rfl, w0⟩ := open_string Tryz.underlying9 (hval 0 9 v0 rfl rfl) h0
  obtain ⟨a1, len1, cap1, rfl⟩ := okWide_slice Tryz.underlying48 (hval 1 48 v1 rfl rfl)
  have k1 := h1
  have lt1 : ∀ x ∈ p1, x.block < W.heap.size := by obtain ⟨m, hm⟩ := k1; exact DataW.trod_lt m _ _ _ hm
  have z0 : a0.size ≤ 140737488351232 := by have := sized_string hwt (j := 0) (t := 9) rfl rfl; simpa [reachBytes] using this
  obtain ⟨L1, w1, z1⟩ : ∃ L, HdAt W (.slice a1 len1 cap1) L ∧ bigQ L ≤ 4000000 := by
    obtain ⟨fuel, hf⟩ := h1
    obtain ⟨L, hL1, hL2⟩ := pair_arg (by simpa [Value.cells] using hf)
    refine ⟨L, hL1, ?_⟩
    have hb1 := bulk_bound hk
    simp only [List.append_nil, List.cons_append, List.nil_append, Rows.uptoBulkAll] at hb1
    omega
  clear hA0 hval0
  refine (originQueries_walk a0 _ L1 W z0 w1 z1 hgd).mono fun e W' ⟨he, bel⟩ => ?_
  subst he
  exact ⟨_, rfl, _, _, _, [], _, [], hW', trodAll_mk1 (shut_bool Tryz.underlying4 _), (trodAll_cons_mk (shut_string Tryz.underlying9 w0) (trodAll_cons_mk (Below.trod laidOut (by kernel_rfl) (of_decide_eq_true (by kernel_rfl)) k1 bel lt1) trodAll_mk0)), rfl, bel.frame _, fun h => by cases h⟩

theorem originQueriesUpto_reads (os : Os) {H : Type} (enc : TypeId × Value → H) : ∃ places, DataW.whole enc Tryz.prog ((startW os).forCall (fun _ _ => 0) ⟨#[], #[.string ByteArray.empty, .slice none 0 0], []⟩).memory Tryz.f6.params.toList Rows.originQueriesSpec.vars false (#[.string ByteArray.empty, .slice none 0 0] : Array Value).toList 8 = some ([.lit (.string []), .nil], [], places) :=
  ⟨[], by kernel_rfl⟩

set_option maxRecDepth 100000 in
theorem originQueriesUpto_lifted (os : Os) (started : os.Started) (H : Type) (enc : TypeId × Value → H) (F : Stop.Interp) :
    ReturnsInHanded {} Tryz.checked os 6 .any ((Rows.OpenSpec.upto Rows.originQueriesSpec).preRow enc Tryz.prog Tryz.f6 Rows.originQueriesUptoRow.domain false Rows.originQueriesUptoRow.laid) (((Rows.OpenSpec.upto Rows.originQueriesSpec).at F).post enc Tryz.prog Tryz.f6 false true false false) := by
  obtain ⟨places, hx⟩ := originQueriesUpto_reads os enc
  refine returnsInHanded_of_row (C := Tryz.checked) (s := Rows.OpenSpec.upto Rows.originQueriesSpec) ownK started (by kernel_rfl) Tryz.func6
    (witness_row_at (enc := enc) (C := Tryz.checked) false (startW os) #[.string ByteArray.empty, .slice none 0 0] rfl (by kernel_rfl) (by kernel_rfl) (by kernel_rfl)
      (OpenSpec.preRow_of_cond 8 hx (by kernel_rfl) (fun k hk => by cases hk; kernel_rfl) (by kernel_rfl) (door_met os _))) ?_
  intro W base args ds gs before hval hW _ hcond hwt hL hsh _
  exact originQueriesUpto_contract H enc W base args ds gs before hval hW hwt (hcond _ rfl) hL hsh

theorem originQueriesUpto_f1 : (Rows.originQueriesUptoRow.inPlace == Tryz.prog.inPlace 6) = true := by kernel_rfl
theorem originQueriesUpto_f2 : (Rows.originQueriesUptoRow.unfollowed == Tryz.prog.unfollowed 6) = true := by kernel_rfl
theorem originQueriesUpto_f3 : (Rows.originQueriesUptoRow.recurses == Tryz.prog.recurses 6) = true := by kernel_rfl
theorem originQueriesUpto_f4 : (Rows.originQueriesUptoRow.named == Tryz.prog.varsNamed 6) = true := by kernel_rfl
theorem originQueriesUpto_closed : joinedFacts Tryz.prog 6 Tryz.f6 (Rows.OpenSpec.upto Rows.originQueriesSpec).bare Rows.originQueriesUptoRow = true := by
  unfold joinedFacts
  rw [originQueriesUpto_f1, originQueriesUpto_f2, originQueriesUpto_f3, originQueriesUpto_f4]
  kernel_rfl

theorem originQueriesUpto_said : Rows.OriginQueriesUptoSaid :=
  OpenClaim.holds_of_cond 6 Tryz.f6 rfl rfl rfl rfl rfl rfl rfl ⟨rfl, rfl, rfl, rfl, rfl⟩ rfl rfl rfl rfl rfl (by kernel_rfl) Tryz.func6 originQueriesUpto_closed
    (of_decide_eq_true (by kernel_rfl)) (by unfold Func.isWrapper; rw [if_neg (by decide +kernel)]; exact ⟨rfl, rfl⟩)
    (fun os started H enc _ F => by rw [OpenClaim.pre_eq_preRow]; exact originQueriesUpto_lifted os started H enc F)

theorem originQueriesUpto_plain (f : FuncId) (fn : Func) (hf : Tryz.pinned.checked.prog.funcNamed "ostiary/ostiarylaw4.OriginQueries" = some f) (hfn : Tryz.pinned.checked.prog.funcs[f]? = some fn) :
    false = Tryz.pinned.checked.prog.looks [] ∧ ∀ (j : Nat) t, fn.params[j]? = some t → Tryz.pinned.checked.prog.wantsStandIn t = false := by
  obtain rfl : f = 6 := Option.some.inj ((show Tryz.prog.funcNamed "ostiary/ostiarylaw4.OriginQueries" = some 6 by kernel_rfl).symm.trans hf) |>.symm
  obtain rfl : fn = Tryz.f6 := (Option.some.inj (Tryz.func6.symm.trans hfn)).symm
  refine ⟨by kernel_rfl, fun j t ht => ?_⟩
  rw [Tryz.params6] at ht
  have ht2 : t = 9 ∨ t = 48 := by
    have := Array.mem_of_getElem? ht
    simp at this
    omega
  rcases ht2 with rfl | rfl
  · exact (show Tryz.prog.wantsStandIn 9 = false by kernel_rfl)
  · exact (show Tryz.prog.wantsStandIn 48 = false by kernel_rfl)

theorem originQueriesUpto_holds : Rows.OriginQueriesUptoCardSaid :=
  Claim7.holds_tied_plain_at .later [] _ _ _ _ originQueriesUpto_said (fun _ h => by cases h) (by kernel_rfl) (fun _ h => by cases h) originQueriesUpto_row_tie rfl ⟨rfl, rfl⟩ (by kernel_rfl) rfl originQueriesUpto_plain (by kernel_rfl)

end Go.Proofs.YtgoefeaopegdoaaGreatDoor
