/-
  PreflightGrants: what Read grants Allows, until its Age is over, and nothing else; no condition of mine.
-/
import Derived.Test.YtolioccofbhliaaGreatDoorCards
import Derived.Test.YtolioccofbhliaaGreatDoorTie
import Derived.Test.YtolioccofbhliaaGreatDoorQp1
import Derived.Test.YtolioccofbhliaaGreatDoorQp2
import Derived.Test.YtolioccofbhliaaGreatDoorQp3
import Derived.Test.YtolioccofbhliaaGreatDoorQp4
import Derived.Test.YtolioccofbhliaaGreatDoorQp5
import Derived.Test.YtolioccofbhliaaGreatDoorQp6
import Derived.Test.YtolioccofbhliaaGreatDoorQp7
import Derived.Test.YtolioccofbhliaaGreatDoorQp8
import Derived.Test.YtolioccofbhliaaGreatDoorQp9
import Derived.Test.YtolioccofbhliaaGreatDoorQp10
import Derived.Test.YtolioccofbhliaaGreatDoorQp11
import Derived.Test.YtolioccofbhliaaGreatDoorQp12
import Derived.Test.YtolioccofbhliaaGreatDoorQp13
import Derived.Test.YtolioccofbhliaaGreatDoorQp14
import Derived.Test.YtolioccofbhliaaGreatDoorQp15
import Derived.Test.YtolioccofbhliaaGreatDoorQp16
import Derived.Test.YtolioccofbhliaaGreatDoorQp17
import Derived.Test.YtolioccofbhliaaGreatDoorQp18
import Derived.Test.YtolioccofbhliaaGreatDoorQp19
import Derived.Test.YtolioccofbhliaaGreatDoorQp20
import Derived.Test.YtolioccofbhliaaGreatDoorQp21
import Derived.Test.YtolioccofbhliaaGreatDoorQp22
import Derived.Test.YtolioccofbhliaaGreatDoorQp23
import Derived.Test.YtolioccofbhliaaGreatDoorQp24
import Derived.Test.YtolioccofbhliaaGreatDoorQp25
import Derived.Test.YtolioccofbhliaaGreatDoorQp26
import Derived.Test.YtolioccofbhliaaGreatDoorQp27
import Derived.Test.YtolioccofbhliaaGreatDoorQp28
import Derived.Test.YtolioccofbhliaaGreatDoorQg1
import Derived.Test.YtolioccofbhliaaGreatDoorQg2
import Derived.Test.YtolioccofbhliaaGreatDoorQg3
import Derived.Test.YtolioccofbhliaaGreatDoorQg4
import Derived.Test.YtolioccofbhliaaGreatDoorQg5
import Derived.Test.YtolioccofbhliaaGreatDoorQg6
import Derived.Test.YtolioccofbhliaaGreatDoorQg7
import Derived.Test.YtolioccofbhliaaGreatDoorQd1
import Derived.SizedLaws
import Derived.ProofKit
import Derived.OpenShut
import Derived.ShutString
import Derived.ChangeOld
import Derived.Below
import Derived.Deep.DeepHandedRow
import Derived.SliceStrings
set_option linter.unusedSimpArgs false
set_option linter.unusedVariables false
namespace Go.Proofs.YtolioccofbhliaaGreatDoor
open Go.ChangeShapes Go.WideShapes Go.ChangeAt Go.RowKit
open Go.ChangeMaps (open_string shut_string)

set_option maxRecDepth 100000 in
theorem preflightGrants_contract (H : Type) (enc : TypeId × Value → H) (W : World) (base : Nat) (args : Array Value) (ds gs : List (DataW H)) (before : List MemPlace)
    (hval0 : ∀ (j : Nat) t v, Tryz.f5.params[j]? = some t → args[j]? = some v → Value.okWide Tryz.prog W .any base t v)
    (hW : DataW.Whole enc Tryz.prog Tryz.f5.params.toList Rows.preflightGrantsSpec.vars false W args.toList ds gs before) (hwt : (DataW.weightsEach Tryz.prog (Tryz.f5.params.toList ++ (OpenSpec.ofChange Rows.preflightGrantsSpec).bare.plain.varTypes Tryz.prog) (ds ++ gs)).all (· ≤ reachBytes) = true) (hL : laidMetH Tryz.prog laid7 W) (hsh : W.ShapedOpen Tryz.prog) :
    Calls Tryz.prog 5 args W fun e W' => ∃ v, e = .returned v ∧ Rows.preflightGrantsSpec.post enc Tryz.prog Tryz.f5 false true false false W args v W' := by
  have laidOut : laidOutB Tryz.prog = true := by kernel_rfl
  have hgd := gd7_of_laid hL hsh
  have hval : ∀ (j : Nat) t v, Tryz.f5.params[j]? = some t → args[j]? = some v → Value.okWide Tryz.prog W .any base t v := hval0
  have hW' := hW
  obtain ⟨p, q, hA0, hV, rfl, hfz, hnd⟩ := hW
  have hA : DataW.TrodAll enc Tryz.prog W 0 (fun _ => true) true Tryz.f5.params.toList args.toList ds p := hA0
  rw [Tryz.params5] at hA hval
  obtain ⟨v0, vs0, d0, ds0, p0, q0, hargs, rfl, rfl, h0, r0⟩ := trodAll_cons hA
  obtain ⟨v1, vs1, d1, ds1, p1, q1, rfl, rfl, rfl, h1, r1⟩ := trodAll_cons r0
  obtain ⟨v2, vs2, d2, ds2, p2, q2, rfl, rfl, rfl, h2, r2⟩ := trodAll_cons r1
  obtain ⟨v3, vs3, d3, ds3, p3, q3, rfl, rfl, rfl, h3, r3⟩ := trodAll_cons r2
  obtain ⟨v4, vs4, d4, ds4, p4, q4, rfl, rfl, rfl, h4, r4⟩ := trodAll_cons r3
  obtain ⟨v5, vs5, d5, ds5, p5, q5, rfl, rfl, rfl, h5, r5⟩ := trodAll_cons r4
  obtain ⟨rfl, rfl, rfl⟩ := trodAll_nil r5
  obtain rfl : args = #[v0, v1, v2, v3, v4, v5] := by cases args; simp_all
  obtain ⟨rfl, rfl⟩ := trodVars_none hV
  obtain ⟨a0, rfl, rfl, rfl, w0⟩ := open_string Tryz.underlying9 (hval 0 9 v0 rfl rfl) h0
  obtain ⟨a1, rfl, rfl, rfl⟩ := open_bool Tryz.underlying4 (hval 1 4 v1 rfl rfl) h1
  obtain ⟨a2, rfl, rfl, rfl, w2⟩ := open_string Tryz.underlying9 (hval 2 9 v2 rfl rfl) h2
  obtain ⟨a3, len3, cap3, rfl⟩ := okWide_slice Tryz.underlying50 (hval 3 50 v3 rfl rfl)
  have k3 := h3
  have lt3 : ∀ x ∈ p3, x.block < W.heap.size := by obtain ⟨m, hm⟩ := k3; exact DataW.trod_lt m _ _ _ hm
  obtain ⟨cs4, rfl, csz4⟩ := okWide_struct Tryz.underlying30 (hval 4 30 v4 rfl rfl)
  have k4 := h4
  have lt4 : ∀ x ∈ p4, x.block < W.heap.size := by obtain ⟨m, hm⟩ := k4; exact DataW.trod_lt m _ _ _ hm
  obtain ⟨st4, va4, vn4, vc4, ba4, bn4, bc4, L4, bl4, hcs4, w4, z4, x4, s4, y4, u4⟩ : ∃ st va vn vc ba bn bc L bl, cs4.toList = [.int .i64 st, .slice va vn vc, .slice ba bn bc] ∧ HdAt W (.slice va vn vc) L ∧ Szd maxLen L ∧ bl.length = bn ∧ SlB_Cb W (.slice ba bn bc) bl ∧ bn ≤ bc ∧ bc ≤ maxLen := by
    obtain ⟨fuel, hf⟩ := h4
    exact rep_arg19 (by simpa [Value.cells] using hf)
  obtain rfl : cs4 = #[.int .i64 st4, .slice va4 vn4 vc4, .slice ba4 bn4 bc4] := by cases cs4; simp_all
  obtain ⟨a5, rfl, rfl, rfl, w5⟩ := open_int Tryz.underlying2 (hval 5 2 v5 rfl rfl) h5
  have z0 : a0.size ≤ 140737488351232 := by have := sized_string hwt (j := 0) (t := 9) rfl rfl; simpa [reachBytes] using this
  have z2 : a2.size ≤ 140737488351232 := by have := sized_string hwt (j := 2) (t := 9) rfl rfl; simpa [reachBytes] using this
  obtain ⟨L3, w3, z3⟩ : ∃ L, TxAt W (.slice a3 len3 cap3) L ∧ ∀ y ∈ L, y.length ≤ 140737488351232 := by
    obtain ⟨fuel, hf⟩ := h3
    exact txs_arg19 (by simpa [Value.cells] using hf) hwt (j := 3) rfl rfl
  clear hA0 hval0
  refine (preflightGrants_walk a0 a1 a2 _ L3 st4 _ L4 ba4 bn4 bc4 bl4 a5 W hgd (by omega) (by omega) w3 z3 w4 z4 x4 s4 y4 u4 (by simpa [Lit.wf, IntKind.min, IntKind.max, IntKind.bits, IntKind.signed] using w5)).mono fun e W' ⟨he, bel⟩ => ?_
  subst he
  exact ⟨_, rfl, _, _, _, [], _, [], hW', trodAll_mk1 (shut_bool Tryz.underlying4 _), (trodAll_cons_mk (shut_string Tryz.underlying9 w0) (trodAll_cons_mk (shut_bool Tryz.underlying4 a1) (trodAll_cons_mk (shut_string Tryz.underlying9 w2) (trodAll_cons_mk (Below.trod laidOut (by kernel_rfl) (of_decide_eq_true (by kernel_rfl)) k3 bel lt3) (trodAll_cons_mk (Below.trod laidOut (by kernel_rfl) (of_decide_eq_true (by kernel_rfl)) k4 bel lt4) (trodAll_cons_mk (shut_int Tryz.underlying2 w5) trodAll_mk0)))))), rfl, bel.frame _, fun h => by cases h⟩

theorem preflightGrants_reads (os : Os) {H : Type} (enc : TypeId × Value → H) : ∃ places, DataW.whole enc Tryz.prog ((startW os).forCall (fun _ _ => 0) ⟨#[], #[.string ByteArray.empty, .bool false, .string ByteArray.empty, .slice none 0 0, .agg #[.int .i64 0, .slice none 0 0, .slice none 0 0], .int .i64 0], []⟩).memory Tryz.f5.params.toList Rows.preflightGrantsSpec.vars false (#[.string ByteArray.empty, .bool false, .string ByteArray.empty, .slice none 0 0, .agg #[.int .i64 0, .slice none 0 0, .slice none 0 0], .int .i64 0] : Array Value).toList 8 = some ([.lit (.string []), .lit (.bool false), .lit (.string []), .nil, .agg [.lit (.int .i64 0), .nil, .nil], .lit (.int .i64 0)], [], places) :=
  ⟨[], by kernel_rfl⟩

set_option maxRecDepth 100000 in
theorem preflightGrants_lifted (os : Os) (started : os.Started) (H : Type) (enc : TypeId × Value → H) (F : Stop.Interp) :
    ReturnsInHanded {} Tryz.checked os 5 .any ((OpenSpec.ofChange Rows.preflightGrantsSpec).preRow enc Tryz.prog Tryz.f5 Rows.preflightGrantsRow.domain false Rows.preflightGrantsRow.laid) (((OpenSpec.ofChange Rows.preflightGrantsSpec).at F).post enc Tryz.prog Tryz.f5 false true false false) := by
  obtain ⟨places, hx⟩ := preflightGrants_reads os enc
  refine returnsInHanded_of_row (C := Tryz.checked) (s := OpenSpec.ofChange Rows.preflightGrantsSpec) ownK started (by kernel_rfl) Tryz.func5
    (witness_row_at (enc := enc) (C := Tryz.checked) false (startW os) #[.string ByteArray.empty, .bool false, .string ByteArray.empty, .slice none 0 0, .agg #[.int .i64 0, .slice none 0 0, .slice none 0 0], .int .i64 0] rfl (by kernel_rfl) (by kernel_rfl) (by kernel_rfl)
      (OpenSpec.preRow_of_cond 8 hx (by kernel_rfl) (fun k hk => by cases hk) (by kernel_rfl) (door_met os _))) ?_
  intro W base args ds gs before hval hW _ _ hwt hL hsh _
  exact preflightGrants_contract H enc W base args ds gs before hval hW hwt hL hsh

theorem preflightGrants_f1 : (Rows.preflightGrantsRow.inPlace == Tryz.prog.inPlace 5) = true := by kernel_rfl
theorem preflightGrants_f2 : (Rows.preflightGrantsRow.unfollowed == Tryz.prog.unfollowed 5) = true := by kernel_rfl
theorem preflightGrants_f3 : (Rows.preflightGrantsRow.recurses == Tryz.prog.recurses 5) = true := by kernel_rfl
theorem preflightGrants_f4 : (Rows.preflightGrantsRow.named == Tryz.prog.varsNamed 5) = true := by kernel_rfl
theorem preflightGrants_closed : joinedFacts Tryz.prog 5 Tryz.f5 (OpenSpec.ofChange Rows.preflightGrantsSpec).bare Rows.preflightGrantsRow = true := by
  unfold joinedFacts
  rw [preflightGrants_f1, preflightGrants_f2, preflightGrants_f3, preflightGrants_f4]
  kernel_rfl

theorem preflightGrants_said : Rows.PreflightGrantsSaid :=
  OpenClaim.holds_of_cond 5 Tryz.f5 rfl rfl rfl rfl rfl rfl rfl ⟨rfl, rfl, rfl, rfl, rfl⟩ rfl rfl rfl rfl rfl (by kernel_rfl) Tryz.func5 preflightGrants_closed
    (of_decide_eq_true (by kernel_rfl)) (by unfold Func.isWrapper; rw [if_neg (by decide +kernel)]; exact ⟨rfl, rfl⟩)
    (fun os started H enc _ F => by rw [OpenClaim.pre_eq_preRow]; exact preflightGrants_lifted os started H enc F)

theorem preflightGrants_plain (f : FuncId) (fn : Func) (hf : Tryz.pinned.checked.prog.funcNamed "ostiary/ostiarylaw19.PreflightGrants" = some f) (hfn : Tryz.pinned.checked.prog.funcs[f]? = some fn) :
    false = Tryz.pinned.checked.prog.looks [] ∧ ∀ (j : Nat) t, fn.params[j]? = some t → Tryz.pinned.checked.prog.wantsStandIn t = false := by
  obtain rfl : f = 5 := Option.some.inj ((show Tryz.prog.funcNamed "ostiary/ostiarylaw19.PreflightGrants" = some 5 by kernel_rfl).symm.trans hf) |>.symm
  obtain rfl : fn = Tryz.f5 := (Option.some.inj (Tryz.func5.symm.trans hfn)).symm
  refine ⟨by kernel_rfl, fun j t ht => ?_⟩
  rw [Tryz.params5] at ht
  have ht2 : t = 9 ∨ t = 4 ∨ t = 50 ∨ t = 30 ∨ t = 2 := by
    have := Array.mem_of_getElem? ht
    simp at this
    first | omega | exact this | (rcases this with h | h | h | h | h | h <;> simp [h]) | (rcases this with h | h | h | h | h <;> simp [h])
  rcases ht2 with rfl | rfl | rfl | rfl | rfl
  · exact (show Tryz.prog.wantsStandIn 9 = false by kernel_rfl)
  · exact (show Tryz.prog.wantsStandIn 4 = false by kernel_rfl)
  · exact (show Tryz.prog.wantsStandIn 50 = false by kernel_rfl)
  · exact (show Tryz.prog.wantsStandIn 30 = false by kernel_rfl)
  · exact (show Tryz.prog.wantsStandIn 2 = false by kernel_rfl)

theorem goes_none (P : Program) (c : OpenClaim) (hs : c.start = .entering) (h : P.funcs.any Func.goes = false) : false = c.goesBy P := by
  unfold OpenClaim.goesBy Program.goesAt
  rw [hs]
  unfold Program.goesFrom
  cases P.funcNamed c.func with
  | none => rfl
  | some f =>
    show false = (P.goes f || false)
    unfold Program.goes
    rw [h, Bool.and_false, Bool.or_false, Bool.or_false]
    symm
    rw [List.any_eq_false]
    intro g _
    cases hf : P.funcs[g]? with
    | none => simp
    | some fn =>
      have hm : fn ∈ P.funcs := Array.mem_of_getElem? hf
      have := Array.any_eq_false'.1 h fn hm
      simpa using this

theorem preflightGrants_goes : Tryz.prog.funcs.any Func.goes = false := by kernel_rfl

theorem preflightGrants_holds : Rows.PreflightGrantsCardSaid :=
  Claim7.holds_tied_plain_at .later [] _ _ _ _ preflightGrants_said (fun _ h => by cases h) (by kernel_rfl) (fun _ h => by cases h) preflightGrants_row_tie rfl ⟨rfl, rfl⟩ (by kernel_rfl) rfl preflightGrants_plain (goes_none _ _ rfl preflightGrants_goes)

end Go.Proofs.YtolioccofbhliaaGreatDoor
