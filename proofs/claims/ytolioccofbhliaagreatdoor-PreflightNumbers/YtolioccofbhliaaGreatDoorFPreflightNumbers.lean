/-
  PreflightNumbers: chapter 19's runs; no condition of mine.
-/
import Derived.Test.YtolioccofbhliaaGreatDoorCards
import Derived.Test.YtolioccofbhliaaGreatDoorTie
import Derived.Test.YtolioccofbhliaaGreatDoorQp1
import Derived.Test.YtolioccofbhliaaGreatDoorQp2
import Derived.Test.YtolioccofbhliaaGreatDoorQp3
import Derived.Test.YtolioccofbhliaaGreatDoorQp4
import Derived.Test.YtolioccofbhliaaGreatDoorQp5
import Derived.Test.YtolioccofbhliaaGreatDoorQp6
import Derived.Test.YtolioccofbhliaaGreatDoorQp7
import Derived.Test.YtolioccofbhliaaGreatDoorQp8
import Derived.Test.YtolioccofbhliaaGreatDoorQp9
import Derived.Test.YtolioccofbhliaaGreatDoorQp10
import Derived.Test.YtolioccofbhliaaGreatDoorQp11
import Derived.Test.YtolioccofbhliaaGreatDoorQp12
import Derived.Test.YtolioccofbhliaaGreatDoorQp13
import Derived.Test.YtolioccofbhliaaGreatDoorQp14
import Derived.Test.YtolioccofbhliaaGreatDoorQp15
import Derived.Test.YtolioccofbhliaaGreatDoorQp16
import Derived.Test.YtolioccofbhliaaGreatDoorQp17
import Derived.Test.YtolioccofbhliaaGreatDoorQp18
import Derived.Test.YtolioccofbhliaaGreatDoorQp19
import Derived.Test.YtolioccofbhliaaGreatDoorQp20
import Derived.Test.YtolioccofbhliaaGreatDoorQp21
import Derived.Test.YtolioccofbhliaaGreatDoorQp22
import Derived.Test.YtolioccofbhliaaGreatDoorQp23
import Derived.Test.YtolioccofbhliaaGreatDoorQp24
import Derived.Test.YtolioccofbhliaaGreatDoorQp25
import Derived.Test.YtolioccofbhliaaGreatDoorQp26
import Derived.Test.YtolioccofbhliaaGreatDoorQp27
import Derived.Test.YtolioccofbhliaaGreatDoorQp28
import Derived.Test.YtolioccofbhliaaGreatDoorQn1
import Derived.Test.YtolioccofbhliaaGreatDoorQn2
import Derived.ProofKit
import Derived.OpenShut
import Derived.ShutString
import Derived.ChangeOld
import Derived.Below
import Derived.Deep.DeepHandedRow
import Derived.SliceStrings
set_option linter.unusedSimpArgs false
set_option linter.unusedVariables false
namespace Go.Proofs.YtolioccofbhliaaGreatDoor
open Go.ChangeShapes Go.WideShapes Go.ChangeAt Go.RowKit
open Go.ChangeMaps (open_string shut_string)

set_option maxRecDepth 100000 in
theorem preflightNumbers_contract (H : Type) (enc : TypeId × Value → H) (W : World) (base : Nat) (args : Array Value) (ds gs : List (DataW H)) (before : List MemPlace)
    (hval0 : ∀ (j : Nat) t v, Tryz.f4.params[j]? = some t → args[j]? = some v → Value.okWide Tryz.prog W .any base t v)
    (hW : DataW.Whole enc Tryz.prog Tryz.f4.params.toList Rows.preflightNumbersSpec.vars false W args.toList ds gs before) (hwt : (DataW.weightsEach Tryz.prog (Tryz.f4.params.toList ++ (OpenSpec.ofChange Rows.preflightNumbersSpec).bare.plain.varTypes Tryz.prog) (ds ++ gs)).all (· ≤ reachBytes) = true) (hL : laidMetH Tryz.prog laid7 W) (hsh : W.ShapedOpen Tryz.prog) :
    Calls Tryz.prog 4 args W fun e W' => ∃ v, e = .returned v ∧ Rows.preflightNumbersSpec.post enc Tryz.prog Tryz.f4 false true false false W args v W' := by
  have laidOut : laidOutB Tryz.prog = true := by kernel_rfl
  have hgd := gd7_of_laid hL hsh
  have hg5 := g5_of_shaped hsh
  have hval : ∀ (j : Nat) t v, Tryz.f4.params[j]? = some t → args[j]? = some v → Value.okWide Tryz.prog W .any base t v := hval0
  have hW' := hW
  obtain ⟨p, q, hA0, hV, rfl, hfz, hnd⟩ := hW
  have hA : DataW.TrodAll enc Tryz.prog W 0 (fun _ => true) true Tryz.f4.params.toList args.toList ds p := hA0
  rw [Tryz.params4] at hA hval
  obtain ⟨hargs, rfl, rfl⟩ := trodAll_nil hA
  obtain rfl : args = #[] := by cases args; simp_all
  obtain ⟨rfl, rfl⟩ := trodVars_none hV
  clear hA0 hval0
  refine (preflightNumbers_walk  W  hgd).mono fun e W' ⟨he, bel⟩ => ?_
  subst he
  exact ⟨_, rfl, _, _, _, [], _, [], hW', trodAll_mk1 (shut_bool Tryz.underlying4 _), trodAll_mk0, rfl, bel.frame _, fun h => by cases h⟩

theorem preflightNumbers_reads (os : Os) {H : Type} (enc : TypeId × Value → H) : ∃ places, DataW.whole enc Tryz.prog ((startW os).forCall (fun _ _ => 0) ⟨#[], #[], []⟩).memory Tryz.f4.params.toList Rows.preflightNumbersSpec.vars false (#[] : Array Value).toList 8 = some ([], [], places) :=
  ⟨[], by kernel_rfl⟩

set_option maxRecDepth 100000 in
theorem preflightNumbers_lifted (os : Os) (started : os.Started) (H : Type) (enc : TypeId × Value → H) (F : Stop.Interp) :
    ReturnsInHanded {} Tryz.checked os 4 .any ((OpenSpec.ofChange Rows.preflightNumbersSpec).preRow enc Tryz.prog Tryz.f4 Rows.preflightNumbersRow.domain false Rows.preflightNumbersRow.laid) (((OpenSpec.ofChange Rows.preflightNumbersSpec).at F).post enc Tryz.prog Tryz.f4 false true false false) := by
  obtain ⟨places, hx⟩ := preflightNumbers_reads os enc
  refine returnsInHanded_of_row (C := Tryz.checked) (s := OpenSpec.ofChange Rows.preflightNumbersSpec) ownK started (by kernel_rfl) Tryz.func4
    (witness_row_at (enc := enc) (C := Tryz.checked) false (startW os) #[] rfl (by kernel_rfl) (by kernel_rfl) (by kernel_rfl)
      (OpenSpec.preRow_of_cond 8 hx (by kernel_rfl) (fun k hk => by cases hk) (by kernel_rfl) (door_met os _))) ?_
  intro W base args ds gs before hval hW _ _ hwt hL hsh _
  exact preflightNumbers_contract H enc W base args ds gs before hval hW hwt hL hsh

theorem preflightNumbers_f1 : (Rows.preflightNumbersRow.inPlace == Tryz.prog.inPlace 4) = true := by kernel_rfl
theorem preflightNumbers_f2 : (Rows.preflightNumbersRow.unfollowed == Tryz.prog.unfollowed 4) = true := by kernel_rfl
theorem preflightNumbers_f3 : (Rows.preflightNumbersRow.recurses == Tryz.prog.recurses 4) = true := by kernel_rfl
theorem preflightNumbers_f4 : (Rows.preflightNumbersRow.named == Tryz.prog.varsNamed 4) = true := by kernel_rfl
theorem preflightNumbers_closed : joinedFacts Tryz.prog 4 Tryz.f4 (OpenSpec.ofChange Rows.preflightNumbersSpec).bare Rows.preflightNumbersRow = true := by
  unfold joinedFacts
  rw [preflightNumbers_f1, preflightNumbers_f2, preflightNumbers_f3, preflightNumbers_f4]
  kernel_rfl

theorem preflightNumbers_said : Rows.PreflightNumbersSaid :=
  OpenClaim.holds_of_cond 4 Tryz.f4 rfl rfl rfl rfl rfl rfl rfl ⟨rfl, rfl, rfl, rfl, rfl⟩ rfl rfl rfl rfl rfl (by kernel_rfl) Tryz.func4 preflightNumbers_closed
    (of_decide_eq_true (by kernel_rfl)) (by unfold Func.isWrapper; rw [if_neg (by decide +kernel)]; exact ⟨rfl, rfl⟩)
    (fun os started H enc _ F => by rw [OpenClaim.pre_eq_preRow]; exact preflightNumbers_lifted os started H enc F)

theorem preflightNumbers_plain (f : FuncId) (fn : Func) (hf : Tryz.pinned.checked.prog.funcNamed "ostiary/ostiarylaw19.PreflightNumbers" = some f) (hfn : Tryz.pinned.checked.prog.funcs[f]? = some fn) :
    false = Tryz.pinned.checked.prog.looks [] ∧ ∀ (j : Nat) t, fn.params[j]? = some t → Tryz.pinned.checked.prog.wantsStandIn t = false := by
  obtain rfl : f = 4 := Option.some.inj ((show Tryz.prog.funcNamed "ostiary/ostiarylaw19.PreflightNumbers" = some 4 by kernel_rfl).symm.trans hf) |>.symm
  obtain rfl : fn = Tryz.f4 := (Option.some.inj (Tryz.func4.symm.trans hfn)).symm
  refine ⟨by kernel_rfl, fun j t ht => ?_⟩
  rw [Tryz.params4] at ht
  simp at ht

theorem goes_none (P : Program) (c : OpenClaim) (hs : c.start = .entering) (h : P.funcs.any Func.goes = false) : false = c.goesBy P := by
  unfold OpenClaim.goesBy Program.goesAt
  rw [hs]
  unfold Program.goesFrom
  cases P.funcNamed c.func with
  | none => rfl
  | some f =>
    show false = (P.goes f || false)
    unfold Program.goes
    rw [h, Bool.and_false, Bool.or_false, Bool.or_false]
    symm
    rw [List.any_eq_false]
    intro g _
    cases hf : P.funcs[g]? with
    | none => simp
    | some fn =>
      have hm : fn ∈ P.funcs := Array.mem_of_getElem? hf
      have := Array.any_eq_false'.1 h fn hm
      simpa using this

theorem preflightNumbers_goes : Tryz.prog.funcs.any Func.goes = false := by kernel_rfl

theorem preflightNumbers_holds : Rows.PreflightNumbersCardSaid :=
  Claim7.holds_tied_plain_at .later [] _ _ _ _ preflightNumbers_said (fun _ h => by cases h) (by kernel_rfl) (fun _ h => by cases h) preflightNumbers_row_tie rfl ⟨rfl, rfl⟩ (by kernel_rfl) rfl preflightNumbers_plain (goes_none _ _ rfl preflightNumbers_goes)

end Go.Proofs.YtolioccofbhliaaGreatDoor
