/-
  MetaKept: the call returns true.
-/
import Derived.Test.YtgoefeaopegdoaaGreatDoorCards
import Derived.Test.YtgoefeaopegdoaaGreatDoorTie
import Derived.Test.YtgoefeaopegdoaaGreatDoorQx1
import Derived.Test.YtgoefeaopegdoaaGreatDoorQx2
import Derived.Test.YtgoefeaopegdoaaGreatDoorQx3
import Derived.Test.YtgoefeaopegdoaaGreatDoorQx4
import Derived.Test.YtgoefeaopegdoaaGreatDoorQx5
import Derived.Test.YtgoefeaopegdoaaGreatDoorQx6
import Derived.Test.YtgoefeaopegdoaaGreatDoorQx7
import Derived.Test.YtgoefeaopegdoaaGreatDoorQx8
import Derived.Test.YtgoefeaopegdoaaGreatDoorQx9
import Derived.Test.YtgoefeaopegdoaaGreatDoorQx10
import Derived.Test.YtgoefeaopegdoaaGreatDoorQx11
import Derived.Test.YtgoefeaopegdoaaGreatDoorQx12
import Derived.Test.YtgoefeaopegdoaaGreatDoorQx13
import Derived.Test.YtgoefeaopegdoaaGreatDoorQx14
import Derived.Test.YtgoefeaopegdoaaGreatDoorQx15
import Derived.Test.YtgoefeaopegdoaaGreatDoorQx16
import Derived.Test.YtgoefeaopegdoaaGreatDoorQx17
import Derived.Test.YtgoefeaopegdoaaGreatDoorQx18
import Derived.Test.YtgoefeaopegdoaaGreatDoorQx19
import Derived.Test.YtgoefeaopegdoaaGreatDoorQx20
import Derived.Test.YtgoefeaopegdoaaGreatDoorQx21
import Derived.Test.YtgoefeaopegdoaaGreatDoorQx22
import Derived.Test.YtgoefeaopegdoaaGreatDoorQx23
import Derived.Test.YtgoefeaopegdoaaGreatDoorQx24
import Derived.Test.YtgoefeaopegdoaaGreatDoorQx25
import Derived.Test.YtgoefeaopegdoaaGreatDoorQx26
import Derived.Test.YtgoefeaopegdoaaGreatDoorQx27
import Derived.Test.YtgoefeaopegdoaaGreatDoorQx28
import Derived.Test.YtgoefeaopegdoaaGreatDoorQx29
import Derived.Test.YtgoefeaopegdoaaGreatDoorQx30
import Derived.Test.YtgoefeaopegdoaaGreatDoorQj1
import Derived.Test.YtgoefeaopegdoaaGreatDoorQj2
import Derived.Test.YtgoefeaopegdoaaGreatDoorQj3
import Derived.Test.YtgoefeaopegdoaaGreatDoorQj4
import Derived.ProofKit
import Derived.OpenShut
import Derived.ShutString
import Derived.ChangeOld
import Derived.Below
import Derived.Deep.DeepHandedRow
import Derived.SliceStrings
set_option linter.unusedSimpArgs false
set_option linter.unusedVariables false
namespace Go.Proofs.YtgoefeaopegdoaaGreatDoor
open Go.ChangeShapes Go.WideShapes Go.ChangeAt Go.RowKit
open Go.ChangeMaps (open_string shut_string)

set_option maxRecDepth 100000 in
theorem metaKept_contract (H : Type) (enc : TypeId × Value → H) (W : World) (base : Nat) (args : Array Value) (ds gs : List (DataW H)) (before : List MemPlace)
    (hval0 : ∀ (j : Nat) t v, Tryz.f5.params[j]? = some t → args[j]? = some v → Value.okWide Tryz.prog W .any base t v)
    (hW : DataW.Whole enc Tryz.prog Tryz.f5.params.toList Rows.metaKeptSpec.vars false W args.toList ds gs before) (hwt : (DataW.weightsEach Tryz.prog (Tryz.f5.params.toList ++ (OpenSpec.ofChange Rows.metaKeptSpec).bare.plain.varTypes Tryz.prog) (ds ++ gs)).all (· ≤ reachBytes) = true) (hL : laidMetH Tryz.prog laid7 W) (hsh : W.ShapedOpen Tryz.prog) :
    Calls Tryz.prog 5 args W fun e W' => ∃ v, e = .returned v ∧ Rows.metaKeptSpec.post enc Tryz.prog Tryz.f5 false true false false W args v W' := by
  have laidOut : laidOutB Tryz.prog = true := by kernel_rfl
  have hgd := gd7_of_laid hL hsh
  have := g5_of_shaped hsh
  have hval : ∀ (j : Nat) t v, Tryz.f5.params[j]? = some t → args[j]? = some v → Value.okWide Tryz.prog W .any base t v := hval0
  have hW' := hW
  obtain ⟨p, q, hA0, hV, rfl, hfz, hnd⟩ := hW
  have hA : DataW.TrodAll enc Tryz.prog W 0 (fun _ => true) true Tryz.f5.params.toList args.toList ds p := hA0
  rw [Tryz.params5] at hA hval
  obtain ⟨hargs, rfl, rfl⟩ := trodAll_nil hA
  obtain rfl : args = #[] := by cases args; simp_all
  obtain ⟨rfl, rfl⟩ := trodVars_none hV
  clear hA0 hval0
  refine (metaKept_walk  W  hgd).mono fun e W' ⟨he, bel⟩ => ?_
  subst he
  exact ⟨_, rfl, _, _, _, [], _, [], hW', trodAll_mk1 (shut_bool Tryz.underlying4 _), trodAll_mk0, rfl, bel.frame _, fun h => by cases h⟩

theorem metaKept_reads (os : Os) {H : Type} (enc : TypeId × Value → H) : ∃ places, DataW.whole enc Tryz.prog ((startW os).forCall (fun _ _ => 0) ⟨#[], #[], []⟩).memory Tryz.f5.params.toList Rows.metaKeptSpec.vars false (#[] : Array Value).toList 8 = some ([], [], places) :=
  ⟨[], by kernel_rfl⟩

set_option maxRecDepth 100000 in
theorem metaKept_lifted (os : Os) (started : os.Started) (H : Type) (enc : TypeId × Value → H) (F : Stop.Interp) :
    ReturnsInHanded {} Tryz.checked os 5 .any ((OpenSpec.ofChange Rows.metaKeptSpec).preRow enc Tryz.prog Tryz.f5 Rows.metaKeptRow.domain false Rows.metaKeptRow.laid) (((OpenSpec.ofChange Rows.metaKeptSpec).at F).post enc Tryz.prog Tryz.f5 false true false false) := by
  obtain ⟨places, hx⟩ := metaKept_reads os enc
  refine returnsInHanded_of_row (C := Tryz.checked) (s := OpenSpec.ofChange Rows.metaKeptSpec) ownK started (by kernel_rfl) Tryz.func5
    (witness_row_at (enc := enc) (C := Tryz.checked) false (startW os) #[] rfl (by kernel_rfl) (by kernel_rfl) (by kernel_rfl)
      (OpenSpec.preRow_of_cond 8 hx (by kernel_rfl) (fun k hk => by cases hk) (by kernel_rfl) (door_met os _))) ?_
  intro W base args ds gs before hval hW _ _ hwt hL hsh _
  exact metaKept_contract H enc W base args ds gs before hval hW hwt hL hsh

theorem metaKept_f1 : (Rows.metaKeptRow.inPlace == Tryz.prog.inPlace 5) = true := by kernel_rfl
theorem metaKept_f2 : (Rows.metaKeptRow.unfollowed == Tryz.prog.unfollowed 5) = true := by kernel_rfl
theorem metaKept_f3 : (Rows.metaKeptRow.recurses == Tryz.prog.recurses 5) = true := by kernel_rfl
theorem metaKept_f4 : (Rows.metaKeptRow.named == Tryz.prog.varsNamed 5) = true := by kernel_rfl
theorem metaKept_closed : joinedFacts Tryz.prog 5 Tryz.f5 (OpenSpec.ofChange Rows.metaKeptSpec).bare Rows.metaKeptRow = true := by
  unfold joinedFacts
  rw [metaKept_f1, metaKept_f2, metaKept_f3, metaKept_f4]
  kernel_rfl

theorem metaKept_said : Rows.MetaKeptSaid :=
  OpenClaim.holds_of_cond 5 Tryz.f5 rfl rfl rfl rfl rfl rfl rfl ⟨rfl, rfl, rfl, rfl, rfl⟩ rfl rfl rfl rfl rfl (by kernel_rfl) Tryz.func5 metaKept_closed
    (of_decide_eq_true (by kernel_rfl)) (by unfold Func.isWrapper; rw [if_neg (by decide +kernel)]; exact ⟨rfl, rfl⟩)
    (fun os started H enc _ F => by rw [OpenClaim.pre_eq_preRow]; exact metaKept_lifted os started H enc F)

theorem metaKept_plain (f : FuncId) (fn : Func) (hf : Tryz.pinned.checked.prog.funcNamed "ostiary/ostiarylaw15.MetaKept" = some f) (hfn : Tryz.pinned.checked.prog.funcs[f]? = some fn) :
    false = Tryz.pinned.checked.prog.looks [] ∧ ∀ (j : Nat) t, fn.params[j]? = some t → Tryz.pinned.checked.prog.wantsStandIn t = false := by
  obtain rfl : f = 5 := Option.some.inj ((show Tryz.prog.funcNamed "ostiary/ostiarylaw15.MetaKept" = some 5 by kernel_rfl).symm.trans hf) |>.symm
  obtain rfl : fn = Tryz.f5 := (Option.some.inj (Tryz.func5.symm.trans hfn)).symm
  refine ⟨by kernel_rfl, fun j t ht => ?_⟩
  rw [Tryz.params5] at ht
  simp at ht

end Go.Proofs.YtgoefeaopegdoaaGreatDoor
