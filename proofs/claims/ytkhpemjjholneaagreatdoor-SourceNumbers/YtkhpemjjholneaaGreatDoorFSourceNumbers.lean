/-
  The law SourceNumbers answers true: the runs of the chapter on sources come out as the document says. No condition of ours: the card lists the variables that it reads.
-/
import Derived.Test.YtkhpemjjholneaaGreatDoorCards
import Derived.Test.YtkhpemjjholneaaGreatDoorTie
import Derived.Test.YtkhpemjjholneaaGreatDoorQa1
import Derived.Test.YtkhpemjjholneaaGreatDoorQa2
import Derived.Test.YtkhpemjjholneaaGreatDoorQa3
import Derived.Test.YtkhpemjjholneaaGreatDoorQa4
import Derived.Test.YtkhpemjjholneaaGreatDoorQa5
import Derived.Test.YtkhpemjjholneaaGreatDoorQa6
import Derived.Test.YtkhpemjjholneaaGreatDoorQa7
import Derived.Test.YtkhpemjjholneaaGreatDoorQa8
import Derived.Test.YtkhpemjjholneaaGreatDoorQa9
import Derived.Test.YtkhpemjjholneaaGreatDoorQa10
import Derived.Test.YtkhpemjjholneaaGreatDoorQa11
import Derived.Test.YtkhpemjjholneaaGreatDoorQa12
import Derived.Test.YtkhpemjjholneaaGreatDoorQa13
import Derived.Test.YtkhpemjjholneaaGreatDoorQa14
import Derived.Test.YtkhpemjjholneaaGreatDoorQa15
import Derived.Test.YtkhpemjjholneaaGreatDoorQa16
import Derived.Test.YtkhpemjjholneaaGreatDoorQa17
import Derived.Test.YtkhpemjjholneaaGreatDoorQa18
import Derived.Test.YtkhpemjjholneaaGreatDoorQa19
import Derived.Test.YtkhpemjjholneaaGreatDoorQa20
import Derived.Test.YtkhpemjjholneaaGreatDoorQa21
import Derived.Test.YtkhpemjjholneaaGreatDoorQa22
import Derived.Test.YtkhpemjjholneaaGreatDoorQa23
import Derived.Test.YtkhpemjjholneaaGreatDoorQa24
import Derived.Test.YtkhpemjjholneaaGreatDoorQa25
import Derived.Test.YtkhpemjjholneaaGreatDoorQa26
import Derived.Test.YtkhpemjjholneaaGreatDoorQa27
import Derived.Test.YtkhpemjjholneaaGreatDoorQa28
import Derived.Test.YtkhpemjjholneaaGreatDoorQa29
import Derived.Test.YtkhpemjjholneaaGreatDoorQa30
import Derived.Test.YtkhpemjjholneaaGreatDoorQa31
import Derived.Test.YtkhpemjjholneaaGreatDoorQy1
import Derived.Test.YtkhpemjjholneaaGreatDoorQn1
import Derived.Test.YtkhpemjjholneaaGreatDoorQn2
import Derived.Test.YtkhpemjjholneaaGreatDoorQn3
import Derived.Test.YtkhpemjjholneaaGreatDoorQn4
import Derived.Test.YtkhpemjjholneaaGreatDoorQn5
import Derived.ProofKit
import Derived.OpenShut
import Derived.ShutString
import Derived.ChangeOld
import Derived.Below
import Derived.Deep.DeepHandedRow
import Derived.SliceStrings
set_option linter.unusedSimpArgs false
set_option linter.unusedVariables false
namespace Go.Proofs.YtkhpemjjholneaaGreatDoor
open Go.ChangeShapes Go.WideShapes Go.ChangeAt Go.RowKit
open Go.ChangeMaps (open_string shut_string)

set_option maxRecDepth 100000 in
theorem sourceNumbers_contract (H : Type) (enc : TypeId × Value → H) (W : World) (base : Nat) (args : Array Value) (ds gs : List (DataW H)) (before : List MemPlace)
    (hval0 : ∀ (j : Nat) t v, Tryz.f9.params[j]? = some t → args[j]? = some v → Value.okWide Tryz.prog W .any base t v)
    (hW : DataW.Whole enc Tryz.prog Tryz.f9.params.toList Rows.sourceNumbersSpec.vars false W args.toList ds gs before) (hwt : (DataW.weightsEach Tryz.prog (Tryz.f9.params.toList ++ (OpenSpec.ofChange Rows.sourceNumbersSpec).bare.plain.varTypes Tryz.prog) (ds ++ gs)).all (· ≤ reachBytes) = true) (hL : laidMetH Tryz.prog laid7 W) (hsh : W.ShapedOpen Tryz.prog) :
    Calls Tryz.prog 9 args W fun e W' => ∃ v, e = .returned v ∧ Rows.sourceNumbersSpec.post enc Tryz.prog Tryz.f9 false true false false W args v W' := by
  have laidOut : laidOutB Tryz.prog = true := by kernel_rfl
  have hgd := gd7_of_laid hL hsh
  have hval : ∀ (j : Nat) t v, Tryz.f9.params[j]? = some t → args[j]? = some v → Value.okWide Tryz.prog W .any base t v := hval0
  have hW' := hW
  obtain ⟨p, q, hA0, hV, rfl, hfz, hnd⟩ := hW
  have hA : DataW.TrodAll enc Tryz.prog W 0 (fun _ => true) true Tryz.f9.params.toList args.toList ds p := hA0
  rw [Tryz.params9] at hA hval
  obtain ⟨hargs, rfl, rfl⟩ := trodAll_nil hA
  obtain rfl : args = #[] := by cases args; simp_all
  obtain ⟨rfl, rfl⟩ := trodVars_none hV
  clear hA0 hval0
  refine (sourceNumbers_walk W hgd).mono fun e W' ⟨he, bel⟩ => ?_
  subst he
  exact ⟨_, rfl, _, _, _, [], _, [], hW', trodAll_mk1 (shut_bool Tryz.underlying4 _), trodAll_mk0, rfl, bel.frame _, fun h => by cases h⟩

theorem sourceNumbers_reads (os : Os) {H : Type} (enc : TypeId × Value → H) : ∃ places, DataW.whole enc Tryz.prog ((startW os).forCall (fun _ _ => 0) ⟨#[], #[], []⟩).memory Tryz.f9.params.toList Rows.sourceNumbersSpec.vars false (#[] : Array Value).toList 8 = some ([], [], places) :=
  ⟨[], by kernel_rfl⟩

set_option maxRecDepth 100000 in
theorem sourceNumbers_lifted (os : Os) (started : os.Started) (H : Type) (enc : TypeId × Value → H) (F : Stop.Interp) :
    ReturnsInHanded {} Tryz.checked os 9 .any ((OpenSpec.ofChange Rows.sourceNumbersSpec).preRow enc Tryz.prog Tryz.f9 Rows.sourceNumbersRow.domain false Rows.sourceNumbersRow.laid) (((OpenSpec.ofChange Rows.sourceNumbersSpec).at F).post enc Tryz.prog Tryz.f9 false true false false) := by
  obtain ⟨places, hx⟩ := sourceNumbers_reads os enc
  refine returnsInHanded_of_row (C := Tryz.checked) (s := OpenSpec.ofChange Rows.sourceNumbersSpec) ownK started (by kernel_rfl) Tryz.func9
    (witness_row_at (enc := enc) (C := Tryz.checked) false (startW os) #[] rfl (by kernel_rfl) (by kernel_rfl) (by kernel_rfl)
      (OpenSpec.preRow_of_cond 8 hx (by kernel_rfl) (fun k hk => by cases hk) (by kernel_rfl) (door_met os _))) ?_
  intro W base args ds gs before hval hW _ _ hwt hL hsh _
  exact sourceNumbers_contract H enc W base args ds gs before hval hW hwt hL hsh

theorem sourceNumbers_f1 : (Rows.sourceNumbersRow.inPlace == Tryz.prog.inPlace 9) = true := by kernel_rfl
theorem sourceNumbers_f2 : (Rows.sourceNumbersRow.unfollowed == Tryz.prog.unfollowed 9) = true := by kernel_rfl
theorem sourceNumbers_f3 : (Rows.sourceNumbersRow.recurses == Tryz.prog.recurses 9) = true := by kernel_rfl
theorem sourceNumbers_f4 : (Rows.sourceNumbersRow.named == Tryz.prog.varsNamed 9) = true := by kernel_rfl
theorem sourceNumbers_closed : joinedFacts Tryz.prog 9 Tryz.f9 (OpenSpec.ofChange Rows.sourceNumbersSpec).bare Rows.sourceNumbersRow = true := by
  unfold joinedFacts
  rw [sourceNumbers_f1, sourceNumbers_f2, sourceNumbers_f3, sourceNumbers_f4]
  kernel_rfl

theorem sourceNumbers_said : Rows.SourceNumbersSaid :=
  OpenClaim.holds_of_cond 9 Tryz.f9 rfl rfl rfl rfl rfl rfl rfl ⟨rfl, rfl, rfl, rfl, rfl⟩ rfl rfl rfl rfl rfl (by kernel_rfl) Tryz.func9 sourceNumbers_closed
    (of_decide_eq_true (by kernel_rfl)) (by unfold Func.isWrapper; rw [if_neg (by decide +kernel)]; exact ⟨rfl, rfl⟩)
    (fun os started H enc _ F => by rw [OpenClaim.pre_eq_preRow]; exact sourceNumbers_lifted os started H enc F)

theorem sourceNumbers_plain (f : FuncId) (fn : Func) (hf : Tryz.pinned.checked.prog.funcNamed "ostiary/ostiarylaw11.SourceNumbers" = some f) (hfn : Tryz.pinned.checked.prog.funcs[f]? = some fn) :
    false = Tryz.pinned.checked.prog.looks [] ∧ ∀ (j : Nat) t, fn.params[j]? = some t → Tryz.pinned.checked.prog.wantsStandIn t = false := by
  obtain rfl : f = 9 := Option.some.inj ((show Tryz.prog.funcNamed "ostiary/ostiarylaw11.SourceNumbers" = some 9 by kernel_rfl).symm.trans hf) |>.symm
  obtain rfl : fn = Tryz.f9 := (Option.some.inj (Tryz.func9.symm.trans hfn)).symm
  refine ⟨by kernel_rfl, fun j t ht => ?_⟩
  rw [Tryz.params9] at ht
  simp at ht

theorem sourceNumbers_holds : Rows.SourceNumbersCardSaid :=
  Claim7.holds_tied_plain_at .later [] _ _ _ _ sourceNumbers_said (fun _ h => by cases h) (by kernel_rfl) (fun _ h => by cases h) sourceNumbers_row_tie rfl ⟨rfl, rfl⟩ (by kernel_rfl) rfl sourceNumbers_plain (by kernel_rfl)

end Go.Proofs.YtkhpemjjholneaaGreatDoor
