/-
  CacheNumbers: the chapter's own runs: what is not kept, what is, what is renewed, and that sixteen stay; no condition of mine.
-/
import Derived.Test.YtfcmonjfcnfjoaaGreatDoorCards
import Derived.Test.YtfcmonjfcnfjoaaGreatDoorTie
import Derived.Test.YtfcmonjfcnfjoaaGreatDoorQc1
import Derived.Test.YtfcmonjfcnfjoaaGreatDoorQc2
import Derived.Test.YtfcmonjfcnfjoaaGreatDoorQc3
import Derived.Test.YtfcmonjfcnfjoaaGreatDoorQc4
import Derived.Test.YtfcmonjfcnfjoaaGreatDoorQc5
import Derived.Test.YtfcmonjfcnfjoaaGreatDoorQc6
import Derived.Test.YtfcmonjfcnfjoaaGreatDoorQc7
import Derived.Test.YtfcmonjfcnfjoaaGreatDoorQc8
import Derived.Test.YtfcmonjfcnfjoaaGreatDoorQc9
import Derived.Test.YtfcmonjfcnfjoaaGreatDoorQc10
import Derived.Test.YtfcmonjfcnfjoaaGreatDoorQc11
import Derived.Test.YtfcmonjfcnfjoaaGreatDoorQc12
import Derived.Test.YtfcmonjfcnfjoaaGreatDoorQc13
import Derived.Test.YtfcmonjfcnfjoaaGreatDoorQc14
import Derived.Test.YtfcmonjfcnfjoaaGreatDoorQc15
import Derived.Test.YtfcmonjfcnfjoaaGreatDoorQc16
import Derived.Test.YtfcmonjfcnfjoaaGreatDoorQc17
import Derived.Test.YtfcmonjfcnfjoaaGreatDoorQc18
import Derived.Test.YtfcmonjfcnfjoaaGreatDoorQf1
import Derived.ProofKit
import Derived.OpenShut
import Derived.ShutString
import Derived.ChangeOld
import Derived.Below
import Derived.Deep.DeepHandedRow
import Derived.SliceStrings
set_option linter.unusedSimpArgs false
set_option linter.unusedVariables false
namespace Go.Proofs.YtfcmonjfcnfjoaaGreatDoor
open Go.ChangeShapes Go.WideShapes Go.ChangeAt Go.RowKit
open Go.ChangeMaps (open_string shut_string)

set_option maxRecDepth 100000 in
theorem cacheNumbers_contract (H : Type) (enc : TypeId × Value → H) (W : World) (base : Nat) (args : Array Value) (ds gs : List (DataW H)) (before : List MemPlace)
    (hval0 : ∀ (j : Nat) t v, Tryz.f3.params[j]? = some t → args[j]? = some v → Value.okWide Tryz.prog W .any base t v)
    (hW : DataW.Whole enc Tryz.prog Tryz.f3.params.toList Rows.cacheNumbersSpec.vars false W args.toList ds gs before) (hwt : (DataW.weightsEach Tryz.prog (Tryz.f3.params.toList ++ (OpenSpec.ofChange Rows.cacheNumbersSpec).bare.plain.varTypes Tryz.prog) (ds ++ gs)).all (· ≤ reachBytes) = true) (hL : laidMetH Tryz.prog laid7 W) (hsh : W.ShapedOpen Tryz.prog) :
    Calls Tryz.prog 3 args W fun e W' => ∃ v, e = .returned v ∧ Rows.cacheNumbersSpec.post enc Tryz.prog Tryz.f3 false true false false W args v W' := by
  have laidOut : laidOutB Tryz.prog = true := by kernel_rfl
  have hgp := gp17_of_laid hL
  have hg5 := g5_of_shaped hsh
  have hval : ∀ (j : Nat) t v, Tryz.f3.params[j]? = some t → args[j]? = some v → Value.okWide Tryz.prog W .any base t v := hval0
  have hW' := hW
  obtain ⟨p, q, hA0, hV, rfl, hfz, hnd⟩ := hW
  have hA : DataW.TrodAll enc Tryz.prog W 0 (fun _ => true) true Tryz.f3.params.toList args.toList ds p := hA0
  rw [Tryz.params3] at hA hval
  obtain ⟨hargs, rfl, rfl⟩ := trodAll_nil hA
  obtain rfl : args = #[] := by cases args; simp_all
  obtain ⟨rfl, rfl⟩ := trodVars_none hV
  clear hA0 hval0
  refine (cacheNumbers_walk  W  hg5 hgp (gMax_of hg5)).mono fun e W' ⟨he, bel⟩ => ?_
  subst he
  exact ⟨_, rfl, _, _, _, [], _, [], hW', trodAll_mk1 (shut_bool Tryz.underlying4 _), trodAll_mk0, rfl, bel.frame _, fun h => by cases h⟩

theorem cacheNumbers_reads (os : Os) {H : Type} (enc : TypeId × Value → H) : ∃ places, DataW.whole enc Tryz.prog ((startW os).forCall (fun _ _ => 0) ⟨#[], #[], []⟩).memory Tryz.f3.params.toList Rows.cacheNumbersSpec.vars false (#[] : Array Value).toList 8 = some ([], [], places) :=
  ⟨[], by kernel_rfl⟩

set_option maxRecDepth 100000 in
theorem cacheNumbers_lifted (os : Os) (started : os.Started) (H : Type) (enc : TypeId × Value → H) (F : Stop.Interp) :
    ReturnsInHanded {} Tryz.checked os 3 .any ((OpenSpec.ofChange Rows.cacheNumbersSpec).preRow enc Tryz.prog Tryz.f3 Rows.cacheNumbersRow.domain false Rows.cacheNumbersRow.laid) (((OpenSpec.ofChange Rows.cacheNumbersSpec).at F).post enc Tryz.prog Tryz.f3 false true false false) := by
  obtain ⟨places, hx⟩ := cacheNumbers_reads os enc
  refine returnsInHanded_of_row (C := Tryz.checked) (s := OpenSpec.ofChange Rows.cacheNumbersSpec) ownK started (by kernel_rfl) Tryz.func3
    (witness_row_at (enc := enc) (C := Tryz.checked) false (startW os) #[] rfl (by kernel_rfl) (by kernel_rfl) (by kernel_rfl)
      (OpenSpec.preRow_of_cond 8 hx (by kernel_rfl) (fun k hk => by cases hk) (by kernel_rfl) (door_met os _))) ?_
  intro W base args ds gs before hval hW _ _ hwt hL hsh _
  exact cacheNumbers_contract H enc W base args ds gs before hval hW hwt hL hsh

theorem cacheNumbers_f1 : (Rows.cacheNumbersRow.inPlace == Tryz.prog.inPlace 3) = true := by kernel_rfl
theorem cacheNumbers_f2 : (Rows.cacheNumbersRow.unfollowed == Tryz.prog.unfollowed 3) = true := by kernel_rfl
theorem cacheNumbers_f3 : (Rows.cacheNumbersRow.recurses == Tryz.prog.recurses 3) = true := by kernel_rfl
theorem cacheNumbers_f4 : (Rows.cacheNumbersRow.named == Tryz.prog.varsNamed 3) = true := by kernel_rfl
theorem cacheNumbers_closed : joinedFacts Tryz.prog 3 Tryz.f3 (OpenSpec.ofChange Rows.cacheNumbersSpec).bare Rows.cacheNumbersRow = true := by
  unfold joinedFacts
  rw [cacheNumbers_f1, cacheNumbers_f2, cacheNumbers_f3, cacheNumbers_f4]
  kernel_rfl

theorem cacheNumbers_said : Rows.CacheNumbersSaid :=
  OpenClaim.holds_of_cond 3 Tryz.f3 rfl rfl rfl rfl rfl rfl rfl ⟨rfl, rfl, rfl, rfl, rfl⟩ rfl rfl rfl rfl rfl (by kernel_rfl) Tryz.func3 cacheNumbers_closed
    (of_decide_eq_true (by kernel_rfl)) (by unfold Func.isWrapper; rw [if_neg (by decide +kernel)]; exact ⟨rfl, rfl⟩)
    (fun os started H enc _ F => by rw [OpenClaim.pre_eq_preRow]; exact cacheNumbers_lifted os started H enc F)

theorem cacheNumbers_plain (f : FuncId) (fn : Func) (hf : Tryz.pinned.checked.prog.funcNamed "ostiary/ostiarylaw17.CacheNumbers" = some f) (hfn : Tryz.pinned.checked.prog.funcs[f]? = some fn) :
    false = Tryz.pinned.checked.prog.looks [] ∧ ∀ (j : Nat) t, fn.params[j]? = some t → Tryz.pinned.checked.prog.wantsStandIn t = false := by
  obtain rfl : f = 3 := Option.some.inj ((show Tryz.prog.funcNamed "ostiary/ostiarylaw17.CacheNumbers" = some 3 by kernel_rfl).symm.trans hf) |>.symm
  obtain rfl : fn = Tryz.f3 := (Option.some.inj (Tryz.func3.symm.trans hfn)).symm
  refine ⟨by kernel_rfl, fun j t ht => ?_⟩
  rw [Tryz.params3] at ht
  simp at ht

theorem goes_none (P : Program) (c : OpenClaim) (hs : c.start = .entering) (h : P.funcs.any Func.goes = false) : false = c.goesBy P := by
  unfold OpenClaim.goesBy Program.goesAt
  rw [hs]
  unfold Program.goesFrom
  cases P.funcNamed c.func with
  | none => rfl
  | some f =>
    show false = (P.goes f || false)
    unfold Program.goes
    rw [h, Bool.and_false, Bool.or_false, Bool.or_false]
    symm
    rw [List.any_eq_false]
    intro g _
    cases hf : P.funcs[g]? with
    | none => simp
    | some fn =>
      have hm : fn ∈ P.funcs := Array.mem_of_getElem? hf
      have := Array.any_eq_false'.1 h fn hm
      simpa using this

theorem cacheNumbers_goes : Tryz.prog.funcs.any Func.goes = false := by kernel_rfl

theorem cacheNumbers_holds : Rows.CacheNumbersCardSaid :=
  Claim7.holds_tied_plain_at .later [] _ _ _ _ cacheNumbers_said (fun _ h => by cases h) (by kernel_rfl) (fun _ h => by cases h) cacheNumbers_row_tie rfl ⟨rfl, rfl⟩ (by kernel_rfl) rfl cacheNumbers_plain (goes_none _ _ rfl cacheNumbers_goes)

end Go.Proofs.YtfcmonjfcnfjoaaGreatDoor
