/-
  GuardNonces: for any text and destination a nonce and a digest count for scripts and styles alone, and an address that the sources mean counts for all; no condition of mine.
-/
import Derived.Test.YtooihpkoplgmbaaGreatDoorCards
import Derived.Test.YtooihpkoplgmbaaGreatDoorTie
import Derived.Test.YtooihpkoplgmbaaGreatDoorQg1
import Derived.Test.YtooihpkoplgmbaaGreatDoorQg2
import Derived.Test.YtooihpkoplgmbaaGreatDoorQg3
import Derived.Test.YtooihpkoplgmbaaGreatDoorQg4
import Derived.Test.YtooihpkoplgmbaaGreatDoorQg5
import Derived.Test.YtooihpkoplgmbaaGreatDoorQg6
import Derived.Test.YtooihpkoplgmbaaGreatDoorQg7
import Derived.Test.YtooihpkoplgmbaaGreatDoorQg8
import Derived.Test.YtooihpkoplgmbaaGreatDoorQg9
import Derived.Test.YtooihpkoplgmbaaGreatDoorQg10
import Derived.Test.YtooihpkoplgmbaaGreatDoorQg11
import Derived.Test.YtooihpkoplgmbaaGreatDoorQg12
import Derived.Test.YtooihpkoplgmbaaGreatDoorQg13
import Derived.Test.YtooihpkoplgmbaaGreatDoorQg14
import Derived.Test.YtooihpkoplgmbaaGreatDoorQg15
import Derived.Test.YtooihpkoplgmbaaGreatDoorQg16
import Derived.Test.YtooihpkoplgmbaaGreatDoorQg17
import Derived.Test.YtooihpkoplgmbaaGreatDoorQg18
import Derived.Test.YtooihpkoplgmbaaGreatDoorQg19
import Derived.Test.YtooihpkoplgmbaaGreatDoorQg20
import Derived.Test.YtooihpkoplgmbaaGreatDoorQg21
import Derived.Test.YtooihpkoplgmbaaGreatDoorQg22
import Derived.Test.YtooihpkoplgmbaaGreatDoorQg23
import Derived.Test.YtooihpkoplgmbaaGreatDoorQg24
import Derived.Test.YtooihpkoplgmbaaGreatDoorQg25
import Derived.Test.YtooihpkoplgmbaaGreatDoorQg26
import Derived.Test.YtooihpkoplgmbaaGreatDoorQg27
import Derived.Test.YtooihpkoplgmbaaGreatDoorQg28
import Derived.Test.YtooihpkoplgmbaaGreatDoorQg29
import Derived.Test.YtooihpkoplgmbaaGreatDoorQg30
import Derived.Test.YtooihpkoplgmbaaGreatDoorQg31
import Derived.Test.YtooihpkoplgmbaaGreatDoorQg32
import Derived.Test.YtooihpkoplgmbaaGreatDoorQg33
import Derived.Test.YtooihpkoplgmbaaGreatDoorQg34
import Derived.Test.YtooihpkoplgmbaaGreatDoorQg35
import Derived.Test.YtooihpkoplgmbaaGreatDoorQg36
import Derived.Test.YtooihpkoplgmbaaGreatDoorQo1
import Derived.SizedLaws
import Derived.ProofKit
import Derived.OpenShut
import Derived.ShutString
import Derived.ChangeOld
import Derived.Below
import Derived.Deep.DeepHandedRow
import Derived.SliceStrings
set_option linter.unusedSimpArgs false
set_option linter.unusedVariables false
namespace Go.Proofs.YtooihpkoplgmbaaGreatDoor
open Go.ChangeShapes Go.WideShapes Go.ChangeAt Go.RowKit
open Go.ChangeMaps (open_string shut_string)

set_option maxRecDepth 100000 in
theorem guardNonces_contract (H : Type) (enc : TypeId × Value → H) (W : World) (base : Nat) (args : Array Value) (ds gs : List (DataW H)) (before : List MemPlace)
    (hval0 : ∀ (j : Nat) t v, Tryz.f5.params[j]? = some t → args[j]? = some v → Value.okWide Tryz.prog W .any base t v)
    (hW : DataW.Whole enc Tryz.prog Tryz.f5.params.toList Rows.guardNoncesSpec.vars false W args.toList ds gs before) (hwt : (DataW.weightsEach Tryz.prog (Tryz.f5.params.toList ++ (OpenSpec.ofChange Rows.guardNoncesSpec).bare.plain.varTypes Tryz.prog) (ds ++ gs)).all (· ≤ reachBytes) = true) (hL : laidMetH Tryz.prog laid7 W) (hsh : W.ShapedOpen Tryz.prog) :
    Calls Tryz.prog 5 args W fun e W' => ∃ v, e = .returned v ∧ Rows.guardNoncesSpec.post enc Tryz.prog Tryz.f5 false true false false W args v W' := by
  have laidOut : laidOutB Tryz.prog = true := by kernel_rfl
  have hgd := gd7_of_laid hL hsh
  have hg5 := g5_of_shaped hsh
  have hval : ∀ (j : Nat) t v, Tryz.f5.params[j]? = some t → args[j]? = some v → Value.okWide Tryz.prog W .any base t v := hval0
  have hW' := hW
  obtain ⟨p, q, hA0, hV, rfl, hfz, hnd⟩ := hW
  have hA : DataW.TrodAll enc Tryz.prog W 0 (fun _ => true) true Tryz.f5.params.toList args.toList ds p := hA0
  rw [Tryz.params5] at hA hval
  obtain ⟨v0, vs0, d0, ds0, p0, q0, hargs, rfl, rfl, h0, r0⟩ := trodAll_cons hA
  obtain ⟨v1, vs1, d1, ds1, p1, q1, rfl, rfl, rfl, h1, r1⟩ := trodAll_cons r0
  obtain ⟨rfl, rfl, rfl⟩ := trodAll_nil r1
  obtain rfl : args = #[v0, v1] := by cases args; simp_all
  obtain ⟨rfl, rfl⟩ := trodVars_none hV
  obtain ⟨a0, rfl, rfl, rfl, w0⟩ := open_string Tryz.underlying9 (hval 0 9 v0 rfl rfl) h0
  obtain ⟨a1, rfl, rfl, rfl, w1⟩ := open_int Tryz.underlying3 (hval 1 3 v1 rfl rfl) h1
  have z0 : a0.size ≤ 140737488351232 := by have := sized_string hwt (j := 0) (t := 9) rfl rfl; simpa [reachBytes] using this
  clear hA0 hval0
  refine (guardNonces_walk a0 a1 W z0 w1 hgd).mono fun e W' ⟨he, bel⟩ => ?_
  subst he
  exact ⟨_, rfl, _, _, _, [], _, [], hW', trodAll_mk1 (shut_bool Tryz.underlying4 _), (trodAll_cons_mk (shut_string Tryz.underlying9 w0) (trodAll_cons_mk (shut_int Tryz.underlying3 w1) trodAll_mk0)), rfl, bel.frame _, fun h => by cases h⟩

theorem guardNonces_reads (os : Os) {H : Type} (enc : TypeId × Value → H) : ∃ places, DataW.whole enc Tryz.prog ((startW os).forCall (fun _ _ => 0) ⟨#[], #[.string ByteArray.empty, .int .i64 0], []⟩).memory Tryz.f5.params.toList Rows.guardNoncesSpec.vars false (#[.string ByteArray.empty, .int .i64 0] : Array Value).toList 8 = some ([.lit (.string []), .lit (.int .i64 0)], [], places) :=
  ⟨[], by kernel_rfl⟩

set_option maxRecDepth 100000 in
theorem guardNonces_lifted (os : Os) (started : os.Started) (H : Type) (enc : TypeId × Value → H) (F : Stop.Interp) :
    ReturnsInHanded {} Tryz.checked os 5 .any ((OpenSpec.ofChange Rows.guardNoncesSpec).preRow enc Tryz.prog Tryz.f5 Rows.guardNoncesRow.domain false Rows.guardNoncesRow.laid) (((OpenSpec.ofChange Rows.guardNoncesSpec).at F).post enc Tryz.prog Tryz.f5 false true false false) := by
  obtain ⟨places, hx⟩ := guardNonces_reads os enc
  refine returnsInHanded_of_row (C := Tryz.checked) (s := OpenSpec.ofChange Rows.guardNoncesSpec) ownK started (by kernel_rfl) Tryz.func5
    (witness_row_at (enc := enc) (C := Tryz.checked) false (startW os) #[.string ByteArray.empty, .int .i64 0] rfl (by kernel_rfl) (by kernel_rfl) (by kernel_rfl)
      (OpenSpec.preRow_of_cond 8 hx (by kernel_rfl) (fun k hk => by cases hk) (by kernel_rfl) (door_met os _))) ?_
  intro W base args ds gs before hval hW _ _ hwt hL hsh _
  exact guardNonces_contract H enc W base args ds gs before hval hW hwt hL hsh

theorem guardNonces_f1 : (Rows.guardNoncesRow.inPlace == Tryz.prog.inPlace 5) = true := by kernel_rfl
theorem guardNonces_f2 : (Rows.guardNoncesRow.unfollowed == Tryz.prog.unfollowed 5) = true := by kernel_rfl
theorem guardNonces_f3 : (Rows.guardNoncesRow.recurses == Tryz.prog.recurses 5) = true := by kernel_rfl
theorem guardNonces_f4 : (Rows.guardNoncesRow.named == Tryz.prog.varsNamed 5) = true := by kernel_rfl
theorem guardNonces_closed : joinedFacts Tryz.prog 5 Tryz.f5 (OpenSpec.ofChange Rows.guardNoncesSpec).bare Rows.guardNoncesRow = true := by
  unfold joinedFacts
  rw [guardNonces_f1, guardNonces_f2, guardNonces_f3, guardNonces_f4]
  kernel_rfl

theorem guardNonces_said : Rows.GuardNoncesSaid :=
  OpenClaim.holds_of_cond 5 Tryz.f5 rfl rfl rfl rfl rfl rfl rfl ⟨rfl, rfl, rfl, rfl, rfl⟩ rfl rfl rfl rfl rfl (by kernel_rfl) Tryz.func5 guardNonces_closed
    (of_decide_eq_true (by kernel_rfl)) (by unfold Func.isWrapper; rw [if_neg (by decide +kernel)]; exact ⟨rfl, rfl⟩)
    (fun os started H enc _ F => by rw [OpenClaim.pre_eq_preRow]; exact guardNonces_lifted os started H enc F)

theorem guardNonces_plain (f : FuncId) (fn : Func) (hf : Tryz.pinned.checked.prog.funcNamed "ostiary/ostiarylaw12.GuardNonces" = some f) (hfn : Tryz.pinned.checked.prog.funcs[f]? = some fn) :
    false = Tryz.pinned.checked.prog.looks [] ∧ ∀ (j : Nat) t, fn.params[j]? = some t → Tryz.pinned.checked.prog.wantsStandIn t = false := by
  obtain rfl : f = 5 := Option.some.inj ((show Tryz.prog.funcNamed "ostiary/ostiarylaw12.GuardNonces" = some 5 by kernel_rfl).symm.trans hf) |>.symm
  obtain rfl : fn = Tryz.f5 := (Option.some.inj (Tryz.func5.symm.trans hfn)).symm
  refine ⟨by kernel_rfl, fun j t ht => ?_⟩
  rw [Tryz.params5] at ht
  have ht2 : t = 9 ∨ t = 3 := by
    have := Array.mem_of_getElem? ht
    simp at this
    omega
  rcases ht2 with rfl | rfl
  · exact (show Tryz.prog.wantsStandIn 9 = false by kernel_rfl)
  · exact (show Tryz.prog.wantsStandIn 3 = false by kernel_rfl)

theorem goes_none (P : Program) (c : OpenClaim) (hs : c.start = .entering) (h : P.funcs.any Func.goes = false) : false = c.goesBy P := by
  unfold OpenClaim.goesBy Program.goesAt
  rw [hs]
  unfold Program.goesFrom
  cases P.funcNamed c.func with
  | none => rfl
  | some f =>
    show false = (P.goes f || false)
    unfold Program.goes
    rw [h, Bool.and_false, Bool.or_false, Bool.or_false]
    symm
    rw [List.any_eq_false]
    intro g _
    cases hf : P.funcs[g]? with
    | none => simp
    | some fn =>
      have hm : fn ∈ P.funcs := Array.mem_of_getElem? hf
      have := Array.any_eq_false'.1 h fn hm
      simpa using this

theorem guardNonces_goes : Tryz.prog.funcs.any Func.goes = false := by kernel_rfl

theorem guardNonces_holds : Rows.GuardNoncesCardSaid :=
  Claim7.holds_tied_plain_at .later [] _ _ _ _ guardNonces_said (fun _ h => by cases h) (by kernel_rfl) (fun _ h => by cases h) guardNonces_row_tie rfl ⟨rfl, rfl⟩ (by kernel_rfl) rfl guardNonces_plain (goes_none _ _ rfl guardNonces_goes)

end Go.Proofs.YtooihpkoplgmbaaGreatDoor
