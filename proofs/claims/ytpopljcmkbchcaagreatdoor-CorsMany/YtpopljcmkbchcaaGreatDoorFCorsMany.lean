/-
  The law CorsMany: safe headers whose values are long together are unsafe all, as the document says, for every count, size and further name.
-/
import Derived.Test.YtpopljcmkbchcaaGreatDoorCards
import Derived.Test.YtpopljcmkbchcaaGreatDoorTie
import Derived.Test.YtpopljcmkbchcaaGreatDoorQc1
import Derived.Test.YtpopljcmkbchcaaGreatDoorQc2
import Derived.Test.YtpopljcmkbchcaaGreatDoorQc3
import Derived.Test.YtpopljcmkbchcaaGreatDoorQc4
import Derived.Test.YtpopljcmkbchcaaGreatDoorQc5
import Derived.Test.YtpopljcmkbchcaaGreatDoorQc6
import Derived.Test.YtpopljcmkbchcaaGreatDoorQc7
import Derived.Test.YtpopljcmkbchcaaGreatDoorQc8
import Derived.Test.YtpopljcmkbchcaaGreatDoorQc9
import Derived.Test.YtpopljcmkbchcaaGreatDoorQc10
import Derived.Test.YtpopljcmkbchcaaGreatDoorQc11
import Derived.Test.YtpopljcmkbchcaaGreatDoorQc12
import Derived.Test.YtpopljcmkbchcaaGreatDoorQc13
import Derived.Test.YtpopljcmkbchcaaGreatDoorQc14
import Derived.Test.YtpopljcmkbchcaaGreatDoorQc15
import Derived.Test.YtpopljcmkbchcaaGreatDoorQc16
import Derived.Test.YtpopljcmkbchcaaGreatDoorQc17
import Derived.Test.YtpopljcmkbchcaaGreatDoorQc18
import Derived.Test.YtpopljcmkbchcaaGreatDoorQc19
import Derived.Test.YtpopljcmkbchcaaGreatDoorQc20
import Derived.Test.YtpopljcmkbchcaaGreatDoorQc21
import Derived.Test.YtpopljcmkbchcaaGreatDoorQc22
import Derived.Test.YtpopljcmkbchcaaGreatDoorQc23
import Derived.Test.YtpopljcmkbchcaaGreatDoorQc24
import Derived.Test.YtpopljcmkbchcaaGreatDoorQc25
import Derived.Test.YtpopljcmkbchcaaGreatDoorQc26
import Derived.Test.YtpopljcmkbchcaaGreatDoorQc27
import Derived.Test.YtpopljcmkbchcaaGreatDoorQc28
import Derived.Test.YtpopljcmkbchcaaGreatDoorQc29
import Derived.Test.YtpopljcmkbchcaaGreatDoorQc30
import Derived.Test.YtpopljcmkbchcaaGreatDoorQc31
import Derived.Test.YtpopljcmkbchcaaGreatDoorQm1
import Derived.SizedLaws
import Derived.ProofKit
import Derived.OpenShut
import Derived.ShutString
import Derived.ChangeOld
import Derived.Below
import Derived.Deep.DeepHandedRow
import Derived.SliceStrings
set_option linter.unusedSimpArgs false
set_option linter.unusedVariables false
namespace Go.Proofs.YtpopljcmkbchcaaGreatDoor
open Go.ChangeShapes Go.WideShapes Go.ChangeAt Go.RowKit
open Go.ChangeMaps (open_string shut_string)

set_option maxRecDepth 100000 in
theorem corsMany_contract (H : Type) (enc : TypeId × Value → H) (W : World) (base : Nat) (args : Array Value) (ds gs : List (DataW H)) (before : List MemPlace)
    (hval0 : ∀ (j : Nat) t v, Tryz.f7.params[j]? = some t → args[j]? = some v → Value.okWide Tryz.prog W .any base t v)
    (hW : DataW.Whole enc Tryz.prog Tryz.f7.params.toList Rows.corsManySpec.vars false W args.toList ds gs before) (hwt : (DataW.weightsEach Tryz.prog (Tryz.f7.params.toList ++ (OpenSpec.ofChange Rows.corsManySpec).bare.plain.varTypes Tryz.prog) (ds ++ gs)).all (· ≤ reachBytes) = true) (hL : laidMetH Tryz.prog laid8 W) (hsh : W.ShapedOpen Tryz.prog) :
    Calls Tryz.prog 7 args W fun e W' => ∃ v, e = .returned v ∧ Rows.corsManySpec.post enc Tryz.prog Tryz.f7 false true false false W args v W' := by
  have laidOut : laidOutB Tryz.prog = true := by kernel_rfl
  have hgd := gd8_of_laid hL hsh
  have hg5 := g5_of_shaped hsh
  have hval : ∀ (j : Nat) t v, Tryz.f7.params[j]? = some t → args[j]? = some v → Value.okWide Tryz.prog W .any base t v := hval0
  have hW' := hW
  obtain ⟨p, q, hA0, hV, rfl, hfz, hnd⟩ := hW
  have hA : DataW.TrodAll enc Tryz.prog W 0 (fun _ => true) true Tryz.f7.params.toList args.toList ds p := hA0
  rw [Tryz.params7] at hA hval
  obtain ⟨v0, vs0, d0, ds0, p0, q0, hargs, rfl, rfl, h0, r0⟩ := trodAll_cons hA
  obtain ⟨v1, vs1, d1, ds1, p1, q1, rfl, rfl, rfl, h1, r1⟩ := trodAll_cons r0
  obtain ⟨v2, vs2, d2, ds2, p2, q2, rfl, rfl, rfl, h2, r2⟩ := trodAll_cons r1
  obtain ⟨rfl, rfl, rfl⟩ := trodAll_nil r2
  obtain rfl : args = #[v0, v1, v2] := by cases args; simp_all
  obtain ⟨rfl, rfl⟩ := trodVars_none hV
  obtain ⟨a0, rfl, rfl, rfl, w0⟩ := open_int Tryz.underlying3 (hval 0 3 v0 rfl rfl) h0
  obtain ⟨a1, rfl, rfl, rfl, w1⟩ := open_int Tryz.underlying3 (hval 1 3 v1 rfl rfl) h1
  obtain ⟨a2, rfl, rfl, rfl, w2⟩ := open_string Tryz.underlying9 (hval 2 9 v2 rfl rfl) h2
  have z2 : a2.size ≤ 140737488351232 := by have := sized_string hwt (j := 2) (t := 9) rfl rfl; simpa [reachBytes] using this
  clear hA0 hval0
  refine (corsMany_walk a0 a1 a2 W w0 w1 z2 hgd hg5).mono fun e W' ⟨he, bel⟩ => ?_
  subst he
  exact ⟨_, rfl, _, _, _, [], _, [], hW', trodAll_mk1 (shut_bool Tryz.underlying4 _), (trodAll_cons_mk (shut_int Tryz.underlying3 w0) (trodAll_cons_mk (shut_int Tryz.underlying3 w1) (trodAll_cons_mk (shut_string Tryz.underlying9 w2) trodAll_mk0))), rfl, bel.frame _, fun h => by cases h⟩

theorem corsMany_reads (os : Os) {H : Type} (enc : TypeId × Value → H) : ∃ places, DataW.whole enc Tryz.prog ((startW os).forCall (fun _ _ => 0) ⟨#[], #[.int .i64 0, .int .i64 0, .string ByteArray.empty], []⟩).memory Tryz.f7.params.toList Rows.corsManySpec.vars false (#[.int .i64 0, .int .i64 0, .string ByteArray.empty] : Array Value).toList 8 = some ([.lit (.int .i64 0), .lit (.int .i64 0), .lit (.string [])], [], places) :=
  ⟨[], by kernel_rfl⟩

set_option maxRecDepth 100000 in
theorem corsMany_lifted (os : Os) (started : os.Started) (H : Type) (enc : TypeId × Value → H) (F : Stop.Interp) :
    ReturnsInHanded {} Tryz.checked os 7 .any ((OpenSpec.ofChange Rows.corsManySpec).preRow enc Tryz.prog Tryz.f7 Rows.corsManyRow.domain false Rows.corsManyRow.laid) (((OpenSpec.ofChange Rows.corsManySpec).at F).post enc Tryz.prog Tryz.f7 false true false false) := by
  obtain ⟨places, hx⟩ := corsMany_reads os enc
  refine returnsInHanded_of_row (C := Tryz.checked) (s := OpenSpec.ofChange Rows.corsManySpec) ownK started (by kernel_rfl) Tryz.func7
    (witness_row_atRef (enc := enc) (C := Tryz.checked) false (startW os) #[.int .i64 0, .int .i64 0, .string ByteArray.empty] rfl (by kernel_rfl) (by kernel_rfl) (by kernel_rfl)
      (OpenSpec.preRow_of_cond 8 hx (by kernel_rfl) (fun k hk => by cases hk) (by kernel_rfl) (door_met os _))) ?_
  intro W base args ds gs before hval hW _ _ hwt hL hsh _
  exact corsMany_contract H enc W base args ds gs before hval hW hwt hL hsh

theorem corsMany_f1 : (Rows.corsManyRow.inPlace == Tryz.prog.inPlace 7) = true := by kernel_rfl
theorem corsMany_f2 : (Rows.corsManyRow.unfollowed == Tryz.prog.unfollowed 7) = true := by kernel_rfl
theorem corsMany_f3 : (Rows.corsManyRow.recurses == Tryz.prog.recurses 7) = true := by kernel_rfl
theorem corsMany_f4 : (Rows.corsManyRow.named == Tryz.prog.varsNamed 7) = true := by kernel_rfl
theorem corsMany_closed : joinedFacts Tryz.prog 7 Tryz.f7 (OpenSpec.ofChange Rows.corsManySpec).bare Rows.corsManyRow = true := by
  unfold joinedFacts
  rw [corsMany_f1, corsMany_f2, corsMany_f3, corsMany_f4]
  kernel_rfl

theorem corsMany_said : Rows.CorsManySaid :=
  OpenClaim.holds_of_cond 7 Tryz.f7 rfl rfl rfl rfl rfl rfl rfl ⟨rfl, rfl, rfl, rfl, rfl⟩ rfl rfl rfl rfl rfl (by kernel_rfl) Tryz.func7 corsMany_closed
    (of_decide_eq_true (by kernel_rfl)) (by unfold Func.isWrapper; rw [if_neg (by decide +kernel)]; exact ⟨rfl, rfl⟩)
    (fun os started H enc _ F => by rw [OpenClaim.pre_eq_preRow]; exact corsMany_lifted os started H enc F)

theorem corsMany_plain (f : FuncId) (fn : Func) (hf : Tryz.pinned.checked.prog.funcNamed "ostiary/ostiarylaw18.CorsMany" = some f) (hfn : Tryz.pinned.checked.prog.funcs[f]? = some fn) :
    false = Tryz.pinned.checked.prog.looks [] ∧ ∀ (j : Nat) t, fn.params[j]? = some t → Tryz.pinned.checked.prog.wantsStandIn t = false := by
  obtain rfl : f = 7 := Option.some.inj ((show Tryz.prog.funcNamed "ostiary/ostiarylaw18.CorsMany" = some 7 by kernel_rfl).symm.trans hf) |>.symm
  obtain rfl : fn = Tryz.f7 := (Option.some.inj (Tryz.func7.symm.trans hfn)).symm
  refine ⟨by kernel_rfl, fun j t ht => ?_⟩
  rw [Tryz.params7] at ht
  have ht2 : t = 3 ∨ t = 9 := by
    have := Array.mem_of_getElem? ht
    simp at this
    first | omega | exact this | (rcases this with h | h | h <;> simp [h]) | (rcases this with h | h | h | h <;> simp [h])
  rcases ht2 with rfl | rfl
  · exact (show Tryz.prog.wantsStandIn 3 = false by kernel_rfl)
  · exact (show Tryz.prog.wantsStandIn 9 = false by kernel_rfl)

theorem goes_none (P : Program) (c : OpenClaim) (hs : c.start = .entering) (h : P.funcs.any Func.goes = false) : false = c.goesBy P := by
  unfold OpenClaim.goesBy Program.goesAt
  rw [hs]
  unfold Program.goesFrom
  cases P.funcNamed c.func with
  | none => rfl
  | some f =>
    show false = (P.goes f || false)
    unfold Program.goes
    rw [h, Bool.and_false, Bool.or_false, Bool.or_false]
    symm
    rw [List.any_eq_false]
    intro g _
    cases hf : P.funcs[g]? with
    | none => simp
    | some fn =>
      have hm : fn ∈ P.funcs := Array.mem_of_getElem? hf
      have := Array.any_eq_false'.1 h fn hm
      simpa using this

theorem corsMany_goes : Tryz.prog.funcs.any Func.goes = false := by kernel_rfl

theorem corsMany_holds : Rows.CorsManyCardSaid :=
  Claim7.holds_tied_plain_at .later [] _ _ _ _ corsMany_said (fun _ h => by cases h) (by kernel_rfl) (fun _ h => by cases h) corsMany_row_tie rfl ⟨rfl, rfl⟩ (by kernel_rfl) rfl corsMany_plain (goes_none _ _ rfl corsMany_goes)

end Go.Proofs.YtpopljcmkbchcaaGreatDoor
