/-
  The law CorsLess: what is permitted with credentials is permitted without, what one origin is permitted by name no other one is, a method that may be is taken as it is then, for every two texts, list of headers and method.
-/
import Derived.Test.YtpopljcmkbchcaaDoorCards
import Derived.Test.YtpopljcmkbchcaaDoorTie
import Derived.Test.YtpopljcmkbchcaaDoorQa1
import Derived.Test.YtpopljcmkbchcaaDoorQa2
import Derived.Test.YtpopljcmkbchcaaDoorQa3
import Derived.Test.YtpopljcmkbchcaaDoorQa4
import Derived.Test.YtpopljcmkbchcaaDoorQa5
import Derived.Test.YtpopljcmkbchcaaDoorQa6
import Derived.Test.YtpopljcmkbchcaaDoorQa7
import Derived.Test.YtpopljcmkbchcaaDoorQa8
import Derived.Test.YtpopljcmkbchcaaDoorQa9
import Derived.Test.YtpopljcmkbchcaaDoorQa10
import Derived.Test.YtpopljcmkbchcaaDoorQa11
import Derived.Test.YtpopljcmkbchcaaDoorQa12
import Derived.Test.YtpopljcmkbchcaaDoorQa13
import Derived.Test.YtpopljcmkbchcaaDoorQa14
import Derived.Test.YtpopljcmkbchcaaDoorQa15
import Derived.Test.YtpopljcmkbchcaaDoorQa16
import Derived.Test.YtpopljcmkbchcaaDoorQa17
import Derived.Test.YtpopljcmkbchcaaDoorQa18
import Derived.Test.YtpopljcmkbchcaaDoorQa19
import Derived.Test.YtpopljcmkbchcaaDoorQa20
import Derived.Test.YtpopljcmkbchcaaDoorQa21
import Derived.Test.YtpopljcmkbchcaaDoorQa22
import Derived.Test.YtpopljcmkbchcaaDoorQa23
import Derived.SizedLaws
import Derived.ProofKit
import Derived.OpenShut
import Derived.ShutString
import Derived.ChangeOld
import Derived.Below
import Derived.Deep.DeepHandedRow
import Derived.SliceStrings
set_option linter.unusedSimpArgs false
set_option linter.unusedVariables false
namespace Go.Proofs.YtpopljcmkbchcaaDoor
open Go.ChangeShapes Go.WideShapes Go.ChangeAt Go.RowKit
open Go.ChangeMaps (open_string shut_string)

set_option maxRecDepth 100000 in
theorem corsLess_contract (H : Type) (enc : TypeId × Value → H) (W : World) (base : Nat) (args : Array Value) (ds gs : List (DataW H)) (before : List MemPlace)
    (hval0 : ∀ (j : Nat) t v, Tryd.f3.params[j]? = some t → args[j]? = some v → Value.okWide Tryd.prog W .any base t v)
    (hW : DataW.Whole enc Tryd.prog Tryd.f3.params.toList Rows.corsLessSpec.vars false W args.toList ds gs before) (hwt : (DataW.weightsEach Tryd.prog (Tryd.f3.params.toList ++ (OpenSpec.ofChange Rows.corsLessSpec).bare.plain.varTypes Tryd.prog) (ds ++ gs)).all (· ≤ reachBytes) = true) (hL : laidMetH Tryd.prog laid8 W) (hsh : W.ShapedOpen Tryd.prog) :
    Calls Tryd.prog 3 args W fun e W' => ∃ v, e = .returned v ∧ Rows.corsLessSpec.post enc Tryd.prog Tryd.f3 false true false false W args v W' := by
  have laidOut : laidOutB Tryd.prog = true := by kernel_rfl
  have hgd := gd8_of_laid hL hsh
  have hg5 := g5_of_shaped hsh
  have hval : ∀ (j : Nat) t v, Tryd.f3.params[j]? = some t → args[j]? = some v → Value.okWide Tryd.prog W .any base t v := hval0
  have hW' := hW
  obtain ⟨p, q, hA0, hV, rfl, hfz, hnd⟩ := hW
  have hA : DataW.TrodAll enc Tryd.prog W 0 (fun _ => true) true Tryd.f3.params.toList args.toList ds p := hA0
  rw [Tryd.params3] at hA hval
  obtain ⟨v0, vs0, d0, ds0, p0, q0, hargs, rfl, rfl, h0, r0⟩ := trodAll_cons hA
  obtain ⟨v1, vs1, d1, ds1, p1, q1, rfl, rfl, rfl, h1, r1⟩ := trodAll_cons r0
  obtain ⟨v2, vs2, d2, ds2, p2, q2, rfl, rfl, rfl, h2, r2⟩ := trodAll_cons r1
  obtain ⟨v3, vs3, d3, ds3, p3, q3, rfl, rfl, rfl, h3, r3⟩ := trodAll_cons r2
  obtain ⟨rfl, rfl, rfl⟩ := trodAll_nil r3
  obtain rfl : args = #[v0, v1, v2, v3] := by cases args; simp_all
  obtain ⟨rfl, rfl⟩ := trodVars_none hV
  obtain ⟨a0, rfl, rfl, rfl, w0⟩ := open_string Tryd.underlying9 (hval 0 9 v0 rfl rfl) h0
  obtain ⟨a1, rfl, rfl, rfl, w1⟩ := open_string Tryd.underlying9 (hval 1 9 v1 rfl rfl) h1
  obtain ⟨a2, len2, cap2, rfl⟩ := okWide_slice Tryd.underlying22 (hval 2 22 v2 rfl rfl)
  have k2 := h2
  have lt2 : ∀ x ∈ p2, x.block < W.heap.size := by obtain ⟨m, hm⟩ := k2; exact DataW.trod_lt m _ _ _ hm
  obtain ⟨a3, rfl, rfl, rfl, w3⟩ := open_string Tryd.underlying9 (hval 3 9 v3 rfl rfl) h3
  have z0 : a0.size ≤ 140737488351232 := by have := sized_string hwt (j := 0) (t := 9) rfl rfl; simpa [reachBytes] using this
  have z1 : a1.size ≤ 140737488351232 := by have := sized_string hwt (j := 1) (t := 9) rfl rfl; simpa [reachBytes] using this
  obtain ⟨L2, w2, z2⟩ : ∃ L, HdAt W (.slice a2 len2 cap2) L ∧ Szd maxLen L := by
    obtain ⟨fuel, hf⟩ := h2
    exact hd_arg0 (by simpa [Value.cells] using hf)
  have z3 : a3.size ≤ 140737488351232 := by have := sized_string hwt (j := 3) (t := 9) rfl rfl; simpa [reachBytes] using this
  clear hA0 hval0
  refine (corsLess_walk a0 a1 _ L2 a3 W z0 z1 w2 z2 z3 hgd).mono fun e W' ⟨he, bel⟩ => ?_
  subst he
  exact ⟨_, rfl, _, _, _, [], _, [], hW', trodAll_mk1 (shut_bool Tryd.underlying4 _), (trodAll_cons_mk (shut_string Tryd.underlying9 w0) (trodAll_cons_mk (shut_string Tryd.underlying9 w1) (trodAll_cons_mk (Below.trod laidOut (by kernel_rfl) (of_decide_eq_true (by kernel_rfl)) k2 bel lt2) (trodAll_cons_mk (shut_string Tryd.underlying9 w3) trodAll_mk0)))), rfl, bel.frame _, fun h => by cases h⟩

theorem corsLess_reads (os : Os) {H : Type} (enc : TypeId × Value → H) : ∃ places, DataW.whole enc Tryd.prog ((startW os).forCall (fun _ _ => 0) ⟨#[], #[.string ByteArray.empty, .string ByteArray.empty, .slice none 0 0, .string ByteArray.empty], []⟩).memory Tryd.f3.params.toList Rows.corsLessSpec.vars false (#[.string ByteArray.empty, .string ByteArray.empty, .slice none 0 0, .string ByteArray.empty] : Array Value).toList 8 = some ([.lit (.string []), .lit (.string []), .nil, .lit (.string [])], [], places) :=
  ⟨[], by kernel_rfl⟩

set_option maxRecDepth 100000 in
theorem corsLess_lifted (os : Os) (started : os.Started) (H : Type) (enc : TypeId × Value → H) (F : Stop.Interp) :
    ReturnsInHanded {} Tryd.checked os 3 .any ((OpenSpec.ofChange Rows.corsLessSpec).preRow enc Tryd.prog Tryd.f3 Rows.corsLessRow.domain false Rows.corsLessRow.laid) (((OpenSpec.ofChange Rows.corsLessSpec).at F).post enc Tryd.prog Tryd.f3 false true false false) := by
  obtain ⟨places, hx⟩ := corsLess_reads os enc
  refine returnsInHanded_of_row (C := Tryd.checked) (s := OpenSpec.ofChange Rows.corsLessSpec) ownK started (by kernel_rfl) Tryd.func3
    (witness_row_atRef (enc := enc) (C := Tryd.checked) false (startW os) #[.string ByteArray.empty, .string ByteArray.empty, .slice none 0 0, .string ByteArray.empty] rfl (by kernel_rfl) (by kernel_rfl) (by kernel_rfl)
      (OpenSpec.preRow_of_cond 8 hx (by kernel_rfl) (fun k hk => by cases hk) (by kernel_rfl) (door_met os _))) ?_
  intro W base args ds gs before hval hW _ _ hwt hL hsh _
  exact corsLess_contract H enc W base args ds gs before hval hW hwt hL hsh

theorem corsLess_f1 : (Rows.corsLessRow.inPlace == Tryd.prog.inPlace 3) = true := by kernel_rfl
theorem corsLess_f2 : (Rows.corsLessRow.unfollowed == Tryd.prog.unfollowed 3) = true := by kernel_rfl
theorem corsLess_f3 : (Rows.corsLessRow.recurses == Tryd.prog.recurses 3) = true := by kernel_rfl
theorem corsLess_f4 : (Rows.corsLessRow.named == Tryd.prog.varsNamed 3) = true := by kernel_rfl
theorem corsLess_closed : joinedFacts Tryd.prog 3 Tryd.f3 (OpenSpec.ofChange Rows.corsLessSpec).bare Rows.corsLessRow = true := by
  unfold joinedFacts
  rw [corsLess_f1, corsLess_f2, corsLess_f3, corsLess_f4]
  kernel_rfl

theorem corsLess_said : Rows.CorsLessSaid :=
  OpenClaim.holds_of_cond 3 Tryd.f3 rfl rfl rfl rfl rfl rfl rfl ⟨rfl, rfl, rfl, rfl, rfl⟩ rfl rfl rfl rfl rfl (by kernel_rfl) Tryd.func3 corsLess_closed
    (of_decide_eq_true (by kernel_rfl)) (by unfold Func.isWrapper; rw [if_neg (by decide +kernel)]; exact ⟨rfl, rfl⟩)
    (fun os started H enc _ F => by rw [OpenClaim.pre_eq_preRow]; exact corsLess_lifted os started H enc F)

theorem corsLess_plain (f : FuncId) (fn : Func) (hf : Tryd.pinned.checked.prog.funcNamed "ostiary/ostiarylaw18.CorsLess" = some f) (hfn : Tryd.pinned.checked.prog.funcs[f]? = some fn) :
    false = Tryd.pinned.checked.prog.looks [] ∧ ∀ (j : Nat) t, fn.params[j]? = some t → Tryd.pinned.checked.prog.wantsStandIn t = false := by
  obtain rfl : f = 3 := Option.some.inj ((show Tryd.prog.funcNamed "ostiary/ostiarylaw18.CorsLess" = some 3 by kernel_rfl).symm.trans hf) |>.symm
  obtain rfl : fn = Tryd.f3 := (Option.some.inj (Tryd.func3.symm.trans hfn)).symm
  refine ⟨by kernel_rfl, fun j t ht => ?_⟩
  rw [Tryd.params3] at ht
  have ht2 : t = 9 ∨ t = 22 := by
    have := Array.mem_of_getElem? ht
    simp at this
    first | omega | exact this | (rcases this with h | h | h <;> simp [h]) | (rcases this with h | h | h | h <;> simp [h])
  rcases ht2 with rfl | rfl
  · exact (show Tryd.prog.wantsStandIn 9 = false by kernel_rfl)
  · exact (show Tryd.prog.wantsStandIn 22 = false by kernel_rfl)

theorem goes_none (P : Program) (c : OpenClaim) (hs : c.start = .entering) (h : P.funcs.any Func.goes = false) : false = c.goesBy P := by
  unfold OpenClaim.goesBy Program.goesAt
  rw [hs]
  unfold Program.goesFrom
  cases P.funcNamed c.func with
  | none => rfl
  | some f =>
    show false = (P.goes f || false)
    unfold Program.goes
    rw [h, Bool.and_false, Bool.or_false, Bool.or_false]
    symm
    rw [List.any_eq_false]
    intro g _
    cases hf : P.funcs[g]? with
    | none => simp
    | some fn =>
      have hm : fn ∈ P.funcs := Array.mem_of_getElem? hf
      have := Array.any_eq_false'.1 h fn hm
      simpa using this

theorem corsLess_goes : Tryd.prog.funcs.any Func.goes = false := by kernel_rfl

theorem corsLess_holds : Rows.CorsLessCardSaid :=
  Claim7.holds_tied_plain_at .later [] _ _ _ _ corsLess_said (fun _ h => by cases h) (by kernel_rfl) (fun _ h => by cases h) corsLess_row_tie rfl ⟨rfl, rfl⟩ (by kernel_rfl) rfl corsLess_plain (goes_none _ _ rfl corsLess_goes)

end Go.Proofs.YtpopljcmkbchcaaDoor
