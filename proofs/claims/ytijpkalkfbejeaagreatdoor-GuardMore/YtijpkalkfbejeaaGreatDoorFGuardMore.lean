/-
  GuardMore: for any policies, page and address one policy more violates no less and blocks no less, and policies that only report block nothing; no condition of mine.
-/
import Derived.Test.YtijpkalkfbejeaaGreatDoorCards
import Derived.Test.YtijpkalkfbejeaaGreatDoorTie
import Derived.Test.YtijpkalkfbejeaaGreatDoorQm1
import Derived.Test.YtijpkalkfbejeaaGreatDoorQm2
import Derived.Test.YtijpkalkfbejeaaGreatDoorQm3
import Derived.Test.YtijpkalkfbejeaaGreatDoorQm4
import Derived.Test.YtijpkalkfbejeaaGreatDoorQm5
import Derived.Test.YtijpkalkfbejeaaGreatDoorQm6
import Derived.Test.YtijpkalkfbejeaaGreatDoorQm7
import Derived.Test.YtijpkalkfbejeaaGreatDoorQm8
import Derived.Test.YtijpkalkfbejeaaGreatDoorQm9
import Derived.Test.YtijpkalkfbejeaaGreatDoorQm10
import Derived.Test.YtijpkalkfbejeaaGreatDoorQm11
import Derived.Test.YtijpkalkfbejeaaGreatDoorQm12
import Derived.Test.YtijpkalkfbejeaaGreatDoorQm13
import Derived.Test.YtijpkalkfbejeaaGreatDoorQm14
import Derived.Test.YtijpkalkfbejeaaGreatDoorQm15
import Derived.Test.YtijpkalkfbejeaaGreatDoorQm16
import Derived.Test.YtijpkalkfbejeaaGreatDoorQm17
import Derived.Test.YtijpkalkfbejeaaGreatDoorQm18
import Derived.Test.YtijpkalkfbejeaaGreatDoorQm19
import Derived.Test.YtijpkalkfbejeaaGreatDoorQm20
import Derived.Test.YtijpkalkfbejeaaGreatDoorQm21
import Derived.Test.YtijpkalkfbejeaaGreatDoorQm22
import Derived.Test.YtijpkalkfbejeaaGreatDoorQm23
import Derived.Test.YtijpkalkfbejeaaGreatDoorQm24
import Derived.Test.YtijpkalkfbejeaaGreatDoorQm25
import Derived.Test.YtijpkalkfbejeaaGreatDoorQm26
import Derived.Test.YtijpkalkfbejeaaGreatDoorQm27
import Derived.Test.YtijpkalkfbejeaaGreatDoorQm28
import Derived.Test.YtijpkalkfbejeaaGreatDoorQm29
import Derived.Test.YtijpkalkfbejeaaGreatDoorQm30
import Derived.Test.YtijpkalkfbejeaaGreatDoorQm31
import Derived.Test.YtijpkalkfbejeaaGreatDoorQm32
import Derived.Test.YtijpkalkfbejeaaGreatDoorQm33
import Derived.Test.YtijpkalkfbejeaaGreatDoorQm34
import Derived.Test.YtijpkalkfbejeaaGreatDoorQm35
import Derived.Test.YtijpkalkfbejeaaGreatDoorQm36
import Derived.Test.YtijpkalkfbejeaaGreatDoorQm37
import Derived.Test.YtijpkalkfbejeaaGreatDoorQm38
import Derived.Test.YtijpkalkfbejeaaGreatDoorQm39
import Derived.Test.YtijpkalkfbejeaaGreatDoorQm40
import Derived.SizedLaws
import Derived.ProofKit
import Derived.OpenShut
import Derived.ShutString
import Derived.ChangeOld
import Derived.Below
import Derived.Deep.DeepHandedRow
import Derived.SliceStrings
set_option linter.unusedSimpArgs false
set_option linter.unusedVariables false
namespace Go.Proofs.YtijpkalkfbejeaaGreatDoor
open Go.ChangeShapes Go.WideShapes Go.ChangeAt Go.RowKit
open Go.ChangeMaps (open_string shut_string)

set_option maxRecDepth 100000 in
theorem guardMore_contract (H : Type) (enc : TypeId × Value → H) (W : World) (base : Nat) (args : Array Value) (ds gs : List (DataW H)) (before : List MemPlace)
    (hval0 : ∀ (j : Nat) t v, Tryz.f3.params[j]? = some t → args[j]? = some v → Value.okWide Tryz.prog W .any base t v)
    (hW : DataW.Whole enc Tryz.prog Tryz.f3.params.toList Rows.guardMoreSpec.vars false W args.toList ds gs before) (hwt : (DataW.weightsEach Tryz.prog (Tryz.f3.params.toList ++ (OpenSpec.ofChange Rows.guardMoreSpec).bare.plain.varTypes Tryz.prog) (ds ++ gs)).all (· ≤ reachBytes) = true) (hL : laidMetH Tryz.prog laid7 W) (hsh : W.ShapedOpen Tryz.prog) :
    Calls Tryz.prog 3 args W fun e W' => ∃ v, e = .returned v ∧ Rows.guardMoreSpec.post enc Tryz.prog Tryz.f3 false true false false W args v W' := by
  have laidOut : laidOutB Tryz.prog = true := by kernel_rfl
  have hgd := gd7_of_laid hL hsh
  have hg5 := g5_of_shaped hsh
  have hval : ∀ (j : Nat) t v, Tryz.f3.params[j]? = some t → args[j]? = some v → Value.okWide Tryz.prog W .any base t v := hval0
  have hW' := hW
  obtain ⟨p, q, hA0, hV, rfl, hfz, hnd⟩ := hW
  have hA : DataW.TrodAll enc Tryz.prog W 0 (fun _ => true) true Tryz.f3.params.toList args.toList ds p := hA0
  rw [Tryz.params3] at hA hval
  obtain ⟨v0, vs0, d0, ds0, p0, q0, hargs, rfl, rfl, h0, r0⟩ := trodAll_cons hA
  obtain ⟨v1, vs1, d1, ds1, p1, q1, rfl, rfl, rfl, h1, r1⟩ := trodAll_cons r0
  obtain ⟨v2, vs2, d2, ds2, p2, q2, rfl, rfl, rfl, h2, r2⟩ := trodAll_cons r1
  obtain ⟨v3, vs3, d3, ds3, p3, q3, rfl, rfl, rfl, h3, r3⟩ := trodAll_cons r2
  obtain ⟨v4, vs4, d4, ds4, p4, q4, rfl, rfl, rfl, h4, r4⟩ := trodAll_cons r3
  obtain ⟨rfl, rfl, rfl⟩ := trodAll_nil r4
  obtain rfl : args = #[v0, v1, v2, v3, v4] := by cases args; simp_all
  obtain ⟨rfl, rfl⟩ := trodVars_none hV
  obtain ⟨a0, len0, cap0, rfl⟩ := okWide_slice Tryz.underlying22 (hval 0 22 v0 rfl rfl)
  have k0 := h0
  have lt0 : ∀ x ∈ p0, x.block < W.heap.size := by obtain ⟨m, hm⟩ := k0; exact DataW.trod_lt m _ _ _ hm
  obtain ⟨L0, w0, z0⟩ : ∃ L, TxAt W (.slice a0 len0 cap0) L ∧ ∀ y ∈ L, y.length ≤ maxLen := by
    obtain ⟨fuel, hf⟩ := h0
    rcases open_strings Tryz.underlying22 Tryz.underlying9 (by kernel_rfl) hf with ⟨hcs, _⟩ | ⟨x, l, c, ss, hcs, _, hl, hm, hz, _, hcell, hws⟩
    · simp [Value.cells] at hcs
      obtain ⟨rfl, rfl, rfl⟩ := hcs
      exact ⟨[], tx_nil _, fun y hy => by simp at hy⟩
    · simp [Value.cells] at hcs
      obtain ⟨rfl, rfl, rfl⟩ := hcs
      exact tx_arg hl hm (by simpa using hz) hcell hws
  obtain ⟨a1, rfl, rfl, rfl, w1⟩ := open_string Tryz.underlying9 (hval 1 9 v1 rfl rfl) h1
  obtain ⟨a2, rfl, rfl, rfl, w2⟩ := open_string Tryz.underlying9 (hval 2 9 v2 rfl rfl) h2
  obtain ⟨a3, rfl, rfl, rfl, w3⟩ := open_string Tryz.underlying9 (hval 3 9 v3 rfl rfl) h3
  obtain ⟨a4, rfl, rfl, rfl, w4⟩ := open_int Tryz.underlying3 (hval 4 3 v4 rfl rfl) h4
  have z1 : a1.size ≤ 140737488351232 := by have := sized_string hwt (j := 1) (t := 9) rfl rfl; simpa [reachBytes] using this
  have z2 : a2.size ≤ 140737488351232 := by have := sized_string hwt (j := 2) (t := 9) rfl rfl; simpa [reachBytes] using this
  have z3 : a3.size ≤ 140737488351232 := by have := sized_string hwt (j := 3) (t := 9) rfl rfl; simpa [reachBytes] using this
  clear hA0 hval0
  refine (guardMore_walk _ L0 a1 a2 a3 a4 W w0 z0 z1 z2 z3 hgd).mono fun e W' ⟨he, bel⟩ => ?_
  subst he
  exact ⟨_, rfl, _, _, _, [], _, [], hW', trodAll_mk1 (shut_bool Tryz.underlying4 _), (trodAll_cons_mk (Below.trod laidOut (by kernel_rfl) (of_decide_eq_true (by kernel_rfl)) k0 bel lt0) (trodAll_cons_mk (shut_string Tryz.underlying9 w1) (trodAll_cons_mk (shut_string Tryz.underlying9 w2) (trodAll_cons_mk (shut_string Tryz.underlying9 w3) (trodAll_cons_mk (shut_int Tryz.underlying3 w4) trodAll_mk0))))), rfl, bel.frame _, fun h => by cases h⟩

theorem guardMore_reads (os : Os) {H : Type} (enc : TypeId × Value → H) : ∃ places, DataW.whole enc Tryz.prog ((startW os).forCall (fun _ _ => 0) ⟨#[], #[.slice none 0 0, .string ByteArray.empty, .string ByteArray.empty, .string ByteArray.empty, .int .i64 0], []⟩).memory Tryz.f3.params.toList Rows.guardMoreSpec.vars false (#[.slice none 0 0, .string ByteArray.empty, .string ByteArray.empty, .string ByteArray.empty, .int .i64 0] : Array Value).toList 8 = some ([.nil, .lit (.string []), .lit (.string []), .lit (.string []), .lit (.int .i64 0)], [], places) :=
  ⟨[], by kernel_rfl⟩

set_option maxRecDepth 100000 in
theorem guardMore_lifted (os : Os) (started : os.Started) (H : Type) (enc : TypeId × Value → H) (F : Stop.Interp) :
    ReturnsInHanded {} Tryz.checked os 3 .any ((OpenSpec.ofChange Rows.guardMoreSpec).preRow enc Tryz.prog Tryz.f3 Rows.guardMoreRow.domain false Rows.guardMoreRow.laid) (((OpenSpec.ofChange Rows.guardMoreSpec).at F).post enc Tryz.prog Tryz.f3 false true false false) := by
  obtain ⟨places, hx⟩ := guardMore_reads os enc
  refine returnsInHanded_of_row (C := Tryz.checked) (s := OpenSpec.ofChange Rows.guardMoreSpec) ownK started (by kernel_rfl) Tryz.func3
    (witness_row_at (enc := enc) (C := Tryz.checked) false (startW os) #[.slice none 0 0, .string ByteArray.empty, .string ByteArray.empty, .string ByteArray.empty, .int .i64 0] rfl (by kernel_rfl) (by kernel_rfl) (by kernel_rfl)
      (OpenSpec.preRow_of_cond 8 hx (by kernel_rfl) (fun k hk => by cases hk) (by kernel_rfl) (door_met os _))) ?_
  intro W base args ds gs before hval hW _ _ hwt hL hsh _
  exact guardMore_contract H enc W base args ds gs before hval hW hwt hL hsh

theorem guardMore_f1 : (Rows.guardMoreRow.inPlace == Tryz.prog.inPlace 3) = true := by kernel_rfl
theorem guardMore_f2 : (Rows.guardMoreRow.unfollowed == Tryz.prog.unfollowed 3) = true := by kernel_rfl
theorem guardMore_f3 : (Rows.guardMoreRow.recurses == Tryz.prog.recurses 3) = true := by kernel_rfl
theorem guardMore_f4 : (Rows.guardMoreRow.named == Tryz.prog.varsNamed 3) = true := by kernel_rfl
theorem guardMore_closed : joinedFacts Tryz.prog 3 Tryz.f3 (OpenSpec.ofChange Rows.guardMoreSpec).bare Rows.guardMoreRow = true := by
  unfold joinedFacts
  rw [guardMore_f1, guardMore_f2, guardMore_f3, guardMore_f4]
  kernel_rfl

theorem guardMore_said : Rows.GuardMoreSaid :=
  OpenClaim.holds_of_cond 3 Tryz.f3 rfl rfl rfl rfl rfl rfl rfl ⟨rfl, rfl, rfl, rfl, rfl⟩ rfl rfl rfl rfl rfl (by kernel_rfl) Tryz.func3 guardMore_closed
    (of_decide_eq_true (by kernel_rfl)) (by unfold Func.isWrapper; rw [if_neg (by decide +kernel)]; exact ⟨rfl, rfl⟩)
    (fun os started H enc _ F => by rw [OpenClaim.pre_eq_preRow]; exact guardMore_lifted os started H enc F)

theorem guardMore_plain (f : FuncId) (fn : Func) (hf : Tryz.pinned.checked.prog.funcNamed "ostiary/ostiarylaw12.GuardMore" = some f) (hfn : Tryz.pinned.checked.prog.funcs[f]? = some fn) :
    false = Tryz.pinned.checked.prog.looks [] ∧ ∀ (j : Nat) t, fn.params[j]? = some t → Tryz.pinned.checked.prog.wantsStandIn t = false := by
  obtain rfl : f = 3 := Option.some.inj ((show Tryz.prog.funcNamed "ostiary/ostiarylaw12.GuardMore" = some 3 by kernel_rfl).symm.trans hf) |>.symm
  obtain rfl : fn = Tryz.f3 := (Option.some.inj (Tryz.func3.symm.trans hfn)).symm
  refine ⟨by kernel_rfl, fun j t ht => ?_⟩
  rw [Tryz.params3] at ht
  have ht2 : t = 22 ∨ t = 9 ∨ t = 3 := by
    have := Array.mem_of_getElem? ht
    simp at this
    omega
  rcases ht2 with rfl | rfl | rfl
  · exact (show Tryz.prog.wantsStandIn 22 = false by kernel_rfl)
  · exact (show Tryz.prog.wantsStandIn 9 = false by kernel_rfl)
  · exact (show Tryz.prog.wantsStandIn 3 = false by kernel_rfl)

theorem goes_none (P : Program) (c : OpenClaim) (hs : c.start = .entering) (h : P.funcs.any Func.goes = false) : false = c.goesBy P := by
  unfold OpenClaim.goesBy Program.goesAt
  rw [hs]
  unfold Program.goesFrom
  cases P.funcNamed c.func with
  | none => rfl
  | some f =>
    show false = (P.goes f || false)
    unfold Program.goes
    rw [h, Bool.and_false, Bool.or_false, Bool.or_false]
    symm
    rw [List.any_eq_false]
    intro g _
    cases hf : P.funcs[g]? with
    | none => simp
    | some fn =>
      have hm : fn ∈ P.funcs := Array.mem_of_getElem? hf
      have := Array.any_eq_false'.1 h fn hm
      simpa using this

theorem guardMore_goes : Tryz.prog.funcs.any Func.goes = false := by kernel_rfl

theorem guardMore_holds : Rows.GuardMoreCardSaid :=
  Claim7.holds_tied_plain_at .later [] _ _ _ _ guardMore_said (fun _ h => by cases h) (by kernel_rfl) (fun _ h => by cases h) guardMore_row_tie rfl ⟨rfl, rfl⟩ (by kernel_rfl) rfl guardMore_plain (goes_none _ _ rfl guardMore_goes)

end Go.Proofs.YtijpkalkfbejeaaGreatDoor
