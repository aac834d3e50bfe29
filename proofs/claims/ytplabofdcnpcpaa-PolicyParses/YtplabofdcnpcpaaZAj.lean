/-
  The walks of the document's own Chain and For of chapter 10.
-/
import Derived.Test.YtplabofdcnpcpaaZAi
set_option linter.unusedSimpArgs false
set_option linter.unusedVariables false
namespace Go.Proofs.Ytplabofdcnpcpaa
open Go.RowKit

set_option maxHeartbeats 1000000 in
set_option maxRecDepth 100000 in
theorem rchain_nSe (w : World) : Calls Try.prog 10 #[.string ⟨#[115, 99, 114, 105, 112, 116, 45, 115, 114, 99, 45, 101, 108, 101, 109]⟩] w (OwnT [nSe, nSc, nDe] w) := by
  go_enter Try.func10, Try.ntmps10
  go_wp2
  go_ret
  refine ⟨_, rfl, ?_, (Below.refl _ w).alloc (Nat.le_refl _) _⟩
  exact ⟨rfl, .inr ⟨w.heap.size, 3, _, rfl, Nat.le_refl _, heap_alloc_new w _, Nat.le_refl _, by decide, rfl, rfl⟩⟩

set_option maxHeartbeats 1000000 in
set_option maxRecDepth 100000 in
theorem rchain_nYe (w : World) : Calls Try.prog 10 #[.string ⟨#[115, 116, 121, 108, 101, 45, 115, 114, 99, 45, 101, 108, 101, 109]⟩] w (OwnT [nYe, nSt, nDe] w) := by
  go_enter Try.func10, Try.ntmps10
  go_wp2
  go_ret
  refine ⟨_, rfl, ?_, (Below.refl _ w).alloc (Nat.le_refl _) _⟩
  exact ⟨rfl, .inr ⟨w.heap.size, 3, _, rfl, Nat.le_refl _, heap_alloc_new w _, Nat.le_refl _, by decide, rfl, rfl⟩⟩

set_option maxHeartbeats 1000000 in
set_option maxRecDepth 100000 in
theorem rchain_nWk (w : World) : Calls Try.prog 10 #[.string ⟨#[119, 111, 114, 107, 101, 114, 45, 115, 114, 99]⟩] w (OwnT [nWk, nCh, nSc, nDe] w) := by
  go_enter Try.func10, Try.ntmps10
  go_wp2
  go_ret
  refine ⟨_, rfl, ?_, (Below.refl _ w).alloc (Nat.le_refl _) _⟩
  exact ⟨rfl, .inr ⟨w.heap.size, 4, _, rfl, Nat.le_refl _, heap_alloc_new w _, Nat.le_refl _, by decide, rfl, rfl⟩⟩

set_option maxHeartbeats 1000000 in
set_option maxRecDepth 100000 in
theorem rchain_nFr (w : World) : Calls Try.prog 10 #[.string ⟨#[102, 114, 97, 109, 101, 45, 115, 114, 99]⟩] w (OwnT [nFr, nCh, nDe] w) := by
  go_enter Try.func10, Try.ntmps10
  go_wp2
  go_ret
  refine ⟨_, rfl, ?_, (Below.refl _ w).alloc (Nat.le_refl _) _⟩
  exact ⟨rfl, .inr ⟨w.heap.size, 3, _, rfl, Nat.le_refl _, heap_alloc_new w _, Nat.le_refl _, by decide, rfl, rfl⟩⟩

set_option maxHeartbeats 1000000 in
set_option maxRecDepth 100000 in
theorem rchain_nCo (w : World) : Calls Try.prog 10 #[.string ⟨#[99, 111, 110, 110, 101, 99, 116, 45, 115, 114, 99]⟩] w (OwnT [nCo, nDe] w) := by
  go_enter Try.func10, Try.ntmps10
  go_wp2
  go_ret
  refine ⟨_, rfl, ?_, (Below.refl _ w).alloc (Nat.le_refl _) _⟩
  exact ⟨rfl, .inr ⟨w.heap.size, 2, _, rfl, Nat.le_refl _, heap_alloc_new w _, Nat.le_refl _, by decide, rfl, rfl⟩⟩

set_option maxHeartbeats 1000000 in
set_option maxRecDepth 100000 in
theorem rchain_nFo (w : World) : Calls Try.prog 10 #[.string ⟨#[102, 111, 110, 116, 45, 115, 114, 99]⟩] w (OwnT [nFo, nDe] w) := by
  go_enter Try.func10, Try.ntmps10
  go_wp2
  go_ret
  refine ⟨_, rfl, ?_, (Below.refl _ w).alloc (Nat.le_refl _) _⟩
  exact ⟨rfl, .inr ⟨w.heap.size, 2, _, rfl, Nat.le_refl _, heap_alloc_new w _, Nat.le_refl _, by decide, rfl, rfl⟩⟩

set_option maxHeartbeats 1000000 in
set_option maxRecDepth 100000 in
theorem rchain_nIm (w : World) : Calls Try.prog 10 #[.string ⟨#[105, 109, 103, 45, 115, 114, 99]⟩] w (OwnT [nIm, nDe] w) := by
  go_enter Try.func10, Try.ntmps10
  go_wp2
  go_ret
  refine ⟨_, rfl, ?_, (Below.refl _ w).alloc (Nat.le_refl _) _⟩
  exact ⟨rfl, .inr ⟨w.heap.size, 2, _, rfl, Nat.le_refl _, heap_alloc_new w _, Nat.le_refl _, by decide, rfl, rfl⟩⟩

set_option maxHeartbeats 1000000 in
set_option maxRecDepth 100000 in
theorem rchain_nMe (w : World) : Calls Try.prog 10 #[.string ⟨#[109, 101, 100, 105, 97, 45, 115, 114, 99]⟩] w (OwnT [nMe, nDe] w) := by
  go_enter Try.func10, Try.ntmps10
  go_wp2
  go_ret
  refine ⟨_, rfl, ?_, (Below.refl _ w).alloc (Nat.le_refl _) _⟩
  exact ⟨rfl, .inr ⟨w.heap.size, 2, _, rfl, Nat.le_refl _, heap_alloc_new w _, Nat.le_refl _, by decide, rfl, rfl⟩⟩

set_option maxHeartbeats 1000000 in
set_option maxRecDepth 100000 in
theorem rchain_nSc (w : World) : Calls Try.prog 10 #[.string ⟨#[115, 99, 114, 105, 112, 116, 45, 115, 114, 99]⟩] w (OwnT [nSc, nDe] w) := by
  go_enter Try.func10, Try.ntmps10
  go_wp2
  go_ret
  refine ⟨_, rfl, ?_, (Below.refl _ w).alloc (Nat.le_refl _) _⟩
  exact ⟨rfl, .inr ⟨w.heap.size, 2, _, rfl, Nat.le_refl _, heap_alloc_new w _, Nat.le_refl _, by decide, rfl, rfl⟩⟩

set_option maxHeartbeats 1000000 in
set_option maxRecDepth 100000 in
theorem rchain_nSt (w : World) : Calls Try.prog 10 #[.string ⟨#[115, 116, 121, 108, 101, 45, 115, 114, 99]⟩] w (OwnT [nSt, nDe] w) := by
  go_enter Try.func10, Try.ntmps10
  go_wp2
  go_ret
  refine ⟨_, rfl, ?_, (Below.refl _ w).alloc (Nat.le_refl _) _⟩
  exact ⟨rfl, .inr ⟨w.heap.size, 2, _, rfl, Nat.le_refl _, heap_alloc_new w _, Nat.le_refl _, by decide, rfl, rfl⟩⟩

set_option maxHeartbeats 1000000 in
set_option maxRecDepth 100000 in
theorem rchain_nCh (w : World) : Calls Try.prog 10 #[.string ⟨#[99, 104, 105, 108, 100, 45, 115, 114, 99]⟩] w (OwnT [nCh, nDe] w) := by
  go_enter Try.func10, Try.ntmps10
  go_wp2
  go_ret
  refine ⟨_, rfl, ?_, (Below.refl _ w).alloc (Nat.le_refl _) _⟩
  exact ⟨rfl, .inr ⟨w.heap.size, 2, _, rfl, Nat.le_refl _, heap_alloc_new w _, Nat.le_refl _, by decide, rfl, rfl⟩⟩

set_option maxHeartbeats 1000000 in
set_option maxRecDepth 100000 in
theorem rchain_nOb (w : World) : Calls Try.prog 10 #[.string ⟨#[111, 98, 106, 101, 99, 116, 45, 115, 114, 99]⟩] w (OwnT [nOb, nDe] w) := by
  go_enter Try.func10, Try.ntmps10
  go_wp2
  go_ret
  refine ⟨_, rfl, ?_, (Below.refl _ w).alloc (Nat.le_refl _) _⟩
  exact ⟨rfl, .inr ⟨w.heap.size, 2, _, rfl, Nat.le_refl _, heap_alloc_new w _, Nat.le_refl _, by decide, rfl, rfl⟩⟩

set_option maxHeartbeats 1000000 in
set_option maxRecDepth 100000 in
theorem rchain_nDe (w : World) : Calls Try.prog 10 #[.string ⟨#[100, 101, 102, 97, 117, 108, 116, 45, 115, 114, 99]⟩] w (OwnT [nDe] w) := by
  go_enter Try.func10, Try.ntmps10
  go_wp2
  go_ret
  refine ⟨_, rfl, ?_, (Below.refl _ w).alloc (Nat.le_refl _) _⟩
  exact ⟨rfl, .inr ⟨w.heap.size, 1, _, rfl, Nat.le_refl _, heap_alloc_new w _, Nat.le_refl _, by decide, rfl, rfl⟩⟩

set_option maxHeartbeats 2000000 in
theorem rchain10 (s : ByteArray) (w : World) : Calls Try.prog 10 #[.string s] w (OwnT (chainV s.data.toList) w) := by
  by_cases h0 : s.data.toList = nSe
  · have hs : s = ⟨#[115, 99, 114, 105, 112, 116, 45, 115, 114, 99, 45, 101, 108, 101, 109]⟩ := by rw [← Lib.mk_data s, h0]
    rw [show chainV s.data.toList = [nSe, nSc, nDe] by rw [h0]; decide +kernel, hs]
    exact rchain_nSe w
  by_cases h1 : s.data.toList = nYe
  · have hs : s = ⟨#[115, 116, 121, 108, 101, 45, 115, 114, 99, 45, 101, 108, 101, 109]⟩ := by rw [← Lib.mk_data s, h1]
    rw [show chainV s.data.toList = [nYe, nSt, nDe] by rw [h1]; decide +kernel, hs]
    exact rchain_nYe w
  by_cases h2 : s.data.toList = nWk
  · have hs : s = ⟨#[119, 111, 114, 107, 101, 114, 45, 115, 114, 99]⟩ := by rw [← Lib.mk_data s, h2]
    rw [show chainV s.data.toList = [nWk, nCh, nSc, nDe] by rw [h2]; decide +kernel, hs]
    exact rchain_nWk w
  by_cases h3 : s.data.toList = nFr
  · have hs : s = ⟨#[102, 114, 97, 109, 101, 45, 115, 114, 99]⟩ := by rw [← Lib.mk_data s, h3]
    rw [show chainV s.data.toList = [nFr, nCh, nDe] by rw [h3]; decide +kernel, hs]
    exact rchain_nFr w
  by_cases h4 : s.data.toList = nCo
  · have hs : s = ⟨#[99, 111, 110, 110, 101, 99, 116, 45, 115, 114, 99]⟩ := by rw [← Lib.mk_data s, h4]
    rw [show chainV s.data.toList = [nCo, nDe] by rw [h4]; decide +kernel, hs]
    exact rchain_nCo w
  by_cases h5 : s.data.toList = nFo
  · have hs : s = ⟨#[102, 111, 110, 116, 45, 115, 114, 99]⟩ := by rw [← Lib.mk_data s, h5]
    rw [show chainV s.data.toList = [nFo, nDe] by rw [h5]; decide +kernel, hs]
    exact rchain_nFo w
  by_cases h6 : s.data.toList = nIm
  · have hs : s = ⟨#[105, 109, 103, 45, 115, 114, 99]⟩ := by rw [← Lib.mk_data s, h6]
    rw [show chainV s.data.toList = [nIm, nDe] by rw [h6]; decide +kernel, hs]
    exact rchain_nIm w
  by_cases h7 : s.data.toList = nMe
  · have hs : s = ⟨#[109, 101, 100, 105, 97, 45, 115, 114, 99]⟩ := by rw [← Lib.mk_data s, h7]
    rw [show chainV s.data.toList = [nMe, nDe] by rw [h7]; decide +kernel, hs]
    exact rchain_nMe w
  by_cases h8 : s.data.toList = nSc
  · have hs : s = ⟨#[115, 99, 114, 105, 112, 116, 45, 115, 114, 99]⟩ := by rw [← Lib.mk_data s, h8]
    rw [show chainV s.data.toList = [nSc, nDe] by rw [h8]; decide +kernel, hs]
    exact rchain_nSc w
  by_cases h9 : s.data.toList = nSt
  · have hs : s = ⟨#[115, 116, 121, 108, 101, 45, 115, 114, 99]⟩ := by rw [← Lib.mk_data s, h9]
    rw [show chainV s.data.toList = [nSt, nDe] by rw [h9]; decide +kernel, hs]
    exact rchain_nSt w
  by_cases h10 : s.data.toList = nCh
  · have hs : s = ⟨#[99, 104, 105, 108, 100, 45, 115, 114, 99]⟩ := by rw [← Lib.mk_data s, h10]
    rw [show chainV s.data.toList = [nCh, nDe] by rw [h10]; decide +kernel, hs]
    exact rchain_nCh w
  by_cases h11 : s.data.toList = nOb
  · have hs : s = ⟨#[111, 98, 106, 101, 99, 116, 45, 115, 114, 99]⟩ := by rw [← Lib.mk_data s, h11]
    rw [show chainV s.data.toList = [nOb, nDe] by rw [h11]; decide +kernel, hs]
    exact rchain_nOb w
  by_cases h12 : s.data.toList = nDe
  · have hs : s = ⟨#[100, 101, 102, 97, 117, 108, 116, 45, 115, 114, 99]⟩ := by rw [← Lib.mk_data s, h12]
    rw [show chainV s.data.toList = [nDe] by rw [h12]; decide +kernel, hs]
    exact rchain_nDe w
  rw [chain_none s.data.toList h0 h1 h2 h3 h4 h5 h6 h7 h8 h9 h10 h11 h12]
  have e0 := beq_no10 s nSe h0
  have e1 := beq_no10 s nYe h1
  have e2 := beq_no10 s nWk h2
  have e3 := beq_no10 s nFr h3
  have e4 := beq_no10 s nCo h4
  have e5 := beq_no10 s nFo h5
  have e6 := beq_no10 s nIm h6
  have e7 := beq_no10 s nMe h7
  have e8 := beq_no10 s nSc h8
  have e9 := beq_no10 s nSt h9
  have e10 := beq_no10 s nCh h10
  have e11 := beq_no10 s nOb h11
  have e12 := beq_no10 s nDe h12
  clear h0 h1 h2 h3 h4 h5 h6 h7 h8 h9 h10 h11 h12
  go_enter Try.func10, Try.ntmps10
  go_wp2_with fail
  go_ret
  exact ⟨_, rfl, World.ownsRow_nil _ _ _ _, Below.refl _ _⟩

set_option maxHeartbeats 1000000 in
theorem rfor10 (d : Int) (w : World) : Calls Try.prog 12 #[.int .i64 d] w fun e w' => e = .returned (.string ⟨(forV d).toArray⟩) ∧ w = w' := by
  by_cases h1 : d = 1
  · subst h1
    go_enter Try.func12, Try.ntmps12
    go_wp2
    go_ret
    exact ⟨rfl, rfl⟩
  by_cases h2 : d = 2
  · subst h2
    go_enter Try.func12, Try.ntmps12
    go_wp2
    go_ret
    exact ⟨rfl, rfl⟩
  by_cases h3 : d = 3
  · subst h3
    go_enter Try.func12, Try.ntmps12
    go_wp2
    go_ret
    exact ⟨rfl, rfl⟩
  by_cases h4 : d = 4
  · subst h4
    go_enter Try.func12, Try.ntmps12
    go_wp2
    go_ret
    exact ⟨rfl, rfl⟩
  by_cases h5 : d = 5
  · subst h5
    go_enter Try.func12, Try.ntmps12
    go_wp2
    go_ret
    exact ⟨rfl, rfl⟩
  by_cases h6 : d = 6
  · subst h6
    go_enter Try.func12, Try.ntmps12
    go_wp2
    go_ret
    exact ⟨rfl, rfl⟩
  have HF := hid (show forV d = [] by unfold forV; rw [if_neg h1, if_neg h2, if_neg h3, if_neg h4, if_neg h5, if_neg h6])
  have e1 : (d == 1) = false := by rw [beq_eq_false_iff_ne]; exact h1
  have e2 : (d == 2) = false := by rw [beq_eq_false_iff_ne]; exact h2
  have e3 : (d == 3) = false := by rw [beq_eq_false_iff_ne]; exact h3
  have e4 : (d == 4) = false := by rw [beq_eq_false_iff_ne]; exact h4
  have e5 : (d == 5) = false := by rw [beq_eq_false_iff_ne]; exact h5
  have e6 : (d == 6) = false := by rw [beq_eq_false_iff_ne]; exact h6
  clear h1 h2 h3 h4 h5 h6
  go_enter Try.func12, Try.ntmps12
  go_wp2
  go_ret
  rw [HF.out]
  exact ⟨rfl, rfl⟩

end Go.Proofs.Ytplabofdcnpcpaa
