/-
  Plain facts of policies, for the laws: the first rule of a name counts; runs.
-/
import Derived.Test.YtplabofdcnpcpaaAb
set_option linter.unusedSimpArgs false
set_option linter.unusedVariables false
namespace Go.Proofs.Ytplabofdcnpcpaa

theorem polF_step (r : Ru) (h : (59 : UInt8) ∉ txR r) (t : List UInt8) (M : List Ru) (hM : M.length < 32) : polF (pcV 59 (txR r ++ 59 :: 32 :: t)) M = polF (pcV 59 t) (addR M (txR r)) := by
  rw [pcV_some 59 _ _ h, polF, if_neg (by omega), polF_lead]

theorem add_new {L : List Ru} {r : Ru} (h : OkR r) (hn : hasR L r.name = false) : addR L (txR r) = L ++ [r] := by
  unfold addR
  rw [rule_txR r h]
  simp [hn]

/-- Small letters. -/
def ltW (x : List UInt8) : Prop := x ≠ [] ∧ ∀ c ∈ x, 97 ≤ c.toNat ∧ c.toNat ≤ 122

theorem ltW.ok {x : List UInt8} (h : ltW x) : OkW x := by
  refine ⟨h.1, fun c hc => ?_⟩
  have h1 := h.2 c hc
  refine ⟨?_, fun e => ?_⟩
  · unfold bl9 p9
    simp
    omega
  · rw [e] at h1
    revert h1
    decide

theorem okw_lit (n : List UInt8) (h : (decide (n ≠ []) && n.all fun c => !bl9 c && decide (c ≠ 59)) = true) : OkW n := by
  simp only [Bool.and_eq_true, decide_eq_true_eq, List.all_eq_true, Bool.not_eq_true'] at h
  exact ⟨h.1, fun c hc => h.2 c hc⟩

theorem okr_of {n : List UInt8} {vs : List (List UInt8)} (h : (decide (n ≠ []) && n.all fun c => !bl9 c && decide (c ≠ 59)) = true) (hl : low n = n) (hv : ∀ v ∈ vs, OkW v) : OkR ⟨n, vs⟩ := ⟨okw_lit n h, hl, hv⟩

abbrev tOther : List UInt8 := [73, 109, 103, 45, 83, 114, 99, 32, 111, 116, 104, 101, 114]

theorem first_1 (x y : List UInt8) (hx : ltW x) (hy : ltW y) : polV (nDe ++ 32 :: x ++ 59 :: 32 :: (nIm ++ 32 :: y ++ 59 :: 32 :: tOther)) = [⟨nDe, [x]⟩, ⟨nIm, [y]⟩] := by
  have h1 : OkR ⟨nDe, [x]⟩ := okr_of (by decide +kernel) (by decide +kernel) (fun v hv => by rw [List.mem_singleton.1 hv]; exact hx.ok)
  have h2 : OkR ⟨nIm, [y]⟩ := okr_of (by decide +kernel) (by decide +kernel) (fun v hv => by rw [List.mem_singleton.1 hv]; exact hy.ok)
  have e1 : nDe ++ 32 :: x = txR ⟨nDe, [x]⟩ := by simp [txR]
  have e2 : nIm ++ 32 :: y = txR ⟨nIm, [y]⟩ := by simp [txR]
  unfold polV
  rw [e1, e2, polF_step _ (txR_semi _ h1) _ _ (by decide), add_new h1 rfl, polF_step _ (txR_semi _ h2) _ _ (by simp), add_new h2 (by simp [hasR])]
  have e3 : ruleV tOther = some ⟨nIm, [[111, 116, 104, 101, 114]]⟩ := by decide +kernel
  rw [pcV_none 59 _ (by decide +kernel), polF, if_neg (by simp), polF]
  unfold addR
  rw [e3]
  show (if hasR [⟨nDe, [x]⟩, ⟨nIm, [y]⟩] nIm = true then _ else _) = _
  rw [if_pos (by simp [hasR])]
  rfl

theorem first_2 (x : List UInt8) (hx : ltW x) : polV (nSc ++ 32 :: x) = [⟨nSc, [x]⟩] := by
  have h1 : OkR ⟨nSc, [x]⟩ := okr_of (by decide +kernel) (by decide +kernel) (fun v hv => by rw [List.mem_singleton.1 hv]; exact hx.ok)
  have e1 : nSc ++ 32 :: x = txR ⟨nSc, [x]⟩ := by simp [txR]
  unfold polV
  rw [e1, pcV_none 59 _ (txR_semi _ h1), polF, if_neg (by simp), add_new h1 rfl]
  rfl

theorem first_3 (x : List UInt8) (hx : ltW x) : polV (nDe ++ 32 :: [97] ++ 59 :: 32 :: (nSc ++ 32 :: x)) = [⟨nDe, [[97]]⟩, ⟨nSc, [x]⟩] := by
  have h1 : OkR ⟨nDe, [[97]]⟩ := okr_of (by decide +kernel) (by decide +kernel) (fun v hv => by rw [List.mem_singleton.1 hv]; exact okw_lit _ (by decide +kernel))
  have h2 : OkR ⟨nSc, [x]⟩ := okr_of (by decide +kernel) (by decide +kernel) (fun v hv => by rw [List.mem_singleton.1 hv]; exact hx.ok)
  have e1 : nDe ++ 32 :: [97] = txR ⟨nDe, [[97]]⟩ := by simp [txR]
  have e2 : nSc ++ 32 :: x = txR ⟨nSc, [x]⟩ := by simp [txR]
  unfold polV
  rw [e1, e2, polF_step _ (txR_semi _ h1) _ _ (by decide), add_new h1 rfl, pcV_none 59 _ (txR_semi _ h2), polF, if_neg (by simp), add_new h2 (by simp [hasR])]
  rfl

theorem chain_im : chainV nIm = [nIm, nDe] := by decide +kernel
theorem chain_fo : chainV nFo = [nFo, nDe] := by decide +kernel
theorem chain_se : chainV nSe = [nSe, nSc, nDe] := by decide +kernel

theorem ask_1 (x y : List UInt8) : valsV [⟨nDe, [x]⟩, ⟨nIm, [y]⟩] nIm = some ([y], nIm) := by
  unfold valsV; rw [chain_im]; simp [askV, findR]
theorem ask_2 (x y : List UInt8) : valsV [⟨nDe, [x]⟩, ⟨nIm, [y]⟩] nFo = some ([x], nDe) := by
  unfold valsV; rw [chain_fo]; simp [askV, findR]
theorem ask_3 (x : List UInt8) : valsV [⟨nSc, [x]⟩] nIm = none := by
  unfold valsV; rw [chain_im]; simp [askV, findR]
theorem ask_4 (x : List UInt8) : valsV [⟨nDe, [[97]]⟩, ⟨nSc, [x]⟩] nSe = some ([x], nSc) := by
  unfold valsV; rw [chain_se]; simp [askV, findR]

/-! The chapter's runs. -/
abbrev kT : List UInt8 := [73, 109, 103, 45, 83, 114, 99, 32, 97, 32, 32, 98, 59, 32, 59, 105, 109, 103, 45, 115, 114, 99, 32, 99, 59, 120]
abbrev kD : List UInt8 := [100, 101, 102, 97, 117, 108, 116, 45, 115, 114, 99, 32, 97]
theorem run_1 : txP (polV kT) = [105, 109, 103, 45, 115, 114, 99, 32, 97, 32, 98, 59, 32, 120] := by decide +kernel
theorem run_2 : polV kD = [⟨nDe, [[97]]⟩] := by decide +kernel
theorem run_3 : valsV [⟨nDe, [[97]]⟩] nSe = some ([[97]], nDe) := by decide +kernel

end Go.Proofs.Ytplabofdcnpcpaa
