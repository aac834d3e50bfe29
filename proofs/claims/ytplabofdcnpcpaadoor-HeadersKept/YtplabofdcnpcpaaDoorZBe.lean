/-
  The walk of headers' together.
-/
import Derived.Test.YtplabofdcnpcpaaDoorZBd
set_option linter.unusedSimpArgs false
set_option linter.unusedVariables false
namespace Go.Proofs.YtplabofdcnpcpaaDoor
open Go.RowKit

/-- set-cookie -/
def scN : List UInt8 := [115, 101, 116, 45, 99, 111, 111, 107, 105, 101]
/-- So many at the beginning are told as one. -/
def Tog (M : List Hd) (k : Nat) : Prop := 1 ≤ k ∧ k ≤ M.length ∧ (∀ j, j < k → nmAt M j = nmAt M 0) ∧ (k = 1 ∨ nmAt M 0 ≠ scN) ∧ (k = M.length ∨ nmAt M k ≠ nmAt M 0 ∨ nmAt M 0 = scN)

set_option maxHeartbeats 2000000 in
set_option maxRecDepth 100000 in
theorem together_any (g o c : Nat) (M : List Hd) (w : World) (h : HdAt w (.slice (some ⟨g, o, none⟩) M.length c) M) (hl : M.length ≤ 100000) (h1 : 1 ≤ M.length) :
    Calls Tryd.prog 37 #[.slice (some ⟨g, o, none⟩) M.length c] w fun e w' => ∃ k : Nat, e = .returned (.int .i64 k) ∧ Tog M k ∧ Below w.heap.size w w' := by
  obtain ⟨a1, c1, e0, hc1, hm1, hv1⟩ := h.view
  cases e0
  have V1 := hid hv1
  clear h hv1
  obtain ⟨b, off, e0, p0, -⟩ := V1.out 0 h1
  cases e0
  obtain ⟨n0, hn0⟩ : ∃ x : ByteArray, x = ⟨M[0].name.toArray⟩ := ⟨_, rfl⟩
  have HN0 := hid (show n0.data.toList = nmAt M 0 by rw [hn0]; simp [nmAt, List.getD, show 0 < M.length by omega])
  rw [← hn0] at p0
  rw [Nat.zero_mul, Nat.add_zero] at p0
  clear hn0
  have hgw : g < w.heap.size := World.block_lt_of_cell? w _ p0
  go_enter Tryd.func37, Tryd.ntmps37
  go_wp2
  go_loopw [3] (fun i wr => ∃ k : Nat, 1 ≤ k ∧ k ≤ M.length ∧ i = .int .i64 k ∧ (∀ j, j < k → nmAt M j = nmAt M 0) ∧ (k = 1 ∨ nmAt M 0 ≠ scN) ∧ Below w.heap.size w wr)
    (fun i _ => M.length - (intOf i).toNat)
  case atStart => exact ⟨1, Nat.le_refl _, h1, by go_num, fun j hj => by rw [show j = 0 by omega], .inl rfl, Below.refl _ _⟩
  case round =>
    obtain ⟨k, hk1, hk, rfl, hsame, hck, hbw⟩ := hrel
    have HS := hid hsame
    clear hsame
    by_cases hlt : k < M.length
    · have hlt' : (k : Int) < (M.length : Int) := by omega
      obtain ⟨b, off, e0, q0, -⟩ := V1.out k hlt
      cases e0
      have f0 : wr.cell? ⟨g, o, none⟩ = some (.string n0) := (hbw.cell hgw).trans p0
      have fk : wr.cell? ⟨g, o + k * 2, none⟩ = some (.string ⟨M[k].name.toArray⟩) := (hbw.cell hgw).trans q0
      obtain ⟨nk, hnk⟩ : ∃ x : ByteArray, x = ⟨M[k].name.toArray⟩ := ⟨_, rfl⟩
      have HNk := hid (show nk.data.toList = nmAt M k by rw [hnk]; simp [nmAt, List.getD, hlt])
      rw [← hnk] at fk
      clear hnk q0
      by_cases hnn : nk = n0
      · subst hnn
        by_cases hsc : nk = ⟨#[115, 101, 116, 45, 99, 111, 111, 107, 105, 101]⟩
        · have HEnd := hid (show nmAt M 0 = scN by rw [← HN0.out, hsc]; rfl)
          subst hsc
          go_wp2
          go_quiet (fail)
          go_wp2
          go_ret
          exact ⟨k, rfl, ⟨hk1, hk, HS.out, hck, .inr (.inr HEnd.out)⟩, Go.below_drewN hbw _⟩
        · have hs2 : (nk.toList == [115, 101, 116, 45, 99, 111, 111, 107, 105, 101]) = false := by
            have := strNe hsc
            rw [Lib.toList_data ⟨#[115, 101, 116, 45, 99, 111, 111, 107, 105, 101]⟩] at this
            exact this
          have HNs := hid (show nmAt M 0 ≠ scN from fun e => hsc (by
            have := HN0.out.trans e
            have h3 : nk = ⟨nk.data.toList.toArray⟩ := by simp
            rw [h3, this]; rfl))
          go_wp2
          go_quiet (fail)
          go_wp2
          go_roundw
          case rel =>
            refine ⟨k + 1, by omega, by omega, by go_num, fun j hj => ?_, .inr HNs.out, Go.below_drewN hbw _⟩
            by_cases e : j = k
            · rw [e, ← HNk.out, HN0.out]
            · exact HS.out j (by omega)
          case measure => simp [intOf]; omega
      · have hn2 := strNe hnn
        have HNe := hid (show nmAt M k ≠ nmAt M 0 from fun e => hnn (by
          have := HNk.out.trans (e.trans HN0.out.symm)
          have h3 : nk = ⟨nk.data.toList.toArray⟩ := by simp
          rw [h3, this]))
        go_wp2
        go_quiet (fail)
        go_wp2
        go_ret
        exact ⟨k, rfl, ⟨hk1, hk, HS.out, hck, .inr (.inl HNe.out)⟩, Go.below_drewN hbw _⟩
    · have hke : k = M.length := by omega
      have hlt' : decide ((k : Int) < (M.length : Int)) = false := by rw [decide_eq_false_iff_not]; omega
      go_wp2
      go_quiet (fail)
      go_wp2
      go_ret
      exact ⟨k, rfl, ⟨hk1, hk, HS.out, hck, .inl hke⟩, Go.below_drewN hbw _⟩

end Go.Proofs.YtplabofdcnpcpaaDoor
