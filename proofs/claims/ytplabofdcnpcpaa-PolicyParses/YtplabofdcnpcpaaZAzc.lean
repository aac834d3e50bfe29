/-
  The walk of the law's same.
-/
import Derived.Test.YtplabofdcnpcpaaZAzb
import Derived.Deep.RegionHeld
set_option linter.unusedSimpArgs false
set_option linter.unusedVariables false
namespace Go.Proofs.Ytplabofdcnpcpaa
open Go.RowKit

set_option maxHeartbeats 8000000 in
set_option maxRecDepth 100000 in
theorem lsame10 (v1 v2 : Value) (rp : Bool) (L : List Ru) (w : World) (h1 : PoAt w v1 L) (h2 : PoAt w v2 L) (hl : L.length ≤ 1000) (hz : ∀ r ∈ L, r.vals.length ≤ 1000000) :
    Calls Try.prog 20 #[.agg #[v1, .bool rp], .agg #[v2, .bool rp]] w fun e w' => e = .returned (.bool true) ∧ Below w.heap.size w w' := by
  obtain ⟨a1, c1, rfl, hc1, hm1, _⟩ := h1.view
  obtain ⟨a2, c2, rfl, hc2, hm2, _⟩ := h2.view
  obtain ⟨n, hn⟩ : ∃ n, n = L.length := ⟨_, rfl⟩
  have HN := hid hn
  have HZ := hid hz
  rw [← hn] at hl hc1 hc2 h1 h2 ⊢
  obtain ⟨W0, hW0⟩ : ∃ W, W = (w.alloc (.cells #[.slice a1 n c1, .bool rp] 33)).alloc (.cells #[.slice a2 n c2, .bool rp] 41) := ⟨_, rfl⟩
  have hb0 : Below w.heap.size w W0 := by rw [hW0]; exact ((Below.refl _ w).alloc (Nat.le_refl _) _).alloc (by simp) _
  have HM1 := hid (show W0.heap[w.heap.size]? = some (.cells #[.slice a1 n c1, .bool rp] 33 (0, 0)) by rw [hW0]; exact (Lib.alloc_old _ _ _ (by simp)).trans (heap_alloc_new w _))
  have HM2 := hid (show W0.heap[w.heap.size + 1]? = some (.cells #[.slice a2 n c2, .bool rp] 41 (0, 0)) by rw [hW0]; have := heap_alloc_new (w.alloc (.cells #[.slice a1 n c1, .bool rp] 33)) (.cells #[.slice a2 n c2, .bool rp] 41); simpa using this)
  have HB0 := hid hb0
  have HV1 := hid (h1.kept hb0)
  have HV2 := hid (h2.kept hb0)
  have HW0 := hid hW0
  clear hn hz h1 h2 hW0 hb0
  go_enter Try.func20, Try.ntmps20
  go_wp2_with fail
  rw [← HW0.out]
  clear HW0
  go_loopw [5] (fun v5 wr => ∃ k : Nat, k ≤ n ∧ v5 = .int .i64 k ∧ Hid (Below W0.heap.size W0 wr)) (fun v5 _ => n - (intOf v5).toNat)
  case atStart => exact ⟨0, Nat.zero_le _, rfl, Below.refl _ _⟩
  case round =>
    obtain ⟨k, hk, rfl, HR⟩ := hrel
    have d1 : wr.cell? ⟨w.heap.size, 0, none⟩ = some (.slice a1 n c1) := by rw [Lib.cell_of_heap (row_kept HM1.out HR.out)]; rfl
    have d2 : wr.cell? ⟨w.heap.size + 1, 0, none⟩ = some (.slice a2 n c2) := by rw [Lib.cell_of_heap (row_kept HM2.out HR.out)]; rfl
    by_cases hkn : k < n
    · have hkL : k < L.length := by have := HN.out; omega
      obtain ⟨a', c', ea, q1, q2, hvw⟩ := HV1.out.view
      injection ea with ea1 ea2 ea3
      clear ea2 ea3 q1 q2
      subst ea1
      obtain ⟨b, off, u, rfl, hnm, hu, htx⟩ := hvw k hkL
      obtain ⟨ua, uc, rfl, q5⟩ := id htx
      obtain ⟨a', c', ea, q1, q2, hvw'⟩ := HV2.out.view
      injection ea with ea1 ea2 ea3
      clear ea2 ea3 q1 q2
      subst ea1
      obtain ⟨b', off', u', rfl, hnm', hu', htx'⟩ := hvw' k hkL
      obtain ⟨ua', uc', rfl, q5'⟩ := id htx'
      obtain ⟨VS, hVS⟩ : ∃ VS, VS = L[k].vals := ⟨_, rfl⟩
      have hvz : VS.length ≤ 1000000 := by rw [hVS]; exact HZ.out _ (List.getElem_mem hkL)
      rw [← hVS] at hu hu' htx htx'
      obtain ⟨un, hun⟩ : ∃ un, un = VS.length := ⟨_, rfl⟩
      rw [← hun] at hu hu' htx htx'
      obtain ⟨N, hN⟩ : ∃ N : ByteArray, N = ⟨L[k].name.toArray⟩ := ⟨_, rfl⟩
      rw [← hN] at hnm hnm'
      have g1 := kept_cell hnm HR.out
      have g2 := kept_cell hu HR.out
      have g3 := kept_cell hnm' HR.out
      have g4 := kept_cell hu' HR.out
      have HSM := hid (fun Z (hZ : Below wr.heap.size wr Z) => sameT_any (.slice ua un uc) (.slice ua' un uc') VS VS Z ((htx.kept HR.out).kept hZ) ((htx'.kept HR.out).kept hZ) hvz hvz)
      rw [show decide (VS = VS) = true by simp] at HSM
      have hki : (k : Int) < (n : Int) := by omega
      clear hvw hvw' q5 q5' hnm hnm' hu hu' htx htx' hun hVS hN hkL hvz
      have HK1 := hid (fun (X : World) (h : Below wr.heap.size wr X) => (show (fun wx : World => Below wr.heap.size wr wx ∧ wx.cell? ⟨w.heap.size, 0, none⟩ = some (.slice (some ⟨b, off, none⟩) n c1) ∧ wx.cell? ⟨w.heap.size + 1, 0, none⟩ = some (.slice (some ⟨b', off', none⟩) n c2) ∧ wx.cell? ⟨b, off + k * 2, none⟩ = some (.string N) ∧ wx.cell? ⟨b, off + k * 2 + 1, none⟩ = some (.slice ua un uc) ∧ wx.cell? ⟨b', off' + k * 2, none⟩ = some (.string N) ∧ wx.cell? ⟨b', off' + k * 2 + 1, none⟩ = some (.slice ua' un uc')) X from ⟨h, kept_cell d1 h, kept_cell d2 h, kept_cell g1 h, kept_cell g2 h, kept_cell g3 h, kept_cell g4 h⟩))
      have HK0 := hid (HK1.out wr.drew (Below.refl _ wr).drew)
      go_wp2_with fail
      go_region_held (fun wx : World => Below wr.heap.size wr wx ∧ wx.cell? ⟨w.heap.size, 0, none⟩ = some (.slice (some ⟨b, off, none⟩) n c1) ∧ wx.cell? ⟨w.heap.size + 1, 0, none⟩ = some (.slice (some ⟨b', off', none⟩) n c2) ∧ wx.cell? ⟨b, off + k * 2, none⟩ = some (.string N) ∧ wx.cell? ⟨b, off + k * 2 + 1, none⟩ = some (.slice ua un uc) ∧ wx.cell? ⟨b', off' + k * 2, none⟩ = some (.string N) ∧ wx.cell? ⟨b', off' + k * 2 + 1, none⟩ = some (.slice ua' un uc'))
        (first | exact HK0.out | exact HK1.out _ (by assumption) | (go_split_ands; exact ⟨by assumption, by assumption, by assumption, by assumption, by assumption, by assumption, by assumption⟩))
        (first
          | (go_at_call 8; refine (HSM.out wr.drew (Below.refl _ wr).drew).mono ?_; rintro e wc ⟨rfl, hbc⟩; have hbw : Below wr.heap.size wr wc := (Below.refl _ wr).drew.trans hbc))
      all_goals
        have HR2 := hid (below2 HR.out hbw)
        clear d1 d2 g1 g2 g3 g4
        go_wp2_with fail
        go_roundw
        case rel =>
          first
            | exact ⟨k + 1, by omega, by go_num, HR2.out⟩
            | ((repeat apply Exists.intro); refine ⟨?_, rfl⟩; exact ⟨k + 1, by omega, by go_num, HR2.out⟩)
            | ((repeat apply Exists.intro); exact ⟨⟨k + 1, by omega, by go_num, HR2.out⟩, rfl⟩)
        case measure => simp [intOf]; omega
    · obtain rfl : k = n := by omega
      have hng : ¬ ((k : Int) < (k : Int)) := by omega
      have HBF := hid (below2 HB0.out HR.out)
      clear hk hkn
      go_wp2_with fail
      go_ret
      exact ⟨rfl, HBF.out⟩

end Go.Proofs.Ytplabofdcnpcpaa
