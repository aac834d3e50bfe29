/-
  The walk of the law InfraSets.
-/
import Derived.Test.YthmhljnfjjblcaaWk
import Derived.Test.YthmhljnfjjblcaaWn
import Derived.Test.YthmhljnfjjblcaaKc
import Derived.Test.YthmhljnfjjblcaaPi
set_option linter.unusedSimpArgs false
set_option linter.unusedVariables false
namespace Go.Proofs.Ythmhljnfjjblcaa
open Go.RowKit

def chainV (i : Nat) : Int := if i = 0 then 1 else if i = 1 then 3 else if i = 2 then 5 else 6

theorem percent_same (x : ByteArray) (set : Int) (w : World) (hs : x.size ≤ 35184372088832) (h : pct set x.data.toList = x.data.toList) :
    Calls Try.prog 17 #[.string x, .int .i64 set] w fun e w' => e = .returned (.string x) ∧ Below w.heap.size w w' := by
  refine (percent_any x set w hs).mono ?_
  rintro e w' ⟨rfl, hb⟩
  rw [h, Lib.mk_data]
  exact ⟨rfl, hb⟩

set_option maxHeartbeats 2000000 in
theorem infraSets_walk (a0 : Option Addr) (len0 cap0 : Nat) (z0 : List Int) (w : World) (w0 : IsRow .u8 w a0 len0 cap0 z0) :
    Calls Try.prog 7 #[.slice a0 len0 cap0] w fun e w' => e = .returned (.bool true) ∧ Below w.heap.size w w' := by
  obtain ⟨l0, hl0, hS0, hc0, hm0⟩ := w0.bytes
  clear w0
  go_enter Try.func7, Try.ntmps7
  go_wp2_with fail
  refine (fewBytes_any a0 len0 cap0 500 l0 w hl0 hS0 hc0 hm0 (by decide)).mono ?_
  rintro e w1 ⟨len, hlen, _, rfl, hS, rfl⟩
  have hcv := hS.string (P := Try.prog) (src := 22) (dst := 9) Try.underlying22 Try.underlying5 Try.underlying9
  obtain ⟨s, hs⟩ : ∃ s : ByteArray, s = ⟨(l0.take 500).toArray⟩ := ⟨_, rfl⟩
  have hsz : s.size ≤ 500 := by rw [hs]; show (l0.take 500).toArray.size ≤ _; simp; omega
  rw [← hs] at hcv
  clear hs hS hlen hS0 hl0
  go_wp2
  have hch : ∀ i, i < 4 → (w.alloc (.cells #[.int .i64 1, .int .i64 3, .int .i64 5, .int .i64 6] 3)).cell? ⟨w.heap.size, i, none⟩ = some (.int .i64 (chainV i)) := by
    intro i hi
    rw [World.cell?_alloc_mark]
    rcases (show i = 0 ∨ i = 1 ∨ i = 2 ∨ i = 3 from by omega) with rfl | rfl | rfl | rfl <;> rfl
  clear hcv
  go_loopw [5] (fun t wr => ∃ i : Nat, i ≤ 4 ∧ t = .int .i64 i ∧ Below (w.heap.size + 1) (w.alloc (.cells #[.int .i64 1, .int .i64 3, .int .i64 5, .int .i64 6] 3)) wr) (fun t _ => 4 - (intOf t).toNat)
  case atStart => exact ⟨0, by omega, rfl, Below.refl _ _⟩
  case round =>
    obtain ⟨i, hi, rfl, hbw⟩ := hrel
    have hsw : w.heap.size + 1 ≤ wr.heap.size := by have := hbw.size; simpa using this
    by_cases hi4 : i < 4
    · have hr : 1 ≤ chainV i ∧ chainV i ≤ 6 := by unfold chainV; split <;> (try split) <;> (try split) <;> omega
      have hcell : ∀ (W : World), Below (w.heap.size + 1) wr W → ∀ j, j < 4 → W.cell? ⟨w.heap.size, j, none⟩ = some (.int .i64 (chainV j)) := fun W hW j hj =>
        ((hbw.trans hW).cell (p := ⟨w.heap.size, j, none⟩) (by simp)).trans (hch j hj)
      have HC := hid hcell
      clear hcell hch
      have hci := HC.out wr (Below.refl _ _) i hi4
      go_wp2_with fail
      refine (percent_any s (chainV i) wr (by omega)).mono ?_
      rintro e w2 ⟨rfl, hb2⟩
      obtain ⟨x, hx⟩ : ∃ x : ByteArray, x = ⟨(pct (chainV i) s.data.toList).toArray⟩ := ⟨_, rfl⟩
      rw [← hx]
      have hxd : x.data.toList = pct (chainV i) s.data.toList := by rw [hx]
      have hxs : x.size ≤ 1500 := by
        have h1 := pct_le (chainV i) s.data.toList
        rw [← hxd] at h1
        simp at h1
        omega
      have HX := hid hxd
      clear hx hxd
      have HI : Hid (pct (chainV i) x.data.toList = x.data.toList) := by rw [HX.out]; exact pct_idem _ _
      have HR : Hid (∀ k, (h : k < x.size) → 32 ≤ x[k].toNat ∧ x[k].toNat ≤ 126) := by
        intro k h
        refine pct_range (chainV i) s.data.toList x[k] hr ?_
        rw [← HX.out]
        have : x[k] = x.data.toList[k]'(by simpa using h) := rfl
        rw [this]; exact List.getElem_mem _
      have hb2' := hb2.mono hsw
      have hci2 := HC.out w2 hb2' i hi4
      clear hci
      go_wp2_with fail
      refine (percent_same x (chainV i) w2 (by omega) HI.out).mono ?_
      rintro e w3 ⟨rfl, hb3⟩
      have hb3' := hb2'.trans (hb3.mono (by have := hb2.size; omega))
      clear hci2
      by_cases hi0 : i = 0
      · subst hi0
        go_wp2
        go_loopw [7] (fun t wq => ∃ k : Nat, k ≤ x.size ∧ t = .int .i64 k ∧ wq = w3) (fun t _ => x.size - (intOf t).toNat)
        case atStart => exact ⟨0, Nat.zero_le _, rfl, rfl⟩
        case round =>
          obtain ⟨k, hk, rfl, rfl⟩ := hrel
          by_cases hk2 : k < x.size
          · obtain ⟨hx1, hx2⟩ := HR.out k hk2
            have hx1 : (32 : Int) ≤ (x[k].toNat : Int) := by omega
            have hx2 : (x[k].toNat : Int) ≤ 126 := by omega
            go_wp2
            go_roundw
            case rel => exact ⟨k + 1, by omega, by go_num, by first | rfl | trivial⟩
            case measure => simp [intOf]; omega
          · go_wp2
            go_roundw
            case rel => exact ⟨1, by omega, by go_num, hbw.trans hb3'⟩
            case measure => simp [intOf]
      · have hi1 : 0 < i := by omega
        have hi2 : (0 : Int) < (i : Int) := by omega
        clear hi0
        have hcq := HC.out w3 hb3' (i - 1) (by omega)
        have HM : Hid ((pct (chainV (i - 1)) s.data.toList).length ≤ x.size) := by
          have h1 := pct_mono (chainV (i - 1)) (chainV i) s.data.toList (chain_mono _ _ (by
            rcases (show i = 1 ∨ i = 2 ∨ i = 3 from by omega) with rfl | rfl | rfl <;> simp [chainV]))
          rw [← HX.out] at h1
          exact hid (by simpa using h1)
        go_wp2_with fail
        refine (percent_any s (chainV (i - 1)) w3 (by omega)).mono ?_
        rintro e w4 ⟨rfl, hb4⟩
        have hb4' := hb3'.trans (hb4.mono (by have := hb2.size; have := hb3.size; omega))
        have hm := HM.out
        have hm' : decide (x.size < (pct (chainV (i - 1)) s.data.toList).length) = false := by simp; omega
        clear hm
        clear hcq
        go_wp2
        go_loopw [7] (fun t wq => ∃ k : Nat, k ≤ x.size ∧ t = .int .i64 k ∧ wq = w4) (fun t _ => x.size - (intOf t).toNat)
        case atStart => exact ⟨0, Nat.zero_le _, rfl, rfl⟩
        case round =>
          obtain ⟨k, hk, rfl, rfl⟩ := hrel
          by_cases hk2 : k < x.size
          · obtain ⟨hx1, hx2⟩ := HR.out k hk2
            have hx1 : (32 : Int) ≤ (x[k].toNat : Int) := by omega
            have hx2 : (x[k].toNat : Int) ≤ 126 := by omega
            go_wp2
            go_roundw
            case rel => exact ⟨k + 1, by omega, by go_num, by first | rfl | trivial⟩
            case measure => simp [intOf]; omega
          · go_wp2
            go_roundw
            case rel => exact ⟨i + 1, by omega, by go_num, hbw.trans hb4'⟩
            case measure => simp [intOf]; omega
    · obtain rfl : i = 4 := by omega
      go_wp2_with fail
      refine (known_any wr).mono ?_
      rintro e w2 ⟨rfl, hb2⟩
      go_wp2
      go_ret
      refine ⟨rfl, ?_⟩
      have h1 : Below w.heap.size w (w.alloc (.cells #[.int .i64 1, .int .i64 3, .int .i64 5, .int .i64 6] 3)) := (Below.refl _ w).alloc (Nat.le_refl _) _
      exact (h1.trans (hbw.mono (by omega))).trans (hb2.mono (by omega))

end Go.Proofs.Ythmhljnfjjblcaa
