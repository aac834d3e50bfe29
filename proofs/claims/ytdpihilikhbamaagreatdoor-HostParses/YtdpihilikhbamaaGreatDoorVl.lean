/-
  The walk of host.longestRun.
-/
import Derived.Test.YtdpihilikhbamaaGreatDoorVk
set_option linter.unusedSimpArgs false
set_option linter.unusedVariables false
namespace Go.Proofs.YtdpihilikhbamaaGreatDoor
open Go.RowKit

theorem nums_row {w : World} {g : Nat} {x : List Nat} {t : TypeId} {f : Nat × Nat} (h : w.heap[g]? = some (.cells (cells16 x).toArray t f)) : Nums w g 0 x := fun j hj => by
  rw [Nat.zero_add, cell_of_row w g j _ t f h]
  simp [cells16, hj]

theorem zeros_le (l : List Nat) : zeros l ≤ l.length := by
  induction l with
  | nil => simp [zeros]
  | cons a l ih => rw [zeros]; split <;> simp <;> omega

theorem zeros_hit {l : List Nat} {e : Nat} (h : e < l.length) (h0 : l[e] = 0) : zeros (l.drop e) = zeros (l.drop (e + 1)) + 1 := by
  rw [List.drop_eq_getElem_cons h, zeros, if_pos h0]
theorem zeros_miss {l : List Nat} {e : Nat} (h : e < l.length) (h0 : l[e] ≠ 0) : zeros (l.drop e) = 0 := by
  rw [List.drop_eq_getElem_cons h, zeros, if_neg h0]

theorem lrunN_take {i fr to : Nat} {x : List Nat} (h : i < x.length) (hz : max (to - fr) 1 < zeros (x.drop i)) : lrunN 0 i fr to (x.drop i) = lrunN 0 (i + 1) i (i + zeros (x.drop i)) (x.drop (i + 1)) := by
  rw [List.drop_eq_getElem_cons h] at hz ⊢
  rw [lrunN, if_pos hz]
theorem lrunN_skip {i fr to : Nat} {x : List Nat} (h : i < x.length) (hz : ¬ max (to - fr) 1 < zeros (x.drop i)) : lrunN 0 i fr to (x.drop i) = lrunN 0 (i + 1) fr to (x.drop (i + 1)) := by
  rw [List.drop_eq_getElem_cons h] at hz ⊢
  rw [lrunN, if_neg hz]

theorem ret_ii {a b c d : Int} (h : a = b) (g : c = d) : Ending.returned (.tuple #[.int .i64 a, .int .i64 c]) = .returned (.tuple #[.int .i64 b, .int .i64 d]) := by rw [h, g]

set_option maxHeartbeats 2000000 in
set_option maxRecDepth 100000 in
theorem longestRun_any (x : List Nat) (w : World) (h8 : x.length = 8) :
    Calls Tryz.prog 66 #[agg8 x] w fun e w' => e = .returned (.tuple #[.int .i64 ((lrun x).1 : Nat), .int .i64 ((lrun x).2 : Nat)]) ∧ Below w.heap.size w w' := by
  have HN0 := hid (nums_row (x := x) (heap_alloc_new w (.cells (cells16 x).toArray 34 (0, 0))))
  unfold agg8
  go_enter Tryz.func66, Tryz.ntmps66
  go_wp2
  have HB0 := hid ((Below.refl _ w).alloc (Nat.le_refl _) (.cells (cells16 x).toArray 34 (0, 0)))
  go_loopg [4, 5, 8] 8 (fun g fv tv iv wr => ∃ i fr to : Nat, i + g = 8 ∧ fv = .int .i64 fr ∧ tv = .int .i64 to ∧ iv = .int .i64 i ∧ fr ≤ to ∧ to ≤ 8 ∧ lrunN 0 i fr to (x.drop i) = lrun x ∧ Nums wr w.heap.size 0 x ∧ Below w.heap.size w wr)
  case atStart => exact ⟨0, 0, 0, by omega, rfl, rfl, rfl, by omega, by omega, rfl, HN0.out, HB0.out⟩
  case round =>
    obtain ⟨i, fr, to, hig, rfl, rfl, rfl, hft, ht8, hlr, hnums, hbw⟩ := hrel
    have HL := hid hlr
    have HN := hid hnums
    clear hlr hnums
    cases gk with
    | zero =>
      have HR := hid (show lrun x = (fr, to) by rw [← HL.out, List.drop_eq_nil_of_le (by omega)]; rfl)
      go_wp2
      go_ret2
      exact ⟨ret_ii (by rw [HR.out]) (by rw [HR.out]), hbw⟩
    | succ g =>
      have hi8 : (i : Int) < 8 := by omega
      go_wp2
      go_loopg [7] (8 - i) (fun h ev wx => ∃ e : Nat, i ≤ e ∧ e + h = 8 ∧ ev = .int .i64 e ∧ e + zeros (x.drop e) = i + zeros (x.drop i) ∧ wx = wr)
      case atStart => exact ⟨i, by omega, by omega, rfl, rfl, rfl⟩
      case round =>
        obtain ⟨e, hie, heh, rfl, hze, rfl⟩ := hrel
        have HZ := hid hze
        clear hze
        by_cases hstop : e < 8 ∧ x.getD e 0 = 0
        · obtain ⟨he8, hx0⟩ := hstop
          have hex : e < x.length := by omega
          have hx0' : x[e] = 0 := by simpa [List.getD, hex] using hx0
          have hcell := HN.out e hex
          rw [hx0', Nat.zero_add] at hcell
          have HZ2 := hid (show e + 1 + zeros (x.drop (e + 1)) = i + zeros (x.drop i) by rw [← HZ.out, zeros_hit hex hx0']; omega)
          have he8' : (e : Int) < 8 := by omega
          clear hx0 hx0'
          go_wp2
          go_roundg (8 - (e + 1))
          case measure => omega
          case rel => exact ⟨e + 1, by omega, by omega, by go_num, HZ2.out, rfl⟩
        · have hz0 : zeros (x.drop e) = 0 := by
            by_cases he8 : e < 8
            · have hex : e < x.length := by omega
              refine zeros_miss hex (fun h => hstop ⟨he8, ?_⟩)
              simp [List.getD, hex, h]
            · rw [List.drop_eq_nil_of_le (by omega)]; rfl
          have hend : e = i + zeros (x.drop i) := by rw [← HZ.out, hz0]; omega
          have hei : e - i = zeros (x.drop i) := by omega
          have hte : e ≤ 8 := by omega
          by_cases hA : max (to - fr) 1 < zeros (x.drop i)
          · have HT := hid (show lrunN 0 (i + 1) i e (x.drop (i + 1)) = lrun x by
              have h := lrunN_take (x := x) (i := i) (fr := fr) (to := to) (by omega) hA
              rw [HL.out, ← hend] at h
              exact h.symm)
            have hA1 : (to : Int) - (fr : Int) < (e : Int) - (i : Int) := by omega
            have hA2 : (1 : Int) < (e : Int) - (i : Int) := by omega
            have hA' : max ((to : Int) - (fr : Int)) 1 < (e : Int) - (i : Int) := by omega
            clear hend hei hz0 hA
            by_cases he8 : e < 8
            · have hex : e < x.length := by omega
              have hcell := HN.out e hex
              have hx0 : ((x[e] : Int) == 0) = false := by
                rw [beq_eq_false_iff_ne]
                intro h
                apply hstop
                refine ⟨he8, ?_⟩
                simp [List.getD, hex]; omega
              rw [Nat.zero_add] at hcell
              generalize x[e] = xe at hcell hx0
              have he8' : (e : Int) < 8 := by omega
              clear hstop
              go_wp2
              go_roundg g
              case measure => omega
              case rel => exact ⟨i + 1, i, e, by omega, rfl, rfl, by go_num, hie, by omega, HT.out, HN.out, hbw⟩
            · have he8' : decide ((e : Int) < 8) = false := decide_eq_false (by omega)
              clear hstop
              go_wp2
              go_roundg g
              case measure => omega
              case rel => exact ⟨i + 1, i, e, by omega, rfl, rfl, by go_num, hie, by omega, HT.out, HN.out, hbw⟩
          · have HT := hid (show lrunN 0 (i + 1) fr to (x.drop (i + 1)) = lrun x by
              have h := lrunN_skip (x := x) (i := i) (fr := fr) (to := to) (by omega) hA
              rw [HL.out] at h
              exact h.symm)
            have hA' : ¬ (max ((to : Int) - (fr : Int)) 1 < (e : Int) - (i : Int)) := by omega
            clear hend hei hz0 hA
            by_cases he8 : e < 8
            · have hex : e < x.length := by omega
              have hcell := HN.out e hex
              have hx0 : ((x[e] : Int) == 0) = false := by
                rw [beq_eq_false_iff_ne]
                intro h
                apply hstop
                refine ⟨he8, ?_⟩
                simp [List.getD, hex]; omega
              rw [Nat.zero_add] at hcell
              generalize x[e] = xe at hcell hx0
              have he8' : (e : Int) < 8 := by omega
              clear hstop
              go_wp2
              go_roundg g
              case measure => omega
              case rel => exact ⟨i + 1, fr, to, by omega, rfl, rfl, by go_num, hft, ht8, HT.out, HN.out, hbw⟩
            · have he8' : decide ((e : Int) < 8) = false := decide_eq_false (by omega)
              clear hstop
              go_wp2
              go_roundg g
              case measure => omega
              case rel => exact ⟨i + 1, fr, to, by omega, rfl, rfl, by go_num, hft, ht8, HT.out, HN.out, hbw⟩

end Go.Proofs.YtdpihilikhbamaaGreatDoor
