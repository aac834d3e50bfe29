/-
  The walk of slices.insertionSortCmpFunc over headers by byName.
-/
import Derived.Test.YtplabofdcnpcpaaDoorZBa
import Derived.BigRegion
import Derived.Deep.RegionHeld
set_option linter.unusedSimpArgs false
set_option linter.unusedVariables false
namespace Go.Proofs.YtplabofdcnpcpaaDoor
open Go.RowKit

theorem RowH.cells {w : World} {g : Nat} {M : List Hd} (h : RowH w g M) (i : Nat) (hi : i < M.length) : w.cell? ⟨g, i * 2, none⟩ = some (.string ⟨(M.getD i ⟨[], []⟩).name.toArray⟩) ∧ w.cell? ⟨g, i * 2 + 1, none⟩ = some (.string ⟨(M.getD i ⟨[], []⟩).value.toArray⟩) := by
  have e : M.getD i ⟨[], []⟩ = M[i] := by simp [List.getD, hi]
  have := cellsH_at M i hi
  rw [e, Lib.cell_of_heap h, Lib.cell_of_heap h]
  simpa using this

theorem RowH.kept {w w' : World} {g : Nat} {M : List Hd} (h : RowH w g M) (hb : Below w.heap.size w w') : RowH w' g M :=
  (hb.block g (Array.getElem?_eq_some_iff.1 h).1).trans h

theorem RowH.lt {w : World} {g : Nat} {M : List Hd} (h : RowH w g M) : g < w.heap.size := (Array.getElem?_eq_some_iff.1 h).1

theorem hd_mk (h : Hd) : (⟨(⟨h.name.toArray⟩ : ByteArray).data.toList, (⟨h.value.toArray⟩ : ByteArray).data.toList⟩ : Hd) = h := rfl

set_option maxHeartbeats 4000000 in
set_option maxRecDepth 100000 in
theorem insSort_any (g : Nat) (M0 : List Hd) (w : World) (hr0 : RowH w g M0) (hl : M0.length ≤ 1000) :
    Calls Tryd.prog 85 #[.slice (some ⟨g, 0, none⟩) M0.length M0.length, .int .i64 0, .int .i64 M0.length, .func (.func 36) #[] #[]] w fun e w' => e = .returned (.tuple #[]) ∧ ∃ M, RowH w' g M ∧ M.length = M0.length ∧ Stab M0 M ∧ Srt M M.length ∧ Below g w w' := by
  obtain ⟨n, hn⟩ : ∃ n, n = M0.length := ⟨_, rfl⟩
  rw [← hn]
  have HN := hid hn
  have HR0 := hid hr0
  rw [← hn] at hl
  clear hn hr0
  go_enter Tryd.func85, Tryd.ntmps85
  go_wp2
  go_loopw [8, 9] (fun iv jv wr => ∃ (i : Nat) (M : List Hd), i ≤ n + 1 ∧ 1 ≤ i ∧ iv = .int .i64 i ∧ RowH wr g M ∧ M.length = n ∧ Stab M0 M ∧ Srt M i ∧ Below g w wr)
    (fun iv _ _ => n + 1 - (intOf iv).toNat)
  case atStart => exact ⟨1, M0, by omega, by omega, by go_num, HR0.out, HN.out.symm, Stab.refl _, fun p q h1 h2 => by omega, Below.refl _ _⟩
  case round =>
    obtain ⟨i, M, hin, hi1, rfl, hr, hMl, hst, hsrt, hbw⟩ := hrel
    have HR := hid hr
    have HMl := hid hMl
    have HSt := hid hst
    have HSr := hid hsrt
    clear hr hMl hst hsrt
    by_cases hlt : i < n
    · have hlt' : (i : Int) < (n : Int) := by omega
      go_wp2
      go_loopw [9] (fun jv wx => ∃ (j : Nat) (X : List Hd), jv = .int .i64 j ∧ RowH wx g X ∧ X.length = n ∧ Stab M0 X ∧ Ins X i j ∧ Below g w wx)
        (fun jv _ => (intOf jv).toNat)
      case atStart => exact ⟨i, M, rfl, HR.out, HMl.out, HSt.out, Ins.start HSr.out, hbw⟩
      case round =>
        obtain ⟨j, X, rfl, hx, hXl, hxst, hins, hbx⟩ := hrel
        have HIns := hid hins
        have HXl := hid hXl
        have HXs := hid hxst
        have hji : j ≤ i := hins.1
        have HX := hid hx
        have hgx := hx.lt
        clear hins hXl hxst
        by_cases hj0 : j = 0
        · subst hj0
          have HS := hid (HIns.out.done (.inl rfl))
          have hg0 : decide ((0 : Int) < (0 : Int)) = false := by decide
          clear hx
          go_wp2
          go_quiet (fail)
          go_wp2
          go_roundw
          case rel => exact ⟨i + 1, X, by omega, by omega, by go_num, HX.out, HXl.out, HXs.out, HS.out, Go.below_drewN hbx _⟩
          case measure => simp [intOf]; omega
        · obtain ⟨m, rfl⟩ : ∃ m, j = m + 1 := ⟨j - 1, by omega⟩
          have hmX : m + 1 < X.length := by rw [HXl.out]; omega
          obtain ⟨p0, p1⟩ := hx.cells m (by omega)
          obtain ⟨q0, q1⟩ := hx.cells (m + 1) hmX
          have hp : (0 : Int) < (m : Int) + 1 := by omega
          have hm1 : (m : Int) + 1 < (n : Int) := by omega
          have hm0 : (m : Int) < (n : Int) := by omega
          have hw1 : IntKind.i64.wrap ((m : Int) + 1 - 1) = (m : Int) := by rw [IntKind.wrap_i64]; omega
          have hw2 : IntKind.i64.wrap (m : Int) = (m : Int) := by rw [IntKind.wrap_i64]; omega
          have hsb : (m : Int) + 1 - 1 = (m : Int) := by omega
          have htn : ((m : Int) + 1).toNat = m + 1 := by omega
          have hz0 : (0 : Int) ≤ (m : Int) := by omega
          have hz1 : (0 : Int) ≤ (m : Int) + 1 := by omega
          obtain ⟨P0, hP0⟩ : ∃ x : ByteArray, x = ⟨(X.getD m ⟨[], []⟩).name.toArray⟩ := ⟨_, rfl⟩
          obtain ⟨P1, hP1⟩ : ∃ x : ByteArray, x = ⟨(X.getD m ⟨[], []⟩).value.toArray⟩ := ⟨_, rfl⟩
          obtain ⟨Q0, hQ0⟩ : ∃ x : ByteArray, x = ⟨(X.getD (m + 1) ⟨[], []⟩).name.toArray⟩ := ⟨_, rfl⟩
          obtain ⟨Q1, hQ1⟩ : ∃ x : ByteArray, x = ⟨(X.getD (m + 1) ⟨[], []⟩).value.toArray⟩ := ⟨_, rfl⟩
          rw [← hP0] at p0
          rw [← hP1] at p1
          rw [← hQ0] at q0
          rw [← hQ1] at q1
          have HSw := hid (show (X.set (m + 1) ⟨P0.data.toList, P1.data.toList⟩).set m ⟨Q0.data.toList, Q1.data.toList⟩ = swp X m by unfold swp; rw [hP0, hP1, hQ0, hQ1])
          have HCm : Hid (∀ w : World, Calls Tryd.prog 36 #[.agg #[.string Q0, .string Q1], .agg #[.string P0, .string P1]] w fun e w' => e = .returned (.int .i64 (Lib.compareBytes (nmAt X (m + 1)) (nmAt X m))) ∧ Below w.heap.size w w') := fun w => by
            have := byName_any Q0 Q1 P0 P1 w
            rw [show Q0.data.toList = nmAt X (m + 1) by rw [hQ0]; rfl, show P0.data.toList = nmAt X m by rw [hP0]; rfl] at this
            exact this
          clear hP0 hP1 hQ0 hQ1
          obtain ⟨c, hc⟩ : ∃ c, c = Lib.compareBytes (nmAt X (m + 1)) (nmAt X m) := ⟨_, rfl⟩
          rw [← hc] at HCm
          have HC := hid hc
          clear hc
          have HK := hid (fun (Y : World) (hY : Below wr.heap.size wr Y) => (⟨hY, (hY.cell hgx).trans p0, (hY.cell hgx).trans p1, (hY.cell hgx).trans q0, (hY.cell hgx).trans q1⟩ : Below wr.heap.size wr Y ∧ Y.cell? ⟨g, m * 2, none⟩ = some (.string P0) ∧ Y.cell? ⟨g, m * 2 + 1, none⟩ = some (.string P1) ∧ Y.cell? ⟨g, (m + 1) * 2, none⟩ = some (.string Q0) ∧ Y.cell? ⟨g, (m + 1) * 2 + 1, none⟩ = some (.string Q1)))
          have hbD : Below wr.heap.size wr wr.drew := (Below.refl _ wr).drew
          clear hx
          by_cases hc0 : c < 0
          · go_wp2
            go_region_held (fun wy => Below wr.heap.size wr wy ∧ wy.cell? ⟨g, m * 2, none⟩ = some (.string P0) ∧ wy.cell? ⟨g, m * 2 + 1, none⟩ = some (.string P1) ∧ wy.cell? ⟨g, (m + 1) * 2, none⟩ = some (.string Q0) ∧ wy.cell? ⟨g, (m + 1) * 2 + 1, none⟩ = some (.string Q1))
              (first | exact HK.out _ hbD | exact HK.out _ (by assumption) | (go_split_ands; exact HK.out _ (by assumption)) | (go_split_ands; exact HK.out _ (by first | exact (by assumption : Below wr.heap.size wr _).trans ((by assumption : Below _ _ _).mono (by assumption)) | assumption)))
              (first | (go_at_call 36; refine (HCm.out _).mono ?_; rintro e wy ⟨rfl, hby⟩; have hbY : Below wr.heap.size wr wy := by ((try dsimp only at *); go_split_ands; first | exact hbD.trans (hby.mono (by simp)) | exact Below.trans (by assumption) (hby.mono (Below.size (by assumption)))))
              )
            have hxy : RowH wy g X := HX.out.kept hbY
            obtain ⟨_, y0, y1, z0, z1⟩ := HK.out wy hbY
            have f0 : wy.frozen? ⟨g, m * 2, none⟩ = false := Lib.frozen_of_heap hxy _
            have f1 : wy.frozen? ⟨g, m * 2 + 1, none⟩ = false := Lib.frozen_of_heap hxy _
            have f2 : wy.frozen? ⟨g, (m + 1) * 2, none⟩ = false := Lib.frozen_of_heap hxy _
            have f3 : wy.frozen? ⟨g, (m + 1) * 2 + 1, none⟩ = false := Lib.frozen_of_heap hxy _
            have HXy := hid hxy
            have HbY := hid (show Below g w wy from hbx.trans (hbY.mono (Nat.le_of_lt hgx)))
            (try dsimp only at *)
            go_split_ands
            clear hxy hbY hby
            go_wp2
            go_region
            all_goals
              go_wp2
              go_roundw
              case rel =>
                refine ⟨m, swp X m, by go_num, ?_, by rw [swp_len]; exact HXl.out, HXs.out.trans (swp_stab X m hmX (fun e => ltN_ne (show ltN (nmAt X (m + 1)) (nmAt X m) = true by unfold ltN; rw [← HC.out]; simpa using hc0) e.symm)), HIns.out.swap (by rw [HXl.out]; omega) (by unfold ltN; rw [← HC.out]; simpa using hc0), ?_⟩
                · rw [← HSw.out]
                  exact (HXy.out.set (m + 1) P0 P1).set m Q0 Q1
                · exact ((((HbY.out.setCell (p := ⟨g, (m + 1) * 2, none⟩) (Nat.le_refl _) _).setCell (p := ⟨g, (m + 1) * 2 + 1, none⟩) (Nat.le_refl _) _).setCell (p := ⟨g, m * 2, none⟩) (Nat.le_refl _) _).setCell (p := ⟨g, m * 2 + 1, none⟩) (Nat.le_refl _) _).drew
              case measure => simp [intOf]
          · have HS := hid (HIns.out.done (.inr (by rw [show m + 1 - 1 = m by omega]; unfold ltN; rw [← HC.out]; simpa using hc0)))
            go_wp2
            go_region_held (fun wy => Below wr.heap.size wr wy ∧ wy.cell? ⟨g, m * 2, none⟩ = some (.string P0) ∧ wy.cell? ⟨g, m * 2 + 1, none⟩ = some (.string P1) ∧ wy.cell? ⟨g, (m + 1) * 2, none⟩ = some (.string Q0) ∧ wy.cell? ⟨g, (m + 1) * 2 + 1, none⟩ = some (.string Q1))
              (first | exact HK.out _ hbD | exact HK.out _ (by assumption) | (go_split_ands; exact HK.out _ (by assumption)) | (go_split_ands; exact HK.out _ (by first | exact (by assumption : Below wr.heap.size wr _).trans ((by assumption : Below _ _ _).mono (by assumption)) | assumption)))
              (first | (go_at_call 36; refine (HCm.out _).mono ?_; rintro e wy ⟨rfl, hby⟩; have hbY : Below wr.heap.size wr wy := by ((try dsimp only at *); go_split_ands; first | exact hbD.trans (hby.mono (by simp)) | exact Below.trans (by assumption) (hby.mono (Below.size (by assumption)))))
              )
            have HXy := hid (HX.out.kept hbY)
            have HbY := hid (show Below g w wy from hbx.trans (hbY.mono (Nat.le_of_lt hgx)))
            (try dsimp only at *)
            go_wp2
            go_roundw
            case rel => exact ⟨i + 1, X, by omega, by omega, by go_num, HXy.out, HXl.out, HXs.out, HS.out, HbY.out⟩
            case measure => simp [intOf]; omega
    · have hle : n ≤ i := by omega
      go_wp2
      go_end0
      refine ⟨rfl, M, HR.out, HMl.out, HSt.out, ?_, hbw⟩
      rw [HMl.out]
      exact fun p q h1 h2 => HSr.out p q h1 (by omega)

end Go.Proofs.YtplabofdcnpcpaaDoor
