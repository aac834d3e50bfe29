/-
  The walk of ostiaryref8's Sum, at 512 bits.
-/
import Derived.Test.YtbdlicomkpnalaaGreatDoorZs
set_option linter.unusedSimpArgs false
set_option linter.unusedVariables false
namespace Go.Proofs.YtbdlicomkpnalaaGreatDoor
open Go.RowKit

def ST512 : St := startV wid sqr 0
theorem st_bd512 : BdS (2 ^ 64) ST512 := by
  unfold ST512 startV stV BdS
  refine ⟨?_, ?_, ?_, ?_, ?_, ?_, ?_, ?_⟩ <;> decide +kernel
theorem st_at512 (i : Nat) (hi : i < 8) : ST512.list.getD i 0 = sqr.getD (0 + i) 0 / 2 ^ (64 - 64) := by
  rcases (show i = 0 ∨ i = 1 ∨ i = 2 ∨ i = 3 ∨ i = 4 ∨ i = 5 ∨ i = 6 ∨ i = 7 by omega) with rfl | rfl | rfl | rfl | rfl | rfl | rfl | rfl <;> decide +kernel

def Sl512 (w wr : World) (S : List Nat) : Prop := wr.heap[w.heap.size]? = some (.cells #[.int .u64 64] 97 (0, 0)) ∧ Rw wr (w.heap.size + 1) .u64 98 S ∧ Below w.heap.size w wr
theorem Sl512.set {w wr : World} {S : List Nat} (h : Sl512 w wr S) (i n : Nat) : Sl512 w (wr.setCell ⟨w.heap.size + 1, i, none⟩ (.int .u64 (n : Int))) (S.set i n) := by
  obtain ⟨hA, hR, hB⟩ := h
  exact ⟨(Below.heap_setCell wr ⟨w.heap.size + 1, i, none⟩ _ w.heap.size (by show w.heap.size ≠ w.heap.size + 1; omega)).trans hA, hR.set i n, hB.setCell (p := ⟨w.heap.size + 1, i, none⟩) (by show w.heap.size ≤ w.heap.size + 1; omega) _⟩
theorem Sl512.kept {w wr Y : World} {S : List Nat} (h : Sl512 w wr S) (hb : Below wr.heap.size wr Y) : Sl512 w Y S := ⟨row_kept h.1 hb, h.2.1.kept hb, h.2.2.trans (hb.mono h.2.2.size)⟩

theorem Sl512.grown {w wr Y : World} {S : List Nat} {v : Value} {n : Nat} {xs : List Value} {o : Obj} {e : TypeId} (h : Sl512 w wr S) (hown : wr.ownsRow (w.heap.size + 2) e 1 v n xs) (hg : (wr.alloc o).grownBy Y v.ownBlock) : Sl512 w Y S := by
  have h2 := h.kept ((Below.refl _ wr).alloc (Nat.le_refl _) o)
  have hne : ∀ k, k < w.heap.size + 2 → some k ≠ v.ownBlock := fun k hk e => by
    have := (hown.lt k e.symm).1
    omega
  exact ⟨(hg.block _ (Array.getElem?_eq_some_iff.1 h2.1).1 (hne _ (by omega))).trans h2.1, (hg.block _ h2.2.1.lt (hne _ (by omega))).trans h2.2.1, h2.2.2.grown hg h2.2.2.size (fun k hk => by have := (hown.lt k hk).1; omega)⟩

set_option maxHeartbeats 4000000 in
set_option maxRecDepth 100000 in
theorem rsum512 (T : Nat) (a0 : Option Addr) (len cap : Nat) (l : List UInt8) (w : World) (hT : Rw w T .u64 58 tabV) (hv : SlB w (.slice a0 len cap) l) (hn : a0 = none → cap = 0) (hl : l.length ≤ 100000000) :
    Calls Tryz.prog 23 #[.pointer (some ⟨T, 0, none⟩), .int .i64 512, .slice a0 len cap] w fun e w' => ∃ g c, e = .returned (.tuple #[.slice (some ⟨g, 0, none⟩) 64 c, .bool true]) ∧ SlB w' (.slice (some ⟨g, 0, none⟩) 64 c) (summedV wid sqr cbr 0 64 l) ∧ Below w.heap.size w w' := by
  have HTC := hid (show ∀ k, k < 80 → w.cell? ⟨T, k, none⟩ = some (.int .u64 (cbr.getD k 0 : Nat)) by
    intro k hk
    rw [hT.cell k (by rw [tab_len]; omega), tab_eq]
    rw [getD_app cbr sqr k hk])
  have HTH := hid (show ∀ i, i < 16 → w.cell? ⟨T, 80 + i, none⟩ = some (.int .u64 (sqr.getD i 0 : Nat)) by
    intro i hi
    rw [hT.cell (80 + i) (by rw [tab_len]; omega), tab_eq]
    have h80 : cbr.length = 80 := rfl
    simp only [List.getD]
    rw [List.getElem?_append_right (by omega), show 80 + i - cbr.length = i by omega])
  have hTl := hT.lt
  have HTL := hid hTl
  have HV := hid hv
  have HN := hid hn
  have HL := hid hl
  clear hT hv hn hl hTl
  go_enter Tryz.func23, Tryz.ntmps23
  go_wp2_with fail
  go_loopw [12] (fun v12 wr => ∃ i : Nat, i ≤ 8 ∧ v12 = .int .i64 i ∧ Hid (Sl512 w wr (fillV ST512.list i 8))) (fun v12 _ => 8 - (intOf v12).toNat)
  case atStart =>
    refine ⟨0, by omega, rfl, ?_⟩
    rw [fill_zero]
    exact ⟨row_kept (heap_alloc_new w _) ((Below.refl _ _).alloc (Nat.le_refl _) _), Rw.laid (l := List.replicate 8 0) (by simp) (by rfl), ((Below.refl _ w).alloc (Nat.le_refl _) _).alloc (by simp) _⟩
  case round =>
    obtain ⟨i, hi, rfl, HS⟩ := hrel
    by_cases hlt : i < 8
    · obtain ⟨X, hX⟩ : ∃ X, X = sqr.getD (0 + i) 0 := ⟨_, rfl⟩
      have cT : wr.cell? ⟨T, 80 + i, none⟩ = some (.int .u64 (X : Int)) := by rw [hX]; exact (HS.out.2.2.cell HTL.out).trans ((HTH.out _ (by omega)).trans (by rw [Nat.zero_add]))
      have hXb : X < 18446744073709551616 := by rw [hX]; exact sqr_lt _
      obtain ⟨y, hy⟩ : ∃ y, y = (fillV ST512.list i 8).getD i 0 := ⟨_, rfl⟩
      have cs : wr.cell? ⟨w.heap.size + 1, i, none⟩ = some (.int .u64 (y : Int)) := by rw [hy]; exact HS.out.2.1.cell i (by rw [fill_len ST512.list i 8 (by omega) rfl]; omega)
      have cf := HS.out.2.1.free i
      obtain ⟨U, hU⟩ : ∃ U, U = X / 2 ^ (64 - 64) := ⟨_, rfl⟩
      have HF := hid (show (fillV ST512.list i 8).set i U = fillV ST512.list (i + 1) 8 from fill_step _ i 8 hlt rfl U (by rw [st_at512 i hlt, ← hX, hU]))
      obtain rfl : U = X := by rw [hU]; simp
      have hin : (i : Int) < 8 := by omega
      have HX := hid hX
      clear hX hy hU
      go_wp2_with fail
      go_roundw
      case rel =>
        have e3 := HS.out.set i U
        rw [HF.out] at e3
        first
          | exact ⟨i + 1, by omega, by go_num, e3⟩
          | ((repeat apply Exists.intro); refine ⟨?_, rfl⟩; exact ⟨i + 1, by omega, by go_num, e3⟩)
          | ((repeat apply Exists.intro); exact ⟨⟨i + 1, by omega, by go_num, e3⟩, rfl⟩)
      case measure => simp [intOf]; omega
    · obtain rfl : i = 8 := by omega
      have HS1 := hid (show Sl512 w wr ST512.list by have := HS.out; rwa [fill_all _ 8 rfl] at this)
      clear HS hi hlt
      have HPD := hid (rpad6 a0 len cap l wr (HV.out.kept HS1.out.2.2) HN.out HL.out)
      go_wp2_with fail
      refine HPD.out.mono ?_
      rintro e w1 ⟨v', n', rfl, hown, hb1, hn1⟩
      obtain ⟨PT, hPT⟩ : ∃ PT, PT = padL6 l (padN6 l.length) ++ lenB6 l.length := ⟨_, rfl⟩
      rw [← hPT] at hown hn1
      obtain ⟨M, hM, hMl⟩ := pad_whole6 l
      rw [← hPT] at hM
      have HDOC := hid (show workV wid cbr 128 M ST512 PT = workV wid cbr 128 2 (workV wid cbr 128 (l.length / 128) ST512 l) (endV wid l) by rw [hPT]; exact pad_doc6 cbr ST512 l M (by rw [← hPT]; exact hM))
      have hPl : 0 < PT.length := by rw [hPT]; simp [padL6]; omega
      rcases hown.2 with ⟨hv0, hn0⟩ | ⟨g, cap1, cur, rfl, hg, hrow, hnc, hcm, hcs, htake⟩
      · omega
      have hgw : w.heap.size + 1 < g := by have := HS1.out.2.1.lt; omega
      have HM2 := hid (show SmM6 w w1 T g PT (workV wid cbr 128 0 ST512 PT).list from ⟨row_kept HS1.out.1 hb1, HS1.out.2.1.kept hb1, fun j hj => by
        rw [hown.cellAt j (by omega)]
        simp [Lib.byteCells, hj], fun k hk => kept_cell ((HS1.out.2.2.cell HTL.out).trans (HTC.out k hk)) hb1, HS1.out.2.2.trans (hb1.mono HS1.out.2.2.size)⟩)
      have HG := hid hgw
      have HMx := hid (show n' = PT.length ∧ n' ≤ cap1 ∧ cap1 ≤ maxLen ∧ M * 128 = n' from ⟨hn1, hnc, hcm, by omega⟩)
      have HMl := hid hMl
      clear hown hb1 hn1 hPT hM hMl hPl hg hrow hnc hcm hcs htake hgw HPD HS1 HV HN
      go_wp2_with fail
      go_loopw [14] (fun v14 wq => ∃ m p : Nat, m ≤ M ∧ p = m * 128 ∧ v14 = .int .i64 (p : Int) ∧ Hid (SmM6 w wq T g PT (workV wid cbr 128 m ST512 PT).list)) (fun v14 _ => n' - (intOf v14).toNat)
      case atStart => exact ⟨0, 0, by omega, by omega, rfl, HM2.out⟩
      case round =>
        clear HM2
        obtain ⟨m, p, hm, hp, rfl, HM⟩ := hrel
        by_cases hlt : m < M
        · have HPN := hid (show p + 128 ≤ n' by have := HMx.out; omega)
          have HW := hid (show workV wid cbr 128 (m + 1) ST512 PT = foldV wid cbr (workV wid cbr 128 m ST512 PT) ((PT.drop p).take 128) by
            rw [hp]
            exact work_snoc wid cbr 128 m ST512 PT (by have := HMx.out; omega))
          have HBD := hid (work_bd6 cbr 128 m ST512 PT st_bd512)
          obtain ⟨S0, hS0⟩ : ∃ S0, S0 = workV wid cbr 128 m ST512 PT := ⟨_, rfl⟩
          rw [← hS0] at HM HW HBD
          clear hS0
          obtain ⟨ra, rb, rc, rd, re, rf, rg, rh⟩ := S0
          obtain ⟨S1, hS1⟩ : ∃ S1, S1 = foldV wid cbr ⟨ra, rb, rc, rd, re, rf, rg, rh⟩ ((PT.drop p).take 128) := ⟨_, rfl⟩
          have HS1 := hid hS1
          rw [← hS1] at HW
          clear hS1
          obtain ⟨za, zb, zc, zd, ze, zf, zg, zh⟩ := S1
          have hlI : (p : Int) < (n' : Int) := by have := HPN.out; omega
          have hpb : (p : Int) + 128 ≤ 9223372036854775807 := by
            have := HPN.out; have := HMx.out
            have hmx : maxLen = 9223372036854775807 := rfl
            omega
          have HPE := hid hp
          clear hp
          go_wp2_with fail
          refine wp_cut (rs23_6 T w.heap.size (w.heap.size + 1) g n' cap1 p (p + 128) ra rb rc rd re rf rg rh za zb zc zd ze zf zg zh wr _ _ _ _ _ _ _ _ _ _ _ _ _ _ _ _ _ _ _ _ _ _ _ _ _ _ _ _ _ _ _ _ _ _ _ _ _ _ _ _ _ _ _ _ _ _ _ _ _ _ _ _ _ _ _ _ _ _ _ _ _ _ _ _ _ _ _ _ _ _ _ _ _ _ _ _ _ _ _ _ _ _ _ _ _ _ _ _ _ _ (hid HM.out.1) (hid HM.out.2.1) (hid ⟨rfl, by have := HPN.out; have := HMx.out; omega, HMx.out.2.2.1⟩) (hid fun X hX => ?hc) ?_)
          case hc =>
            have hbl : ((PT.drop p).take 128).length = 128 := by have := HPN.out; have := HMx.out; rw [List.length_take, List.length_drop]; omega
            have := rblock6 T ra rb rc rd re rf rg rh ⟨g, p, none⟩ (cap1 - p) ((PT.drop p).take 128) X (fun k hk => kept_cell (HM.out.2.2.2.1 k hk) hX) (fun j hj => by
              rw [Addr.add_lit]
              have hj2 : p + j < PT.length := by have := HPN.out; have := HMx.out; omega
              rw [kept_cell (HM.out.2.2.1 (p + j) hj2) hX]
              simp) hbl (by have := HPN.out; have := HMx.out; omega) HBD.out
            rw [← HS1.out] at this
            exact this
          intro u59 u60 u61 u62 u63 u64 u65 u66 u67 u68 w2 w3 hb2 hw3
          have HM3 := hid (show SmM6 w w3 T g PT (workV wid cbr 128 (m + 1) ST512 PT).list by
            rw [HW.out, hw3]
            exact HM.out.next HG.out HTL.out hb2 rfl)
          clear hb2 hw3 HM HW HBD HS1
          go_wp2_with fail
          go_roundw
          case rel =>
            first
              | exact ⟨m + 1, p + 128, by omega, by have := HPE.out; omega, by go_num, HM3.out⟩
              | ((repeat apply Exists.intro); refine ⟨?_, rfl⟩; exact ⟨m + 1, p + 128, by omega, by have := HPE.out; omega, by go_num, HM3.out⟩)
              | ((repeat apply Exists.intro); exact ⟨⟨m + 1, p + 128, by omega, by have := HPE.out; omega, by go_num, HM3.out⟩, rfl⟩)
          case measure => have := HPN.out; simp [intOf]; omega
        · obtain rfl : m = M := by omega
          obtain rfl : p = n' := by have := HMx.out; omega
          have HS2 := hid (show Sl512 w wr (workV wid cbr 128 m ST512 PT).list from ⟨HM.out.1, HM.out.2.1, HM.out.2.2.2.2⟩)
          clear HM hlt hm hp HMl
          have HBD := hid (work_bd6 cbr 128 m ST512 PT st_bd512)
          have HFIN := hid (show summedV wid sqr cbr 0 64 l = ((workV wid cbr 128 m ST512 PT).list.flatMap (bytesV 8)).take 64 by
            rw [HDOC.out]; rfl)
          obtain ⟨SF, hSF⟩ : ∃ SF, SF = workV wid cbr 128 m ST512 PT := ⟨_, rfl⟩
          rw [← hSF] at HS2 HBD HFIN
          obtain ⟨ra, rb, rc, rd, re, rf, rg, rh⟩ := SF
          have HSB := hid (show ∀ i, [ra, rb, rc, rd, re, rf, rg, rh].getD i 0 < 18446744073709551616 from bd_get (n := 2 ^ 64) HBD.out)
          obtain ⟨S, hS⟩ : ∃ S, S = [ra, rb, rc, rd, re, rf, rg, rh] := ⟨_, rfl⟩
          have HS8 := hid (show S.length = 8 by rw [hS]; rfl)
          have HS2' : Hid (Sl512 w wr S) := by rw [hS]; exact HS2
          have HFIN' : Hid (summedV wid sqr cbr 0 64 l = (S.flatMap (bytesV 8)).take 64) := by rw [hS]; exact HFIN
          rw [← hS] at HSB
          clear hSF hS HBD HS2 HFIN HDOC HMx HG HTC HTH HTL HL
          have HO0 := hid (World.ownsRow_nil wr (w.heap.size + 2) 5 1)
          obtain ⟨i0, hi, hz0, hz1, hz2⟩ := info_parts infoByte8
          go_wp2_with fail
          go_loopw [15, 16] (fun v15 v16 wq => ∃ i N : Nat, i ≤ 8 ∧ N = i * 8 ∧ v16 = .int .i64 i ∧ Hid (Sl512 w wq S) ∧ Hid (wq.ownsRow (w.heap.size + 2) 5 1 v15 N (Lib.byteCells ((S.take i).flatMap (bytesV 8))))) (fun _ v16 _ => 8 - (intOf v16).toNat)
          case atStart => exact ⟨0, 0, by omega, rfl, rfl, HS2'.out, HO0.out⟩
          case round =>
            clear HS2' HO0
            obtain ⟨i, N, hi8, hN, rfl, HS, HO⟩ := hrel
            by_cases hlt : i < 8
            · obtain ⟨X, hX⟩ : ∃ X, X = S.getD i 0 := ⟨_, rfl⟩
              have c0 : wr.cell? ⟨w.heap.size, 0, none⟩ = some (.int .u64 64) := Lib.cell_of_heap HS.out.1 0
              have hXb : X < 18446744073709551616 := by rw [hX]; exact HSB.out i
              have HX := hid (show S.take (i + 1) = S.take i ++ [X] by
                rw [List.take_add_one, hX]
                have hi' : i < S.length := by rw [HS8.out]; omega
                simp [hi'])
              have HXc := hid (show ∀ wq, Sl512 w wq S → wq.cell? ⟨w.heap.size + 1, i, none⟩ = some (.int .u64 (X : Int)) from fun wq h => by rw [hX]; exact h.2.1.cell i (by rw [HS8.out]; omega))
              have hin : (i : Int) < 8 := by omega
              have HNE := hid hN
              have HI8 := hid hlt
              clear hX hN hi8 hlt
              go_wp2_with fail
              go_loopw [15, 17] (fun v15 v17 wq => ∃ (j M2 : Nat) (z : Int), j ≤ 8 ∧ M2 = i * 8 + j ∧ z = 64 - 8 - 8 * (j : Int) ∧ v17 = .int .i64 z ∧ Hid (Sl512 w wq S) ∧ Hid (wq.ownsRow (w.heap.size + 2) 5 1 v15 M2 (Lib.byteCells ((S.take i).flatMap (bytesV 8) ++ (bytesV 8 X).take j)))) (fun _ v17 _ => (intOf v17 + 8).toNat)
              case atStart => exact ⟨0, N, 64 - 8, by omega, by have := HNE.out; omega, by omega, by first | rfl | go_num, HS.out, by rw [List.take_zero, List.append_nil]; exact HO.out⟩
              case round =>
                clear HS HO c0
                obtain ⟨j, M2, z, hj, hM2, hz, rfl, HS, HO⟩ := hrel
                by_cases hlj : j < 8
                · obtain ⟨E, hE⟩ : ∃ E, E = 8 * (8 - 1 - j) := ⟨_, rfl⟩
                  obtain rfl : z = (E : Int) := by omega
                  have hE64 : E < 64 := by omega
                  obtain ⟨Y, hY⟩ : ∃ Y : UInt8, Y = UInt8.ofNat (X / 2 ^ E % 256) := ⟨_, rfl⟩
                  have h3 : (X : Int) / 2 ^ E % 256 = (Y.toNat : Int) := by
                    have e1 : (X : Int) / 2 ^ E = ((X / 2 ^ E : Nat) : Int) := by rw [Int.natCast_ediv, Int.natCast_pow]; rfl
                    have e2 : Y.toNat = X / 2 ^ E % 256 := by rw [hY]; simp
                    rw [e1, e2]; omega
                  have HY := hid (show (bytesV 8 X).take (j + 1) = (bytesV 8 X).take j ++ [Y] by
                    rw [List.take_add_one, bytes_get 8 X j hlj, hY, ← hE]
                    rfl)
                  have cx := HXc.out wr HS.out
                  have HSZ := hid (show M2 + 1 ≤ maxLen ∧ M2 + 1 ≤ 140737488355328 by have := HI8.out; unfold maxLen; omega)
                  have HSW := hid (show w.heap.size + 2 ≤ wr.heap.size from HS.out.2.1.lt)
                  have HE := hid hE
                  have HM2 := hid hM2
                  have HJ := hid hlj
                  clear hE hY hM2 hz hj hlj
                  go_wp2_with (at_builtin; refine wpList_append_own _ rfl _ _ 22 rfl (w.heap.size + 2) 5 i0 (.int .u8 0) 1 1 Tryz.underlying22 hi hz0 hz1 hz2 rfl (by decide) _ _ _ rfl (own_kept HO.out ((Below.refl _ _).alloc (Nat.le_refl _) _)) ⟨wr.heap.size, 0, none⟩ 1 1 [.int .u8 (Y.toNat : Int)] rfl rfl (cell_one_new _ _ _) (by simp [Value.oneCell']) (by have := HSZ.out; omega) (by have := HSZ.out; omega) (by have := HSW.out; simp; omega) ?_; intro v3 w3 hown hgrow hnil)
                  have HS3 := hid (HS.out.grown HO.out hgrow)
                  have HO3 := hid (show w3.ownsRow (w.heap.size + 2) 5 1 v3 (M2 + 1) (Lib.byteCells ((S.take i).flatMap (bytesV 8) ++ (bytesV 8 X).take (j + 1))) by
                    rw [HY.out]
                    have := hown
                    rwa [show Lib.byteCells ((S.take i).flatMap (bytesV 8) ++ (bytesV 8 X).take j) ++ [Value.int .u8 (Y.toNat : Int)] = Lib.byteCells ((S.take i).flatMap (bytesV 8) ++ ((bytesV 8 X).take j ++ [Y])) by simp [Lib.byteCells]] at this)
                  clear hown hgrow hnil
                  go_wp2_with fail
                  go_roundw
                  case rel =>
                    have hE := HE.out
                    have hM2 := HM2.out
                    have hJ := HJ.out
                    first
                      | exact ⟨j + 1, M2 + 1, (E : Int) - 8, by omega, by omega, by omega, by first | rfl | go_num, HS3.out, HO3.out⟩
                      | ((repeat apply Exists.intro); refine ⟨?_, rfl⟩; exact ⟨j + 1, M2 + 1, (E : Int) - 8, by omega, by omega, by omega, by first | rfl | go_num, HS3.out, HO3.out⟩)
                      | ((repeat apply Exists.intro); exact ⟨⟨j + 1, M2 + 1, (E : Int) - 8, by omega, by omega, by omega, by first | rfl | go_num, HS3.out, HO3.out⟩, rfl⟩)
                  case measure => simp [intOf]; omega
                · obtain rfl : j = 8 := by omega
                  have hzn : z < 0 := by omega
                  have hzn2 : ¬ (0 ≤ z) := by omega
                  have HO2 := hid (show wr.ownsRow (w.heap.size + 2) 5 1 _ M2 (Lib.byteCells ((S.take (i + 1)).flatMap (bytesV 8))) by
                    have := HO.out
                    rwa [show (bytesV 8 X).take 8 = bytesV 8 X from List.take_of_length_le (by rw [bytes_len]; exact Nat.le_refl _), show (S.take i).flatMap (bytesV 8) ++ bytesV 8 X = (S.take (i + 1)).flatMap (bytesV 8) by rw [HX.out]; simp] at this)
                  have HM2 := hid hM2
                  clear HO hM2 hz hj hlj
                  go_wp2_with fail
                  go_roundw
                  case rel =>
                    have := HM2.out
                    have := HI8.out
                    first
                      | exact ⟨i + 1, M2, by omega, by omega, by go_num, HS.out, HO2.out⟩
                      | ((repeat apply Exists.intro); refine ⟨?_, rfl⟩; exact ⟨i + 1, M2, by omega, by omega, by go_num, HS.out, HO2.out⟩)
                      | ((repeat apply Exists.intro); exact ⟨⟨i + 1, M2, by omega, by omega, by go_num, HS.out, HO2.out⟩, rfl⟩)
                  case measure => have := HI8.out; simp [intOf]; omega
            · obtain rfl : i = 8 := by omega
              have hown := HO.out
              rw [List.take_of_length_le (by rw [HS8.out]; exact Nat.le_refl _)] at hown
              rcases hown.2 with ⟨hv0, hn0⟩ | ⟨g2, c2, cur, rfl, hg, hrow, hnc, hcm, hcs, htake⟩
              · omega
              have hcI : (64 : Int) ≤ (c2 : Int) := by omega
              have HR := hid (show SlB wr (.slice (some ⟨g2, 0, none⟩) 64 c2) (summedV wid sqr cbr 0 64 l) by
                rw [HFIN'.out]
                have hfl : (S.flatMap (bytesV 8)).length = 64 := by
                  have := hown.1
                  rw [Lib.byteCells_length] at this
                  omega
                refine .inr ⟨_, c2, by rw [List.length_take, hfl]; rfl, fun j hj => ?_⟩
                have hj2 : j < 64 := by rw [List.length_take] at hj; omega
                rw [Addr.add_lit, Nat.zero_add, hown.cellAt j (by omega)]
                have hj3 : j < (S.flatMap (bytesV 8)).length := by omega
                simp [Lib.byteCells]
                exact ⟨_, List.getElem?_eq_getElem hj3, rfl⟩)
              have HBL := hid HS.out.2.2
              clear HO HS hown hg hrow hnc hcm hcs htake hN hi8 hlt
              go_wp2_with fail
              go_ret2
              exact ⟨g2, c2, rfl, HR.out, HBL.out⟩

end Go.Proofs.YtbdlicomkpnalaaGreatDoor
