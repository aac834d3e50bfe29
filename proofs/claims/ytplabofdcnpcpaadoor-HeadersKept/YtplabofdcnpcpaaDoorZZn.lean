/-
  The walk of the law HeadersKept.
-/
import Derived.Test.YtplabofdcnpcpaaDoorZZm
set_option linter.unusedSimpArgs false
set_option linter.unusedVariables false
namespace Go.Proofs.YtplabofdcnpcpaaDoor
open Go.RowKit

set_option maxHeartbeats 8000000 in
set_option maxRecDepth 100000 in
theorem headersKept_walk (v0 : Value) (L0 : List Hd) (nm : ByteArray) (w : World) (h0 : HdAt w v0 L0) (hz0 : Szd 140737488351232 L0) (hnm : nm.size ≤ 140737488351232) (hG : G5 w) :
    Calls Tryd.prog 3 #[v0, .string nm] w fun e w' => e = .returned (.bool true) ∧ Below w.heap.size w w' := by
  have HG := hid hG
  have HF := hid (fewHeaders_any v0 L0 10 50 w h0 (hz0.mono (by decide)) (by decide) (by decide))
  unfold HdPost at HF
  obtain ⟨L, hL⟩ : ∃ L, L = fewH L0 10 50 := ⟨_, rfl⟩
  rw [← hL] at HF
  have hln : L.length ≤ 10 := by rw [hL]; exact fewH_len _ _ _
  have HZ := hid (show Szd 50 L by rw [hL]; exact fewH_szd _ _ _)
  have HBu := hid (show bulkV L ≤ 990 by have := HZ.out.bulk; have h2 : (50 + 2) * L.length ≤ 520 := by omega
                                         omega)
  have HAd := hid (fun lv X (hX : HdAt X lv L) => addK lv L ⟨#[120]⟩ ⟨#[121]⟩ X hX (by omega) (by decide) (by decide))
  have HSe := hid (fun lv X (hX : HdAt X lv L) => setK lv L ⟨#[120]⟩ ⟨#[121]⟩ X hX (by omega) (by decide) (by decide) (HZ.out.mono (by decide)))
  have HSp := hid (fun lv X (hX : HdAt X lv L) => splitK lv L nm X hX (by omega) hnm (HZ.out.mono (by decide)) HBu.out)
  have HDr := hid (fun lv X (hX : HdAt X lv L) => dropK lv L nm X hX (by omega) hnm (HZ.out.mono (by decide)))
  have HSo := hid (fun lv X (hX : HdAt X lv L) => sortedK lv L X hX (by omega) (HZ.out.mono (by decide)))
  obtain ⟨n, hn⟩ : ∃ n, n = L.length := ⟨_, rfl⟩
  have HN := hid hn
  rw [← hn] at HF
  obtain ⟨a0, c0, rfl, _, _, _⟩ := h0.view
  clear hL hG h0 hz0 hn hnm
  go_enter Tryd.func3, Tryd.ntmps3
  go_wp2_with fail
  refine HF.out.mono ?_
  rintro e w1 ⟨lv, rfl, hown1, hb1⟩
  obtain ⟨la, lc, rfl, _, _⟩ := (kph_own hown1).slice
  have HP := hid hb1.size
  obtain ⟨oh, hoh⟩ : ∃ o, o = Obj.cells #[.slice none 0 0, .slice none 0 0, .int .i64 0, .bool false] 26 (0, 0) := ⟨_, rfl⟩
  obtain ⟨os, hos⟩ : ∃ o, o = Obj.cells #[.slice none 0 0, .slice none 0 0, .int .i64 0, .bool false] 29 (0, 0) := ⟨_, rfl⟩
  have HS0 := hid (show StK w w1.heap.size (.slice la n lc) n L (4 * 0) 0 ((w1.alloc oh).alloc os).heap.size ((w1.alloc oh).alloc os).heap.size ((w1.alloc oh).alloc os) by
    have hba := (Below.refl _ w1).alloc (Nat.le_refl _) oh
    have hbb := (Below.refl _ (w1.alloc oh)).alloc (Nat.le_refl _) os
    have hkh := bookh w1 (fun g => g < ((w1.alloc oh).alloc os).heap.size)
    have hks := books (w1.alloc oh) (fun g => g < ((w1.alloc oh).alloc os).heap.size)
    have hsz : (w1.alloc oh).heap.size = w1.heap.size + 1 := by simp
    rw [hsz] at hks
    rw [← hoh] at hkh
    rw [← hos] at hks
    exact ⟨hkh.below hbb, hks, own_kept (own_kept hown1 hba) hbb, below2 (below2 hb1 hba) hbb, by simp⟩)
  rw [hoh, hos] at HS0
  clear hoh hos hown1 hb1 HF
  go_wp2_with fail
  go_loopw [7] (fun v7 wr => ∃ i : Nat, i ≤ 2 ∧ v7 = .int .i64 i ∧ Hid (StK w w1.heap.size (.slice la n lc) n L (4 * i) i wr.heap.size wr.heap.size wr)) (fun v7 _ => 2 - (intOf v7).toNat)
  case atStart => exact ⟨0, by omega, rfl, HS0⟩
  case round =>
    clear HS0
    obtain ⟨i, hi, rfl, HR⟩ := hrel
    by_cases hlt : i < 2
    · have hin : (i : Int) < 2 := by omega
      obtain ⟨WR, hWR⟩ : ∃ W, W = wr := ⟨_, rfl⟩
      subst hWR
      have HPw := hid HR.out.2.2.2.2
      go_wp2_with fail
      refine (HAd.out _ _ (HR.out.hd HN.out)).mono ?_
      rintro e w2 ⟨u2, k2, rfl, a2, n2, c2, X2, rfl, hn2, hk2, hb2⟩
      have HS2 := hid (HR.out.below hb2)
      have HK2 := hid hk2
      have HZ2 := hid hb2.size
      have HL2 := hid hk2.lt
      clear hk2 hb2 HR
      go_wp2_with fail
      refine (HSe.out _ _ (HS2.out.hd HN.out)).mono ?_
      rintro e w3 ⟨u3, k3, rfl, a3, n3, c3, X3, rfl, hn3, hk3, hb3⟩
      have HS3 := hid (HS2.out.below hb3)
      have HK23 := hid (HK2.out.below hb3)
      have HK3 := hid hk3
      have HZ3 := hid hb3.size
      have HL3 := hid hk3.lt
      clear hk3 hb3 HS2 HK2
      go_wp2_with fail
      refine (HSp.out _ _ (HS3.out.hd HN.out)).mono ?_
      rintro e w4 ⟨a4, n4, c4, b4, X4, rfl, hn4, hk4, hb4⟩
      have HS4 := hid (HS3.out.below hb4)
      have HK24 := hid (HK23.out.below hb4)
      have HK34 := hid (HK3.out.below hb4)
      have HK4 := hid hk4
      have HZ4 := hid hb4.size
      have HL4 := hid hk4.lt
      have HKa := hid (HS4.out.keeph HP.out (HK24.out.lower (by have := HPw.out; omega)) hn2 (by omega) w2.heap.size HL2.out HZ2.out)
      clear hk4 hb4 HS3 HK23 HK3 HK24
      go_wp2_with fail
      refine HKa.out.mono ?_
      rintro e w5 ⟨rfl, hs5, ht5, hz5⟩
      have HS5 := hid hs5
      have HK35 := hid (kp_turned HK34.out ht5 HS4.out.1.block (by decide) (by decide))
      have HK45 := hid (kp_turned HK4.out ht5 HS4.out.1.block (by decide) (by decide))
      have HZ5 := hid hz5
      have HKb := hid (HS5.out.keeph HP.out (HK35.out.lower (by have := HPw.out; have := HZ2.out; omega)) hn3 (by omega) w3.heap.size HL3.out HZ3.out)
      clear hs5 ht5 hz5 HK34 HK4 HS4 HKa
      go_wp2_with fail
      refine HKb.out.mono ?_
      rintro e w6 ⟨rfl, hs6, ht6, hz6⟩
      have HS6 := hid hs6
      have HK46 := hid (kp_turned HK45.out ht6 HS5.out.1.block (by decide) (by decide))
      have HZ6 := hid hz6
      clear hs6 ht6 hz6 HK35 HK45 HS5 HKb
      go_wp2_with fail
      refine (HDr.out _ _ (HS6.out.hd HN.out)).mono ?_
      rintro e w7 ⟨u7, rfl, a7, n7, c7, X7, rfl, hn7, hk7, hb7⟩
      have HS7 := hid (HS6.out.below hb7)
      have HK47 := hid (HK46.out.below hb7)
      have HZ7 := hid hb7.size
      have HL7 := hid hk7.lt
      have HKd := hid (HS7.out.keeph HP.out (hk7.lower (by have := HPw.out; have := HZ2.out; have := HZ3.out; have := HZ4.out; have := HZ5.out; have := HZ6.out; omega)) hn7 (by omega) w7.heap.size (fun g hg => by have := HL7.out g hg; have := HZ4.out; have := HZ5.out; have := HZ6.out; omega) (by have := HZ4.out; have := HZ5.out; have := HZ6.out; have := HZ7.out; omega))
      clear hk7 hb7 HS6 HK46
      go_wp2_with fail
      refine HKd.out.mono ?_
      rintro e w8 ⟨rfl, hs8, ht8, hz8⟩
      have HS8 := hid hs8
      have HK48 := hid (kp_turned HK47.out ht8 HS7.out.1.block (by decide) (by decide))
      have HZ8 := hid hz8
      clear hs8 ht8 hz8 HK47 HS7 HKd
      go_wp2_with fail
      refine (HSo.out _ _ (HS8.out.hd HN.out)).mono ?_
      rintro e w9 ⟨u9, rfl, a9, n9, c9, X9, rfl, hn9, hk9, hb9⟩
      have HS9 := hid (HS8.out.below hb9)
      have HK49 := hid (HK48.out.below hb9)
      have HZ9 := hid hb9.size
      have HL9 := hid hk9.lt
      have HKs := hid (HS9.out.keeph HP.out (hk9.lower (by have := HPw.out; have := HZ2.out; have := HZ3.out; have := HZ4.out; have := HZ5.out; have := HZ6.out; have := HZ7.out; have := HZ8.out; omega)) hn9 (by omega) w9.heap.size (fun g hg => by have := HL9.out g hg; have := HZ8.out; omega) (by have := HZ8.out; have := HZ9.out; omega))
      clear hk9 hb9 HS8 HK48
      go_wp2_with fail
      refine HKs.out.mono ?_
      rintro e w10 ⟨rfl, hs10, ht10, hz10⟩
      have HS10 := hid hs10
      have HK410 := hid (kp_turned HK49.out ht10 HS9.out.1.block (by decide) (by decide))
      have HZ10 := hid hz10
      have HKc := hid (HS10.out.keeps HP.out (HK410.out.lower (by have := HPw.out; have := HZ2.out; have := HZ3.out; omega)) hn4 (by omega) w4.heap.size (fun g hg => by have := HL4.out g hg; have := HZ2.out; have := HZ3.out; omega) (by have := HZ2.out; have := HZ3.out; have := HZ4.out; omega))
      clear hs10 ht10 hz10 HK49 HS9 HKs
      go_wp2_with fail
      refine HKc.out.mono ?_
      rintro e w11 ⟨rfl, hs11, hz11⟩
      have HF2 := hid (show StK w w1.heap.size (.slice la n lc) n L (4 * (i + 1)) (i + 1) w11.heap.size w11.heap.size w11 from
        ⟨hs11.1.more (by omega) (fun g hg => by have h7 : g < w9.heap.size := hg; have := HZ10.out; show g < w11.heap.size; omega), hs11.2.1.more (Nat.le_refl _) (fun g hg => by have h7 : g < w4.heap.size := hg; have := HZ5.out; have := HZ6.out; have := HZ7.out; have := HZ8.out; have := HZ9.out; have := HZ10.out; show g < w11.heap.size; omega), hs11.2.2⟩)
      clear hs11 hz11 HKc HK410 HS10
      go_wp2_with fail
      go_roundw
      case rel =>
        first
          | exact ⟨i + 1, by omega, by go_num, HF2.out⟩
          | ((repeat apply Exists.intro); refine ⟨?_, rfl⟩; exact ⟨i + 1, by omega, by go_num, HF2.out⟩)
          | ((repeat apply Exists.intro); exact ⟨⟨i + 1, by omega, by go_num, HF2.out⟩, rfl⟩)
      case measure => simp [intOf]; omega
    · obtain rfl : i = 2 := by omega
      clear hi hlt
      obtain ⟨h, A, Y, xs, ys, hl, _, hbk⟩ := HR.out.1
      have HAP := hid (aparth _ _ h A Y xs ys wr hbk (by omega) (by have := HR.out.2.2.2.2; omega))
      clear hbk
      go_wp2_with fail
      refine HAP.out.mono ?_
      rintro e w5 ⟨rfl, hb5⟩
      have HKS := hid (HR.out.2.1.turnedH hb5.2 HR.out.1.block)
      have HB5 := hid (HR.out.2.2.2.1.trans (hb5.1.mono HP.out))
      have HZ5 := hid (show w1.heap.size + 2 ≤ w5.heap.size by have := hb5.1.size; have := HR.out.2.2.2.2; omega)
      obtain ⟨h', A', Y', xs', ys', hl', _, hbk'⟩ := HKS.out
      have HAS := hid (aparts _ _ h' A' Y' xs' ys' w5 hbk' (by omega) (by have := HZ5.out; omega))
      clear hb5 HAP HR hbk' HKS
      go_wp2_with fail
      refine HAS.out.mono ?_
      rintro e w6 ⟨rfl, hb6⟩
      have HB6 := hid (HB5.out.trans (hb6.1.mono (Nat.le_succ_of_le HP.out)))
      have HKN := hid (known_any w6 (HG.out.kept HB6.out))
      clear hb6 HAS
      go_wp2_with fail
      refine HKN.out.mono ?_
      rintro e w7 ⟨rfl, hb7⟩
      have HB7 := hid (below2 HB6.out hb7)
      clear hb7 HKN
      go_wp2_with fail
      go_ret
      exact ⟨rfl, HB7.out⟩

end Go.Proofs.YtplabofdcnpcpaaDoor
