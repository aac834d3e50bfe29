/-
  The walk of ostiarybook's Apart.
-/
import Derived.Test.YtplabofdcnpcpaaDoorZBksq
set_option linter.unusedSimpArgs false
set_option linter.unusedVariables false
namespace Go.Proofs.YtplabofdcnpcpaaDoor
open Go.RowKit

set_option maxHeartbeats 4000000 in
set_option maxRecDepth 100000 in
theorem aparts (B p : Nat) (h : Int) (A Y : Value) (xs ys : List Value) (w : World) (hbk : Bks w B p h A Y xs ys) (hn : xs.length ≤ 201) (hBw : B ≤ w.heap.size) :
    Calls Tryd.prog 15 #[.pointer (some ⟨p, 0, none⟩), .func (.func 16) #[] #[]] w fun e w' => e = .returned (.bool true) ∧ Bt 9 p B w w' := by
  have HBP := hid hbk.1
  have HST := hid (stayss B p h A Y xs ys w hbk hn)
  obtain ⟨aA, cA, rfl, hcA⟩ := hbk.2.2.2.1.form
  obtain ⟨n, hne⟩ : ∃ n, n = xs.length := ⟨_, rfl⟩
  have HNE := hid hne
  rw [← hne] at hn hcA HST
  clear hbk hne
  go_enter Tryd.func15, Tryd.ntmps15
  go_wp2_with fail
  refine HST.out.mono ?_
  rintro e w1 ⟨rfl, hbk1, hb1⟩
  have HAP := hid hbk1.av
  have HB1 := hid hb1
  clear hbk1 hb1 HST
  go_wp2_with fail
  go_loopw [5] (fun v5 wr => ∃ k : Nat, k ≤ n ∧ v5 = .int .i64 k ∧ Hid (Avs wr B p h (.slice aA n cA) xs k 0 ∧ Bt 9 p B w wr)) (fun v5 _ => n - (intOf v5).toNat)
  case atStart => exact ⟨0, Nat.zero_le _, rfl, HAP.out, HB1.out⟩
  case round =>
    clear HAP HB1
    obtain ⟨k, hk, rfl, HR⟩ := hrel
    obtain ⟨Y2, hp7⟩ := HR.out.1.1
    have c0 := cell_of_heapE hp7 0 _ rfl
    clear hp7
    by_cases hlt : k < n
    · have hin : (k : Int) < (n : Int) := by omega
      have hkx : k < xs.length := by have := HNE.out; omega
      obtain ⟨gA, oA, cA', eA, _, qA⟩ := HR.out.1.2.1.cell k hkx
      injection eA with eA1 _ _
      subst eA1
      have HXK := hid (show xs[k]? = some xs[k] by simp [hkx])
      have hrow := HR.out.1.2.2.1 k xs[k] HXK.out
      generalize xs[k] = X at qA hrow HXK
      clear hkx
      rcases hrow with rfl | ⟨G, O, N, C, cur, rfl, hBG, _, hNC, hCM, _, _⟩
      · have hcm : (0 : Int) ≤ 9223372036854775807 := by decide
        go_wp2_with fail
        go_quiet (fail)
        go_wp2_with fail
        go_loopw [7] (fun v wq => v = .int .i64 0 ∧ Hid (Avs wq B p h (.slice (some ⟨gA, oA, none⟩) n cA) xs k 0 ∧ Bt 9 p B w wq)) (fun _ _ => 0)
        case atStart => exact ⟨rfl, HR.out.1.below (Go.below_drewN (Below.refl _ wr) _), HR.out.2.step (Nat.le_trans hBw HR.out.2.1.size) (Go.below_drewN (Below.refl _ wr) _)⟩
        case round =>
          obtain ⟨rfl, HR2⟩ := hrel
          go_wp2_with fail
          go_roundw
          case rel =>
            first
              | exact ⟨k + 1, by omega, by go_num, HR2.out.1.next (fun g o n c hx => by rw [HXK.out] at hx; cases hx), HR2.out.2⟩
              | ((repeat apply Exists.intro); refine ⟨?_, rfl⟩; exact ⟨k + 1, by omega, by go_num, HR2.out.1.next (fun g o n c hx => by rw [HXK.out] at hx; cases hx), HR2.out.2⟩)
              | ((repeat apply Exists.intro); exact ⟨⟨k + 1, by omega, by go_num, HR2.out.1.next (fun g o n c hx => by rw [HXK.out] at hx; cases hx), HR2.out.2⟩, rfl⟩)
          case measure => simp [intOf]; omega
      · have hsl : ∀ wx, (Instr.sliceAt 33 (.slice (some ⟨G, O, none⟩) N C) none (some (.int .i64 (C : Int))) none).run Tryd.prog wx = .ok (.slice (some ⟨G, O, none⟩) C C) wx := fun wx => slice_fulls G O N C wx hNC
        have HCM := hid hCM
        have hC63 : C ≤ 9223372036854775807 := by unfold maxLen at hCM; exact hCM
        clear hCM
        go_wp2_with fail
        go_quiet (fail)
        go_wp2_with fail
        clear qA c0 hsl
        go_loopw [7] (fun v7 wq => ∃ m : Nat, m ≤ C ∧ v7 = .int .i64 m ∧ Hid (Avs wq B p h (.slice (some ⟨gA, oA, none⟩) n cA) xs k m ∧ Bt 9 p B w wq)) (fun v7 _ => C - (intOf v7).toNat)
        case atStart => exact ⟨0, Nat.zero_le _, rfl, HR.out.1.below (Go.below_drewN (Below.refl _ wr) _), HR.out.2.step (Nat.le_trans hBw HR.out.2.1.size) (Go.below_drewN (Below.refl _ wr) _)⟩
        case round =>
          clear HR
          obtain ⟨m, hm, rfl, HR⟩ := hrel
          by_cases hmlt : m < C
          · have hmI : (m : Int) < (C : Int) := by omega
            obtain ⟨M0, hM0⟩ : ∃ M, M = mk0s k m := ⟨_, rfl⟩
            have HME0 := hid hM0
            have HMK := hid (show ∀ X, Calls Tryd.prog 16 #[.int .i64 (k : Int), .int .i64 (m : Int)] X fun e w' => e = .returned (.string M0) ∧ Below X.heap.size X w' from fun X => by rw [hM0]; exact marks_any k m (by omega) (by omega) X)
            clear hM0
            go_wp2_with fail
            refine (HMK.out _).mono ?_
            rintro e w8 ⟨rfl, hb8⟩
            have HA8 := hid (HR.out.1.below hb8)
            have HB8 := hid (HR.out.2.step (Nat.le_trans hBw HR.out.2.1.size) hb8)
            obtain ⟨x0, d0, f0, _⟩ := (HA8.out.2.2.1 k _ HXK.out).three m hmlt
            have HG8 := hid (show ∃ cur, w8.heap[G]? = some (Obj.cells cur 9 (0, 0)) from ((HA8.out.2.2.1 k _ HXK.out).lt G rfl).2)
            clear hb8 HR
            go_wp2_with fail
            go_roundw
            case rel =>
              have e4 := HA8.out.mark HXK.out hmlt
              rw [← HME0.out] at e4
              obtain ⟨cur8, hG8⟩ := HG8.out
              first
                | exact ⟨m + 1, by omega, by go_num, e4, (HB8.out.put hG8 hBG _ _)⟩
                | ((repeat apply Exists.intro); refine ⟨?_, rfl⟩; exact ⟨m + 1, by omega, by go_num, e4, (HB8.out.put hG8 hBG _ _)⟩)
                | ((repeat apply Exists.intro); exact ⟨⟨m + 1, by omega, by go_num, e4, (HB8.out.put hG8 hBG _ _)⟩, rfl⟩)

            case measure => simp [intOf]; omega
          · obtain rfl : m = C := by omega
            have hmI : ¬ ((m : Int) < (m : Int)) := by omega
            have HR9 := hid (show Avs wr B p h (.slice (some ⟨gA, oA, none⟩) n cA) xs (k + 1) 0 ∧ Bt 9 p B w wr from ⟨HR.out.1.next (fun g o n c hx => by rw [HXK.out] at hx; injection hx with hx; injection hx with _ _ e3; omega), HR.out.2⟩)
            clear HR hm hmlt
            go_wp2_with fail
            go_roundw
            case rel =>
              first
                | exact ⟨k + 1, by omega, by go_num, HR9.out⟩
                | ((repeat apply Exists.intro); refine ⟨?_, rfl⟩; exact ⟨k + 1, by omega, by go_num, HR9.out⟩)
                | ((repeat apply Exists.intro); exact ⟨⟨k + 1, by omega, by go_num, HR9.out⟩, rfl⟩)

            case measure => simp [intOf]; omega
    · obtain rfl : k = n := by omega
      have hng : ¬ ((k : Int) < (k : Int)) := by omega
      clear hk hlt
      go_wp2_with fail
      clear c0
      refine wp_cut4b (aloops B p h aA cA k xs w _ _ _ _ _ _ _ _ _ _ _ _ _ _ _ _ _ _ _ _ _ _ _ _ _ _ _ _ _ _ _ _ _ _ _ _ _ _ _ _ _ _ _ _ _ _ _ _ _ _ _ _ _ _ _ _ _ _ _ _ _ _ _ _ _ _ _ _ _ _ _ _ _ _ _ _ _ _ _ _ _ _ _ _ _ _ _ _ _ _ _ _ _ _ _ _ _ _ _ _ hn hcA hBw HNE HR ?_)
      intro u2 u3 u4 u5 u6 u7 u8 u9 u10 u11 u12 u13 u14 u15 u16 u17 u18 u19 u20 u21 u22 u23 u24 u25 u26 u27 u28 u29 u30 u31 u32 u33 u34 u35 u36 u37 u38 u39 u40 u41 u42 u43 u44 u45 u46 u47 u48 u49 u50 u51 u52 u53 u54 u55 u56 u57 u58 u59 u60 u61 u62 u63 u64 u65 u66 u67 u68 u69 u70 u71 u72 u73 u74 u75 u76 u77 u78 u79 u80 u81 u82 u83 u84 u85 u86 u87 u88 u89 u90 u91 u92 u93 u94 u95 u96 u97 u98 u99 u100 w8 hav hbw
      obtain ⟨Y3, hp7⟩ := hav.1
      have c0 := cell_of_heapE hp7 0 _ rfl
      have f0 := Lib.frozen_of_heap hp7 0
      have f1 := Lib.frozen_of_heap hp7 1
      have f2 := Lib.frozen_of_heap hp7 2
      have c1 := cell_of_heapE hp7 1 _ rfl
      have c2 := cell_of_heapE hp7 2 _ rfl
      have HBW := hid hbw
      clear hp7 hav hbw
      go_wp2_with fail
      go_ret
      exact ⟨rfl, ((HBW.out.set HBP.out 0 _).set HBP.out 1 _).set HBP.out 2 _⟩

end Go.Proofs.YtplabofdcnpcpaaDoor
