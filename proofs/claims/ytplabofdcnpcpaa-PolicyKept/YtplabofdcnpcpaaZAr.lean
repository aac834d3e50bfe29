/-
  The walk of the law PolicyKept.
-/
import Derived.Test.YtplabofdcnpcpaaZAq
set_option linter.unusedSimpArgs false
set_option linter.unusedVariables false
namespace Go.Proofs.Ytplabofdcnpcpaa
open Go.RowKit

/-- Blocks that the book may hold while the round's rules are kept. -/
def SK (lo hi : Nat) (Q : List (ByteArray × Value)) (k : Nat) (g : Nat) : Prop := g < lo ∨ hi ≤ g ∨ ∃ j, ∃ h : j < Q.length, j < k ∧ Q[j].2.ownBlock = some g

set_option maxHeartbeats 8000000 in
set_option maxRecDepth 100000 in
theorem policyKept_walk (s0 : ByteArray) (w : World) (hs0 : s0.size ≤ 9223372036854775807) :
    Calls Try.prog 6 #[.string s0] w fun e w' => e = .returned (.bool true) ∧ Below w.heap.size w w' := by
  have HF := hid (fun X => few10 s0 300 X (by decide) hs0)
  obtain ⟨s, hs⟩ : ∃ s : ByteArray, s = ⟨(s0.data.toList.take 300).toArray⟩ := ⟨_, rfl⟩
  have hsz : s.size ≤ 300 := by rw [Lib.size_eq, hs]; simp; omega
  rw [← hs] at HF
  obtain ⟨T, hT⟩ : ∃ T : ByteArray, T = s ++ (⟨#[59, 100, 101, 102, 97, 117, 108, 116, 45, 115, 114, 99, 32, 97, 32, 98]⟩ : ByteArray) := ⟨_, rfl⟩
  have hTs : T.size ≤ 316 := by rw [hT, ByteArray.size_append]; have : (⟨#[59, 100, 101, 102, 97, 117, 108, 116, 45, 115, 114, 99, 32, 97, 32, 98]⟩ : ByteArray).size = 16 := rfl; omega
  obtain ⟨L, hL⟩ : ∃ L, L = polV T.data.toList := ⟨_, rfl⟩
  obtain ⟨n, hn⟩ : ∃ n, n = L.length := ⟨_, rfl⟩
  have hn32 : n ≤ 32 := by rw [hn, hL]; exact polV_len _
  have HSZ := hid (show ∀ r ∈ L, r.vals.length ≤ 1000 by
    intro r hr
    rw [hL] at hr
    have := (polV_sz T.data.toList r hr).2.1
    rw [← Lib.size_eq] at this
    omega)
  have HP := hid (fun X => parse10 T false X (by omega))
  unfold ParsePost10 at HP
  rw [← hL, ← hn] at HP
  rw [hT] at HP
  have HN := hid hn
  have HB0 := hid (books w (fun g => g < w.heap.size + 1))
  have HCH := hid (fun X => chain_nWk X)
  unfold OwnT at HCH
  clear hs hT hTs hL hn hs0
  go_enter Try.func6, Try.ntmps6
  go_wp2_with fail
  go_loopw [4] (fun v4 wr => ∃ i : Nat, i ≤ 2 ∧ v4 = .int .i64 i ∧ Hid (KBs wr w.heap.size w.heap.size (34 * i) (fun g => g < wr.heap.size) ∧ Below w.heap.size w wr)) (fun v4 _ => 2 - (intOf v4).toNat)
  case atStart => exact ⟨0, by omega, rfl, HB0.out.more (Nat.le_refl _) (fun g hg => by simpa using hg), (Below.refl _ w).alloc (Nat.le_refl _) _⟩
  case round =>
    clear HB0
    obtain ⟨i, hi, rfl, HR⟩ := hrel
    by_cases hlt : i < 2
    · have hin : (i : Int) < 2 := by omega
      obtain ⟨WR, hWR⟩ : ∃ W, W = wr := ⟨_, rfl⟩
      subst hWR
      go_wp2_with fail
      refine (HF.out _).mono ?_
      rintro e wz ⟨rfl, rfl⟩
      go_wp2_with fail
      refine (HP.out _).mono ?_
      rintro e w1 ⟨v1, Q, rfl, hown, hrd, hb1⟩
      have HBw := hid (show w.heap.size ≤ WR.heap.size from HR.out.2.size)
      obtain ⟨a1, c1, rfl, hc1, hm1⟩ := own_form hown
      have hb2 := (Below.refl _ w1).alloc (Nat.le_refl _) (.cells #[.slice a1 n c1, .bool false] 33)
      have HQL := hid (show ∀ q ∈ Q, ∀ g, q.2.ownBlock = some g → WR.heap.size ≤ g ∧ g < w1.heap.size from hrd.old)
      have HQP := hid hrd.2.2
      have HPK := hid (show PK (w1.alloc (.cells #[.slice a1 n c1, .bool false] 33)) w.heap.size w1.heap.size (.slice a1 n c1) Q L from
        ⟨heap_alloc_new w1 _, by rw [← HN.out]; exact own_kept (own_low10 hown HBw.out) hb2, (hrd.low HBw.out).kept hb2⟩)
      have HPO := hid ((own_po (by rw [← HN.out]; exact hown) hrd).kept hb2)
      have HKB := hid ((HR.out.1).below (below2 hb1 hb2))
      have HB2 := hid (below2 HR.out.2 (below2 hb1 hb2))
      have HW1 := hid (show WR.heap.size ≤ w1.heap.size from hb1.size)
      have HVK := hid (valsK (.slice a1 n c1) false L ⟨#[105, 109, 103, 45, 115, 114, 99]⟩ (w1.alloc (.cells #[.slice a1 n c1, .bool false] 33)) HPO.out (by have := HN.out; omega) HSZ.out)
      clear hown hrd hb1 hb2 HPO HR
      go_wp2_with fail
      refine HVK.out.mono ?_
      rintro e w3 ⟨va, vn, vc, nm, b, rfl, ⟨X, hvn, hkp⟩, hb3⟩
      have hw1s : w1.heap.size + 1 ≤ w3.heap.size := by have := hb3.size; simpa using this
      have HPK3 := hid (HPK.out.below hb3)
      have HKB3 := hid (HKB.out.below hb3)
      have HB3 := hid (below2 HB2.out hb3)
      have HK3 := hid (keeps w.heap.size w.heap.size (34 * i) vn _ (.slice va vn vc) X w3 HKB3.out (hkp.lower (by have := HBw.out; have := HW1.out; simp; omega)) (fun g hg hlt => by have h8 := (hkp.lt g hg).1; simp at h8; have h9 := HW1.out; have h7 : g < WR.heap.size := hlt; omega) hvn (by omega) HB3.out.size)
      have HVL := hid (show ∀ g, (Value.slice va vn vc).ownBlock = some g → w1.heap.size ≤ g from fun g hg => by have := (hkp.lt g hg).1; simp at this; omega)
      clear hkp hb3 HVK HPK HKB HB2
      go_wp2_with fail
      refine HK3.out.mono ?_
      rintro e w4 ⟨rfl, hkb4, hbt4⟩
      have hs34 := hbt4.1.size
      have HPK4 := hid (HPK3.out.turned hbt4.2 HKB3.out.block)
      have HKB4 := hid (KBs.old (KBs.more (m := 34 * i + 1) (S' := fun g => g < WR.heap.size ∨ w1.heap.size ≤ g) hkb4 (Nat.le_refl _) (fun g hg => hg.elim (fun h => .inl h) (fun h => .inr (HVL.out g h)))))
      have HB4 := hid (HB3.out.trans hbt4.1)
      clear hkb4 hbt4 HK3 HPK3 HKB3 HB3
      go_wp2_with fail
      refine (HCH.out _).mono ?_
      rintro e w5 ⟨u5, rfl, hown5, hb5⟩
      obtain ⟨a5, c5, rfl, hc5, hm5⟩ := own_form hown5
      have hs45 := hb5.size
      have hkp5 := kp_own hown5
      have HPK5 := hid (HPK4.out.below hb5)
      have HKB5 := hid (HKB4.out.below hb5)
      have HB5 := hid (below2 HB4.out hb5)
      have HK5 := hid (keeps w.heap.size w.heap.size (34 * i + 1) 4 _ (.slice a5 4 c5) _ w5 HKB5.out (hkp5.lower (by have := HB4.out.size; omega)) (fun g hg hlt => by have h8 := (hkp5.lt g hg).1; have h7 : g < w4.heap.size := hlt.2; omega) (by decide) (by omega) HB5.out.size)
      have HUL := hid (show ∀ g, (Value.slice a5 4 c5).ownBlock = some g → w1.heap.size ≤ g from fun g hg => by have := (hkp5.lt g hg).1; omega)
      clear hown5 hb5 hkp5 HPK4 HKB4 HB4
      go_wp2_with fail
      refine HK5.out.mono ?_
      rintro e w6 ⟨rfl, hkb6, hbt6⟩
      have hs56 := hbt6.1.size
      have HPK6 := hid (HPK5.out.turned hbt6.2 HKB5.out.block)
      have HKB6 := hid (KBs.more (m := 34 * i + 2 + 0) (S' := SK WR.heap.size w1.heap.size Q 0) hkb6 (Nat.le_refl _) (fun g hg => hg.elim (fun h => h.1.elim (fun h => .inl h) (fun h => .inr (.inl h))) (fun h => .inr (.inl (HUL.out g h)))))
      have HB6 := hid (HB5.out.trans hbt6.1)
      clear hkb6 hbt6 HK5 HPK5 HKB5 HB5
      go_wp2_with fail
      go_loopw [9] (fun v9 wq => ∃ k : Nat, k ≤ n ∧ v9 = .int .i64 k ∧ Hid (KBs wq w.heap.size w.heap.size (34 * i + 2 + k) (SK WR.heap.size w1.heap.size Q k) ∧ PK wq w.heap.size w1.heap.size (.slice a1 n c1) Q L ∧ Below w.heap.size w wq)) (fun v9 _ => n - (intOf v9).toNat)
      case atStart => exact ⟨0, Nat.zero_le _, rfl, HKB6.out, HPK6.out, HB6.out⟩
      case round =>
        clear HKB6 HPK6 HB6
        obtain ⟨k, hk, rfl, HJ⟩ := hrel
        obtain ⟨d0, hcl⟩ := HJ.out.2.1.cells HN.out
        by_cases hkn : k < n
        · have hki : (k : Int) < (n : Int) := by omega
          obtain ⟨bb, oo, rfl, hq, dk⟩ := hcl k hkn
          have hkL : k < L.length := by have := HN.out; omega
          have hsl := (HJ.out.2.1.2.2.2.1 k hq hkL).2
          have hkp := kp_slv hsl
          have hvl : L[k].vals.length ≤ 1000 := HSZ.out _ (List.getElem_mem hkL)
          have HKK := hid (keeps w.heap.size w.heap.size (34 * i + 2 + k) _ _ Q[k].2 _ wr HJ.out.1 hkp (fun g hg hS => by
            have h1 := HQL.out Q[k] (List.getElem_mem hq) g hg
            rcases hS with h | h | ⟨j, hj, hjk, he⟩
            · omega
            · omega
            · have h2 := (List.pairwise_iff_getElem.1 HQP.out) j k (by simpa using hj) (by simpa using hq) hjk
              simp only [List.getElem_map] at h2
              rcases h2 with h2 | h2
              · rw [he] at h2; cases h2
              · exact h2 (by rw [he, hg])) hvl (by omega) HJ.out.2.2.size)
          obtain ⟨qa, ql, qc, hqv⟩ : ∃ a l c, Q[k].2 = .slice a l c := by
            obtain ⟨a, c, h8, _, _⟩ := hkp.slice
            exact ⟨a, _, c, h8⟩
          have HUP := hid (show ∀ g, (SK WR.heap.size w1.heap.size Q k g ∨ Q[k].2.ownBlock = some g) → SK WR.heap.size w1.heap.size Q (k + 1) g from fun g hg => by
            rcases hg with (h | h | ⟨j, hj, hjk, he⟩) | h
            · exact .inl h
            · exact .inr (.inl h)
            · exact .inr (.inr ⟨j, hj, by omega, he⟩)
            · exact .inr (.inr ⟨k, hq, by omega, h⟩))
          generalize Q[k].2 = VV at dk hqv HKK HUP
          subst hqv
          clear hsl hkp hvl hq hcl hkL
          go_wp2_with fail
          refine HKK.out.mono ?_
          rintro e w7 ⟨rfl, hkb7, hbt7⟩
          have HJ7 := hid (show KBs w7 w.heap.size w.heap.size (34 * i + 2 + (k + 1)) (SK WR.heap.size w1.heap.size Q (k + 1)) ∧ PK w7 w.heap.size w1.heap.size (.slice (some ⟨bb, oo, none⟩) n c1) Q L ∧ Below w.heap.size w w7 from
            ⟨KBs.more hkb7 (by omega) HUP.out, HJ.out.2.1.turned hbt7.2 HJ.out.1.block, HJ.out.2.2.trans hbt7.1⟩)
          clear hkb7 hbt7 HKK HUP d0 dk HJ
          go_wp2_with fail
          go_roundw
          case rel =>
            first
              | exact ⟨k + 1, by omega, by go_num, HJ7.out⟩
              | ((repeat apply Exists.intro); refine ⟨?_, rfl⟩; exact ⟨k + 1, by omega, by go_num, HJ7.out⟩)
              | ((repeat apply Exists.intro); exact ⟨⟨k + 1, by omega, by go_num, HJ7.out⟩, rfl⟩)
          case measure => simp [intOf]; omega
        · obtain rfl : k = n := by omega
          have hng : ¬ ((k : Int) < (k : Int)) := by omega
          have HF2 := hid (show KBs wr w.heap.size w.heap.size (34 * (i + 1)) (fun g => g < wr.heap.size) ∧ Below w.heap.size w wr from ⟨KBs.more (KBs.old HJ.out.1) (by omega) (fun g hg => hg.2), HJ.out.2.2⟩)
          clear hcl HJ hk hkn
          go_wp2_with fail
          go_roundw
          case rel =>
            first
              | exact ⟨i + 1, by omega, by go_num, HF2.out⟩
              | ((repeat apply Exists.intro); refine ⟨?_, rfl⟩; exact ⟨i + 1, by omega, by go_num, HF2.out⟩)
              | ((repeat apply Exists.intro); exact ⟨⟨i + 1, by omega, by go_num, HF2.out⟩, rfl⟩)
          case measure => simp [intOf]; omega
    · obtain rfl : i = 2 := by omega
      clear hi hlt
      obtain ⟨h, A, Y, xs, ys, hl, _, hbk⟩ := HR.out.1
      have HAP := hid (aparts _ _ h A Y xs ys wr hbk (by omega) HR.out.2.size)
      clear hbk
      go_wp2_with fail
      refine HAP.out.mono ?_
      rintro e w5 ⟨rfl, hb5⟩
      have HB5 := hid (HR.out.2.trans hb5.1)
      have HKN := hid (known10 w5)
      clear hb5 HAP HR
      go_wp2_with fail
      refine HKN.out.mono ?_
      rintro e w6 ⟨rfl, hb6⟩
      have HB6 := hid (below2 HB5.out hb6)
      clear hb6 HKN
      go_wp2_with fail
      go_ret
      exact ⟨rfl, HB6.out⟩

end Go.Proofs.Ytplabofdcnpcpaa
