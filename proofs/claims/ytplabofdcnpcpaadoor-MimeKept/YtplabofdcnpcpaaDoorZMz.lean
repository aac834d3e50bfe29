/-
  The walk of the law MimeKept.
-/
import Derived.Test.YtplabofdcnpcpaaDoorZMp
import Derived.Test.YtplabofdcnpcpaaDoorZBkmi
set_option linter.unusedSimpArgs false
set_option linter.unusedVariables false
namespace Go.Proofs.YtplabofdcnpcpaaDoor
open Go.RowKit

def bah (L : List Hd) : List ByteArray := L.flatMap fun h => [⟨h.name.toArray⟩, ⟨h.value.toArray⟩]
theorem cS_bah (L : List Hd) : cS (bah L) = cellsH L := by simp [cS, bah, cellsH, List.map_flatMap]

theorem kph_own {w : World} {B n : Nat} {T : TypeId} {v : Value} {L : List Hd} (h : w.ownsRow B T 2 v n (cellsH L)) : KpL 2 T w B v n (bah L) := by
  rw [← cS_bah] at h
  exact own_kp h

theorem KBm.block {w : World} {B p n : Nat} {S : Nat → Prop} (h : KBm w B p n S) : ∃ cur, w.heap[p]? = some (Obj.cells cur 50 (0, 0)) := by
  obtain ⟨h1, A, Y, xs, ys, _, _, hbk⟩ := h
  exact ⟨_, hbk.2.2.1⟩

theorem turned_at {w w' : World} {p q : Nat} {cur : Array Value} {T : TypeId} {fz : Nat × Nat} (h : w.heap[q]? = some (Obj.cells cur T fz)) (ht : TurnedBut 51 p w w') (hp : ∃ cur, w.heap[p]? = some (Obj.cells cur 50 (0, 0))) (h1 : T ≠ 51) (h2 : T ≠ 50) : w'.heap[q]? = w.heap[q]? := by
  obtain ⟨pc, hp⟩ := hp
  exact ht q (Array.getElem?_eq_some_iff.1 h).1 (kind_nf h hp h2) (fun c2 f2 h3 => by rw [h] at h3; injection h3 with h3; injection h3 with _ h3 _; exact h1 h3)

theorem Tri.turned {w w' : World} {p q : Nat} {a m : ByteArray} {v : Value} (h : Tri w q a m v) (ht : TurnedBut 51 p w w') (hp : ∃ cur, w.heap[p]? = some (Obj.cells cur 50 (0, 0))) : Tri w' q a m v := by
  unfold Tri at h ⊢
  exact (turned_at h ht hp (by decide) (by decide)).trans h

theorem kpm_turned {w w' : World} {p B n : Nat} {v : Value} {X : List ByteArray} (h : KpL 2 60 w B v n X) (ht : TurnedBut 51 p w w') (hp : ∃ cur, w.heap[p]? = some (Obj.cells cur 50 (0, 0))) : KpL 2 60 w' B v n X := by
  refine h.same fun k hk => ?_
  obtain ⟨cur, hc⟩ := h.kind k hk
  exact turned_at hc ht hp (by decide) (by decide)

theorem ba_ext6 {a b : ByteArray} (h : a.data.toList = b.data.toList) : a = b := by
  cases a; cases b
  congr
  exact Array.toList_inj.1 h

set_option maxHeartbeats 400000 in
theorem few6 (s : ByteArray) (n : Nat) (w : World) (hn : n ≤ 1000000) (hs : s.size ≤ 9223372036854775807) :
    Calls Tryd.prog 19 #[.string s, .int .i64 n] w fun e w' => e = .returned (.string ⟨(s.data.toList.take n).toArray⟩) ∧ w = w' := by
  by_cases h : n < s.size
  · have h' : (n : Int) < (s.size : Int) := by omega
    have HE := hid (show s.extract 0 n = ⟨(s.data.toList.take n).toArray⟩ from ba_ext6 (by rw [Lib.extract_data]; simp))
    go_enter Tryd.func19, Tryd.ntmps19
    go_wp2
    go_ret
    rw [← HE.out]
    exact ⟨rfl, rfl⟩
  · have h' : ¬ ((n : Int) < (s.size : Int)) := by omega
    have HE := hid (show s = ⟨(s.data.toList.take n).toArray⟩ from ba_ext6 (by rw [List.take_of_length_le (by simp; omega)]))
    go_enter Tryd.func19, Tryd.ntmps19
    go_wp2
    go_ret
    rw [← HE.out]
    exact ⟨rfl, rfl⟩

def mkP6 : List (List UInt8) := [[97, 47, 98, 59, 99, 104, 97, 114, 115, 101, 116, 61, 99], [97, 47, 98]]
def mkT6 : List Hd := [⟨[99, 104, 97, 114, 115, 101, 116], [99]⟩]
theorem mkP6_ex : exV mkP6 = (⟨[97], [98], mkT6⟩, true) := by decide +kernel

set_option maxHeartbeats 8000000 in
set_option maxRecDepth 100000 in
theorem mimeKept_walk (s0 : ByteArray) (w : World) (hs0 : s0.size ≤ 140737488351232) (hG : G5 w) :
    Calls Tryd.prog 4 #[.string s0] w fun e w' => e = .returned (.bool true) ∧ Below w.heap.size w w' := by
  have HG := hid hG
  have HF := hid (fun X => few6 s0 200 X (by decide) (by omega))
  obtain ⟨s, hs⟩ : ∃ s : ByteArray, s = ⟨(s0.data.toList.take 200).toArray⟩ := ⟨_, rfl⟩
  have hsz : s.size ≤ 200 := by rw [Lib.size_eq, hs]; simp; omega
  rw [← hs] at HF
  have hpn : (knV s.data.toList).params.length ≤ 200 := by have := (kn_len s.data.toList).2.2; rw [← Lib.size_eq] at this; omega
  have HP := hid (fun X hX => parse6_any s X hX (by omega))
  unfold KnPost knVal at HP
  obtain ⟨ok, hok⟩ : ∃ ok, knOk s.data.toList = ok := ⟨_, rfl⟩
  rw [hok] at HP
  generalize hK : knV s.data.toList = t at *
  obtain ⟨tj, tn, L⟩ := t
  simp only at HP hpn
  obtain ⟨A, hA⟩ : ∃ A, ba tj = A := ⟨_, rfl⟩
  obtain ⟨M, hM⟩ : ∃ M, ba tn = M := ⟨_, rfl⟩
  rw [hA, hM] at HP
  obtain ⟨n, hn⟩ : ∃ n, n = L.length := ⟨_, rfl⟩
  rw [← hn] at HP hpn
  have HB0 := hid (bookm w (fun g => g < w.heap.size + 1))
  clear hs hA hM hK hok hn hs0 hG hsz
  go_enter Tryd.func4, Tryd.ntmps4
  go_wp2_with fail
  go_loopw [4] (fun v4 wr => ∃ i : Nat, i ≤ 2 ∧ v4 = .int .i64 i ∧ Hid (KBm wr w.heap.size w.heap.size (2 * i) (fun g => g < wr.heap.size) ∧ Below w.heap.size w wr)) (fun v4 _ => 2 - (intOf v4).toNat)
  case atStart => exact ⟨0, by omega, rfl, HB0.out.more (Nat.le_refl _) (fun g hg => by simpa using hg), (Below.refl _ w).alloc (Nat.le_refl _) _⟩
  case round =>
    clear HB0
    obtain ⟨i, hi, rfl, HR⟩ := hrel
    by_cases hlt : i < 2
    · have hin : (i : Int) < 2 := by omega
      obtain ⟨WR, hWR⟩ : ∃ W, W = wr := ⟨_, rfl⟩
      subst hWR
      go_wp2_with fail
      refine (HF.out _).mono ?_
      rintro e wz ⟨rfl, rfl⟩
      go_wp2_with fail
      refine (HP.out _ (HG.out.kept HR.out.2)).mono ?_
      rintro e w1 ⟨v1, rfl, hown, hb1⟩
      have HBw := hid (show w.heap.size ≤ WR.heap.size from HR.out.2.size)
      have HWs := hid hb1.size
      have hkp := kph_own hown
      obtain ⟨a1, c1, rfl, hc1, hm1⟩ := hkp.slice
      have hb2 := (Below.refl _ w1).alloc (Nat.le_refl _) (.cells #[.string A, .string M, .slice a1 n c1] 53)
      have HT := hid (show Tri (w1.alloc (.cells #[.string A, .string M, .slice a1 n c1] 53)) w1.heap.size A M (.slice a1 n c1) from heap_alloc_new _ _)
      have HKP := hid ((hkp.lower HBw.out).below hb2)
      have HVL := hid (show ∀ g, (Value.slice a1 n c1).ownBlock = some g → WR.heap.size ≤ g ∧ g < w1.heap.size from fun g hg => hkp.lt g hg)
      have HKB := hid ((HR.out.1).below (below2 hb1 hb2))
      have HB2 := hid (below2 HR.out.2 (below2 hb1 hb2))
      clear hown hkp hb1 hb2 HR
      obtain ⟨W2, hW2⟩ : ∃ W, w1.alloc (.cells #[.string A, .string M, .slice a1 n c1] 53) = W := ⟨_, rfl⟩
      have hW2s : W2.heap.size = w1.heap.size + 1 := by rw [← hW2]; simp
      rw [hW2] at HT HKP HKB HB2
      have HBx := hid (show Below W2.heap.size W2 (W2.alloc (.cells (cellsT mkP6).toArray 9)) from (Below.refl _ W2).alloc (Nat.le_refl _) _)
      have HKd := hid (kinds_any _ mkP6 _ (tx_new6 W2 mkP6 9 (by decide)) (by decide))
      rw [hW2s] at HKd
      go_wp2_with fail
      refine HKd.out.mono ?_
      rintro e w4 ⟨v4, rfl, ho4, hb4⟩
      have hb24 := below2 HBx.out hb4
      have HT4 := hid (HT.out.kept hb24)
      have HKP4 := hid (HKP.out.below hb24)
      have HKB4 := hid (HKB.out.below hb24)
      have HB4 := hid (below2 HB2.out hb24)
      have hs4 : w1.heap.size ≤ w4.heap.size := by have := hb24.size; omega
      have HEx := hid (exk_any _ mkP6 _ (HG.out.kept HB4.out) ho4 (by decide) (by decide))
      unfold ExPost knVal at HEx
      rw [mkP6_ex] at HEx
      simp only [show mkT6.length = 1 from rfl] at HEx
      obtain ⟨a4, n4, c4, rfl⟩ := own_slice ho4
      clear ho4 hb4 hb24 hW2 hW2s HT HKP HKB HB2 HKd HBx
      go_wp2_with fail
      refine HEx.out.mono ?_
      rintro e w5 ⟨v5, rfl, ho5, hb5⟩
      have hkp5 := kph_own ho5
      obtain ⟨a5, c5, rfl, hc5, hm5⟩ := hkp5.slice
      have hb6 := (Below.refl _ w5).alloc (Nat.le_refl _) (.cells #[.string (ba [97]), .string (ba [98]), .slice a5 1 c5] 53)
      have hb56 := below2 hb5 hb6
      have HVL5 := hid (show ∀ g, (Value.slice a5 1 c5).ownBlock = some g → w4.heap.size ≤ g ∧ g < w5.heap.size from fun g hg => hkp5.lt g hg)
      have HT5 := hid (show Tri (w5.alloc (.cells #[.string (ba [97]), .string (ba [98]), .slice a5 1 c5] 53)) w5.heap.size (ba [97]) (ba [98]) (.slice a5 1 c5) from heap_alloc_new _ _)
      have HKP5 := hid ((hkp5.lower HB4.out.size).below hb6)
      have HT6 := hid (HT4.out.kept hb56)
      have HKP6 := hid (HKP4.out.below hb56)
      have HKB6 := hid (HKB4.out.below hb56)
      have HB6 := hid (below2 HB4.out hb56)
      clear ho5 hkp5 hb5 hb6 hb56 HT4 HKP4 HKB4 HEx
      obtain ⟨W6, hW6⟩ : ∃ W, w5.alloc (.cells #[.string (ba [97]), .string (ba [98]), .slice a5 1 c5] 53) = W := ⟨_, rfl⟩
      rw [hW6] at HT5 HKP5 HT6 HKP6 HKB6 HB6
      have HK6 := hid (keepm w.heap.size w.heap.size (2 * i) n _ (.slice a1 n c1) _ W6 HKB6.out HKP6.out (fun g hg hlt => by have h8 := (HVL.out g hg).1; have h7 : g < WR.heap.size := hlt; omega) (by omega) (by omega) HB6.out.size)
      obtain ⟨x0, x1, x2⟩ := HT6.out.cells
      clear x0 x1
      go_wp2_with fail
      clear x2 hW6
      refine HK6.out.mono ?_
      rintro e w7 ⟨rfl, hkb7, hbt7⟩
      have HT7 := hid (HT5.out.turned hbt7.2 HKB6.out.block)
      have HKP7 := hid (kpm_turned HKP5.out hbt7.2 HKB6.out.block)
      have HB7 := hid (HB6.out.trans hbt7.1)
      have HK7 := hid (keepm w.heap.size w.heap.size (2 * i + 1) 1 _ (.slice a5 1 c5) _ w7 hkb7 HKP7.out (fun g hg hlt => by
        have h8 := (HVL5.out g hg).1
        rcases hlt with h7 | h7
        · have h6 : g < WR.heap.size := h7
          have := HWs.out
          omega
        · have := (HVL.out g h7).2
          omega) (by decide) (by omega) HB7.out.size)
      obtain ⟨x0, x1, x2⟩ := HT7.out.cells
      clear hkb7 hbt7 x0 x1 HK6 HT5 HKP5 HT6 HKP6 HKB6 HB6
      go_wp2_with fail
      refine HK7.out.mono ?_
      rintro e w8 ⟨rfl, hkb8, hbt8⟩
      have HF2 := hid (show KBm w8 w.heap.size w.heap.size (2 * (i + 1)) (fun g => g < w8.heap.size) ∧ Below w.heap.size w w8 from ⟨KBm.more (KBm.old hkb8) (by omega) (fun g hg => hg.2), HB7.out.trans hbt8.1⟩)
      clear hkb8 hbt8 HK7 x2 HT7 HKP7 HB7
      go_wp2_with fail
      go_roundw
      case rel =>
        first
          | exact ⟨i + 1, by omega, by go_num, HF2.out⟩
          | ((repeat apply Exists.intro); refine ⟨?_, rfl⟩; exact ⟨i + 1, by omega, by go_num, HF2.out⟩)
          | ((repeat apply Exists.intro); exact ⟨⟨i + 1, by omega, by go_num, HF2.out⟩, rfl⟩)
      case measure => simp [intOf]; omega
    · obtain rfl : i = 2 := by omega
      clear hi hlt
      obtain ⟨h, A, Y, xs, ys, hl, _, hbk⟩ := HR.out.1
      have HAP := hid (apartm _ _ h A Y xs ys wr hbk (by omega) HR.out.2.size)
      clear hbk
      go_wp2_with fail
      refine HAP.out.mono ?_
      rintro e w5 ⟨rfl, hb5⟩
      have HB5 := hid (HR.out.2.trans hb5.1)
      have HKN := hid (known6_any w5 (HG.out.kept HB5.out))
      clear hb5 HAP HR
      go_wp2_with fail
      refine HKN.out.mono ?_
      rintro e w6 ⟨rfl, hb6⟩
      have HB6 := hid (below2 HB5.out hb6)
      clear hb6 HKN
      go_wp2_with fail
      go_ret
      exact ⟨rfl, HB6.out⟩

end Go.Proofs.YtplabofdcnpcpaaDoor
