/-
  The walk of host.Four.
-/
import Derived.Test.YtdpihilikhbamaaGreatDoorVc
import Derived.Laws.BitsAllLaws
import Derived.WalkMore
import Derived.Deep.LoopGhost
set_option linter.unusedSimpArgs false
set_option linter.unusedVariables false
namespace Go.Proofs.YtdpihilikhbamaaGreatDoor
open Go.RowKit

theorem fourN_none {r high : Nat} {l : List UInt8} (h : numV (Lib.cut l [46]).1 = none) : fourN (r + 1) high l = none := by rw [fourN, h]
theorem fourN_more_big {r high n : Nat} {l : List UInt8} (h : numV (Lib.cut l [46]).1 = some n) (hm : (Lib.cut l [46]).2.2 = true) (hn : 255 < n) : fourN (r + 1) high l = none := by rw [fourN, h]; simp [hm, hn]
theorem fourN_more {r high n : Nat} {l : List UInt8} (h : numV (Lib.cut l [46]).1 = some n) (hm : (Lib.cut l [46]).2.2 = true) (hn : ¬ 255 < n) : fourN (r + 1) high l = fourN r (high * 256 + n) (Lib.cut l [46]).2.1 := by rw [fourN, h]; simp [hm, hn]
theorem fourN_last_big {r high n : Nat} {l : List UInt8} (h : numV (Lib.cut l [46]).1 = some n) (hm : (Lib.cut l [46]).2.2 = false) (hn : ¬ n < 2 ^ (8 * (r + 1))) : fourN (r + 1) high l = none := by rw [fourN, h]; simp [hm, hn]
theorem fourN_last {r high n : Nat} {l : List UInt8} (h : numV (Lib.cut l [46]).1 = some n) (hm : (Lib.cut l [46]).2.2 = false) (hn : n < 2 ^ (8 * (r + 1))) : fourN (r + 1) high l = some (high * 2 ^ (8 * (r + 1)) + n) := by rw [fourN, h]; simp [hm, hn]

theorem ret_u32e {a b : Int} {x y : Int} (h : a = b) (g : x = y) : Ending.returned (.tuple #[.int .u32 a, .int .i64 x]) = .returned (.tuple #[.int .u32 b, .int .i64 y]) := by rw [h, g]

theorem getD_some {o : Option Nat} {n : Nat} (h : o = some n) : o.getD 0 = n := by rw [h]; rfl
theorem getD_none {o : Option Nat} (h : o = none) : o.getD 0 = 0 := by rw [h]; rfl
theorem isSome_some {α : Type} {o : Option α} {n : α} (h : o = some n) : o.isSome = true := by rw [h]; rfl
theorem isSome_none {α : Type} {o : Option α} (h : o = none) : o.isSome = false := by rw [h]; rfl

theorem valN_le (base : Nat) : ∀ (l : List UInt8) (n m : Nat), n ≤ 4294967296 → valN base n l = some m → m ≤ 4294967296
  | [], n, m, h, e => by rw [valN] at e; cases e; exact h
  | c :: l, n, m, h, e => by
    rw [valN] at e
    split at e
    · exact valN_le base l _ m (by omega) e
    · cases e

theorem numV_le (l : List UInt8) (n : Nat) (h : numV l = some n) : n ≤ 4294967296 := by
  unfold numV at h
  split at h
  · exact valN_le _ _ _ _ (by omega) h
  · split at h
    · cases h
    · split at h
      · exact valN_le _ _ _ _ (by omega) h
      · exact valN_le _ _ _ _ (by omega) h

theorem orN (k h n : Nat) (hn : n < 2 ^ k) (hh : h * 2 ^ k + n < 18446744073709551616) : bits .or .u64 ((h : Int) * 2 ^ k) (n : Int) = ((h * 2 ^ k + n : Nat) : Int) := by
  have e : (h : Int) * 2 ^ k = ((h * 2 ^ k : Nat) : Int) := by simp
  rw [e, u64_or_nat _ _ (by omega) (by omega)]
  congr 1
  rw [← Nat.shiftLeft_eq, Nat.shiftLeft_add_eq_or_of_lt hn]

theorem or256 (h n : Nat) (hn : n < 256) (hh : h < 16777216) : bits .or .u64 ((h : Int) * 256) (n : Int) = (h : Int) * 256 + n := by
  have := orN 8 h n (by omega) (by omega)
  simpa using this

set_option maxHeartbeats 4000000 in
theorem four_any (s : ByteArray) (w : World) (hg : Gd w) (hs : s.size ≤ 4000000000) :
    Calls Tryz.prog 7 #[.string s] w fun e w' => e = .returned (.tuple #[.int .u32 ((fourV s.data.toList).getD 0 : Nat), .int .i64 (er (fourV s.data.toList))]) ∧ Below w.heap.size w w' := by
  have hnl : (noDot s.data.toList).length ≤ 4000000000 := Nat.le_trans (noDot_le _) (by simpa using hs)
  go_enter Tryz.func7, Tryz.ntmps7
  go_wp2
  go_step3
  go_wp2_with (go_at_call 30; refine (withoutLastDot_any _ _ hs).mono ?_; rintro e w' ⟨rfl, rfl⟩)
  go_step3
  go_wp2
  go_loopg [4, 5, 15] 4 (fun r rest high i wr => ∃ (h : Nat) (l : List UInt8), r ≤ 4 ∧ i = .int .i64 (4 - r) ∧ high = .int .u64 h ∧ rest = .string ⟨l.toArray⟩ ∧ l.length ≤ 4000000000 ∧ h < 2 ^ (8 * (4 - r)) ∧ fourN r h l = fourV s.data.toList ∧ Below w.heap.size w wr)
  case atStart => exact ⟨0, noDot s.data.toList, by omega, rfl, rfl, rfl, hnl, by decide, rfl, Below.refl _ _⟩
  case round =>
    obtain ⟨h, l, hr, rfl, rfl, rfl, hl, hh, hf, hbw⟩ := hrel
    have HF := hid hf
    clear hf
    have HG := hid (hg.kept hbw)
    have hls : (⟨l.toArray⟩ : ByteArray).size ≤ 4000000000 := by show l.toArray.size ≤ _; simpa using hl
    cases gk with
    | zero =>
      have HN := hid (show fourV s.data.toList = none by rw [← HF.out]; rfl)
      go_wp2
      rw [Exit.noGoto_ret]
      go_ret2
      exact ⟨ret_u32e (by rw [getD_none HN.out]; rfl) (er_none HN.out).symm, hbw⟩
    | succ r =>
      obtain ⟨⟨a, b, m⟩, hc⟩ : ∃ x, Lib.cut l [46] = x := ⟨_, rfl⟩
      have HC := hid hc
      have hcl := cut_le l [46]
      rw [hc] at hcl
      obtain ⟨hal, hbl⟩ := hcl
      simp only at hal hbl
      have hal' : (⟨a.toArray⟩ : ByteArray).size ≤ 4000000000 := by show a.toArray.size ≤ _; simp; omega
      have hbl' : b.length ≤ 4000000000 := by omega
      clear hc
      cases hnum : numV a with
      | none =>
        have HN := hid (show fourV s.data.toList = none by rw [← HF.out]; exact fourN_none (by rw [HC.out]; exact hnum))
        have h1 := isSome_none hnum
        clear hnum
        go_wp2_with (first | (go_at_call 31; refine (cut_any _ _ _ HG.out hls).mono ?_; rintro e w1 ⟨rfl, hb1⟩; rw [show (⟨l.toArray⟩ : ByteArray).data.toList = l from rfl, show (⟨#[46]⟩ : ByteArray).data.toList = [46] from rfl, HC.out]) | (go_at_call 32; refine (number_any _ _ hal').mono ?_; rintro e w' ⟨rfl, rfl⟩; rw [show (⟨a.toArray⟩ : ByteArray).data.toList = a from rfl, h1]))
        rw [Exit.noGoto_ret]
        go_ret2
        exact ⟨ret_u32e (by rw [getD_none HN.out]; rfl) (er_none HN.out).symm, below2 hbw hb1⟩
      | some n =>
        have h1 := isSome_some hnum
        have h2 := getD_some hnum
        have hn := numV_le _ _ hnum
        have HU := hid (show numV (Lib.cut l [46]).1 = some n by rw [HC.out]; exact hnum)
        have HM := hid (show (Lib.cut l [46]).2.2 = m by rw [HC.out])
        clear hnum
        cases m with
        | true =>
          by_cases h255 : 255 < n
          · have HN := hid (show fourV s.data.toList = none by rw [← HF.out]; exact fourN_more_big HU.out HM.out h255)
            go_wp2_with (first | (go_at_call 31; refine (cut_any _ _ _ HG.out hls).mono ?_; rintro e w1 ⟨rfl, hb1⟩; rw [show (⟨l.toArray⟩ : ByteArray).data.toList = l from rfl, show (⟨#[46]⟩ : ByteArray).data.toList = [46] from rfl, HC.out]) | (go_at_call 32; refine (number_any _ _ hal').mono ?_; rintro e w' ⟨rfl, rfl⟩; rw [show (⟨a.toArray⟩ : ByteArray).data.toList = a from rfl, h1, h2]))
            rw [Exit.noGoto_ret]
            go_ret2
            exact ⟨ret_u32e (by rw [getD_none HN.out]; rfl) (er_none HN.out).symm, below2 hbw hb1⟩
          · have HN := hid (show fourN r (h * 256 + n) b = fourV s.data.toList by rw [← HF.out, fourN_more HU.out HM.out h255, HC.out])
            have hh' : h < 16777216 ∨ r = 0 := by
              obtain rfl | rfl | rfl | rfl : r = 0 ∨ r = 1 ∨ r = 2 ∨ r = 3 := by omega
              all_goals simp at hh ⊢ <;> omega
            have hh32 : h < 16777216 := by
              obtain rfl | rfl | rfl | rfl : r = 0 ∨ r = 1 ∨ r = 2 ∨ r = 3 := by omega
              all_goals simp at hh <;> omega
            have hh2 : h * 256 + n < 2 ^ (8 * (4 - r)) := by
              have e : 8 * (4 - r) = 8 * (4 - (r + 1)) + 8 := by omega
              rw [e, Nat.pow_add]
              omega
            have ho := or256 h n (by omega) (by omega)
            have HH := hid hh2
            clear hh2 hh hh'
            go_wp2_with (first | (go_at_call 31; refine (cut_any _ _ _ HG.out hls).mono ?_; rintro e w1 ⟨rfl, hb1⟩; rw [show (⟨l.toArray⟩ : ByteArray).data.toList = l from rfl, show (⟨#[46]⟩ : ByteArray).data.toList = [46] from rfl, HC.out]) | (go_at_call 32; refine (number_any _ _ hal').mono ?_; rintro e w' ⟨rfl, rfl⟩; rw [show (⟨a.toArray⟩ : ByteArray).data.toList = a from rfl, h1, h2]))
            go_roundg r
            case measure => omega
            case rel => exact ⟨h * 256 + n, b, by omega, by go_num, by go_num, rfl, hbl', HH.out, HN.out, below2 hbw hb1⟩
        | false =>
          by_cases hbig : n < 2 ^ (8 * (r + 1))
          · have HN := hid (show fourV s.data.toList = some (h * 2 ^ (8 * (r + 1)) + n) by rw [← HF.out]; exact fourN_last HU.out HM.out hbig)
            obtain rfl | rfl | rfl | rfl : r = 0 ∨ r = 1 ∨ r = 2 ∨ r = 3 := by omega
            · simp only [Nat.reduceAdd, Nat.reduceMul, Nat.reducePow, Nat.reduceSub] at hh hbig HN
              have ho0 := orN 8 h n (by omega) (by omega)
              have ho : bits .or .u64 ((h : Int) * 256) (n : Int) = ((h * 256 + n : Nat) : Int) := by simpa using ho0
              have HO := hid ho
              clear ho ho0
              go_wp2_with (first | (go_at_call 31; refine (cut_any _ _ _ HG.out hls).mono ?_; rintro e w1 ⟨rfl, hb1⟩; rw [show (⟨l.toArray⟩ : ByteArray).data.toList = l from rfl, show (⟨#[46]⟩ : ByteArray).data.toList = [46] from rfl, HC.out]) | (go_at_call 32; refine (number_any _ _ hal').mono ?_; rintro e w' ⟨rfl, rfl⟩; rw [show (⟨a.toArray⟩ : ByteArray).data.toList = a from rfl, h1, h2]))
              rw [Exit.noGoto_ret]
              go_ret2
              refine ⟨ret_u32e ?_ (er_some HN.out).symm, below2 hbw hb1⟩
              rw [getD_some HN.out]
              have ho := HO.out
              show bits .or .u64 ((h : Int) * 256) (n : Int) % 4294967296 = _
              rw [ho]
              omega
            · simp only [Nat.reduceAdd, Nat.reduceMul, Nat.reducePow, Nat.reduceSub] at hh hbig HN
              have ho0 := orN 16 h n (by omega) (by omega)
              have ho : bits .or .u64 ((h : Int) * 65536) (n : Int) = ((h * 65536 + n : Nat) : Int) := by simpa using ho0
              have HO := hid ho
              clear ho ho0
              go_wp2_with (first | (go_at_call 31; refine (cut_any _ _ _ HG.out hls).mono ?_; rintro e w1 ⟨rfl, hb1⟩; rw [show (⟨l.toArray⟩ : ByteArray).data.toList = l from rfl, show (⟨#[46]⟩ : ByteArray).data.toList = [46] from rfl, HC.out]) | (go_at_call 32; refine (number_any _ _ hal').mono ?_; rintro e w' ⟨rfl, rfl⟩; rw [show (⟨a.toArray⟩ : ByteArray).data.toList = a from rfl, h1, h2]))
              rw [Exit.noGoto_ret]
              go_ret2
              refine ⟨ret_u32e ?_ (er_some HN.out).symm, below2 hbw hb1⟩
              rw [getD_some HN.out]
              have ho := HO.out
              show bits .or .u64 ((h : Int) * 65536) (n : Int) % 4294967296 = _
              rw [ho]
              omega
            · simp only [Nat.reduceAdd, Nat.reduceMul, Nat.reducePow, Nat.reduceSub] at hh hbig HN
              have ho0 := orN 24 h n (by omega) (by omega)
              have ho : bits .or .u64 ((h : Int) * 16777216) (n : Int) = ((h * 16777216 + n : Nat) : Int) := by simpa using ho0
              have HO := hid ho
              clear ho ho0
              go_wp2_with (first | (go_at_call 31; refine (cut_any _ _ _ HG.out hls).mono ?_; rintro e w1 ⟨rfl, hb1⟩; rw [show (⟨l.toArray⟩ : ByteArray).data.toList = l from rfl, show (⟨#[46]⟩ : ByteArray).data.toList = [46] from rfl, HC.out]) | (go_at_call 32; refine (number_any _ _ hal').mono ?_; rintro e w' ⟨rfl, rfl⟩; rw [show (⟨a.toArray⟩ : ByteArray).data.toList = a from rfl, h1, h2]))
              rw [Exit.noGoto_ret]
              go_ret2
              refine ⟨ret_u32e ?_ (er_some HN.out).symm, below2 hbw hb1⟩
              rw [getD_some HN.out]
              have ho := HO.out
              show bits .or .u64 ((h : Int) * 16777216) (n : Int) % 4294967296 = _
              rw [ho]
              omega
            · simp only [Nat.reduceAdd, Nat.reduceMul, Nat.reducePow, Nat.reduceSub] at hh hbig HN
              have ho0 := orN 32 h n (by omega) (by omega)
              have ho : bits .or .u64 ((h : Int) * 4294967296) (n : Int) = ((h * 4294967296 + n : Nat) : Int) := by simpa using ho0
              have HO := hid ho
              clear ho ho0
              go_wp2_with (first | (go_at_call 31; refine (cut_any _ _ _ HG.out hls).mono ?_; rintro e w1 ⟨rfl, hb1⟩; rw [show (⟨l.toArray⟩ : ByteArray).data.toList = l from rfl, show (⟨#[46]⟩ : ByteArray).data.toList = [46] from rfl, HC.out]) | (go_at_call 32; refine (number_any _ _ hal').mono ?_; rintro e w' ⟨rfl, rfl⟩; rw [show (⟨a.toArray⟩ : ByteArray).data.toList = a from rfl, h1, h2]))
              rw [Exit.noGoto_ret]
              go_ret2
              refine ⟨ret_u32e ?_ (er_some HN.out).symm, below2 hbw hb1⟩
              rw [getD_some HN.out]
              have ho := HO.out
              show bits .or .u64 ((h : Int) * 4294967296) (n : Int) % 4294967296 = _
              rw [ho]
              omega
          · have HN := hid (show fourV s.data.toList = none by rw [← HF.out]; exact fourN_last_big HU.out HM.out hbig)
            obtain rfl | rfl | rfl | rfl : r = 0 ∨ r = 1 ∨ r = 2 ∨ r = 3 := by omega
            all_goals
              simp only [Nat.reduceAdd, Nat.reduceMul, Nat.reducePow, Nat.reduceSub] at hh hbig
              go_wp2_with (first | (go_at_call 31; refine (cut_any _ _ _ HG.out hls).mono ?_; rintro e w1 ⟨rfl, hb1⟩; rw [show (⟨l.toArray⟩ : ByteArray).data.toList = l from rfl, show (⟨#[46]⟩ : ByteArray).data.toList = [46] from rfl, HC.out]) | (go_at_call 32; refine (number_any _ _ hal').mono ?_; rintro e w' ⟨rfl, rfl⟩; rw [show (⟨a.toArray⟩ : ByteArray).data.toList = a from rfl, h1, h2]))
              rw [Exit.noGoto_ret]
              go_ret2
              exact ⟨ret_u32e (by rw [getD_none HN.out]; rfl) (er_none HN.out).symm, below2 hbw hb1⟩

end Go.Proofs.YtdpihilikhbamaaGreatDoor
