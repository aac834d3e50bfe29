/-
  The walk of the law HostBack.
-/
import Derived.Test.YtdpihilikhbamaaDoorHj
import Derived.Test.YtdpihilikhbamaaDoorJf
import Derived.Test.YtdpihilikhbamaaDoorVp
import Derived.Test.YtdpihilikhbamaaDoorVq
import Derived.Deep.RegionHeld
set_option linter.unusedSimpArgs false
set_option linter.unusedVariables false
namespace Go.Proofs.YtdpihilikhbamaaDoor
open Go.RowKit

theorem parse_len (l : List UInt8) (b : Bool) (a : List UInt8) (hl : l.length ≤ 500) (h : parseV l b = some a) : a.length ≤ 4000000000 := by
  unfold parseV at h
  split at h
  · unfold bracketV at h
    split at h
    · cases hs : sixV (Lib.trimSuffix (l.drop 1) [93]) with
      | none => rw [hs] at h; cases h
      | some x =>
        rw [hs] at h
        simp only [Option.map_some, Option.some.injEq] at h
        have := text6_le x (sixV_ok hs).1
        rw [← h]; simp; omega
    · cases h
  · split at h
    · unfold nameV at h
      split at h
      · cases h
      · split at h
        · cases hf : fourV (low (unpct l)) with
          | none => rw [hf] at h; cases h
          | some n =>
            rw [hf] at h
            simp only [Option.map_some, Option.some.injEq] at h
            rw [← h]
            have := text4_le n
            omega
        · simp only [Option.some.injEq] at h
          rw [← h, low_length]
          have := unpct_le l
          omega
    · unfold otherV at h
      split at h
      · cases h
      · simp only [Option.some.injEq] at h
        rw [← h]
        have := pct_le 1 l
        omega

theorem ba_brackets (l : List UInt8) : (⟨#[91]⟩ : ByteArray) ++ ⟨l.toArray⟩ ++ ⟨#[93]⟩ = ⟨(91 :: (l ++ [93])).toArray⟩ := by
  rw [show (⟨#[91]⟩ : ByteArray) = ⟨[91].toArray⟩ from rfl, show (⟨#[93]⟩ : ByteArray) = ⟨[93].toArray⟩ from rfl, ba_app, ba_app]
  simp

theorem four_back (n : Nat) (hn : n < 4294967296) (W : World) (hg : Gd W) :
    Calls Tryd.prog 9 #[.string ⟨(text4 n).toArray⟩] W fun e w' => e = .returned (.tuple #[.int .u32 n, .int .i64 0]) ∧ Below W.heap.size W w' := by
  have h := four_any ⟨(text4 n).toArray⟩ W hg (by have := text4_le n; show (text4 n).toArray.size ≤ _; simp; omega)
  rw [show (⟨(text4 n).toArray⟩ : ByteArray).data.toList = text4 n from rfl, text4_fourV n hn] at h
  exact h

theorem six_back (x : List Nat) (h8 : x.length = 8) (h16 : ∀ k ∈ x, k < 65536) (W : World) (hg : Gd W) :
    Calls Tryd.prog 10 #[.string ⟨(text6 x).toArray⟩] W fun e w' => e = .returned (.tuple #[agg8 x, .int .i64 0]) ∧ Below W.heap.size W w' := by
  have h := six_any ⟨(text6 x).toArray⟩ W hg (by have := text6_le x h8; show (text6 x).toArray.size ≤ _; simp; omega)
  rw [show (⟨(text6 x).toArray⟩ : ByteArray).data.toList = text6 x from rfl, six_text6 x h8 h16] at h
  exact h

theorem parse_itself (a : List UInt8) (b : Bool) (h : parseV a b = some a) (hl : a.length ≤ 4000000000) (W : World) (hg : Gd W) :
    Calls Tryd.prog 18 #[.string ⟨a.toArray⟩, .bool b] W fun e w' => e = .returned (.tuple #[.string ⟨a.toArray⟩, .int .i64 0]) ∧ Below W.heap.size W w' := by
  have h1 := parse_any ⟨a.toArray⟩ b W hg (by show a.toArray.size ≤ _; simpa using hl)
  rw [show (⟨a.toArray⟩ : ByteArray).data.toList = a from rfl, h] at h1
  exact h1

set_option maxHeartbeats 4000000 in
set_option maxRecDepth 100000 in
theorem hostBack_walk (s : ByteArray) (special : Bool) (n0 : Int) (x : List Nat) (w : World) (hs : s.size ≤ maxLen) (hn0 : (Lit.int .u32 n0).wf = true) (hx : x.length = 8 ∧ ∀ k ∈ x, k < 65536) (hg : Gd w) :
    Calls Tryd.prog 5 #[.string s, .bool special, .int .u32 n0, agg8 x] w fun e w' => e = .returned (.bool true) ∧ Below w.heap.size w w' := by
  unfold maxLen at hs
  have hb0 := bounds_u32 hn0
  clear hn0
  obtain ⟨n, rfl⟩ := Int.eq_ofNat_of_zero_le hb0.1
  have hn : n < 4294967296 := by omega
  clear hb0
  have HT4 := hid (fun (W : World) (h : Gd W) => text4_any n W h hn)
  have HT6 := hid (fun (W : World) (h : Gd W) => text6_any x W h hx.1 hx.2)
  have HF := hid (fun (W : World) (h : Gd W) => four_back n hn W h)
  have HS := hid (fun (W : World) (h : Gd W) => six_back x hx.1 hx.2 W h)
  have HP4 := hid (fun (W : World) (h : Gd W) => parse_itself (text4 n) true (text4_parse n hn) (by have := text4_le n; omega) W h)
  have HP6 := hid (fun (W : World) (h : Gd W) => parse_itself (91 :: (text6 x ++ [93])) true (bracket_back x hx.1 hx.2 true) (by have := text6_le x hx.1; simp; omega) W h)
  rw [← ba_brackets] at HP6
  have hts : (text6 x).length ≤ 100 := text6_le x hx.1
  generalize text4 n = A at HT4 HF HP4
  generalize text6 x = B at HT6 HS HP6 hts
  obtain ⟨x0, x1, x2, x3, x4, x5, x6, x7, rfl⟩ := eight_of x hx.1
  clear hx
  have heq := fun W => run_equal8 [x0, x1, x2, x3, x4, x5, x6, x7] rfl W
  have ea : agg8 [x0, x1, x2, x3, x4, x5, x6, x7] = .agg #[.int .u16 (x0 : Int), .int .u16 (x1 : Int), .int .u16 (x2 : Int), .int .u16 (x3 : Int), .int .u16 (x4 : Int), .int .u16 (x5 : Int), .int .u16 (x6 : Int), .int .u16 (x7 : Int)] := rfl
  have ec : (cells16 [x0, x1, x2, x3, x4, x5, x6, x7]).toArray = #[.int .u16 (x0 : Int), .int .u16 (x1 : Int), .int .u16 (x2 : Int), .int .u16 (x3 : Int), .int .u16 (x4 : Int), .int .u16 (x5 : Int), .int .u16 (x6 : Int), .int .u16 (x7 : Int)] := rfl
  rw [ea] at HT6 HS ⊢
  rw [ec] at heq
  clear ea ec
  have hfew : (⟨(s.data.toList.take 500).toArray⟩ : ByteArray).size ≤ 4000000000 := by show (s.data.toList.take 500).toArray.size ≤ _; simp; omega
  have HFew := hid (fun W => few_any s 500 W (by omega) hs)
  have hfl : (s.data.toList.take 500).length ≤ 500 := List.length_take_le _ _
  generalize s.data.toList.take 500 = f at HFew hfew hfl
  obtain ⟨W1, hW1⟩ : ∃ W1 : World, W1 = w.alloc (.cells #[.int .u16 (x0 : Int), .int .u16 (x1 : Int), .int .u16 (x2 : Int), .int .u16 (x3 : Int), .int .u16 (x4 : Int), .int .u16 (x5 : Int), .int .u16 (x6 : Int), .int .u16 (x7 : Int)] 27 (0, 0)) := ⟨_, rfl⟩
  have hb1 : Below w.heap.size w W1 := by rw [hW1]; exact (Below.refl _ w).alloc (Nat.le_refl _) _
  have hr : W1.heap[w.heap.size]? = some (.cells #[.int .u16 (x0 : Int), .int .u16 (x1 : Int), .int .u16 (x2 : Int), .int .u16 (x3 : Int), .int .u16 (x4 : Int), .int .u16 (x5 : Int), .int .u16 (x6 : Int), .int .u16 (x7 : Int)] 27 (0, 0)) := by rw [hW1]; exact heap_alloc_new w _
  have HR := hid hr
  have HG := hid (hg.kept hb1)
  have HB := hid hb1
  clear hg hb1 hr
  have hc8 : ∀ W : World, Below W1.heap.size W1 W → W.heap[w.heap.size]? = some (.cells #[.int .u16 (x0 : Int), .int .u16 (x1 : Int), .int .u16 (x2 : Int), .int .u16 (x3 : Int), .int .u16 (x4 : Int), .int .u16 (x5 : Int), .int .u16 (x6 : Int), .int .u16 (x7 : Int)] 27 (0, 0)) := fun W hb => row_kept HR.out hb
  have HC8 := hid hc8
  clear hc8
  rcases hp : parseV f special with _ | a
  case' none =>
    have her := er_none hp
    have HP := hid hp
    clear hp
    go_enter Tryd.func5, Tryd.ntmps5
    go_wp2_with fail
    rw [← hW1]
    clear hW1
    refine (HFew.out W1).mono ?_
    rintro e w' ⟨rfl, rfl⟩
    go_wp2_with fail
    refine (parse_any _ special W1 HG.out hfew).mono ?_
    rintro e wx ⟨rfl, hb⟩
    rw [show (⟨f.toArray⟩ : ByteArray).data.toList = f from rfl, HP.out, show er (none : Option (List UInt8)) = 10 from rfl]
  case' some =>
    have HI := hid (fun (W : World) (h : Gd W) => parse_itself a special (parse_back f a special hp) (parse_len f special a hfl hp) W h)
    have HP := hid hp
    clear hp
    go_enter Tryd.func5, Tryd.ntmps5
    go_wp2_with fail
    rw [← hW1]
    clear hW1
    refine (HFew.out W1).mono ?_
    rintro e w' ⟨rfl, rfl⟩
    go_wp2_with fail
    refine (parse_any _ special W1 HG.out hfew).mono ?_
    rintro e wy ⟨rfl, hby⟩
    rw [show (⟨f.toArray⟩ : ByteArray).data.toList = f from rfl, HP.out, show er (some a) = 0 from rfl, show (some a).getD [] = a from rfl]
    go_wp2_with fail
    refine (HI.out _ (HG.out.kept hby)).mono ?_
    rintro e wx ⟨rfl, hbx⟩
    have hb := below2 hby hbx
    clear hby hbx
  all_goals
    go_wp2_with fail
    refine (HT4.out _ (HG.out.kept hb)).mono ?_
    rintro e w2 ⟨rfl, hb'⟩
    have hb := below2 hb hb'
    clear hb'
    go_wp2_with fail
    refine (HF.out _ (HG.out.kept hb)).mono ?_
    rintro e w3 ⟨rfl, hb'⟩
    have hb := below2 hb hb'
    clear hb'
    have hrow := HC8.out _ hb
    go_wp2_with (refine wpList_load_mid rfl 27 (.tmp 7) rfl w.heap.size 0 rfl [.int .u16 (x0 : Int), .int .u16 (x1 : Int), .int .u16 (x2 : Int), .int .u16 (x3 : Int), .int .u16 (x4 : Int), .int .u16 (x5 : Int), .int .u16 (x6 : Int), .int .u16 (x7 : Int)] _ (range_row hrow) Tryd.underlying27 rfl size8 ?_)
    clear hrow
    refine (HT6.out _ (HG.out.kept hb)).mono ?_
    rintro e w4 ⟨rfl, hb'⟩
    have hb := below2 hb hb'
    clear hb'
    go_wp2_with fail
    refine (HS.out _ (HG.out.kept hb)).mono ?_
    rintro e w5 ⟨rfl, hb'⟩
    have hb := below2 hb hb'
    clear hb'
    go_wp2_with fail
    have hbA := (Below.refl w5.heap.size w5).alloc (Nat.le_refl _) (.cells #[.int .u16 (x0 : Int), .int .u16 (x1 : Int), .int .u16 (x2 : Int), .int .u16 (x3 : Int), .int .u16 (x4 : Int), .int .u16 (x5 : Int), .int .u16 (x6 : Int), .int .u16 (x7 : Int)] 27 (0, 0))
    have hb := below2 hb hbA
    clear hbA
    refine (HT4.out _ (HG.out.kept hb)).mono ?_
    rintro e w6 ⟨rfl, hb'⟩
    have HR2 := hid (row_kept (heap_alloc_new w5 (.cells #[.int .u16 (x0 : Int), .int .u16 (x1 : Int), .int .u16 (x2 : Int), .int .u16 (x3 : Int), .int .u16 (x4 : Int), .int .u16 (x5 : Int), .int .u16 (x6 : Int), .int .u16 (x7 : Int)] 27 (0, 0))) hb')
    have hb := below2 hb hb'
    clear hb'
    go_wp2_with fail
    refine (HP4.out _ (HG.out.kept hb)).mono ?_
    rintro e w7 ⟨rfl, hb'⟩
    have HR2 := hid (row_kept HR2.out hb')
    have hb := below2 hb hb'
    clear hb'
    have hrow := HC8.out _ hb
    go_wp2_with (refine wpList_load_mid rfl 27 (.tmp 7) rfl w.heap.size 0 rfl [.int .u16 (x0 : Int), .int .u16 (x1 : Int), .int .u16 (x2 : Int), .int .u16 (x3 : Int), .int .u16 (x4 : Int), .int .u16 (x5 : Int), .int .u16 (x6 : Int), .int .u16 (x7 : Int)] _ (range_row hrow) Tryd.underlying27 rfl size8 ?_)
    clear hrow
    refine (HT6.out _ (HG.out.kept hb)).mono ?_
    rintro e w8 ⟨rfl, hb'⟩
    have HR2 := hid (row_kept HR2.out hb')
    have hb := below2 hb hb'
    clear hb'
    go_wp2_with fail
    refine (HP6.out _ (HG.out.kept hb)).mono ?_
    rintro e w9 ⟨rfl, hb'⟩
    have HR2 := hid (row_kept HR2.out hb')
    have hb := below2 hb hb'
    clear hb'
    have hrow := HC8.out _ hb
    have hc0 := (cell_of_row w9 w.heap.size 0 _ _ _ hrow).trans (show _ = some (Value.int .u16 (x0 : Int)) from rfl)
    have hd0 := (cell_of_row w9 w5.heap.size 0 _ _ _ HR2.out).trans (show _ = some (Value.int .u16 (x0 : Int)) from rfl)
    have hc1 := (cell_of_row w9 w.heap.size 1 _ _ _ hrow).trans (show _ = some (Value.int .u16 (x1 : Int)) from rfl)
    have hd1 := (cell_of_row w9 w5.heap.size 1 _ _ _ HR2.out).trans (show _ = some (Value.int .u16 (x1 : Int)) from rfl)
    have hc2 := (cell_of_row w9 w.heap.size 2 _ _ _ hrow).trans (show _ = some (Value.int .u16 (x2 : Int)) from rfl)
    have hd2 := (cell_of_row w9 w5.heap.size 2 _ _ _ HR2.out).trans (show _ = some (Value.int .u16 (x2 : Int)) from rfl)
    have hc3 := (cell_of_row w9 w.heap.size 3 _ _ _ hrow).trans (show _ = some (Value.int .u16 (x3 : Int)) from rfl)
    have hd3 := (cell_of_row w9 w5.heap.size 3 _ _ _ HR2.out).trans (show _ = some (Value.int .u16 (x3 : Int)) from rfl)
    have hc4 := (cell_of_row w9 w.heap.size 4 _ _ _ hrow).trans (show _ = some (Value.int .u16 (x4 : Int)) from rfl)
    have hd4 := (cell_of_row w9 w5.heap.size 4 _ _ _ HR2.out).trans (show _ = some (Value.int .u16 (x4 : Int)) from rfl)
    have hc5 := (cell_of_row w9 w.heap.size 5 _ _ _ hrow).trans (show _ = some (Value.int .u16 (x5 : Int)) from rfl)
    have hd5 := (cell_of_row w9 w5.heap.size 5 _ _ _ HR2.out).trans (show _ = some (Value.int .u16 (x5 : Int)) from rfl)
    have hc6 := (cell_of_row w9 w.heap.size 6 _ _ _ hrow).trans (show _ = some (Value.int .u16 (x6 : Int)) from rfl)
    have hd6 := (cell_of_row w9 w5.heap.size 6 _ _ _ HR2.out).trans (show _ = some (Value.int .u16 (x6 : Int)) from rfl)
    have hc7 := (cell_of_row w9 w.heap.size 7 _ _ _ hrow).trans (show _ = some (Value.int .u16 (x7 : Int)) from rfl)
    have hd7 := (cell_of_row w9 w5.heap.size 7 _ _ _ HR2.out).trans (show _ = some (Value.int .u16 (x7 : Int)) from rfl)
    clear hrow
    go_wp2_with fail
    refine (HT4.out _ (HG.out.kept hb)).mono ?_
    rintro e w10 ⟨rfl, hb'⟩
    have hb := below2 hb hb'
    clear hb'
    clear hc0 hc1 hc2 hc3 hc4 hc5 hc6 hc7 hd0 hd1 hd2 hd3 hd4 hd5 hd6 hd7 heq
    have hrow := HC8.out _ hb
    have hc0 := (cell_of_row w10 w.heap.size 0 _ _ _ hrow).trans (show _ = some (Value.int .u16 (x0 : Int)) from rfl)
    have hc1 := (cell_of_row w10 w.heap.size 1 _ _ _ hrow).trans (show _ = some (Value.int .u16 (x1 : Int)) from rfl)
    have hc2 := (cell_of_row w10 w.heap.size 2 _ _ _ hrow).trans (show _ = some (Value.int .u16 (x2 : Int)) from rfl)
    have hc3 := (cell_of_row w10 w.heap.size 3 _ _ _ hrow).trans (show _ = some (Value.int .u16 (x3 : Int)) from rfl)
    have hc4 := (cell_of_row w10 w.heap.size 4 _ _ _ hrow).trans (show _ = some (Value.int .u16 (x4 : Int)) from rfl)
    have hc5 := (cell_of_row w10 w.heap.size 5 _ _ _ hrow).trans (show _ = some (Value.int .u16 (x5 : Int)) from rfl)
    have hc6 := (cell_of_row w10 w.heap.size 6 _ _ _ hrow).trans (show _ = some (Value.int .u16 (x6 : Int)) from rfl)
    have hc7 := (cell_of_row w10 w.heap.size 7 _ _ _ hrow).trans (show _ = some (Value.int .u16 (x7 : Int)) from rfl)
    clear hrow
    go_wp2_with fail
    refine (HT6.out _ (HG.out.kept hb)).mono ?_
    rintro e w11 ⟨rfl, hb'⟩
    have hb := below2 hb hb'
    clear hb'
    clear hc0 hc1 hc2 hc3 hc4 hc5 hc6 hc7
    go_wp2_with fail
    refine (known_any _ (HG.out.kept hb)).mono ?_
    rintro e w12 ⟨rfl, hb'⟩
    have hb := below2 hb hb'
    clear hb'
    go_wp2_with fail
    go_ret
    exact ⟨rfl, below2 HB.out hb⟩

end Go.Proofs.YtdpihilikhbamaaDoor
