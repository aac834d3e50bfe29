/-
  The walks of strings.IndexAny at the bytes ';' and '=', over any bytes.
-/
import Derived.Test.YtplabofdcnpcpaaDoorZMa
import Derived.Test.YtplabofdcnpcpaaDoorZSh
import Derived.Laws.Runes
import Derived.Laws.RangeAny
import Derived.Lib.DecodeN
import Derived.Lib.OthersKept
import Derived.Deep.LoopGhost
import Derived.RegionTactic
import Derived.Deep.RegionWith
import Derived.Deep.QuietTactic
import Derived.BigQuiet
set_option linter.unusedSimpArgs false
set_option linter.unusedVariables false
namespace Go.Proofs.YtplabofdcnpcpaaDoor
open Go.RowKit

theorem m6get_bang (s : ByteArray) (i : Nat) (h : i < s.size) : s.get! i = s[i] := by
  show s.data[i]! = s.data[i]
  exact getElem!_pos s.data i h

set_option maxRecDepth 100000 in
theorem m6decode_skip (s : ByteArray) (i : Nat) (h : i < s.size) (ha : 128 ≤ (s[i]'h).toNat) : ∃ r n, Utf8.decode s i = (r, n) ∧ 128 ≤ r ∧ r ≤ 1114111 ∧ 1 ≤ n ∧ i + n ≤ s.size ∧ ∀ j, i ≤ j → j < i + n → 128 ≤ (s.get! j).toNat := by
  have h0 : 128 ≤ (s.get! i).toNat := by rw [m6get_bang s i h]; exact ha
  rw [Lib.decode_at]
  unfold Lib.decodeN
  rw [if_neg (by omega)]
  have one : ∀ j, i ≤ j → j < i + 1 → 128 ≤ (s.get! j).toNat := fun j h1 h2 => by
    have : j = i := by omega
    rw [this]; exact h0
  split
  · split
    · refine ⟨_, _, rfl, by omega, by omega, by omega, by omega, fun j h1 h2 => ?_⟩
      have : j = i ∨ j = i + 1 := by omega
      rcases this with rfl | rfl
      · exact h0
      · omega
    · exact ⟨_, _, rfl, by omega, by omega, by omega, by omega, one⟩
  · split
    · split
      · refine ⟨_, _, rfl, by omega, by omega, by omega, by omega, fun j h1 h2 => ?_⟩
        have : j = i ∨ j = i + 1 ∨ j = i + 2 := by omega
        rcases this with rfl | rfl | rfl
        · exact h0
        · omega
        · omega
      · exact ⟨_, _, rfl, by omega, by omega, by omega, by omega, one⟩
    · split
      · split
        · refine ⟨_, _, rfl, by omega, by omega, by omega, by omega, fun j h1 h2 => ?_⟩
          have : j = i ∨ j = i + 1 ∨ j = i + 2 ∨ j = i + 3 := by omega
          rcases this with rfl | rfl | rfl | rfl
          · exact h0
          · omega
          · omega
          · omega
        · exact ⟨_, _, rfl, by omega, by omega, by omega, by omega, one⟩
      · exact ⟨_, _, rfl, by omega, by omega, by omega, by omega, one⟩

theorem m6noAny_skip (s : ByteArray) (i n : Nat) (h : Lib.NoAny s.data.toList [59, 61] i) (hn : i + n ≤ s.size) (hj : ∀ j, i ≤ j → j < i + n → 128 ≤ (s.get! j).toNat) : Lib.NoAny s.data.toList [59, 61] (i + n) := by
  intro j b hjn hb
  by_cases h1 : j < i
  · exact h j b h1 hb
  · have h2 := hj j (by omega) hjn
    have hjs : j < s.size := by omega
    rw [m6get_bang s j hjs] at h2
    rw [Lib.data_getElem? s j hjs] at hb
    cases hb
    simp
    constructor <;> (intro e; rw [e] at h2; revert h2; decide)

theorem m6below_iter (w : World) (s : ByteArray) (i : Nat) : Below w.heap.size w (w.iter s i) := (Below.refl _ w).alloc (Nat.le_refl _) _

set_option maxHeartbeats 2000000 in
set_option maxRecDepth 100000 in
theorem m6indexRune_high (r : Int) (w : World) (hr1 : 128 ≤ r) (h2 : r ≤ 1114111) :
    Calls Tryd.prog 95 #[.string ⟨#[59, 61]⟩, .int .i32 r] w fun e w' => e = .returned (.int .i64 (-1)) ∧ Below w.heap.size w w' := by
  have hr0 : (0 : Int) ≤ r := by omega
  by_cases he : r = 65533
  · subst he
    go_enter Tryd.func95, Tryd.ntmps95
    go_wp2
    go_loopg [5, 6] 2 (fun g _ _ wx => ∃ i : Nat, i + g = 2 ∧ wx = w.iter ⟨#[59, 61]⟩ i)
    case atStart => exact ⟨0, by omega, rfl⟩
    case round =>
      obtain ⟨i, hig, rfl⟩ := hrel
      match gk, hig with
      | 0, hig =>
        obtain rfl : i = 2 := by omega
        have hnx := run_next_end (P := Tryd.prog) w ⟨#[59, 61]⟩ 2
        go_wp2
        go_ret
        exact ⟨rfl, m6below_iter w _ _⟩
      | 1, hig =>
        obtain rfl : i = 1 := by omega
        have hnx := fun ty => run_next_ascii (P := Tryd.prog) w ⟨#[59, 61]⟩ 1 ty (by decide) (by decide)
        go_wp2
        go_roundg 0
        case measure => omega
        case rel => exact ⟨2, by omega, rfl⟩
      | 2, hig =>
        obtain rfl : i = 0 := by omega
        have hnx := fun ty => run_next_ascii (P := Tryd.prog) w ⟨#[59, 61]⟩ 0 ty (by decide) (by decide)
        go_wp2
        go_roundg 1
        case measure => omega
        case rel => exact ⟨1, by omega, rfl⟩
      | g + 3, hig => omega
  · have he' : (r == 65533) = false := by rw [beq_eq_false_iff_ne]; exact he
    have hcv : ∀ w : World, Calls Tryd.prog 117 #[.int .i32 r] w fun e w' => e = .returned (.bool (Lib.validRune r)) ∧ w' = w := fun w => Tryd.utf8_ValidRune _ w
    have hvv : Lib.validRune r = true ∨ Lib.validRune r = false := by cases Lib.validRune r <;> simp
    rcases hvv with hv | hv
    rotate_left
    · rw [hv] at hcv
      clear hv h2 he
      go_enter Tryd.func95, Tryd.ntmps95
      go_wp2_with (go_at_call 117; refine (hcv _).mono ?_; rintro e w' ⟨rfl, rfl⟩)
      go_ret
      exact ⟨rfl, Below.refl _ _⟩
    · obtain ⟨X, hX⟩ : ∃ X, Utf8.encode r = X := ⟨_, rfl⟩
      have hvu : Utf8.valid r = true := by
        have := of_decide_eq_true hv
        simp only [Utf8.valid, Bool.or_eq_true, Bool.and_eq_true, decide_eq_true_eq]
        omega
      have hf := encode_facts r hvu (by omega)
      rw [hX] at hf
      obtain ⟨f1, f2, f3⟩ := hf
      have HF := hid f3
      rw [hv] at hcv
      clear f3 hv hvu h2 he
      by_cases hx : X.size = 2
      · obtain ⟨a, b, rfl⟩ : ∃ a b : UInt8, X = ⟨#[a, b]⟩ := by
          obtain ⟨⟨L⟩⟩ := X
          match L, hx with
          | [a, b], _ => exact ⟨a, b, rfl⟩
        have hb : 128 ≤ b.toNat := HF.out (show 1 < 2 by decide)
        have hb8 : b.toNat < 256 := b.toNat_lt
        have hb1 : ((((⟨#[59, 61]⟩ : ByteArray)[1]'(show 1 < 2 by decide)).toNat : Int) != (((⟨#[a, b]⟩ : ByteArray)[1]'(show 1 < 2 by decide)).toNat : Int)) = true := by
          show (((61 : UInt8).toNat : Int) != (b.toNat : Int)) = true
          have : (61 : UInt8).toNat = 61 := rfl
          simp only [bne_iff_ne, ne_eq]
          omega
        clear hx f1 f2 HF
        go_enter Tryd.func95, Tryd.ntmps95
        go_wp2_with (go_at_call 117; refine (hcv _).mono ?_; rintro e w' ⟨rfl, rfl⟩)
        go_step3
        go_wp2
        go_loop [9] (fun i => i = .int .i64 1) (fun _ => 0)
        case atStart => rfl
        case round =>
          subst hrel
          go_wp2
          go_step3
          go_wp2
          go_region
          go_wp2
          go_region_with (go_at_call 116; refine (Tryd.strings_IndexByte _ _ _).mono ?_; rintro e w'' ⟨rfl, rfl⟩)
          all_goals
            go_wp2
            rw [Exit.noGoto_ret]
            go_wp2
            rw [Exit.noGoto_ret]
            go_wp2
            go_ret
            exact ⟨rfl, (Below.refl _ _).drew.drew⟩
      · have f1' : (3 : Int) ≤ (X.size : Int) := by omega
        have f2' : (X.size : Int) ≤ 4 := by omega
        go_enter Tryd.func95, Tryd.ntmps95
        go_wp2_with (go_at_call 117; refine (hcv _).mono ?_; rintro e w' ⟨rfl, rfl⟩)
        go_step3
        go_wp2
        go_loop [9] (fun i => i = .int .i64 ((X.size : Int) - 1)) (fun _ => 0)
        case atStart => rfl
        case round =>
          subst hrel
          go_wp2
          go_ret
          exact ⟨rfl, Below.refl _ _⟩

set_option maxHeartbeats 2000000 in
set_option maxRecDepth 100000 in
theorem m6indexAny2_short (s : ByteArray) (w : World) (h8 : s.size ≤ 8) :
    Calls Tryd.prog 71 #[.string s, .string ⟨#[59, 61]⟩] w fun e w' => e = .returned (.int .i64 (Lib.indexAny s.data.toList [59, 61])) ∧ Below w.heap.size w w' := by
  have h8z : decide ((8 : Int) < (s.size : Int)) = false := decide_eq_false (by omega)
  go_enter Tryd.func71, Tryd.ntmps71
  go_wp2_with (go_at_call 96; refine (Tryd.strings_shouldUseASCIISet _ _).mono ?_; rintro e w' ⟨rfl, hw⟩; rw [hw, h8z])
  go_loopg [9, 10] s.size (fun g _ _ wx => ∃ i : Nat, i + g = s.size ∧ wx.heap[w.heap.size]? = some (.stringIter s i) ∧ Below w.heap.size w wx ∧ Lib.NoAny s.data.toList [59, 61] i)
  case atStart => exact ⟨0, by omega, by simp [World.iter_heap], m6below_iter w _ _, Lib.NoAny.zero _ _⟩
  case round =>
    obtain ⟨i, hig, hit, hbw, hno⟩ := hrel
    have HN := hid hno
    have HI := hid hit
    clear hno hit
    by_cases hi : i < s.size
    · obtain ⟨x, hx⟩ : ∃ x : UInt8, s[i]'hi = x := ⟨_, rfl⟩
      have hxl : s.data.toList[i]? = some x := by rw [← hx]; exact Lib.data_getElem? s i hi
      by_cases ha : x.toNat < 128
      · have hnx := fun ty => Lib.run_next_ascii_at (P := Tryd.prog) wr w.heap.size s i ty HI.out hi (by rw [hx]; exact ha)
        rw [hx] at hnx
        have HK := hid (Lib.iterAt_heap wr w.heap.size s i (i + 1) HI.out)
        have HB2 := hid (Lib.below_iterAt hbw (Nat.le_refl _) s (i + 1))
        have Hx := hid hxl
        clear hxl hx
        have hcon := Lib.contains_iff_indexByte [59, 61] x
        have hback : ((x.toNat : Int)).toNat.toUInt8 = x := by simp
        cases hin : [(59 : UInt8), 61].contains x
        · rw [hin] at hcon
          have hlt : ¬ ((0 : Int) ≤ Lib.indexByte [59, 61] x) := of_decide_eq_false hcon.symm
          have Hin := hid hin
          clear hcon hin
          go_wp2_with (go_at_call 95; refine (Tryd.strings_IndexRune_ascii _ _ _ (by omega) (by omega)).mono ?_; rintro e w' ⟨rfl, hw⟩; rw [hw, hback])
          go_roundg (gk - 1)
          case measure => omega
          case rel => exact ⟨i + 1, by omega, HK.out, HB2.out, HN.out.succ Hx.out Hin.out⟩
        · rw [hin] at hcon
          have hge : (0 : Int) ≤ Lib.indexByte [59, 61] x := of_decide_eq_true hcon.symm
          have Hin := hid hin
          clear hcon hin
          go_wp2_with (go_at_call 95; refine (Tryd.strings_IndexRune_ascii _ _ _ (by omega) (by omega)).mono ?_; rintro e w' ⟨rfl, hw⟩; rw [hw, hback])
          go_ret
          exact ⟨by rw [Lib.indexAny_hit HN.out Hx.out Hin.out]; rfl, HB2.out⟩
      · obtain ⟨r, n, hd, hr1, hr2, hn1, hn2, hj⟩ := m6decode_skip s i hi (by rw [hx]; omega)
        have hnx := fun ty => Lib.run_next_any_at (P := Tryd.prog) wr w.heap.size s i ty HI.out hi
        rw [hd] at hnx
        have HK := hid (Lib.iterAt_heap wr w.heap.size s i (i + n) HI.out)
        have HB2 := hid (Lib.below_iterAt hbw (Nat.le_refl _) s (i + n))
        have HN2 := hid (m6noAny_skip s i n HN.out hn2 hj)
        clear hxl hx hj hd
        have hr1' : (128 : Int) ≤ (r : Int) := by omega
        have HRx := hid (show (r : Int) ≤ 1114111 by omega)
        clear hr2
        go_wp2_with (go_at_call 95; refine (m6indexRune_high _ _ hr1' HRx.out).mono ?_; rintro e w2 ⟨rfl, hb2⟩)
        go_roundg (gk - n)
        case measure => omega
        case rel =>
          refine ⟨i + n, by omega, ?_, HB2.out.trans (hb2.mono ?_), HN2.out⟩
          · rw [hb2.block _ (Array.getElem?_eq_some_iff.1 HK.out).1]; exact HK.out
          · exact HB2.out.size
    · obtain rfl : i = s.size := by omega
      have hnx := fun ty => Lib.run_next_end_at (P := Tryd.prog) wr w.heap.size s s.size ty HI.out hi
      go_wp2
      go_ret
      exact ⟨by rw [Lib.indexAny_none (by rw [← Lib.size_eq]; exact HN.out)]; rfl, hbw⟩

theorem m6zero87 (w : World) : (zeroValue 98).run Tryd.prog w = .ok (.agg (Array.replicate 256 (.bool false))) w := (zero_of_info (P := Tryd.prog) (n := 256) (by kernel_rfl)).1 w

theorem m6indexAny2_any (s : ByteArray) (w : World) (hs : s.size ≤ 4000000000) :
    Calls Tryd.prog 71 #[.string s, .string ⟨#[59, 61]⟩] w fun e w' => e = .returned (.int .i64 (Lib.indexAny s.data.toList [59, 61])) ∧ Below w.heap.size w w' := by
  by_cases h : s.size ≤ 8
  · exact m6indexAny2_short s w h
  · refine (Tryd.strings_IndexAny_long m6zero87 s ⟨#[59, 61]⟩ w (by decide) (by omega) (by omega) (by decide) ?_).mono ?_
    · intro j b hb
      match j, hb with
      | 0, hb => simp at hb; subst hb; decide
      | 1, hb => simp at hb; subst hb; decide
      | j + 2, hb => simp at hb
    · rintro e w' ⟨rfl, rfl⟩
      refine ⟨rfl, ((Below.refl _ w).alloc (Nat.le_refl _) _).alloc ?_ _⟩
      simp

theorem m6indexAny1_any (s : ByteArray) (w : World) :
    Calls Tryd.prog 71 #[.string s, .string ⟨#[59]⟩] w fun e w' => e = .returned (.int .i64 (Lib.indexAny s.data.toList [59])) ∧ Below w.heap.size w w' := by
  refine (Tryd.strings_IndexAny_one s ⟨#[59]⟩ w (by decide) ?_).mono ?_
  · intro j b hb
    match j, hb with
    | 0, hb => simp at hb; subst hb; decide
    | j + 1, hb => simp at hb
  · rintro e w' ⟨rfl, rfl⟩
    exact ⟨rfl, Below.refl _ _⟩

end Go.Proofs.YtplabofdcnpcpaaDoor
