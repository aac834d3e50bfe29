/-
  Walks and plain facts that this claim leans on, put together out of 6 texts: Xs, Xt, Xu, Xx, Za, Xq.
-/
import Derived.Test.YtgoefeaopegdoaaGreatDoorProg
import Derived.Test.YtgoefeaopegdoaaGreatDoorQh1
import Derived.Test.YtgoefeaopegdoaaGreatDoorQh2
import Derived.Test.YtgoefeaopegdoaaGreatDoorQh3
import Derived.WalkKit
import Derived.Lib.Strings
import Derived.Lib.UnsafeStr
import Derived.Laws.IdiomStrings
import Derived.Laws.AppendOwn
import Derived.Laws.BitsAllLaws
import Derived.Lib.Bytealg
import Derived.Lib.BufferMore
import Derived.Shelf.Strings.Builder1
import Derived.Shelf.Strings.Builder2
import Derived.Shelf.Strings.OnBuilder
import Derived.Shelf.Strings.Trim
import Derived.Shelf.Small.Utf8
import Derived.Shelf.Small.Bits
import Derived.Shelf.Small.Strs
import Derived.Shelf.Small.Wraps
import Derived.Shelf.Strings.BuilderF
import Derived.Shelf.Strings.BuilderK
import Derived.Shelf.Strings.BuilderRune
import Derived.Shelf.Utf8.AppendRune
import Derived.Shelf.Utf8.AppendRunePlain
import Derived.Shelf.Strings.Builder2Cap
import Derived.Shelf.Strconv.Itoa0
import Derived.Shelf.Strconv.Itoa1
import Derived.Shelf.LaysM
import Derived.Shelf.Strconv.Itoa2
import Derived.Shelf.Strconv.Itoa3
import Derived.Shelf.Strings.Search1
import Derived.Shelf.Strings.Search2
import Derived.Shelf.Strings.Search3
import Derived.Shelf.Strings.Cut
import Derived.Shelf.Strings.Count
import Derived.Shelf.Strings.Shaped
import Derived.Shelf.Strings.LastIndex
import Derived.Shelf.Strings.Prefix
import Derived.Shelf.Strings.Split
import Derived.Shelf.Strings.Replace
import Derived.Shelf.Strings.Runes
import Derived.Shelf.Strings.IndexAny
import Derived.Shelf.Strings.AsciiSet
import Derived.Shelf.Strings.IndexAnyAll
import Derived.Shelf.Unicode.DecodeSlow
import Derived.Ground.Names2Prog
import Derived.Shelf.Slices.Clone
import Derived.Shelf.Slices.In.SortNone
import Derived.Ground.SlgnProg
import Derived.Shelf.SlicesE.Clone
import Derived.WalkSpells
import Derived.WalkLawsBesides
import Derived.Lib.SlTrimSet
import Derived.Lib.Join
import Derived.Lib.IndexMore
import Derived.Laws.OwnMore
import Derived.Below
import Derived.WalkSmall
import Derived.Lib.SmallJoins
import Derived.Deep.QuietTactic
import Derived.BigQuiet
import Derived.Deep.LoopGhost
import Derived.Deep.MidRow
import Derived.Shelf.Strings.SlTrimAscii
import Derived.Deep.CutRange
import Derived.Laws.Rows
import Derived.Laws.CopyOwn
import Derived.Laws.MakeOwn
import Derived.Laws.RangeAny
import Derived.Lib.DecodeN
import Derived.Lib.OthersKept
import Derived.RegionTactic
import Derived.Deep.RegionWith
import Derived.Laws.Runes
import Derived.Deep.WholeRow
import Derived.Deep.RegionLaw
import Derived.Deep.RegionHeldLaw
set_option linter.unusedSimpArgs false
set_option linter.unusedVariables false

namespace Go.Proofs.YtgoefeaopegdoaaGreatDoor
open Go.RowKit

theorem xget_bang (s : ByteArray) (i : Nat) (h : i < s.size) : s.get! i = s[i] := by
 show s.data[i]! = s.data[i]
 exact getElem!_pos s.data i h

set_option maxRecDepth 100000 in
theorem xdecode_skip (s : ByteArray) (i : Nat) (h : i < s.size) (ha : 128 ≤ (s[i]'h).toNat) : ∃ r n, Utf8.decode s i = (r, n) ∧ 128 ≤ r ∧ r ≤ 1114111 ∧ 1 ≤ n ∧ i + n ≤ s.size ∧ ∀ j, i ≤ j → j < i + n → 128 ≤ (s.get! j).toNat := by
 have h0 : 128 ≤ (s.get! i).toNat := by rw [xget_bang s i h]; exact ha
 rw [Lib.decode_at]
 unfold Lib.decodeN
 rw [if_neg (by omega)]
 have one : ∀ j, i ≤ j → j < i + 1 → 128 ≤ (s.get! j).toNat := fun j h1 h2 => by
  have : j = i := by omega
  rw [this]; exact h0
 split
 ·split
  ·refine ⟨_, _, rfl, by omega, by omega, by omega, by omega, fun j h1 h2 => ?_⟩
   have : j = i ∨ j = i + 1 := by omega
   rcases this with rfl | rfl
   ·exact h0
   ·omega
  ·exact ⟨_, _, rfl, by omega, by omega, by omega, by omega, one⟩
 ·split
  ·split
   ·refine ⟨_, _, rfl, by omega, by omega, by omega, by omega, fun j h1 h2 => ?_⟩
    have : j = i ∨ j = i + 1 ∨ j = i + 2 := by omega
    rcases this with rfl | rfl | rfl
    ·exact h0
    ·omega
    ·omega
   ·exact ⟨_, _, rfl, by omega, by omega, by omega, by omega, one⟩
  ·split
   ·split
    ·refine ⟨_, _, rfl, by omega, by omega, by omega, by omega, fun j h1 h2 => ?_⟩
     have : j = i ∨ j = i + 1 ∨ j = i + 2 ∨ j = i + 3 := by omega
     rcases this with rfl | rfl | rfl | rfl
     ·exact h0
     ·omega
     ·omega
     ·omega
    ·exact ⟨_, _, rfl, by omega, by omega, by omega, by omega, one⟩
   ·exact ⟨_, _, rfl, by omega, by omega, by omega, by omega, one⟩

theorem xnoAny_skip (s : ByteArray) (i n : Nat) (h : Lib.NoAny s.data.toList [0, 10, 13] i) (hn : i + n ≤ s.size) (hj : ∀ j, i ≤ j → j < i + n → 128 ≤ (s.get! j).toNat) : Lib.NoAny s.data.toList [0, 10, 13] (i + n) := by
 intro j b hjn hb
 by_cases h1 : j < i
 ·exact h j b h1 hb
 ·have h2 := hj j (by omega) hjn
  have hjs : j < s.size := by omega
  rw [xget_bang s j hjs] at h2
  rw [Lib.data_getElem? s j hjs] at hb
  cases hb
  simp
  refine ⟨?_, ?_, ?_⟩ <;> (intro e; rw [e] at h2; revert h2; decide)

theorem xbelow_iter (w : World) (s : ByteArray) (i : Nat) : Below w.heap.size w (w.iter s i) := (Below.refl _ w).alloc (Nat.le_refl _) _

set_option maxHeartbeats 2000000 in
set_option maxRecDepth 100000 in
theorem xindexRune_high (r : Int) (w : World) (hr1 : 128 ≤ r) (h2 : r ≤ 1114111) :
  Calls Tryz.prog 194 #[.string ⟨#[0, 10, 13]⟩, .int .i32 r] w fun e w' => e = .returned (.int .i64 (-1)) ∧ Below w.heap.size w w' := by
 have hr0 : (0 : Int) ≤ r := by omega
 by_cases he : r = 65533
 ·subst he
  go_enter Tryz.func194, Tryz.ntmps194
  go_wp2
  go_loopg [5, 6] 3 (fun g _ _ wx => ∃ i : Nat, i + g = 3 ∧ wx = w.iter ⟨#[0, 10, 13]⟩ i)
  case atStart => exact ⟨0, by omega, rfl⟩
  case round =>
   obtain ⟨i, hig, rfl⟩ := hrel
   match gk, hig with
   | 0, hig =>
    obtain rfl : i = 3 := by omega
    have hnx := run_next_end (P := Tryz.prog) w ⟨#[0, 10, 13]⟩ 3
    go_wp2
    go_ret
    exact ⟨rfl, xbelow_iter w _ _⟩
   | 1, hig =>
    obtain rfl : i = 2 := by omega
    have hnx := fun ty => run_next_ascii (P := Tryz.prog) w ⟨#[0, 10, 13]⟩ 2 ty (by decide) (by decide)
    go_wp2
    go_roundg 0
    case measure => omega
    case rel => exact ⟨3, by omega, rfl⟩
   | 2, hig =>
    obtain rfl : i = 1 := by omega
    have hnx := fun ty => run_next_ascii (P := Tryz.prog) w ⟨#[0, 10, 13]⟩ 1 ty (by decide) (by decide)
    go_wp2
    go_roundg 1
    case measure => omega
    case rel => exact ⟨2, by omega, rfl⟩
   | 3, hig =>
    obtain rfl : i = 0 := by omega
    have hnx := fun ty => run_next_ascii (P := Tryz.prog) w ⟨#[0, 10, 13]⟩ 0 ty (by decide) (by decide)
    go_wp2
    go_roundg 2
    case measure => omega
    case rel => exact ⟨1, by omega, rfl⟩
   | g + 4, hig => omega
 ·have he' : (r == 65533) = false := by rw [beq_eq_false_iff_ne]; exact he
  have hcv : ∀ w : World, Calls Tryz.prog 229 #[.int .i32 r] w fun e w' => e = .returned (.bool (Lib.validRune r)) ∧ w' = w := fun w => Tryz.utf8_ValidRune _ w
  have hvv : Lib.validRune r = true ∨ Lib.validRune r = false := by cases Lib.validRune r <;> simp
  rcases hvv with hv | hv
  rotate_left
  ·rw [hv] at hcv
   clear hv h2 he
   go_enter Tryz.func194, Tryz.ntmps194
   go_wp2_with (go_at_call 229; refine (hcv _).mono ?_; rintro e w' ⟨rfl, rfl⟩)
   go_ret
   exact ⟨rfl, Below.refl _ _⟩
  ·obtain ⟨X, hX⟩ : ∃ X, Utf8.encode r = X := ⟨_, rfl⟩
   have hvu : Utf8.valid r = true := by
    have := of_decide_eq_true hv
    simp only [Utf8.valid, Bool.or_eq_true, Bool.and_eq_true, decide_eq_true_eq]
    omega
   have hf := encode_facts r hvu (by omega)
   rw [hX] at hf
   obtain ⟨f1, f2, f3⟩ := hf
   have HF := hid f3
   rw [hv] at hcv
   clear f3 hv hvu h2 he
   by_cases hx : X.size = 2
   ·obtain ⟨a, b, rfl⟩ : ∃ a b : UInt8, X = ⟨#[a, b]⟩ := by
     obtain ⟨⟨L⟩⟩ := X
     match L, hx with
     | [a, b], _ => exact ⟨a, b, rfl⟩
    have hb : 128 ≤ b.toNat := HF.out (show 1 < 2 by decide)
    have hb8 : b.toNat < 256 := b.toNat_lt
    have hb1 : ((((⟨#[0, 10, 13]⟩ : ByteArray)[1]'(show 1 < 3 by decide)).toNat : Int) != (((⟨#[a, b]⟩ : ByteArray)[1]'(show 1 < 2 by decide)).toNat : Int)) = true := by
     show (((10 : UInt8).toNat : Int) != (b.toNat : Int)) = true
     have : (10 : UInt8).toNat = 10 := rfl
     simp only [bne_iff_ne, ne_eq]
     omega
    have HIB := hid (show Lib.indexByte ((⟨#[0, 10, 13]⟩ : ByteArray).extract 2 3).data.toList ((((⟨#[a, b]⟩ : ByteArray)[1]'(show 1 < 2 by decide)).toNat : Int)).toNat.toUInt8 = -1 by
     have e1 : ((⟨#[0, 10, 13]⟩ : ByteArray).extract 2 3).data.toList = [13] := by rw [Lib.extract_data]; rfl
     have e2 : ((((⟨#[a, b]⟩ : ByteArray)[1]'(show 1 < 2 by decide)).toNat : Int)).toNat.toUInt8 = b := by
      show ((b.toNat : Int)).toNat.toUInt8 = b
      simp
     rw [e1, e2]
     have hne : (13 : UInt8) ≠ b := fun e => by rw [← e] at hb; revert hb; decide
     simp [Lib.indexByte, hne])
    clear hx f1 f2 HF
    go_enter Tryz.func194, Tryz.ntmps194
    go_wp2_with (go_at_call 229; refine (hcv _).mono ?_; rintro e w' ⟨rfl, rfl⟩)
    go_step3
    go_wp2
    go_loop [9] (fun i => i = .int .i64 1) (fun _ => 0)
    case atStart => rfl
    case round =>
     subst hrel
     go_wp2
     go_step3
     go_wp2
     go_region
     go_wp2
     go_region_with (go_at_call 228; refine (Tryz.strings_IndexByte _ _ _).mono ?_; rintro e w'' ⟨rfl, rfl⟩; rw [HIB.out])
     all_goals
      go_wp2
      rw [Exit.noGoto_ret]
      go_wp2
      rw [Exit.noGoto_ret]
      go_wp2
      go_ret
      exact ⟨rfl, (Below.refl _ _).drew.drew⟩
   ·by_cases hx3 : X.size = 3
    ·obtain ⟨a, b, c, rfl⟩ : ∃ a b c : UInt8, X = ⟨#[a, b, c]⟩ := by
      obtain ⟨⟨L⟩⟩ := X
      match L, hx3 with
      | [a, b, c], _ => exact ⟨a, b, c, rfl⟩
     have hb : 128 ≤ c.toNat := HF.out (show 2 < 3 by decide)
     have hb8 : c.toNat < 256 := c.toNat_lt
     have hb1 : ((((⟨#[0, 10, 13]⟩ : ByteArray)[2]'(show 2 < 3 by decide)).toNat : Int) != (((⟨#[a, b, c]⟩ : ByteArray)[2]'(show 2 < 3 by decide)).toNat : Int)) = true := by
      show (((13 : UInt8).toNat : Int) != (c.toNat : Int)) = true
      have : (13 : UInt8).toNat = 13 := rfl
      simp only [bne_iff_ne, ne_eq]
      omega
     clear hx hx3 f1 f2 HF
     go_enter Tryz.func194, Tryz.ntmps194
     go_wp2_with (go_at_call 229; refine (hcv _).mono ?_; rintro e w' ⟨rfl, rfl⟩)
     go_step3
     go_wp2
     go_loop [9] (fun i => i = .int .i64 2) (fun _ => 0)
     case atStart => rfl
     case round =>
      subst hrel
      go_wp2
      go_step3
      go_wp2
      go_region
      go_wp2
      go_region_with (go_at_call 228; refine (Tryz.strings_IndexByte _ _ _).mono ?_; rintro e w'' ⟨rfl, rfl⟩)
      all_goals
       go_wp2
       rw [Exit.noGoto_ret]
       go_wp2
       rw [Exit.noGoto_ret]
       go_wp2
       go_ret
       exact ⟨rfl, (Below.refl _ _).drew.drew⟩
    ·have f1' : (4 : Int) ≤ (X.size : Int) := by omega
     have f2' : (X.size : Int) ≤ 4 := by omega
     go_enter Tryz.func194, Tryz.ntmps194
     go_wp2_with (go_at_call 229; refine (hcv _).mono ?_; rintro e w' ⟨rfl, rfl⟩)
     go_step3
     go_wp2
     go_loop [9] (fun i => i = .int .i64 ((X.size : Int) - 1)) (fun _ => 0)
     case atStart => rfl
     case round =>
      subst hrel
      go_wp2
      go_ret
      exact ⟨rfl, Below.refl _ _⟩

set_option maxHeartbeats 2000000 in
set_option maxRecDepth 100000 in
theorem xindexAny2_short (s : ByteArray) (w : World) (h8 : s.size ≤ 8) :
  Calls Tryz.prog 149 #[.string s, .string ⟨#[0, 10, 13]⟩] w fun e w' => e = .returned (.int .i64 (Lib.indexAny s.data.toList [0, 10, 13])) ∧ Below w.heap.size w w' := by
 have h8z : decide ((8 : Int) < (s.size : Int)) = false := decide_eq_false (by omega)
 go_enter Tryz.func149, Tryz.ntmps149
 go_wp2_with (go_at_call 195; refine (Tryz.strings_shouldUseASCIISet _ _).mono ?_; rintro e w' ⟨rfl, hw⟩; rw [hw, h8z])
 go_loopg [9, 10] s.size (fun g _ _ wx => ∃ i : Nat, i + g = s.size ∧ wx.heap[w.heap.size]? = some (.stringIter s i) ∧ Below w.heap.size w wx ∧ Lib.NoAny s.data.toList [0, 10, 13] i)
 case atStart => exact ⟨0, by omega, by simp [World.iter_heap], xbelow_iter w _ _, Lib.NoAny.zero _ _⟩
 case round =>
  obtain ⟨i, hig, hit, hbw, hno⟩ := hrel
  have HN := hid hno
  have HI := hid hit
  clear hno hit
  by_cases hi : i < s.size
  ·obtain ⟨x, hx⟩ : ∃ x : UInt8, s[i]'hi = x := ⟨_, rfl⟩
   have hxl : s.data.toList[i]? = some x := by rw [← hx]; exact Lib.data_getElem? s i hi
   by_cases ha : x.toNat < 128
   ·have hnx := fun ty => Lib.run_next_ascii_at (P := Tryz.prog) wr w.heap.size s i ty HI.out hi (by rw [hx]; exact ha)
    rw [hx] at hnx
    have HK := hid (Lib.iterAt_heap wr w.heap.size s i (i + 1) HI.out)
    have HB2 := hid (Lib.below_iterAt hbw (Nat.le_refl _) s (i + 1))
    have Hx := hid hxl
    clear hxl hx
    have hcon := Lib.contains_iff_indexByte [0, 10, 13] x
    have hback : ((x.toNat : Int)).toNat.toUInt8 = x := by simp
    cases hin : [(0 : UInt8), 10, 13].contains x
    ·rw [hin] at hcon
     have hlt : ¬ ((0 : Int) ≤ Lib.indexByte [0, 10, 13] x) := of_decide_eq_false hcon.symm
     have Hin := hid hin
     clear hcon hin
     go_wp2_with (go_at_call 194; refine (Tryz.strings_IndexRune_ascii _ _ _ (by omega) (by omega)).mono ?_; rintro e w' ⟨rfl, hw⟩; rw [hw, hback])
     go_roundg (gk - 1)
     case measure => omega
     case rel => exact ⟨i + 1, by omega, HK.out, HB2.out, HN.out.succ Hx.out Hin.out⟩
    ·rw [hin] at hcon
     have hge : (0 : Int) ≤ Lib.indexByte [0, 10, 13] x := of_decide_eq_true hcon.symm
     have Hin := hid hin
     clear hcon hin
     go_wp2_with (go_at_call 194; refine (Tryz.strings_IndexRune_ascii _ _ _ (by omega) (by omega)).mono ?_; rintro e w' ⟨rfl, hw⟩; rw [hw, hback])
     go_ret
     exact ⟨by rw [Lib.indexAny_hit HN.out Hx.out Hin.out]; rfl, HB2.out⟩
   ·obtain ⟨r, n, hd, hr1, hr2, hn1, hn2, hj⟩ := xdecode_skip s i hi (by rw [hx]; omega)
    have hnx := fun ty => Lib.run_next_any_at (P := Tryz.prog) wr w.heap.size s i ty HI.out hi
    rw [hd] at hnx
    have HK := hid (Lib.iterAt_heap wr w.heap.size s i (i + n) HI.out)
    have HB2 := hid (Lib.below_iterAt hbw (Nat.le_refl _) s (i + n))
    have HN2 := hid (xnoAny_skip s i n HN.out hn2 hj)
    clear hxl hx hj hd
    have hr1' : (128 : Int) ≤ (r : Int) := by omega
    have HRx := hid (show (r : Int) ≤ 1114111 by omega)
    clear hr2
    go_wp2_with (go_at_call 194; refine (xindexRune_high _ _ hr1' HRx.out).mono ?_; rintro e w2 ⟨rfl, hb2⟩)
    go_roundg (gk - n)
    case measure => omega
    case rel =>
     refine ⟨i + n, by omega, ?_, HB2.out.trans (hb2.mono ?_), HN2.out⟩
     ·rw [hb2.block _ (Array.getElem?_eq_some_iff.1 HK.out).1]; exact HK.out
     ·exact HB2.out.size
  ·obtain rfl : i = s.size := by omega
   have hnx := fun ty => Lib.run_next_end_at (P := Tryz.prog) wr w.heap.size s s.size ty HI.out hi
   go_wp2
   go_ret
   exact ⟨by rw [Lib.indexAny_none (by rw [← Lib.size_eq]; exact HN.out)]; rfl, hbw⟩

theorem xzero87 (w : World) : (zeroValue 165).run Tryz.prog w = .ok (.agg (Array.replicate 256 (.bool false))) w := (zero_of_info (P := Tryz.prog) (n := 256) (by kernel_rfl)).1 w

end Go.Proofs.YtgoefeaopegdoaaGreatDoor

namespace Go.Proofs.YtgoefeaopegdoaaGreatDoor
open Go.RowKit

set_option maxHeartbeats 2000000 in
set_option maxRecDepth 100000 in
theorem xindexAny3_long (s : ByteArray) (w : World) (h8 : 8 < s.size) (hs : s.size ≤ 9223372036854775807) :
  Calls Tryz.prog 149 #[.string s, .string ⟨#[0, 10, 13]⟩] w fun e w' => e = .returned (.int .i64 (Lib.indexAny s.data.toList [0, 10, 13])) ∧ Below w.heap.size w w' := by
 have hM := Tryz.strings_makeASCIISet xzero87 ⟨#[0, 10, 13]⟩ w (by decide) (ascii_of_all (by decide))
 rw [show (⟨#[0, 10, 13]⟩ : ByteArray).data.toList = [0, 10, 13] from rfl] at hM
 have h8z : decide ((8 : Int) < (s.size : Int)) = true := decide_eq_true (by omega)
 obtain ⟨C, hC⟩ : ∃ C, C = Lib.setCells [0, 10, 13] := ⟨_, rfl⟩
 have hsz : C.size = 256 := by rw [hC]; exact Lib.setCells_size _
 have hat : ∀ x : UInt8, C[x.toNat]? = some (.bool ([(0 : UInt8), 10, 13].contains x)) := fun x => by rw [hC]; exact Lib.setCells_at _ _
 rw [← hC] at hM
 have HA := hid hat
 have hi256 : (Tryz.prog.info? 165).map (·.size) = some 256 := by kernel_rfl
 have hall : C.all (·.oneCell') = true := by
  rw [Array.all_eq_true]
  intro i hi
  have := HA.out (UInt8.ofNat i)
  rw [show (UInt8.ofNat i).toNat = i by simp [UInt8.toNat_ofNat']; omega, Array.getElem?_eq_getElem hi] at this
  rw [Option.some.inj this]; rfl
 have hsc : (storeCells ⟨w.heap.size + 1, 0, none⟩ C.toList 0).run Tryz.prog ((w.alloc (.cells C 165)).alloc (.cells Tryz.zeroCells165 165)) = .ok () ((w.alloc (.cells C 165)).alloc (.cells C 165)) := by
  have := run_storeCells_new (P := Tryz.prog) (w.alloc (.cells C 165)) 165 Tryz.zeroCells165 C (by rw [hsz]; exact hi256) (by rw [hsz]; kernel_rfl) hall
  simpa using this
 clear hat hC hall
 go_enter Tryz.func149, Tryz.ntmps149
 go_wp2_with (first
  | (go_at_call 195; refine (Tryz.strings_shouldUseASCIISet _ _).mono ?_; rintro e w' ⟨rfl, hw⟩; rw [hw, h8z])
  | (go_at_call 144; refine hM.mono ?_; rintro e w' ⟨rfl, hw⟩; rw [hw]))
 clear hM hsc
 obtain ⟨W2, hW2⟩ : ∃ W2, W2 = (w.alloc (.cells C 165)).alloc (.cells C 165) := ⟨_, rfl⟩
 have hb2 : Below w.heap.size w W2 := by rw [hW2]; exact belowA (belowA (Below.refl _ _) _) _
 have hc2 : ∀ x : UInt8, W2.cell? ⟨w.heap.size + 1, x.toNat, none⟩ = some (.bool ([(0 : UInt8), 10, 13].contains x)) := fun x => by
  have hh : W2.heap[w.heap.size + 1]? = some (.cells C 165 (0, 0)) := by
   rw [hW2]
   have := heap_alloc_new (w.alloc (.cells C 165)) (.cells C 165)
   simpa using this
  rw [Lib.cell_of_heap hh]
  exact HA.out x
 rw [← hW2]
 have HC := hid hc2
 have HB := hid hb2
 clear hW2 hc2 hb2
 go_loopg [8] s.size (fun g s8 wx => ∃ i : Nat, i + g = s.size ∧ s8 = .int .i64 i ∧ wx = W2 ∧ Lib.NoAny s.data.toList [0, 10, 13] i)
 case atStart => exact ⟨0, by omega, rfl, rfl, Lib.NoAny.zero _ _⟩
 case round =>
  obtain ⟨i, hig, rfl, rfl, hno⟩ := hrel
  have HN := hid hno
  clear hno
  by_cases hi : i < s.size
  ·have hiz : (i : Int) < (s.size : Int) := by omega
   obtain ⟨x, hx⟩ : ∃ x : UInt8, s[i]'hi = x := ⟨_, rfl⟩
   have Hx := hid (show s.data.toList[i]? = some x by rw [← hx]; exact Lib.data_getElem? s i hi)
   have hcx := HC.out x
   cases hin : [(0 : UInt8), 10, 13].contains x <;> rw [hin] at hcx
   ·have Hin := hid hin
    clear hin
    go_wp2_with (go_at_call 190; refine (Tryz.asciiSet_contains _ x _ _ hcx).mono ?_; rintro e w' ⟨rfl, hw⟩; rw [hw])
    go_roundg (gk - 1)
    case measure => omega
    case rel => exact ⟨i + 1, by omega, by go_num, rfl, HN.out.succ Hx.out Hin.out⟩
   ·have Hin := hid hin
    clear hin
    go_wp2_with (go_at_call 190; refine (Tryz.asciiSet_contains _ x _ _ hcx).mono ?_; rintro e w' ⟨rfl, hw⟩; rw [hw])
    go_ret
    exact ⟨by rw [Lib.indexAny_hit HN.out Hx.out Hin.out]; rfl, HB.out⟩
  ·obtain rfl : i = s.size := by omega
   have hiz : ¬ ((s.size : Int) < (s.size : Int)) := by omega
   go_wp2
   go_ret
   exact ⟨by rw [Lib.indexAny_none (by rw [← Lib.size_eq]; exact HN.out)]; rfl, HB.out⟩

theorem xindexAny3_any (s : ByteArray) (w : World) (hs : s.size ≤ 9223372036854775807) :
  Calls Tryz.prog 149 #[.string s, .string ⟨#[0, 10, 13]⟩] w fun e w' => e = .returned (.int .i64 (Lib.indexAny s.data.toList [0, 10, 13])) ∧ Below w.heap.size w w' := by
 by_cases h : s.size ≤ 8
 ·exact xindexAny2_short s w h
 ·exact xindexAny3_long s w (by omega) hs

def badC (c : UInt8) : Bool := c == 0 || (c == 10 || c == 13)

theorem indexAny_bad (l : List UInt8) : decide ((0 : Int) ≤ Lib.indexAny l [0, 10, 13]) = l.any badC := by
 induction l with
 | nil => rfl
 | cons c l ih =>
  have hge := Lib.indexAny_ge [0, 10, 13] l
  have hc : [(0 : UInt8), 10, 13].contains c = badC c := by
   rw [Bool.eq_iff_iff]; simp [badC]
  have e : Lib.indexAny (c :: l) [0, 10, 13] = if [(0 : UInt8), 10, 13].contains c then 0 else if Lib.indexAny l [0, 10, 13] == -1 then -1 else Lib.indexAny l [0, 10, 13] + 1 := rfl
  rw [List.any_cons, ← ih, ← hc, e]
  generalize Lib.indexAny l [0, 10, 13] = q at hge
  cases [(0 : UInt8), 10, 13].contains c with
  | true => simp
  | false =>
   by_cases h : q = -1
   ·subst h; rfl
   ·have h' : (q == -1) = false := by simpa using h
    rw [h']
    simp
    omega

set_option maxHeartbeats 1000000 in
theorem containsAny3_any (s : ByteArray) (w : World) (hs : s.size ≤ 9223372036854775807) :
  Calls Tryz.prog 87 #[.string s, .string ⟨#[0, 10, 13]⟩] w fun e w' => e = .returned (.bool (s.data.toList.any badC)) ∧ Below w.heap.size w w' := by
 have hI := hid (indexAny_bad s.data.toList)
 go_enter Tryz.func87, Tryz.ntmps87
 go_wp2_with fail
 refine (xindexAny3_any s _ hs).mono ?_
 rintro e w1 ⟨rfl, hb1⟩
 go_wp2
 go_ret
 exact ⟨ret_bool hI.out, hb1⟩

def valT (l : List UInt8) : List UInt8 := Lib.trimS l [9, 10, 13, 32]

def valB (l : List UInt8) : Bool := !(valT l).any badC

theorem trimS_le (l c : List UInt8) : (Lib.trimS l c).length ≤ l.length := by
 unfold Lib.trimS Lib.trimLeftS Lib.trimRightS
 have h1 := (List.dropWhile_sublist (l := l.reverse) (c.contains ·)).length_le
 have h2 := (List.dropWhile_sublist (l := (l.reverse.dropWhile (c.contains ·)).reverse) (c.contains ·)).length_le
 simp at h1 h2 ⊢
 omega

def valA (l : List UInt8) : List UInt8 := if valB l then valT l else []

set_option maxHeartbeats 1000000 in
theorem value_any (s : ByteArray) (w : World) (hs : s.size ≤ 9223372036854775807) :
  Calls Tryz.prog 41 #[.string s] w fun e w' => e = .returned (.tuple #[.string ⟨(valA s.data.toList).toArray⟩, .bool (valB s.data.toList)]) ∧ Below w.heap.size w w' := by
 obtain ⟨T, hT⟩ : ∃ x : ByteArray, x = ⟨(valT s.data.toList).toArray⟩ := ⟨_, rfl⟩
 have hTs : T.size ≤ 9223372036854775807 := by have := trimS_le s.data.toList [9, 10, 13, 32]; rw [hT, xsize]; unfold valT; simp at this; omega
 obtain ⟨bd, hbd⟩ : ∃ x, x = T.data.toList.any badC := ⟨_, rfl⟩
 have HB := hid (show valB s.data.toList = !bd by rw [hbd, hT]; rfl)
 have HA := hid (show valA s.data.toList = if (!bd) = true then T.data.toList else [] by unfold valA; rw [HB.out, hT])
 have HTr : Hid (∀ w : World, Calls Tryz.prog 86 #[.string s, .string ⟨#[9, 10, 13, 32]⟩] w fun e w' => e = .returned (.string T) ∧ Below w.heap.size w w') := fun w => by
  have := trim5_any s ⟨#[9, 10, 13, 32]⟩ w hs (by decide) (by decide)
  rw [show (⟨#[9, 10, 13, 32]⟩ : ByteArray).data.toList = [9, 10, 13, 32] from rfl, show (⟨(Lib.trimS s.data.toList [9, 10, 13, 32]).toArray⟩ : ByteArray) = T from hT.symm] at this
  exact this
 have HCo : Hid (∀ w : World, Calls Tryz.prog 87 #[.string T, .string ⟨#[0, 10, 13]⟩] w fun e w' => e = .returned (.bool bd) ∧ Below w.heap.size w w') := fun w => by
  have := containsAny3_any T w hTs
  rw [← hbd] at this
  exact this
 clear hT hbd
 cases bd with
 | true =>
  go_enter Tryz.func41, Tryz.ntmps41
  go_wp2_with fail
  refine (HTr.out _).mono ?_
  rintro e w1 ⟨rfl, hb1⟩
  go_wp2_with fail
  refine (HCo.out _).mono ?_
  rintro e w2 ⟨rfl, hb2⟩
  go_wp2
  go_ret2
  exact ⟨xret_sb (xext (by rw [HA.out]; rfl)) (by rw [HB.out]; rfl), belowT hb1 hb2⟩
 | false =>
  go_enter Tryz.func41, Tryz.ntmps41
  go_wp2_with fail
  refine (HTr.out _).mono ?_
  rintro e w1 ⟨rfl, hb1⟩
  go_wp2_with fail
  refine (HCo.out _).mono ?_
  rintro e w2 ⟨rfl, hb2⟩
  go_wp2
  go_ret2
  exact ⟨xret_sb (xext (by rw [HA.out]; rfl)) (by rw [HB.out]; rfl), belowT hb1 hb2⟩

end Go.Proofs.YtgoefeaopegdoaaGreatDoor

namespace Go.Proofs.YtgoefeaopegdoaaGreatDoor
open Go.RowKit

def Two (w : World) (b : Nat) (n v : ByteArray) : Prop := w.heap[b]? = some (.cells #[.string n, .string v] 38 (0, 0))

theorem Two.range {w : World} {b : Nat} {n v : ByteArray} (h : Two w b n v) : w.rangeAt b 0 [.string n, .string v] := fun j u hu => by
 rw [Nat.zero_add, Lib.cell_of_heap h]
 match j, hu with
 | 0, hu => simpa using hu
 | 1, hu => simpa using hu
 | j + 2, hu => simp at hu

theorem Two.cells {w : World} {b : Nat} {n v : ByteArray} (h : Two w b n v) : w.cell? ⟨b, 0, none⟩ = some (.string n) ∧ w.cell? ⟨b, 1, none⟩ = some (.string v) ∧ w.frozen? ⟨b, 0, none⟩ = false ∧ w.frozen? ⟨b, 1, none⟩ = false :=
 ⟨by rw [Lib.cell_of_heap h]; rfl, by rw [Lib.cell_of_heap h]; rfl, Lib.frozen_of_heap h 0, Lib.frozen_of_heap h 1⟩

theorem Two.set {w : World} {b : Nat} {n v n' v' : ByteArray} (h : Two w b n v) : Two ((w.setCell ⟨b, 0, none⟩ (.string n')).setCell ⟨b, 1, none⟩ (.string v')) b n' v' := by
 have h1 := Lib.heap_setCell_same h (i := 0) (.string n')
 have h2 := Lib.heap_setCell_same h1 (i := 1) (.string v')
 exact h2

end Go.Proofs.YtgoefeaopegdoaaGreatDoor

namespace Go.Proofs.YtgoefeaopegdoaaGreatDoor
open Go.RowKit

theorem xstep_append_own {P : Program} {ops : Array Oper} {o : Oper} {a : Act} {w : World} {K : Act → World → Prop} {Q : Exit → Act → World → Prop} {E : Prop} (hgd : o.guard = none) (s x : Operand) (t : TypeId)
  (ho : o.op = .call { callee := .builtin .append, args := #[s, x], argTypes := #[t, t] })
  (base : Nat) (e : TypeId) (i : TypeInfo) (z : Value) (size bytes : Nat) (ht : P.underlying t = some (.slice e)) (hi : P.info? e = some i) (hz : i.zero = some z)
  (hsize : i.size = size) (hby : i.bytes = bytes) (hzs : z.cells.size = size) (hsz : 0 < size)
  (v : Value) (n : Nat) (xs : List Value) (hs : a.eval s = v) (hown : w.ownsRow base e size v n xs)
  (ad : Addr) (m c : Nat) (news : List Value) (hx : a.eval x = .slice (some ad) m c) (hl : news.length = m * size) (hnews : ∀ j u, news[j]? = some u → w.cell? (ad.add j) = some u) (h1 : ∀ u ∈ news, u.oneCell' = true)
  (h63 : n + m ≤ maxLen) (hbytes : (n + m) * bytes ≤ 140737488355328) (hbase : base ≤ w.heap.size)
  (h : ∀ v' w', w'.ownsRow base e size v' (n + m) (xs ++ news) → w.grownBy w' v.ownBlock → (v' = .slice none 0 0 ↔ v = .slice none 0 0 ∧ m = 0) → K (a.put o.dst v') w') :
  if Region.wanted o (yielded ops a.tmps) = true then Oper.wp P o a w K Q else E := by
 rw [if_pos (by simp [Region.wanted, hgd])]
 exact wp_append_own w s x t ho base e i z size bytes ht hi hz hsize hby hzs hsz v n xs hs hown ad m c news hx hl hnews h1 h63 hbytes hbase h

theorem hd_take {w : World} {a : Option Addr} {n cap : Nat} {L : List Hd} (h : HdAt w (.slice a n cap) L) (k : Nat) (hk : k ≤ L.length) : HdAt w (.slice a k cap) (L.take k) := by
 obtain ⟨a', cap', e, h1, h2, h3⟩ := h
 cases e
 have hl : (L.take k).length = k := by simp; omega
 refine ⟨a, cap, by rw [hl], by omega, h2, fun j hj => ?_⟩
 rw [hl] at hj
 have := h3 j (by omega)
 simpa using this

theorem hd_drop {w : World} {b off n cap : Nat} {L : List Hd} (h : HdAt w (.slice (some ⟨b, off, none⟩) n cap) L) (k : Nat) (hk : k ≤ L.length) : HdAt w (.slice (some ⟨b, off + k * 2, none⟩) (n - k) (cap - k)) (L.drop k) := by
 obtain ⟨a', cap', e, h1, h2, h3⟩ := h
 cases e
 have hl : (L.drop k).length = L.length - k := by simp
 refine ⟨_, cap - k, by rw [hl], by omega, by omega, fun j hj => ?_⟩
 rw [hl] at hj
 obtain ⟨b', off', e, c1, c2⟩ := h3 (k + j) (by omega)
 cases e
 refine ⟨b, off + k * 2, rfl, ?_, ?_⟩
 ·rw [show off + k * 2 + j * 2 = off + (k + j) * 2 by omega, c1]; simp
 ·rw [show off + k * 2 + j * 2 = off + (k + j) * 2 by omega, c2]; simp

end Go.Proofs.YtgoefeaopegdoaaGreatDoor

namespace Go.Proofs.YtgoefeaopegdoaaGreatDoor
open Go.RowKit

theorem hd_ext {a b : Hd} (h1 : a.name = b.name) (h2 : a.value = b.value) : a = b := by cases a; cases b; simp at h1 h2; simp [h1, h2]

set_option maxHeartbeats 2000000 in
theorem sameH_any (v1 v2 : Value) (L1 L2 : List Hd) (w : World) (h1 : HdAt w v1 L1) (h2 : HdAt w v2 L2) (hl1 : L1.length ≤ 1000000) (hl2 : L2.length ≤ 1000000) :
  Calls Tryz.prog 22 #[v1, v2] w fun e w' => e = .returned (.bool (decide (L1 = L2))) ∧ Below w.heap.size w w' := by
 obtain ⟨a1, c1, rfl, hc1, hm1, hv1⟩ := h1.view
 obtain ⟨a2, c2, rfl, hc2, hm2, hv2⟩ := h2.view
 have V1 := hid hv1
 have V2 := hid hv2
 clear h1 h2 hv1 hv2
 by_cases hl : L1.length = L2.length
 ·have hl' : ((L1.length : Int) == (L2.length : Int)) = true := by rw [beq_iff_eq]; omega
  go_enter Tryz.func22, Tryz.ntmps22
  go_wp2
  go_loopw [5] (fun i wr => ∃ k : Nat, k ≤ L1.length ∧ i = .int .i64 k ∧ (∀ j (h1 : j < L1.length) (h2 : j < L2.length), j < k → L1[j] = L2[j]) ∧ Below w.heap.size w wr) (fun i _ => L1.length - (intOf i).toNat)
  case atStart => exact ⟨0, Nat.zero_le _, rfl, fun j _ _ h => absurd h (by omega), Below.refl _ _⟩
  case round =>
   obtain ⟨k, hk, rfl, hall, hb⟩ := hrel
   have HA := hid hall
   clear hall
   by_cases hlt : k < L1.length
   ·have hlt' : (k : Int) < (L1.length : Int) := by omega
    have hlt2' : (k : Int) < (L2.length : Int) := by omega
    obtain ⟨b1, o1, rfl, e1, e1'⟩ := V1.out k hlt
    obtain ⟨b2, o2, rfl, e2, e2'⟩ := V2.out k (by omega)
    have f1 : wr.cell? ⟨b1, o1 + k * 2, none⟩ = some (.string ⟨L1[k].name.toArray⟩) := (hb.cell (World.block_lt_of_cell? w _ e1)).trans e1
    have f1' : wr.cell? ⟨b1, o1 + k * 2 + 1, none⟩ = some (.string ⟨L1[k].value.toArray⟩) := (hb.cell (World.block_lt_of_cell? w _ e1')).trans e1'
    have f2 : wr.cell? ⟨b2, o2 + k * 2, none⟩ = some (.string ⟨(L2[k]'(by omega)).name.toArray⟩) := (hb.cell (World.block_lt_of_cell? w _ e2)).trans e2
    have f2' : wr.cell? ⟨b2, o2 + k * 2 + 1, none⟩ = some (.string ⟨(L2[k]'(by omega)).value.toArray⟩) := (hb.cell (World.block_lt_of_cell? w _ e2')).trans e2'
    clear e1 e2 e1' e2'
    obtain ⟨x, hx⟩ : ∃ x, x = L1[k].name := ⟨_, rfl⟩
    obtain ⟨x', hx'⟩ : ∃ x, x = L1[k].value := ⟨_, rfl⟩
    obtain ⟨y, hy⟩ : ∃ y, y = (L2[k]'(by omega)).name := ⟨_, rfl⟩
    obtain ⟨y', hy'⟩ : ∃ y, y = (L2[k]'(by omega)).value := ⟨_, rfl⟩
    rw [← hx] at f1
    rw [← hx'] at f1'
    rw [← hy] at f2
    rw [← hy'] at f2'
    have HX := hid hx
    have HY := hid hy
    have HX' := hid hx'
    have HY' := hid hy'
    clear hx hy hx' hy'
    by_cases hxy : x = y ∧ x' = y'
    ·obtain ⟨rfl, rfl⟩ := hxy
     go_wp2
     go_quiet (fail)
     go_wp2
     go_roundw
     case rel =>
      refine ⟨k + 1, by omega, by go_num, fun j h1 h2 hj => ?_, Go.below_drewN hb _⟩
      by_cases he : j = k
      ·subst he; exact hd_ext (by rw [← HX.out, ← HY.out]) (by rw [← HX'.out, ← HY'.out])
      ·exact HA.out j h1 h2 (by omega)
     case measure => simp [intOf]; omega
    ·have HN := hid (show ¬ L1 = L2 from fun e => hxy ⟨by rw [HX.out, HY.out]; subst e; rfl, by rw [HX'.out, HY'.out]; subst e; rfl⟩)
     by_cases hx1 : x = y
     ·subst hx1
      have hne : (x' == y') = false := by
       rw [beq_eq_false_iff_ne]
       exact fun e => hxy ⟨rfl, e⟩
      clear hxy
      go_wp2
      go_quiet (fail)
      go_wp2
      go_ret
      exact ⟨ret_bool (by simp [HN.out]), Go.below_drewN hb _⟩
     ·have hne : (x == y) = false := by
       rw [beq_eq_false_iff_ne]
       exact hx1
      clear hxy hx1
      go_wp2
      go_quiet (fail)
      go_wp2
      go_ret
      exact ⟨ret_bool (by simp [HN.out]), Go.below_drewN hb _⟩
   ·have HE := hid (show L1 = L2 from list_eq_of hl fun j h1 h2 => HA.out j h1 h2 (by omega))
    go_wp2
    go_ret
    exact ⟨ret_bool (by simp [HE.out]), hb⟩
 ·have hl' : ((L1.length : Int) == (L2.length : Int)) = false := by rw [beq_eq_false_iff_ne]; omega
  have HN := hid (show ¬ L1 = L2 from fun e => hl (by rw [e]))
  go_enter Tryz.func22, Tryz.ntmps22
  go_wp2
  go_ret
  exact ⟨ret_bool (by simp [HN.out]), Below.refl _ _⟩

def forbL : List (List UInt8) := [[104, 111, 115, 116], [99, 111, 111, 107, 105, 101], [111, 114, 105, 103, 105, 110], [114, 101, 102, 101, 114, 101, 114], [99, 111, 110, 116, 101, 110, 116, 45, 108, 101, 110, 103, 116, 104], [99, 111, 110, 110, 101, 99, 116, 105, 111, 110], [100, 97, 116, 101], [118, 105, 97], [116, 101], [117, 112, 103, 114, 97, 100, 101], [101, 120, 112, 101, 99, 116], [100, 110, 116], [97, 99, 99, 101, 112, 116, 45, 99, 104, 97, 114, 115, 101, 116], [97, 99, 99, 101, 112, 116, 45, 101, 110, 99, 111, 100, 105, 110, 103], [97, 99, 99, 101, 115, 115, 45, 99, 111, 110, 116, 114, 111, 108, 45, 114, 101, 113, 117, 101, 115, 116, 45, 104, 101, 97, 100, 101, 114, 115], [97, 99, 99, 101, 115, 115, 45, 99, 111, 110, 116, 114, 111, 108, 45, 114, 101, 113, 117, 101, 115, 116, 45, 109, 101, 116, 104, 111, 100], [107, 101, 101, 112, 45, 97, 108, 105, 118, 101], [116, 114, 97, 105, 108, 101, 114], [116, 114, 97, 110, 115, 102, 101, 114, 45, 101, 110, 99, 111, 100, 105, 110, 103]]

def forbV (n : List UInt8) : Bool := forbL.contains (low n) || (Lib.hasPrefix (low n) [112, 114, 111, 120, 121, 45] || Lib.hasPrefix (low n) [115, 101, 99, 45])

set_option maxHeartbeats 4000000 in
set_option maxRecDepth 100000 in
theorem forbidden_any (n : ByteArray) (w : World) (hn : n.size ≤ 140737488351232) :
  Calls Tryz.prog 52 #[.string n] w fun e w' => e = .returned (.bool (forbV n.data.toList)) ∧ Below w.heap.size w w' := by
 obtain ⟨C, hC⟩ : ∃ x : ByteArray, x = ⟨(low n.data.toList).toArray⟩ := ⟨_, rfl⟩
 have HV := hid (show forbV n.data.toList = (forbL.contains C.toList || (Lib.hasPrefix C.data.toList [112, 114, 111, 120, 121, 45] || Lib.hasPrefix C.data.toList [115, 101, 99, 45])) by rw [Lib.toList_data, hC]; rfl)
 have HC := hid hC
 clear hC
 have H1 : Hid (∀ w : World, Calls Tryz.prog 104 #[.string C, .string ⟨#[112, 114, 111, 120, 121, 45]⟩] w fun e w' => e = .returned (.bool (Lib.hasPrefix C.data.toList [112, 114, 111, 120, 121, 45])) ∧ w' = w) := fun w => Tryz.strings_HasPrefix C _ w
 have H2 : Hid (∀ w : World, Calls Tryz.prog 104 #[.string C, .string ⟨#[115, 101, 99, 45]⟩] w fun e w' => e = .returned (.bool (Lib.hasPrefix C.data.toList [115, 101, 99, 45])) ∧ w' = w) := fun w => Tryz.strings_HasPrefix C _ w
 obtain ⟨p1, hp1⟩ : ∃ x, Lib.hasPrefix C.data.toList [112, 114, 111, 120, 121, 45] = x := ⟨_, rfl⟩
 obtain ⟨p2, hp2⟩ : ∃ x, Lib.hasPrefix C.data.toList [115, 101, 99, 45] = x := ⟨_, rfl⟩
 rw [hp1] at H1 HV
 rw [hp2] at H2 HV
 clear hp1 hp2
 by_cases hin : forbL.contains C.toList = true
 ·have HV2 := hid (show forbV n.data.toList = true by rw [HV.out, hin]; rfl)
  simp [forbL] at hin
  rcases hin with h | h | h | h | h | h | h | h | h | h | h | h | h | h | h | h | h | h | h
  all_goals
   have hCe : C = ⟨C.data.toList.toArray⟩ := xself C
   rw [← Lib.toList_data, h] at hCe
   have HCe := hid hCe
   clear h hCe
   go_enter Tryz.func52, Tryz.ntmps52
   go_wp2_with fail
   refine (lower_any n _ hn).mono ?_
   rintro e w1 ⟨rfl, hb1⟩
   rw [← HC.out, HCe.out]
   go_wp2
   go_ret
   exact ⟨ret_bool HV2.out.symm, hb1⟩
 ·have hno : forbL.contains C.toList = false := by simpa using hin
  have HV2 := hid (show forbV n.data.toList = (p1 || p2) by rw [HV.out, hno]; rfl)
  have hne : ∀ l ∈ forbL, (C.toList == l) = false := fun l hl => by
   rw [beq_eq_false_iff_ne]
   intro e
   rw [e] at hno
   simp [hl] at hno
  clear hin hno
  have h1 := hne _ (List.getElem_mem (show 0 < forbL.length by decide))
  have h2 := hne _ (List.getElem_mem (show 1 < forbL.length by decide))
  have h3 := hne _ (List.getElem_mem (show 2 < forbL.length by decide))
  have h4 := hne _ (List.getElem_mem (show 3 < forbL.length by decide))
  have h5 := hne _ (List.getElem_mem (show 4 < forbL.length by decide))
  have h6 := hne _ (List.getElem_mem (show 5 < forbL.length by decide))
  have h7 := hne _ (List.getElem_mem (show 6 < forbL.length by decide))
  have h8 := hne _ (List.getElem_mem (show 7 < forbL.length by decide))
  have h9 := hne _ (List.getElem_mem (show 8 < forbL.length by decide))
  have h10 := hne _ (List.getElem_mem (show 9 < forbL.length by decide))
  have h11 := hne _ (List.getElem_mem (show 10 < forbL.length by decide))
  have h12 := hne _ (List.getElem_mem (show 11 < forbL.length by decide))
  have h13 := hne _ (List.getElem_mem (show 12 < forbL.length by decide))
  have h14 := hne _ (List.getElem_mem (show 13 < forbL.length by decide))
  have h15 := hne _ (List.getElem_mem (show 14 < forbL.length by decide))
  have h16 := hne _ (List.getElem_mem (show 15 < forbL.length by decide))
  have h17 := hne _ (List.getElem_mem (show 16 < forbL.length by decide))
  have h18 := hne _ (List.getElem_mem (show 17 < forbL.length by decide))
  have h19 := hne _ (List.getElem_mem (show 18 < forbL.length by decide))
  simp only [forbL, List.getElem_cons_zero, List.getElem_cons_succ] at h1 h2 h3 h4 h5 h6 h7 h8 h9 h10 h11 h12 h13 h14 h15 h16 h17 h18 h19
  clear hne HV
  cases p1 <;> cases p2
  all_goals
   go_enter Tryz.func52, Tryz.ntmps52
   go_wp2_with fail
   refine (lower_any n _ hn).mono ?_
   rintro e w1 ⟨rfl, hb1⟩
   rw [← HC.out]
   go_wp2_with (first | (go_at_call 104; refine (H1.out _).mono ?_; rintro e w' ⟨rfl, rfl⟩) | (go_at_call 104; refine (H2.out _).mono ?_; rintro e w' ⟨rfl, rfl⟩))
   go_ret
   exact ⟨ret_bool (by rw [HV2.out]; rfl), hb1⟩

def RowZ (w : World) (g : Nat) (l : List UInt8) : Prop := w.heap[g]? = some (.cells (l.map fun c => Value.int .u8 (c.toNat : Int)).toArray 5 (0, 0))

theorem RowZ.cell {w : World} {g : Nat} {l : List UInt8} (h : RowZ w g l) (j : Nat) (hj : j < l.length) : w.cell? ⟨g, j, none⟩ = some (.int .u8 (l[j].toNat : Int)) := by
 rw [Lib.cell_of_heap h]; simp [hj]

theorem RowZ.set {w : World} {g : Nat} {l : List UInt8} (h : RowZ w g l) (j : Nat) (c : UInt8) : RowZ (w.setCell ⟨g, j, none⟩ (.int .u8 (c.toNat : Int))) g (l.set j c) := by
 have := Lib.heap_setCell_same h (i := j) (.int .u8 (c.toNat : Int))
 unfold RowZ
 rw [this]
 simp [List.map_set]

theorem RowZ.string {w : World} {g cap : Nat} {l : List UInt8} (h : RowZ w g l) : (convert 113 9 (.slice (some ⟨g, 0, none⟩) l.length cap)).run Tryz.prog w = .ok (.string ⟨l.toArray⟩) w := by
 refine run_convert_bytes_back w 113 9 5 ⟨g, 0, none⟩ cap l Tryz.underlying113 Tryz.underlying5 Tryz.underlying9 fun j hj => ?_
 have := h.cell j hj
 rw [Addr.add_lit]
 simpa using this

end Go.Proofs.YtgoefeaopegdoaaGreatDoor

namespace Go.Proofs.YtgoefeaopegdoaaGreatDoor
open Go.RowKit

set_option maxHeartbeats 400000 in
theorem xfew_any (s : ByteArray) (n : Nat) (w : World) (hn : n ≤ 1000000) (hs : s.size ≤ 9223372036854775807) :
  Calls Tryz.prog 28 #[.string s, .int .i64 n] w fun e w' => e = .returned (.string ⟨(s.data.toList.take n).toArray⟩) ∧ w = w' := by
 by_cases h : n < s.size
 ·have h' : (n : Int) < (s.size : Int) := by omega
  have HE := hid (show s.extract 0 n = ⟨(s.data.toList.take n).toArray⟩ from xext (by rw [Lib.extract_data]; simp))
  go_enter Tryz.func28, Tryz.ntmps28
  go_wp2
  go_ret
  rw [← HE.out]
  exact ⟨rfl, rfl⟩
 ·have h' : ¬ ((n : Int) < (s.size : Int)) := by omega
  have HE := hid (show s = ⟨(s.data.toList.take n).toArray⟩ from xext (by rw [List.take_of_length_le (by simp; omega)]))
  go_enter Tryz.func28, Tryz.ntmps28
  go_wp2
  go_ret
  rw [← HE.out]
  exact ⟨rfl, rfl⟩

end Go.Proofs.YtgoefeaopegdoaaGreatDoor
