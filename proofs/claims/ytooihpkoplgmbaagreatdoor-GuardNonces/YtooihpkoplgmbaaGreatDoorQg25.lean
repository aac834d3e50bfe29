/- Walks and plain facts. -/
import Derived.Test.YtooihpkoplgmbaaGreatDoorQg24
set_option linter.unusedSimpArgs false
set_option linter.unusedVariables false
set_option maxHeartbeats 16000000
set_option maxRecDepth 100000

namespace Go.Proofs.YtooihpkoplgmbaaGreatDoor
open Go.RowKit
theorem m11get_bang (s : ByteArray) (i : Nat) (h : i < s.size) : s.get! i = s[i] := by
 show s.data[i]! = s.data[i]
 exact getElem!_pos s.data i h
theorem m11decode_skip (s : ByteArray) (i : Nat) (h : i < s.size) (ha : 128 <= (s[i]'h).toNat) : ∃ r n, Utf8.decode s i = (r, n) /\ 128 <= r /\ r <= 1114111 /\ 1 <= n /\ i + n <= s.size /\ ∀ j, i <= j -> j < i + n -> 128 <= (s.get! j).toNat := by
 have h0 : 128 <= (s.get! i).toNat := by rw [m11get_bang s i h]; exact ha
 rw [Lib.decode_at]
 unfold Lib.decodeN
 rw [if_neg (by omega)]
 have one : ∀ j, i <= j -> j < i + 1 -> 128 <= (s.get! j).toNat := fun j h1 h2 => by
  have : j = i := by omega
  rw [this]; exact h0
 split
 ·split
  ·refine ⟨_, _, rfl, by omega, by omega, by omega, by omega, fun j h1 h2 => ?_⟩
   have : j = i ∨ j = i + 1 := by omega
   rcases this with rfl | rfl
   ·exact h0
   ·omega
  ·exact ⟨_, _, rfl, by omega, by omega, by omega, by omega, one⟩
 ·split
  ·split
   ·refine ⟨_, _, rfl, by omega, by omega, by omega, by omega, fun j h1 h2 => ?_⟩
    have : j = i ∨ j = i + 1 ∨ j = i + 2 := by omega
    rcases this with rfl | rfl | rfl
    ·exact h0
    ·omega
    ·omega
   ·exact ⟨_, _, rfl, by omega, by omega, by omega, by omega, one⟩
  ·split
   ·split
    ·refine ⟨_, _, rfl, by omega, by omega, by omega, by omega, fun j h1 h2 => ?_⟩
     have : j = i ∨ j = i + 1 ∨ j = i + 2 ∨ j = i + 3 := by omega
     rcases this with rfl | rfl | rfl | rfl
     ·exact h0
     ·omega
     ·omega
     ·omega
    ·exact ⟨_, _, rfl, by omega, by omega, by omega, by omega, one⟩
   ·exact ⟨_, _, rfl, by omega, by omega, by omega, by omega, one⟩
theorem m11noAny_skip (s : ByteArray) (i n : Nat) (h : Lib.NoAny s.data.toList [58, 47] i) (hn : i + n <= s.size) (hj : ∀ j, i <= j -> j < i + n -> 128 <= (s.get! j).toNat) : Lib.NoAny s.data.toList [58, 47] (i + n) := by
 intro j b hjn hb
 by_cases h1 : j < i
 ·exact h j b h1 hb
 ·have h2 := hj j (by omega) hjn
  have hjs : j < s.size := by omega
  rw [m11get_bang s j hjs] at h2
  rw [Lib.data_getElem? s j hjs] at hb
  cases hb
  simp
  constructor <;> (intro e; rw [e] at h2; revert h2; decide)
theorem m11below_iter (w : World) (s : ByteArray) (i : Nat) : Below w.heap.size w (w.iter s i) := (Below.refl _ w).alloc (Nat.le_refl _) _
theorem m11indexRune_high (r : Int) (w : World) (hr1 : 128 <= r) (h2 : r <= 1114111) :
  Calls Tryz.prog 134 #[.string ⟨#[58, 47]⟩, .int .i32 r] w fun e w' => e = .returned (.int .i64 (-1)) /\ Below w.heap.size w w' := by
 have hr0 : (0 : Int) <= r := by omega
 by_cases he : r = 65533
 ·subst he
  go_enter Tryz.func134, Tryz.ntmps134
  go_wp2
  go_loopg [5, 6] 2 (fun g _ _ wx => ∃ i : Nat, i + g = 2 /\ wx = w.iter ⟨#[58, 47]⟩ i)
  case atStart => exact ⟨0, by omega, rfl⟩
  case round =>
   obtain ⟨i, hig, rfl⟩ := hrel
   match gk, hig with
   | 0, hig =>
    obtain rfl : i = 2 := by omega
    have hnx := run_next_end (P := Tryz.prog) w ⟨#[58, 47]⟩ 2
    go_wp2
    go_ret
    exact ⟨rfl, m11below_iter w _ _⟩
   | 1, hig =>
    obtain rfl : i = 1 := by omega
    have hnx := fun ty => run_next_ascii (P := Tryz.prog) w ⟨#[58, 47]⟩ 1 ty (by decide) (by decide)
    go_wp2
    go_roundg 0
    case measure => omega
    case rel => exact ⟨2, by omega, rfl⟩
   | 2, hig =>
    obtain rfl : i = 0 := by omega
    have hnx := fun ty => run_next_ascii (P := Tryz.prog) w ⟨#[58, 47]⟩ 0 ty (by decide) (by decide)
    go_wp2
    go_roundg 1
    case measure => omega
    case rel => exact ⟨1, by omega, rfl⟩
   | g + 3, hig => omega
 ·have he' : (r == 65533) = false := by rw [beq_eq_false_iff_ne]; exact he
  have hcv : ∀ w : World, Calls Tryz.prog 167 #[.int .i32 r] w fun e w' => e = .returned (.bool (Lib.validRune r)) /\ w' = w := fun w => Tryz.utf8_ValidRune _ w
  have hvv : Lib.validRune r = true ∨ Lib.validRune r = false := by cases Lib.validRune r <;> simp
  rcases hvv with hv | hv
  rotate_left
  ·rw [hv] at hcv
   clear hv h2 he
   go_enter Tryz.func134, Tryz.ntmps134
   go_wp2_with (go_at_call 167; refine (hcv _).mono ?_; rintro e w' ⟨rfl, rfl⟩)
   go_ret
   exact ⟨rfl, Below.refl _ _⟩
  ·obtain ⟨X, hX⟩ : ∃ X, Utf8.encode r = X := ⟨_, rfl⟩
   have hvu : Utf8.valid r = true := by
    have := of_decide_eq_true hv
    simp only [Utf8.valid, Bool.or_eq_true, Bool.and_eq_true, decide_eq_true_eq]
    omega
   have hf := encode_facts r hvu (by omega)
   rw [hX] at hf
   obtain ⟨f1, f2, f3⟩ := hf
   have HF := hid f3
   rw [hv] at hcv
   clear f3 hv hvu h2 he
   by_cases hx : X.size = 2
   ·obtain ⟨a, b, rfl⟩ : ∃ a b : UInt8, X = ⟨#[a, b]⟩ := by
     obtain ⟨⟨L⟩⟩ := X
     match L, hx with
     | [a, b], _ => exact ⟨a, b, rfl⟩
    have hb : 128 <= b.toNat := HF.out (show 1 < 2 by decide)
    have hb8 : b.toNat < 256 := b.toNat_lt
    have hb1 : ((((⟨#[58, 47]⟩ : ByteArray)[1]'(show 1 < 2 by decide)).toNat : Int) != (((⟨#[a, b]⟩ : ByteArray)[1]'(show 1 < 2 by decide)).toNat : Int)) = true := by
     show (((47 : UInt8).toNat : Int) != (b.toNat : Int)) = true
     have : (47 : UInt8).toNat = 47 := rfl
     simp only [bne_iff_ne, ne_eq]
     omega
    clear hx f1 f2 HF
    go_enter Tryz.func134, Tryz.ntmps134
    go_wp2_with (go_at_call 167; refine (hcv _).mono ?_; rintro e w' ⟨rfl, rfl⟩)
    go_step3
    go_wp2
    go_loop [9] (fun i => i = .int .i64 1) (fun _ => 0)
    case atStart => rfl
    case round =>
     subst hrel
     go_wp2
     go_step3
     go_wp2
     go_region
     go_wp2
     go_region_with (go_at_call 166; refine (Tryz.strings_IndexByte _ _ _).mono ?_; rintro e w'' ⟨rfl, rfl⟩)
     all_goals
      go_wp2
      rw [Exit.noGoto_ret]
      go_wp2
      rw [Exit.noGoto_ret]
      go_wp2
      go_ret
      exact ⟨rfl, (Below.refl _ _).drew.drew⟩
   ·have f1' : (3 : Int) <= (X.size : Int) := by omega
    have f2' : (X.size : Int) <= 4 := by omega
    go_enter Tryz.func134, Tryz.ntmps134
    go_wp2_with (go_at_call 167; refine (hcv _).mono ?_; rintro e w' ⟨rfl, rfl⟩)
    go_step3
    go_wp2
    go_loop [9] (fun i => i = .int .i64 ((X.size : Int) - 1)) (fun _ => 0)
    case atStart => rfl
    case round =>
     subst hrel
     go_wp2
     go_ret
     exact ⟨rfl, Below.refl _ _⟩
theorem m11indexAny2_short (s : ByteArray) (w : World) (h8 : s.size <= 8) :
  Calls Tryz.prog 236 #[.string s, .string ⟨#[58, 47]⟩] w fun e w' => e = .returned (.int .i64 (Lib.indexAny s.data.toList [58, 47])) /\ Below w.heap.size w w' := by
 have h8z : decide ((8 : Int) < (s.size : Int)) = false := decide_eq_false (by omega)
 go_enter Tryz.func236, Tryz.ntmps236
 go_wp2_with (go_at_call 262; refine (Tryz.strings_shouldUseASCIISet _ _).mono ?_; rintro e w' ⟨rfl, hw⟩; rw [hw, h8z])
 go_loopg [9, 10] s.size (fun g _ _ wx => ∃ i : Nat, i + g = s.size /\ wx.heap[w.heap.size]? = some (.stringIter s i) /\ Below w.heap.size w wx /\ Lib.NoAny s.data.toList [58, 47] i)
 case atStart => exact ⟨0, by omega, by simp [World.iter_heap], m11below_iter w _ _, Lib.NoAny.zero _ _⟩
 case round =>
  obtain ⟨i, hig, hit, hbw, hno⟩ := hrel
  have HN := hid hno
  have HI := hid hit
  clear hno hit
  by_cases hi : i < s.size
  ·obtain ⟨x, hx⟩ : ∃ x : UInt8, s[i]'hi = x := ⟨_, rfl⟩
   have hxl : s.data.toList[i]? = some x := by rw [<- hx]; exact Lib.data_getElem? s i hi
   by_cases ha : x.toNat < 128
   ·have hnx := fun ty => Lib.run_next_ascii_at (P := Tryz.prog) wr w.heap.size s i ty HI.out hi (by rw [hx]; exact ha)
    rw [hx] at hnx
    have HK := hid (Lib.iterAt_heap wr w.heap.size s i (i + 1) HI.out)
    have HB2 := hid (Lib.below_iterAt hbw (Nat.le_refl _) s (i + 1))
    have Hx := hid hxl
    clear hxl hx
    have hcon := Lib.contains_iff_indexByte [58, 47] x
    have hback : ((x.toNat : Int)).toNat.toUInt8 = x := by simp
    cases hin : [(58 : UInt8), 47].contains x
    ·rw [hin] at hcon
     have hlt : ¬ ((0 : Int) <= Lib.indexByte [58, 47] x) := of_decide_eq_false hcon.symm
     have Hin := hid hin
     clear hcon hin
     go_wp2_with (go_at_call 134; refine (Tryz.strings_IndexRune_ascii _ _ _ (by omega) (by omega)).mono ?_; rintro e w' ⟨rfl, hw⟩; rw [hw, hback])
     go_roundg (gk - 1)
     case measure => omega
     case rel => exact ⟨i + 1, by omega, HK.out, HB2.out, HN.out.succ Hx.out Hin.out⟩
    ·rw [hin] at hcon
     have hge : (0 : Int) <= Lib.indexByte [58, 47] x := of_decide_eq_true hcon.symm
     have Hin := hid hin
     clear hcon hin
     go_wp2_with (go_at_call 134; refine (Tryz.strings_IndexRune_ascii _ _ _ (by omega) (by omega)).mono ?_; rintro e w' ⟨rfl, hw⟩; rw [hw, hback])
     go_ret
     exact ⟨by rw [Lib.indexAny_hit HN.out Hx.out Hin.out]; rfl, HB2.out⟩
   ·obtain ⟨r, n, hd, hr1, hr2, hn1, hn2, hj⟩ := m11decode_skip s i hi (by rw [hx]; omega)
    have hnx := fun ty => Lib.run_next_any_at (P := Tryz.prog) wr w.heap.size s i ty HI.out hi
    rw [hd] at hnx
    have HK := hid (Lib.iterAt_heap wr w.heap.size s i (i + n) HI.out)
    have HB2 := hid (Lib.below_iterAt hbw (Nat.le_refl _) s (i + n))
    have HN2 := hid (m11noAny_skip s i n HN.out hn2 hj)
    clear hxl hx hj hd
    have hr1' : (128 : Int) <= (r : Int) := by omega
    have HRx := hid (show (r : Int) <= 1114111 by omega)
    clear hr2
    go_wp2_with (go_at_call 134; refine (m11indexRune_high _ _ hr1' HRx.out).mono ?_; rintro e w2 ⟨rfl, hb2⟩)
    go_roundg (gk - n)
    case measure => omega
    case rel =>
     refine ⟨i + n, by omega, ?_, HB2.out.trans (hb2.mono ?_), HN2.out⟩
     ·rw [hb2.block _ (Array.getElem?_eq_some_iff.1 HK.out).1]; exact HK.out
     ·exact HB2.out.size
  ·obtain rfl : i = s.size := by omega
   have hnx := fun ty => Lib.run_next_end_at (P := Tryz.prog) wr w.heap.size s s.size ty HI.out hi
   go_wp2
   go_ret
   exact ⟨by rw [Lib.indexAny_none (by rw [<- Lib.size_eq]; exact HN.out)]; rfl, hbw⟩
theorem m11zero87 (w : World) : (zeroValue 144).run Tryz.prog w = .ok (.agg (Array.replicate 256 (.bool false))) w := (zero_of_info (P := Tryz.prog) (n := 256) (by kernel_rfl)).1 w
theorem m11indexAny2_any (s : ByteArray) (w : World) (hs : s.size <= 4000000000) :
  Calls Tryz.prog 236 #[.string s, .string ⟨#[58, 47]⟩] w fun e w' => e = .returned (.int .i64 (Lib.indexAny s.data.toList [58, 47])) /\ Below w.heap.size w w' := by
 by_cases h : s.size <= 8
 ·exact m11indexAny2_short s w h
 ·refine (Tryz.strings_IndexAny_long m11zero87 s ⟨#[58, 47]⟩ w (by decide) (by omega) (by omega) (by decide) ?_).mono ?_
  ·intro j b hb
   match j, hb with
   | 0, hb => simp at hb; subst hb; decide
   | 1, hb => simp at hb; subst hb; decide
   | j + 2, hb => simp at hb
  ·rintro e w' ⟨rfl, rfl⟩
   refine ⟨rfl, ((Below.refl _ w).alloc (Nat.le_refl _) _).alloc ?_ _⟩
   simp
theorem m11indexAny1_any (s : ByteArray) (w : World) :
  Calls Tryz.prog 236 #[.string s, .string ⟨#[47]⟩] w fun e w' => e = .returned (.int .i64 (Lib.indexAny s.data.toList [47])) /\ Below w.heap.size w w' := by
 refine (Tryz.strings_IndexAny_one s ⟨#[47]⟩ w (by decide) ?_).mono ?_
 ·intro j b hb
  match j, hb with
  | 0, hb => simp at hb; subst hb; decide
  | j + 1, hb => simp at hb
 ·rintro e w' ⟨rfl, rfl⟩
  exact ⟨rfl, Below.refl _ _⟩
theorem beqL_yes {a b : List UInt8} (h : a = b) : (a == b) = true := by rw [h]; exact beq_self_eq_true _
theorem beqL_no {a b : List UInt8} (h : a ≠ b) : (a == b) = false := beq_eq_false_iff_ne.2 h
theorem scheme11_any (a b : ByteArray) (w : World) :
  Calls Tryz.prog 198 #[.string a, .string b] w fun e w' => e = .returned (.bool (schM a.data.toList b.data.toList)) /\ w = w' := by
 by_cases h0 : a.data.toList = b.data.toList
 ·have HN := hid (show schM a.data.toList b.data.toList = true by unfold schM; rw [h0]; simp)
  have e0 : (a.toList == b.toList) = true := by rw [Lib.toList_data b]; exact beq_yes a _ h0
  clear h0
  go_enter Tryz.func198, Tryz.ntmps198
  go_wp2
  go_ret
  rw [HN.out]; exact ⟨rfl, rfl⟩
 ·have e0 : (a.toList == b.toList) = false := by rw [Lib.toList_data b]; exact beq_no a _ h0
  have z0 := beqL_no h0
  by_cases h1 : a.data.toList = sHttp
  ·have e1 := beq_yes a [104, 116, 116, 112] h1
   by_cases h2 : b.data.toList = sHttps
   ·have e2 := beq_yes b [104, 116, 116, 112, 115] h2
    have HN := hid (show schM a.data.toList b.data.toList = true by unfold schM; rw [z0, if_pos h1, beqL_yes h2]; rfl)
    clear h0 h1 h2 z0
    go_enter Tryz.func198, Tryz.ntmps198
    go_wp2
    go_ret
    rw [HN.out]; exact ⟨rfl, rfl⟩
   ·have e2 := beq_no b [104, 116, 116, 112, 115] h2
    by_cases h3 : b.data.toList = sWs
    ·have e3 := beq_yes b [119, 115] h3
     have HN := hid (show schM a.data.toList b.data.toList = true by unfold schM; rw [z0, if_pos h1, beqL_no h2, beqL_yes h3]; rfl)
     clear h0 h1 h2 h3 z0
     go_enter Tryz.func198, Tryz.ntmps198
     go_wp2
     go_ret
     rw [HN.out]; exact ⟨rfl, rfl⟩
    ·have e3 := beq_no b [119, 115] h3
     obtain ⟨q, hq⟩ : ∃ q, (b.toList == [119, 115, 115]) = q := ⟨_, rfl⟩
     have HN := hid (show schM a.data.toList b.data.toList = q by unfold schM; rw [z0, if_pos h1, beqL_no h2, beqL_no h3, <- hq, Lib.toList_data]; rfl)
     clear h0 h1 h2 h3 z0
     go_enter Tryz.func198, Tryz.ntmps198
     go_wp2
     go_ret
     rw [HN.out]; exact ⟨rfl, rfl⟩
  ·have e1 := beq_no a [104, 116, 116, 112] h1
   by_cases h2 : a.data.toList = sWs
   ·have e2 := beq_yes a [119, 115] h2
    obtain ⟨q, hq⟩ : ∃ q, (b.toList == [119, 115, 115]) = q := ⟨_, rfl⟩
    have HN := hid (show schM a.data.toList b.data.toList = q by unfold schM; rw [z0, if_neg h1, if_pos h2, <- hq, Lib.toList_data]; rfl)
    clear h0 h1 h2 z0
    go_enter Tryz.func198, Tryz.ntmps198
    go_wp2
    go_ret
    rw [HN.out]; exact ⟨rfl, rfl⟩
   ·have e2 := beq_no a [119, 115] h2
    have HN := hid (show schM a.data.toList b.data.toList = false by unfold schM; rw [z0, if_neg h1, if_neg h2]; rfl)
    clear h0 h1 h2 z0
    go_enter Tryz.func198, Tryz.ntmps198
    go_wp2
    go_ret
    rw [HN.out]; exact ⟨rfl, rfl⟩
theorem fetched_any (s : ByteArray) (w : World) :
  Calls Tryz.prog 193 #[.string s] w fun e w' => e = .returned (.bool (fetV s.data.toList)) /\ w = w' := by
 by_cases h0 : s.data.toList = sHttp
 ·have e0 := beq_yes s [104, 116, 116, 112] h0
  have HN := hid (show fetV s.data.toList = true by unfold fetV; rw [beqL_yes h0]; rfl)
  clear h0
  go_enter Tryz.func193, Tryz.ntmps193
  go_wp2
  go_ret
  rw [HN.out]; exact ⟨rfl, rfl⟩
 ·have e0 := beq_no s [104, 116, 116, 112] h0
  by_cases h1 : s.data.toList = sHttps
  ·have e1 := beq_yes s [104, 116, 116, 112, 115] h1
   have HN := hid (show fetV s.data.toList = true by unfold fetV; rw [beqL_no h0, beqL_yes h1]; rfl)
   clear h0 h1
   go_enter Tryz.func193, Tryz.ntmps193
   go_wp2
   go_ret
   rw [HN.out]; exact ⟨rfl, rfl⟩
  ·have e1 := beq_no s [104, 116, 116, 112, 115] h1
   by_cases h2 : s.data.toList = sWs
   ·have e2 := beq_yes s [119, 115] h2
    have HN := hid (show fetV s.data.toList = true by unfold fetV; rw [beqL_no h0, beqL_no h1, beqL_yes h2]; rfl)
    clear h0 h1 h2
    go_enter Tryz.func193, Tryz.ntmps193
    go_wp2
    go_ret
    rw [HN.out]; exact ⟨rfl, rfl⟩
   ·have e2 := beq_no s [119, 115] h2
    by_cases h3 : s.data.toList = sWss
    ·have e3 := beq_yes s [119, 115, 115] h3
     have HN := hid (show fetV s.data.toList = true by unfold fetV; rw [beqL_no h0, beqL_no h1, beqL_no h2, beqL_yes h3]; rfl)
     clear h0 h1 h2 h3
     go_enter Tryz.func193, Tryz.ntmps193
     go_wp2
     go_ret
     rw [HN.out]; exact ⟨rfl, rfl⟩
    ·have e3 := beq_no s [119, 115, 115] h3
     have HN := hid (show fetV s.data.toList = false by unfold fetV; rw [beqL_no h0, beqL_no h1, beqL_no h2, beqL_no h3]; rfl)
     clear h0 h1 h2 h3
     go_enter Tryz.func193, Tryz.ntmps193
     go_wp2
     go_ret
     rw [HN.out]; exact ⟨rfl, rfl⟩
theorem sletter_any (c : Int) (w : World) :
  Calls Tryz.prog 234 #[.int .u8 c] w fun e w' => e = .returned (.bool (letterI c)) /\ w = w' := by
 go_enter Tryz.func234, Tryz.ntmps234
 go_wp2
 all_goals
  go_ret
  exact ⟨ret_bool (by rw [Bool.eq_iff_iff]; simp [letterI]; omega), rfl⟩
def schI (c : Int) : Bool := letterI c || (digitI c || (c == 43 || (c == 45 || c == 46)))
theorem schI_C (c : UInt8) : schI c.toNat = schC c := by
 have key : ∀ n < 256, schI ((UInt8.ofNat n).toNat : Int) = schC (UInt8.ofNat n) := by decide +kernel
 have e : UInt8.ofNat c.toNat = c := by simp
 have := key c.toNat c.toNat_lt
 rw [e] at this
 exact this
theorem schemeByte_any (c : Int) (w : World) :
  Calls Tryz.prog 235 #[.int .u8 c] w fun e w' => e = .returned (.bool (schI c)) /\ w = w' := by
 have HL := hid (fun w => sletter_any c w)
 obtain ⟨q, hq⟩ : ∃ q, letterI c = q := ⟨_, rfl⟩
 rw [hq] at HL
 have HQ := hid hq
 clear hq
 by_cases h1 : c = 43
 ·subst h1
  go_enter Tryz.func235, Tryz.ntmps235
  go_wp2
  go_ret
  exact ⟨ret_bool (by decide), rfl⟩
 ·by_cases h2 : c = 45
  ·subst h2
   go_enter Tryz.func235, Tryz.ntmps235
   go_wp2
   go_ret
   exact ⟨ret_bool (by decide), rfl⟩
  ·by_cases h3 : c = 46
   ·subst h3
    go_enter Tryz.func235, Tryz.ntmps235
    go_wp2
    go_ret
    exact ⟨ret_bool (by decide), rfl⟩
   ·have e1 : (c == 43) = false := beq_eq_false_iff_ne.2 h1
    have e2 : (c == 45) = false := beq_eq_false_iff_ne.2 h2
    have e3 : (c == 46) = false := beq_eq_false_iff_ne.2 h3
    have HS := hid (show schI c = (q || digitI c) by unfold schI; rw [HQ.out, e1, e2, e3]; simp)
    clear h1 h2 h3
    obtain ⟨d1, hd1⟩ : ∃ d, decide ((48 : Int) <= c) = d := ⟨_, rfl⟩
    obtain ⟨d2, hd2⟩ : ∃ d, decide (c <= (57 : Int)) = d := ⟨_, rfl⟩
    have HD := hid (show digitI c = (d1 && d2) by unfold digitI; rw [hd1, hd2])
    cases q <;> cases d1 <;>
    ·go_enter Tryz.func235, Tryz.ntmps235
     go_wp2_with (go_at_call 234; refine (HL.out _).mono ?_; rintro e w' ⟨rfl, rfl⟩)
     go_ret
     exact ⟨ret_bool (by rw [HS.out, HD.out]; rfl), rfl⟩
theorem scut_gen (s ends : ByteArray) (w : World) (hs : s.size <= 4000000000)
  (hI : Calls Tryz.prog 236 #[.string s, .string ends] w fun e w' => e = .returned (.int .i64 (Lib.indexAny s.data.toList ends.data.toList)) /\ Below w.heap.size w w') :
  Calls Tryz.prog 200 #[.string s, .string ends] w fun e w' => e = .returned (.tuple #[.string ⟨(aheadV ends.data.toList s.data.toList).1.toArray⟩, .string ⟨(aheadV ends.data.toList s.data.toList).2.toArray⟩]) /\ Below w.heap.size w w' := by
 have HI := hid hI
 clear hI
 rcases ahead_index ends.data.toList s.data.toList with ⟨h1, h2⟩ | ⟨i, hi, h1, h2⟩
 ·have H2 := hid h2
  clear h2
  have e0 : s.extract 0 s.size = ⟨s.data.toList.toArray⟩ := ba_ext (by rw [extract_drop]; simp)
  have e1 : s.extract s.size s.size = ⟨#[]⟩ := ba_ext (by rw [extract_drop]; simp)
  have HE0 := hid e0
  have HE1 := hid e1
  clear e0 e1
  have hsz : (0 : Int) <= (s.size : Int) := by omega
  go_enter Tryz.func200, Tryz.ntmps200
  go_wp2_with (go_at_call 236; refine HI.out.mono ?_; rintro e w1 ⟨rfl, hb1⟩; rw [h1])
  go_region
  all_goals
   go_wp2
   go_ret2
   refine ⟨?_, by first | exact hb1 | exact hb1.trans ((Below.refl _ w1).drew.mono hb1.size) | exact hb1.drew⟩
   rw [H2.out]
   refine ret_ss ?_ ?_
   ·first | exact HE0.out | (rw [<- HE0.out]; simp) | simp
   ·first | exact HE1.out | (rw [<- HE1.out]; simp) | simp
 ·have H2 := hid h2
  clear h2
  have hi' : (i : Int) < (s.size : Int) := by simp at hi; omega
  go_enter Tryz.func200, Tryz.ntmps200
  go_wp2_with (go_at_call 236; refine HI.out.mono ?_; rintro e w1 ⟨rfl, hb1⟩; rw [h1])
  go_region
  all_goals
   go_wp2
   go_ret2
   refine ⟨?_, by first | exact hb1 | exact hb1.drew⟩
   rw [H2.out]
   refine ret_ss ?_ ?_
   ·exact ba_ext (by rw [Lib.extract_data]; simp)
   ·exact ba_ext (by rw [extract_drop])
theorem scut2_any (s : ByteArray) (w : World) (hs : s.size <= 4000000000) :
  Calls Tryz.prog 200 #[.string s, .string ⟨#[58, 47]⟩] w fun e w' => e = .returned (.tuple #[.string ⟨(aheadV [58, 47] s.data.toList).1.toArray⟩, .string ⟨(aheadV [58, 47] s.data.toList).2.toArray⟩]) /\ Below w.heap.size w w' :=
 scut_gen s ⟨#[58, 47]⟩ w hs (m11indexAny2_any s w hs)
theorem scut1_any (s : ByteArray) (w : World) (hs : s.size <= 4000000000) :
  Calls Tryz.prog 200 #[.string s, .string ⟨#[47]⟩] w fun e w' => e = .returned (.tuple #[.string ⟨(aheadV [47] s.data.toList).1.toArray⟩, .string ⟨(aheadV [47] s.data.toList).2.toArray⟩]) /\ Below w.heap.size w w' :=
 scut_gen s ⟨#[47]⟩ w hs (m11indexAny1_any s w)
def orgCells (o : Org) : List Value := [.string ⟨o.scheme.toArray⟩, .string ⟨o.host.toArray⟩, .int .i64 o.port, .bool o.opq]
def orgVal (o : Org) : Value := .agg (orgCells o).toArray
def OrgIn (w : World) (b : Nat) (o : Org) : Prop := w.heap[b]? = some (.cells (orgCells o).toArray 128 (0, 0))
def Org.nil : Org := ⟨[], [], 0, false⟩
theorem OrgIn.lt {w : World} {b : Nat} {o : Org} (h : OrgIn w b o) : b < w.heap.size := (Array.getElem?_eq_some_iff.1 h).1
theorem OrgIn.kept {w w' : World} {b : Nat} {o : Org} (h : OrgIn w b o) (hb : Below w.heap.size w w') : OrgIn w' b o := by
 unfold OrgIn
 rw [hb.block b h.lt]; exact h
theorem OrgIn.cell {w : World} {b : Nat} {o : Org} (h : OrgIn w b o) (j : Nat) (v : Value) (hv : (orgCells o)[j]? = some v) : w.cell? ⟨b, j, none⟩ = some v := by
 rw [Lib.cell_of_heap h]
 simpa using hv
theorem OrgIn.frozen {w : World} {b : Nat} {o : Org} (h : OrgIn w b o) (j : Nat) : w.frozen? ⟨b, j, none⟩ = false := by
 simp [World.frozen?, show w.heap[b]? = _ from h]
theorem OrgIn.store {w : World} {b : Nat} {o p : Org} (h : OrgIn w b o) : OrgIn (w.setCells b 0 (orgCells p)) b p := by
 obtain ⟨C', e1, e2, _, e4⟩ := setCells_heap b 128 (0, 0) (orgCells p) 0 w _ h
 unfold OrgIn
 rw [e1]
 have : C' = (orgCells p).toArray := by
  apply Array.ext_getElem?
  intro j
  by_cases hj : j < 4
  ·have := e4 j hj (by rw [Nat.zero_add]; exact hj)
   rw [Nat.zero_add] at this
   rw [this]; simp
  ·have h2 : C'.size = 4 := by rw [e2]; rfl
   rw [Array.getElem?_eq_none (by omega), Array.getElem?_eq_none (by simp [orgCells]; omega)]
 rw [this]
theorem OrgIn.far {w : World} {b c j : Nat} {o : Org} {v : Value} (h : OrgIn w b o) (hne : b ≠ c) : OrgIn (w.setCell ⟨c, j, none⟩ v) b o := by
 unfold OrgIn
 rw [heap_setCell_other _ _ _ _ (fun e => hne (by simpa using e))]; exact h
theorem OrgIn.fars {b c : Nat} {o : Org} (hne : b ≠ c) : ∀ (vs : List Value) (j : Nat) (w : World), OrgIn w b o -> OrgIn (w.setCells c j vs) b o
 | [], _, _, h => h
 | v :: r, j, w, h => by rw [World.setCells]; exact OrgIn.fars hne r (j + 1) _ (h.far hne)
theorem sizeO : (Tryz.prog.info? 128).map (·.size) = some 4 := by kernel_rfl
theorem results_o1 {fn : Func} {p : Tmp} (h : fn.results = #[.cell p 128]) (tmps : Array Value) (w : World) (b : Nat) (o : Org) (hp : tmps.getD p undef = .pointer (some ⟨b, 0, none⟩)) (hc : w.rangeAt b 0 (orgCells o)) : (results fn tmps).run Tryz.prog w = .ok (orgVal o) w := by
 rw [Array.getD_eq_getD_getElem?] at hp
 simp only [results, h]
 simp [Sem.run_bind, Result.andThen, hp, asAddr, run_loadVar_mid w b 0 128 (orgCells o) _ hc Tryz.underlying128 rfl sizeO, orgVal]
theorem wpList_worldO {P : Program} {ops : Array Oper} {Q : Exit -> Act -> World -> Prop} {rest : List Oper} {a : Act} {w w' : World} (e : w = w') (h : wpList P ops Q rest a w) : wpList P ops Q rest a w' := e ▸ h
theorem orgV_no {u : Adr} (h : specV (orgA u).scheme = false) : orgV u = Org.none := by unfold orgV; rw [h]; rfl
theorem orgV_yes {u : Adr} (h : specV (orgA u).scheme = true) : orgV u = ⟨(orgA u).scheme, (orgA u).host, hasP (orgA u), false⟩ := by unfold orgV; rw [h]; rfl
theorem orgA_in {u : Adr} (h : webV (innV u).scheme = true) : orgA u = innV u := by unfold orgA; rw [h]; rfl
theorem orgA_out {u : Adr} (h : webV (innV u).scheme = false) : orgA u = u := by unfold orgA; rw [h]; rfl
def OfPost (o : Org) (w : World) (e : Ending) (w' : World) : Prop := e = .returned (orgVal o) /\ Below w.heap.size w w'
theorem of_any (u : Adr) (pv : Value) (w : World) (hg : Gd w) (hp : PathAt w pv u.path) (hl : u.path.length <= 1000000) (hf : u.path.flatten.length <= 100000) :
  Calls Tryz.prog 88 #[adrVal u pv] w (OfPost (orgV u) w) := by
 have hsl : IsSl pv := by
  rcases hp with ⟨rfl, _⟩ | ⟨b, cap, rfl, _⟩
  ·exact ⟨_, _, _, rfl⟩
  ·exact ⟨_, _, _, rfl⟩
 obtain ⟨ua, un, uc, rfl⟩ := hsl
 have HIN := hid (fun (w : World) (hg : Gd w) (hp : PathAt w (.slice ua un uc) u.path) => inner_any u (.slice ua un uc) w hg hp hl hf)
 obtain ⟨u0, u1, u2, u3, u4, u5, u6, u8, u9, u10, u11, hx, hx0, hx3, hx5, hx6⟩ := adr_named u ua un uc
 have hva : adrVal u (.slice ua un uc) = .agg #[.string u0, .string u1, .string u2, .string u3, .bool u4, .int .i64 u5, .bool u6, .slice ua un uc, .string u8, .string u9, .bool u10, .bool u11] := by unfold adrVal; rw [hx]
 rw [hva] at HIN ⊢
 obtain ⟨W1, hW1⟩ : ∃ W1, (w.alloc (.cells #[.string u0, .string u1, .string u2, .string u3, .bool u4, .int .i64 u5, .bool u6, .slice ua un uc, .string u8, .string u9, .bool u10, .bool u11] 31)) = W1 := ⟨_, rfl⟩
 have hb1 : Below w.heap.size w W1 := by rw [<- hW1]; exact (Below.refl _ w).alloc (Nat.le_refl _) _
 have hs1 : W1.heap.size = w.heap.size + 1 := by rw [<- hW1]; simp
 have hA1 : AdrIn W1 w.heap.size u (.slice ua un uc) := by
  unfold AdrIn
  rw [hx, <- hW1]
  exact heap_alloc_new w _
 obtain ⟨W2, hW2⟩ : ∃ W2, (W1.alloc (.cells (orgCells Org.nil).toArray 128)) = W2 := ⟨_, rfl⟩
 have hb2 : Below W1.heap.size W1 W2 := by rw [<- hW2]; exact (Below.refl _ W1).alloc (Nat.le_refl _) _
 have hA2 := hA1.kept hb2
 have hR2 : OrgIn W2 W1.heap.size Org.nil := by rw [<- hW2]; exact heap_alloc_new W1 _
 rw [hs1] at hR2
 have hB2 := below2 hb1 hb2
 have HG2 := hid (hg.kept hB2)
 have HP2 := hid (hp.kept hB2)
 have hA2' := hA2
 unfold AdrIn at hA2'
 have hfl : ∀ j v, (adrCells u (.slice ua un uc))[j]? = some v -> W2.cell? ⟨w.heap.size, j, none⟩ = some v := fun j v h => hA2.cell j v h
 rw [hx] at hfl
 have y0 := hfl 0 _ rfl
 have y1 := hfl 1 _ rfl
 have y2 := hfl 2 _ rfl
 have y3 := hfl 3 _ rfl
 have y4 := hfl 4 _ rfl
 have y5 := hfl 5 _ rfl
 have y6 := hfl 6 _ rfl
 have y7 := hfl 7 _ rfl
 have y8 := hfl 8 _ rfl
 have y9 := hfl 9 _ rfl
 have y10 := hfl 10 _ rfl
 have y11 := hfl 11 _ rfl
 have HA2 := hid hA2
 have HR2 := hid hR2
 have HB2 := hid hB2
 have hW1' : w.alloc (.cells #[.string u0, .string u1, .string u2, .string u3, .bool u4, .int .i64 u5, .bool u6, .slice ua un uc, .string u8, .string u9, .bool u10, .bool u11] 31) = W1 := hW1
 have hW2' : W1.alloc (.cells #[.string ⟨#[]⟩, .string ⟨#[]⟩, .int .i64 0, .bool false] 128) = W2 := hW2
 have HX := hid hx
 have HXA := hid (And.intro hx0 (And.intro hx3 (And.intro hx5 hx6)))
 clear hva hW1 hW2 hb1 hA1 hb2 hA2 hA2' hR2 hB2 hfl hg hx hl hf hp hx0 hx3 hx5 hx6
 go_enter Tryz.func88, Tryz.ntmps88
 go_wp2_with fail
 refine (HIN.out _ HG2.out HP2.out).mono ?_
 rintro e w3 ⟨qv, rfl, hqs, hb3⟩
 have hh0 : W2.heap.size = w.heap.size + 2 := by
  rw [<- hW2']; simp [hs1]
 obtain ⟨qa, qn, qc, rfl⟩ := hqs
 obtain ⟨q0, q1, q2, q3, q4, q5, q6, q8, q9, q10, q11, hq, hq0, hq3, hq5, hq6⟩ := adr_named (innV u) qa qn qc
 have hqa : adrVal (innV u) (.slice qa qn qc) = .agg #[.string q0, .string q1, .string q2, .string q3, .bool q4, .int .i64 q5, .bool q6, .slice qa qn qc, .string q8, .string q9, .bool q10, .bool q11] := by unfold adrVal; rw [hq]
 rw [hqa]
 obtain ⟨W5, hW5⟩ : ∃ W5, (w3.alloc (.cells #[.string q0, .string q1, .string q2, .string q3, .bool q4, .int .i64 q5, .bool q6, .slice qa qn qc, .string q8, .string q9, .bool q10, .bool q11] 31)) = W5 := ⟨_, rfl⟩
 have hb5 : Below w3.heap.size w3 W5 := by rw [<- hW5]; exact (Below.refl _ w3).alloc (Nat.le_refl _) _
 have hq' : AdrIn W5 w3.heap.size (innV u) (.slice qa qn qc) := by
  unfold AdrIn
  rw [hq, <- hW5]
  exact heap_alloc_new w3 _
 have HA5 := hid ((HA2.out.kept hb3).kept hb5)
 have HR5 := hid ((HR2.out.kept hb3).kept hb5)
 have HB5 := hid (below2 (below2 HB2.out hb3) hb5)
 have hfl : ∀ j v, (adrCells (innV u) (.slice qa qn qc))[j]? = some v -> W5.cell? ⟨w3.heap.size, j, none⟩ = some v := fun j v h => hq'.cell j v h
 rw [hq] at hfl
 have q_y0 := hfl 0 _ rfl
 have q_y1 := hfl 1 _ rfl
 have q_y2 := hfl 2 _ rfl
 have q_y3 := hfl 3 _ rfl
 have q_y4 := hfl 4 _ rfl
 have q_y5 := hfl 5 _ rfl
 have q_y6 := hfl 6 _ rfl
 have q_y7 := hfl 7 _ rfl
 have q_y8 := hfl 8 _ rfl
 have q_y9 := hfl 9 _ rfl
 have q_y10 := hfl 10 _ rfl
 have q_y11 := hfl 11 _ rfl
 have HQ := hid hq
 have HQA := hid (And.intro hq0 (And.intro hq3 (And.intro hq5 hq6)))
 clear hfl hq' hb5 hb3 hqa hq y0 y1 y2 y3 y4 y5 y6 y7 y8 y9 y10 y11
 by_cases hweb : webV (innV u).scheme = true
 ·have HAV := hid (orgA_in hweb)
  obtain ⟨W6, hW6⟩ : ∃ W6, W6 = W5.setCells w.heap.size 0 [.string q0, .string q1, .string q2, .string q3, .bool q4, .int .i64 q5, .bool q6, .slice qa qn qc, .string q8, .string q9, .bool q10, .bool q11] := ⟨_, rfl⟩
  have HA6 := hid (show AdrIn W6 w.heap.size (innV u) (.slice qa qn qc) by
   have := HA5.out.store (v := innV u) (qv := .slice qa qn qc)
   rw [HQ.out] at this
   rw [hW6]; exact this)
  have HR6 := hid (show OrgIn W6 (w.heap.size + 1) Org.nil by rw [hW6]; exact OrgIn.fars (by omega) _ _ _ HR5.out)
  have HB6 := hid (show Below w.heap.size w W6 by rw [hW6]; exact below_setCells (Nat.le_refl _) _ _ _ HB5.out)
  have HT := hid (show W5.there w.heap.size 0 12 from HA5.out.there)
  have HW6 := hid hW6
  have hone : (#[.string q0, .string q1, .string q2, .string q3, .bool q4, .int .i64 q5, .bool q6, .slice qa qn qc, .string q8, .string q9, .bool q10, .bool q11] : Array Value).all (·.oneCell') = true := by
   have := all_oneCell_toArray (adrCells_one (innV u) (.slice qa qn qc) ⟨_, _, _, rfl⟩)
   rw [HQ.out] at this
   exact this
  have hws : (q0.toList == [104, 116, 116, 112]) = true ∨ ((q0.toList == [104, 116, 116, 112]) = false /\ (q0.toList == [104, 116, 116, 112, 115]) = true) := by
   unfold webV at hweb
   rw [Bool.or_eq_true] at hweb
   by_cases h : q0.data.toList = [104, 116, 116, 112]
   ·left; exact beq_yes q0 _ h
   ·right
    refine ⟨beq_no q0 _ h, beq_yes q0 _ ?_⟩
    rw [hq0] at h ⊢
    rcases hweb with h2 | h2
    ·exact absurd (beq_iff_eq.1 h2) h
    ·exact (beq_iff_eq.1 h2)
  clear hW6 hweb hq0 hq3 hq5 hq6
  rcases hws with e0 | ⟨e0, e1⟩
  all_goals
   have hfl : ∀ j y, (adrCells (innV u) (.slice qa qn qc))[j]? = some y -> W6.cell? ⟨w.heap.size, j, none⟩ = some y := fun j y h => HA6.out.cell j y h
   rw [HQ.out] at hfl
   have c0 := hfl 0 _ rfl
   have c3 := hfl 3 _ rfl
   have c5 := hfl 5 _ rfl
   clear hfl
   have ry0 := HR6.out.cell 0 _ rfl
   have rz0 := HR6.out.frozen 0
   have ry1 := HR6.out.cell 1 _ rfl
   have rz1 := HR6.out.frozen 1
   have ry2 := HR6.out.cell 2 _ rfl
   have rz2 := HR6.out.frozen 2
   have ry3 := HR6.out.cell 3 _ rfl
   have rz3 := HR6.out.frozen 3
   have HSp := hid (fun w => special_any q0 w)
   have HOw := hid (fun w => own_any q0 w)
   obtain ⟨sp, hsp⟩ : ∃ b, specV q0.data.toList = b := ⟨_, rfl⟩
   obtain ⟨ow, how⟩ : ∃ b, ownV q0.data.toList = b := ⟨_, rfl⟩
   rw [hsp] at HSp
   rw [how] at HOw
   have HSP := hid hsp
   have HOW := hid how
   clear hsp how
   cases sp with
   | false =>
    go_wp2_with (first | (refine wpList_store_mid rfl 31 (.tmp 1) (.tmp 15) rfl w.heap.size 0 #[.string q0, .string q1, .string q2, .string q3, .bool q4, .int .i64 q5, .bool q6, .slice qa qn qc, .string q8, .string q9, .bool q10, .bool q11] rfl rfl HT.out (sizeUa (innV u) (.slice qa qn qc)) hone ?_; refine wpList_worldO HW6.out ?_) | (go_at_call 136; refine (HSp.out _).mono ?_; rintro e wz ⟨rfl, hwz⟩; rw [<- hwz]; clear hwz) | (go_at_call 137; refine (HOw.out _).mono ?_; rintro e wz ⟨rfl, hwz⟩; rw [<- hwz]; clear hwz))
    have HV := hid (show orgV u = Org.none from orgV_no (by rw [HAV.out, <- HQA.out.1]; exact HSP.out))
    have hrg := range_row (HR6.out.store (p := Org.none))
    have hbl := below_setCells (B := w.heap.size) (b := w.heap.size + 1) (Nat.le_succ _) (orgCells Org.none) 0 _ HB6.out
    rw [HV.out]
    refine bodyPost_ret (results_o1 rfl _ _ (w.heap.size + 1) Org.none rfl ?_) rfl ⟨?_, ?_⟩
    ·exact hrg
    ·rfl
    ·exact hbl
   | true =>
    have HV0 := hid (orgV_yes (u := u) (by rw [HAV.out, <- HQA.out.1]; exact HSP.out))
    rw [HAV.out] at HV0
    have hbn : Below W6.heap.size W6 (W6.alloc (.cells #[.string q0, .string q3, .int .i64 q5, .bool false] 128)) := (Below.refl _ _).alloc (Nat.le_refl _) _
    have HRn := hid (HR6.out.kept hbn)
    have HBn := hid (below2 HB6.out hbn)
    have ny0 := HRn.out.cell 0 _ rfl
    have nz0 := HRn.out.frozen 0
    have ny1 := HRn.out.cell 1 _ rfl
    have nz1 := HRn.out.frozen 1
    have ny2 := HRn.out.cell 2 _ rfl
    have nz2 := HRn.out.frozen 2
    have ny3 := HRn.out.cell 3 _ rfl
    have nz3 := HRn.out.frozen 3
    have HLt := hid (HR6.out.lt)
    clear hbn
    by_cases hpo : q5 = -1
    ·subst hpo
     have HV := hid (show orgV u = ⟨(innV u).scheme, (innV u).host, ow, false⟩ by rw [HV0.out]; unfold hasP; rw [if_pos (show (innV u).port = -1 from HQA.out.2.2.1.symm), <- HQA.out.1, HOW.out])
     have hbo : Below W6.heap.size W6 (W6.alloc (.cells #[.string q0, .string q3, .int .i64 ow, .bool false] 128)) := (Below.refl _ _).alloc (Nat.le_refl _) _
     have HR8 := hid (HR6.out.kept hbo)
     have HB8 := hid (below2 HB6.out hbo)
     have k0 := (((Below.refl _ W6).alloc (Nat.le_refl _) (.cells #[.string q0, .string q3, .int .i64 (-1), .bool false] 128)).cell (World.block_lt_of_cell? W6 _ c0)).trans c0
     clear hbo ny0 nz0 ny1 nz1 ny2 nz2 ny3 nz3
     have ny0 := HR8.out.cell 0 _ rfl
     have nz0 := HR8.out.frozen 0
     have ny1 := HR8.out.cell 1 _ rfl
     have nz1 := HR8.out.frozen 1
     have ny2 := HR8.out.cell 2 _ rfl
     have nz2 := HR8.out.frozen 2
     have ny3 := HR8.out.cell 3 _ rfl
     have nz3 := HR8.out.frozen 3
     go_wp2_with (first | (refine wpList_store_mid rfl 31 (.tmp 1) (.tmp 15) rfl w.heap.size 0 #[.string q0, .string q1, .string q2, .string q3, .bool q4, .int .i64 (-1), .bool q6, .slice qa qn qc, .string q8, .string q9, .bool q10, .bool q11] rfl rfl HT.out (sizeUa (innV u) (.slice qa qn qc)) hone ?_; refine wpList_worldO HW6.out ?_) | (go_at_call 136; refine (HSp.out _).mono ?_; rintro e wz ⟨rfl, hwz⟩; rw [<- hwz]; clear hwz) | (go_at_call 137; refine (HOw.out _).mono ?_; rintro e wz ⟨rfl, hwz⟩; rw [<- hwz]; clear hwz))
     have hrg := range_row (HR8.out.store (p := ⟨(innV u).scheme, (innV u).host, ow, false⟩))
     have hbl := below_setCells (B := w.heap.size) (b := w.heap.size + 1) (Nat.le_succ _) (orgCells ⟨(innV u).scheme, (innV u).host, ow, false⟩) 0 _ HB8.out
     have HC := hid (show orgCells ⟨(innV u).scheme, (innV u).host, ow, false⟩ = [.string q0, .string q3, .int .i64 ow, .bool false] by unfold orgCells; rw [<- HQA.out.1, <- HQA.out.2.1])
     rw [HV.out]
     refine bodyPost_ret (results_o1 rfl _ _ (w.heap.size + 1) ⟨(innV u).scheme, (innV u).host, ow, false⟩ rfl ?_) rfl ⟨?_, ?_⟩
     ·rw [HC.out] at hrg ⊢; exact hrg
     ·rfl
     ·rw [HC.out] at hbl; exact hbl
    ·have hpb : (q5 == -1) = false := beq_eq_false_iff_ne.2 hpo
     have HV := hid (show orgV u = ⟨(innV u).scheme, (innV u).host, q5, false⟩ by rw [HV0.out]; unfold hasP; rw [if_neg (show ¬ (innV u).port = -1 from fun e => hpo (HQA.out.2.2.1.trans e)), HQA.out.2.2.1])
     clear hpo
     go_wp2_with (first | (refine wpList_store_mid rfl 31 (.tmp 1) (.tmp 15) rfl w.heap.size 0 #[.string q0, .string q1, .string q2, .string q3, .bool q4, .int .i64 q5, .bool q6, .slice qa qn qc, .string q8, .string q9, .bool q10, .bool q11] rfl rfl HT.out (sizeUa (innV u) (.slice qa qn qc)) hone ?_; refine wpList_worldO HW6.out ?_) | (go_at_call 136; refine (HSp.out _).mono ?_; rintro e wz ⟨rfl, hwz⟩; rw [<- hwz]; clear hwz) | (go_at_call 137; refine (HOw.out _).mono ?_; rintro e wz ⟨rfl, hwz⟩; rw [<- hwz]; clear hwz))
     have hrg := range_row (HRn.out.store (p := ⟨(innV u).scheme, (innV u).host, q5, false⟩))
     have hbl := below_setCells (B := w.heap.size) (b := w.heap.size + 1) (Nat.le_succ _) (orgCells ⟨(innV u).scheme, (innV u).host, q5, false⟩) 0 _ HBn.out
     have HC := hid (show orgCells ⟨(innV u).scheme, (innV u).host, q5, false⟩ = [.string q0, .string q3, .int .i64 q5, .bool false] by unfold orgCells; rw [<- HQA.out.1, <- HQA.out.2.1])
     rw [HV.out]
     refine bodyPost_ret (results_o1 rfl _ _ (w.heap.size + 1) ⟨(innV u).scheme, (innV u).host, q5, false⟩ rfl ?_) rfl ⟨?_, ?_⟩
     ·rw [HC.out] at hrg ⊢; exact hrg
     ·rfl
     ·rw [HC.out] at hbl; exact hbl
 ·have hweb' : webV (innV u).scheme = false := by simpa using hweb
  have HAV := hid (orgA_out hweb')
  have e0 : (q0.toList == [104, 116, 116, 112]) = false := beq_no q0 _ (fun h => by
   rw [hq0] at h
   unfold webV at hweb'
   rw [show (innV u).scheme = sHttp from h] at hweb'
   revert hweb'; decide)
  have e1 : (q0.toList == [104, 116, 116, 112, 115]) = false := beq_no q0 _ (fun h => by
   rw [hq0] at h
   unfold webV at hweb'
   rw [show (innV u).scheme = sHttps from h] at hweb'
   revert hweb'; decide)
  clear hweb hweb' hq0 hq3 hq5 hq6
  have hfl : ∀ j y, (adrCells u (.slice ua un uc))[j]? = some y -> W5.cell? ⟨w.heap.size, j, none⟩ = some y := fun j y h => HA5.out.cell j y h
  rw [HX.out] at hfl
  have c0 := hfl 0 _ rfl
  have c3 := hfl 3 _ rfl
  have c5 := hfl 5 _ rfl
  clear hfl
  have ry0 := HR5.out.cell 0 _ rfl
  have rz0 := HR5.out.frozen 0
  have ry1 := HR5.out.cell 1 _ rfl
  have rz1 := HR5.out.frozen 1
  have ry2 := HR5.out.cell 2 _ rfl
  have rz2 := HR5.out.frozen 2
  have ry3 := HR5.out.cell 3 _ rfl
  have rz3 := HR5.out.frozen 3
  have HSp := hid (fun w => special_any u0 w)
  have HOw := hid (fun w => own_any u0 w)
  obtain ⟨sp, hsp⟩ : ∃ b, specV u0.data.toList = b := ⟨_, rfl⟩
  obtain ⟨ow, how⟩ : ∃ b, ownV u0.data.toList = b := ⟨_, rfl⟩
  rw [hsp] at HSp
  rw [how] at HOw
  have HSP := hid hsp
  have HOW := hid how
  clear hsp how
  cases sp with
  | false =>
   go_wp2_with (first | (go_at_call 136; refine (HSp.out _).mono ?_; rintro e wz ⟨rfl, hwz⟩; rw [<- hwz]; clear hwz) | (go_at_call 137; refine (HOw.out _).mono ?_; rintro e wz ⟨rfl, hwz⟩; rw [<- hwz]; clear hwz))
   have HV := hid (show orgV u = Org.none from orgV_no (by rw [HAV.out, <- HXA.out.1]; exact HSP.out))
   have hrg := range_row (HR5.out.store (p := Org.none))
   have hbl := below_setCells (B := w.heap.size) (b := w.heap.size + 1) (Nat.le_succ _) (orgCells Org.none) 0 _ HB5.out
   rw [HV.out]
   refine bodyPost_ret (results_o1 rfl _ _ (w.heap.size + 1) Org.none rfl ?_) rfl ⟨?_, ?_⟩
   ·exact hrg
   ·rfl
   ·exact hbl
  | true =>
   have HV0 := hid (orgV_yes (u := u) (by rw [HAV.out, <- HXA.out.1]; exact HSP.out))
   rw [HAV.out] at HV0
   have hbn : Below W5.heap.size W5 (W5.alloc (.cells #[.string u0, .string u3, .int .i64 u5, .bool false] 128)) := (Below.refl _ _).alloc (Nat.le_refl _) _
   have HRn := hid (HR5.out.kept hbn)
   have HBn := hid (below2 HB5.out hbn)
   have ny0 := HRn.out.cell 0 _ rfl
   have nz0 := HRn.out.frozen 0
   have ny1 := HRn.out.cell 1 _ rfl
   have nz1 := HRn.out.frozen 1
   have ny2 := HRn.out.cell 2 _ rfl
   have nz2 := HRn.out.frozen 2
   have ny3 := HRn.out.cell 3 _ rfl
   have nz3 := HRn.out.frozen 3
   have HLt := hid (HR5.out.lt)
   clear hbn
   by_cases hpo : u5 = -1
   ·subst hpo
    have HV := hid (show orgV u = ⟨u.scheme, u.host, ow, false⟩ by rw [HV0.out]; unfold hasP; rw [if_pos (show u.port = -1 from HXA.out.2.2.1.symm), <- HXA.out.1, HOW.out])
    have hbo : Below W5.heap.size W5 (W5.alloc (.cells #[.string u0, .string u3, .int .i64 ow, .bool false] 128)) := (Below.refl _ _).alloc (Nat.le_refl _) _
    have HR8 := hid (HR5.out.kept hbo)
    have HB8 := hid (below2 HB5.out hbo)
    have k0 := (((Below.refl _ W5).alloc (Nat.le_refl _) (.cells #[.string u0, .string u3, .int .i64 (-1), .bool false] 128)).cell (World.block_lt_of_cell? W5 _ c0)).trans c0
    clear hbo ny0 nz0 ny1 nz1 ny2 nz2 ny3 nz3
    have ny0 := HR8.out.cell 0 _ rfl
    have nz0 := HR8.out.frozen 0
    have ny1 := HR8.out.cell 1 _ rfl
    have nz1 := HR8.out.frozen 1
    have ny2 := HR8.out.cell 2 _ rfl
    have nz2 := HR8.out.frozen 2
    have ny3 := HR8.out.cell 3 _ rfl
    have nz3 := HR8.out.frozen 3
    go_wp2_with (first | (go_at_call 136; refine (HSp.out _).mono ?_; rintro e wz ⟨rfl, hwz⟩; rw [<- hwz]; clear hwz) | (go_at_call 137; refine (HOw.out _).mono ?_; rintro e wz ⟨rfl, hwz⟩; rw [<- hwz]; clear hwz))
    have hrg := range_row (HR8.out.store (p := ⟨u.scheme, u.host, ow, false⟩))
    have hbl := below_setCells (B := w.heap.size) (b := w.heap.size + 1) (Nat.le_succ _) (orgCells ⟨u.scheme, u.host, ow, false⟩) 0 _ HB8.out
    have HC := hid (show orgCells ⟨u.scheme, u.host, ow, false⟩ = [.string u0, .string u3, .int .i64 ow, .bool false] by unfold orgCells; rw [<- HXA.out.1, <- HXA.out.2.1])
    rw [HV.out]
    refine bodyPost_ret (results_o1 rfl _ _ (w.heap.size + 1) ⟨u.scheme, u.host, ow, false⟩ rfl ?_) rfl ⟨?_, ?_⟩
    ·rw [HC.out] at hrg ⊢; exact hrg
    ·rfl
    ·rw [HC.out] at hbl; exact hbl
   ·have hpb : (u5 == -1) = false := beq_eq_false_iff_ne.2 hpo
    have HV := hid (show orgV u = ⟨u.scheme, u.host, u5, false⟩ by rw [HV0.out]; unfold hasP; rw [if_neg (show ¬ u.port = -1 from fun e => hpo (HXA.out.2.2.1.trans e)), HXA.out.2.2.1])
    clear hpo
    go_wp2_with (first | (go_at_call 136; refine (HSp.out _).mono ?_; rintro e wz ⟨rfl, hwz⟩; rw [<- hwz]; clear hwz) | (go_at_call 137; refine (HOw.out _).mono ?_; rintro e wz ⟨rfl, hwz⟩; rw [<- hwz]; clear hwz))
    have hrg := range_row (HRn.out.store (p := ⟨u.scheme, u.host, u5, false⟩))
    have hbl := below_setCells (B := w.heap.size) (b := w.heap.size + 1) (Nat.le_succ _) (orgCells ⟨u.scheme, u.host, u5, false⟩) 0 _ HBn.out
    have HC := hid (show orgCells ⟨u.scheme, u.host, u5, false⟩ = [.string u0, .string u3, .int .i64 u5, .bool false] by unfold orgCells; rw [<- HXA.out.1, <- HXA.out.2.1])
    rw [HV.out]
    refine bodyPost_ret (results_o1 rfl _ _ (w.heap.size + 1) ⟨u.scheme, u.host, u5, false⟩ rfl ?_) rfl ⟨?_, ?_⟩
    ·rw [HC.out] at hrg ⊢; exact hrg
    ·rfl
    ·rw [HC.out] at hbl; exact hbl
end Go.Proofs.YtooihpkoplgmbaaGreatDoor
