/-
  Walks and plain facts that this claim leans on, put together out of 5 texts: Tb, Tc, Td, Te, Tf.
-/
import Derived.Test.YtpopljcmkbchcaaGreatDoorProg
import Derived.Test.YtpopljcmkbchcaaGreatDoorQc1
import Derived.Test.YtpopljcmkbchcaaGreatDoorQc8
import Derived.Test.YtpopljcmkbchcaaGreatDoorQc10
import Derived.Test.YtpopljcmkbchcaaGreatDoorQc11
import Derived.Test.YtpopljcmkbchcaaGreatDoorQc12
import Derived.Lib.IndexMore
import Derived.Lib.Join
import Derived.Lib.LastIndexByte
import Derived.WalkKit
import Derived.Lib.Strings
import Derived.Lib.UnsafeStr
import Derived.Laws.IdiomStrings
import Derived.Laws.AppendOwn
import Derived.Laws.BitsAllLaws
import Derived.Lib.Bytealg
import Derived.Lib.BufferMore
import Derived.LoopN
import Derived.RegionTactic
import Derived.Deep.RegionWith
import Derived.Deep.QuietTactic
import Derived.BigQuiet
import Derived.Shelf.Strings.Builder1
import Derived.Shelf.Strings.Builder2
import Derived.Shelf.Strings.OnBuilder
import Derived.Shelf.Strings.Trim
import Derived.Shelf.Small.Utf8
import Derived.Shelf.Small.Bits
import Derived.Shelf.Small.Strs
import Derived.Shelf.Small.Wraps
import Derived.Shelf.Strings.BuilderF
import Derived.Shelf.Strings.BuilderK
import Derived.Shelf.Strings.BuilderRune
import Derived.Shelf.Utf8.AppendRune
import Derived.Shelf.Utf8.AppendRunePlain
import Derived.Shelf.Strings.Builder2Cap
import Derived.Shelf.Strconv.Itoa0
import Derived.Shelf.Strconv.Itoa1
import Derived.Shelf.LaysM
import Derived.Shelf.Strconv.Itoa2
import Derived.Shelf.Strconv.Itoa3
import Derived.Shelf.Strings.Search1
import Derived.Shelf.Strings.Search2
import Derived.Shelf.Strings.Cut
import Derived.Shelf.Strings.Shaped
import Derived.Shelf.Sort.Plain
import Derived.Shelf.Strings.Prefix
import Derived.Shelf.Unicode.Latin
import Derived.Shelf.Strings.Runes
import Derived.Shelf.Strings.IndexAny
import Derived.Shelf.Strings.AsciiSet
import Derived.Shelf.Strings.IndexAnyAll
import Derived.Shelf.Unicode.DecodeSlow
import Derived.Shelf.Unicode.DecodeAny
import Derived.Shelf.Unicode.DecodeLast
import Derived.Shelf.Unicode.CaseLookup
import Derived.Shelf.Unicode.CaseConvert
import Derived.Shelf.Unicode.CaseTo
import Derived.Shelf.Unicode.CaseLaid
import Derived.Shelf.Slices.CompactS
import Derived.Shelf.Slices.In.SortNone
import Derived.Scope
import Derived.ScopeJumps
import Derived.WalkMore
import Derived.Lib.IndexAny
import Derived.Lib.Replace
import Derived.Lib.TrimByte
import Derived.Lib.ItoaNum
import Derived.Laws.RangeAny
import Derived.Lib.DecodeN
import Derived.Lib.OthersKept
import Derived.Deep.LoopGhost
import Derived.Laws.BytesString
import Derived.WalkSpells
import Derived.WalkLawsBesides
import Derived.Lib.AppendIntMem
import Derived.Lib.SmallJoins
import Derived.WalkSmall
import Derived.OwnWalk
import Derived.Laws.CopyOwn
import Derived.Laws.ResultCell
import Derived.Deep.MidRow
import Derived.Lib.FrozenHead2
import Derived.Lib.Builder
import Derived.Deep.RegionLaw
set_option linter.unusedSimpArgs false
set_option linter.unusedVariables false

namespace Go.Proofs.YtpopljcmkbchcaaGreatDoor
open Go.RowKit

set_option maxHeartbeats 400000 in
theorem rown_any (s : ByteArray) (w : World) :
  Calls Tryz.prog 153 #[.string s] w fun e w' => e = .returned (.int .i64 (ownV s.data.toList)) ∧ w = w' := by
 by_cases h1 : s.data.toList = sHttp
 ·have HN := hid (show ownV s.data.toList = 80 by rw [h1]; rfl)
  have e1 := beq_yes s [104, 116, 116, 112] h1
  clear h1
  go_enter Tryz.func153, Tryz.ntmps153
  go_wp2
  go_ret
  rw [HN.out]; exact ⟨rfl, rfl⟩
 ·have e1 := beq_no s [104, 116, 116, 112] h1
  by_cases h2 : s.data.toList = sWs
  ·have HN := hid (show ownV s.data.toList = 80 by rw [h2]; rfl)
   have e2 := beq_yes s [119, 115] h2
   clear h1 h2
   go_enter Tryz.func153, Tryz.ntmps153
   go_wp2
   go_ret
   rw [HN.out]; exact ⟨rfl, rfl⟩
  ·have e2 := beq_no s [119, 115] h2
   by_cases h3 : s.data.toList = sHttps
   ·have HN := hid (show ownV s.data.toList = 443 by rw [h3]; rfl)
    have e3 := beq_yes s [104, 116, 116, 112, 115] h3
    clear h1 h2 h3
    go_enter Tryz.func153, Tryz.ntmps153
    go_wp2
    go_ret
    rw [HN.out]; exact ⟨rfl, rfl⟩
   ·have e3 := beq_no s [104, 116, 116, 112, 115] h3
    by_cases h4 : s.data.toList = sWss
    ·have HN := hid (show ownV s.data.toList = 443 by rw [h4]; rfl)
     have e4 := beq_yes s [119, 115, 115] h4
     clear h1 h2 h3 h4
     go_enter Tryz.func153, Tryz.ntmps153
     go_wp2
     go_ret
     rw [HN.out]; exact ⟨rfl, rfl⟩
    ·have e4 := beq_no s [119, 115, 115] h4
     by_cases h5 : s.data.toList = sFtp
     ·have HN := hid (show ownV s.data.toList = 21 by rw [h5]; rfl)
      have e5 := beq_yes s [102, 116, 112] h5
      clear h1 h2 h3 h4 h5
      go_enter Tryz.func153, Tryz.ntmps153
      go_wp2
      go_ret
      rw [HN.out]; exact ⟨rfl, rfl⟩
     ·have e5 := beq_no s [102, 116, 112] h5
      have HN := hid (show ownV s.data.toList = -1 by rw [ownV, if_neg (by rintro (h | h); exact h1 h; exact h2 h), if_neg (by rintro (h | h); exact h3 h; exact h4 h), if_neg h5])
      clear h1 h2 h3 h4 h5
      go_enter Tryz.func153, Tryz.ntmps153
      go_wp2
      go_ret
      rw [HN.out]; exact ⟨rfl, rfl⟩

set_option maxHeartbeats 400000 in
theorem rspecial_any (s : ByteArray) (w : World) :
  Calls Tryz.prog 145 #[.string s] w fun e w' => e = .returned (.bool (specV s.data.toList)) ∧ w = w' := by
 have HS := hid (show specV s.data.toList = decide (0 ≤ ownV s.data.toList) from rfl)
 go_enter Tryz.func145, Tryz.ntmps145
 go_wp2_with (go_at_call 153; refine (rown_any _ _).mono ?_; rintro e w' ⟨rfl, rfl⟩)
 go_ret
 rw [HS.out]
 exact ⟨rfl, rfl⟩

end Go.Proofs.YtpopljcmkbchcaaGreatDoor

namespace Go.Proofs.YtpopljcmkbchcaaGreatDoor
open Go.RowKit

theorem skip_cons (l : List UInt8) : skip47 (47 :: l) = skip47 l := rfl

theorem skip_stop {c : UInt8} {l : List UInt8} (h : c ≠ 47) : skip47 (c :: l) = c :: l := by
 have : (c == 47) = false := by rw [beq_eq_false_iff_ne]; exact h
 unfold skip47
 rw [List.dropWhile_cons, this]; rfl

set_option maxHeartbeats 400000 in
theorem rover_any (s : ByteArray) (w : World) (hs : s.size ≤ 4000000000) :
  Calls Tryz.prog 232 #[.string s] w fun e w' => e = .returned (.string ⟨(skip47 s.data.toList).toArray⟩) ∧ w = w' := by
 go_enter Tryz.func232, Tryz.ntmps232
 go_wp2
 go_loop [0] (fun v => ∃ T : ByteArray, v = .string T ∧ T.size ≤ s.size ∧ skip47 T.data.toList = skip47 s.data.toList) (fun v => match v with | .string T => T.size | _ => 0)
 case atStart => exact ⟨s, rfl, Nat.le_refl _, rfl⟩
 case round =>
  obtain ⟨T, rfl, hTs, hsk⟩ := hrel
  have HS := hid hsk
  clear hsk
  by_cases h0 : 0 < T.size
  ·have h0' : (0 : Int) < (T.size : Int) := by omega
   obtain ⟨r, hr⟩ := list_one T h0
   by_cases hc : T[0] = 47
   ·have e47 : ((T[0].toNat : Int) == 47) = true := byte_is hc
    have h1 : (1 : Int) ≤ (T.size : Int) := by omega
    have HN := hid (show skip47 (T.extract 1 T.size).data.toList = skip47 s.data.toList by
     rw [extract_drop, ← HS.out, hr, hc, skip_cons]; rfl)
    clear hc hr
    go_wp2
    go_round
    case rel => exact ⟨T.extract 1 T.size, rfl, by simp; omega, HN.out⟩
    case measure => simp; omega
   ·have e47 : ((T[0].toNat : Int) == 47) = false := byte_not hc
    have HN := hid (show T = ⟨(skip47 s.data.toList).toArray⟩ by
     rw [← HS.out, hr, skip_stop hc, ← hr, Lib.mk_data])
    clear hc hr
    go_wp2
    go_ret
    rw [← HN.out]
    exact ⟨rfl, rfl⟩
  ·have h0' : ¬ (0 : Int) < (T.size : Int) := by omega
   have HN := hid (show T = ⟨(skip47 s.data.toList).toArray⟩ by
    have : T.data.toList = [] := List.eq_nil_of_length_eq_zero (by rw [← Lib.size_eq]; omega)
    rw [← HS.out, this]
    exact ba_ext this)
   go_wp2
   go_ret
   rw [← HN.out]
   exact ⟨rfl, rfl⟩

set_option maxHeartbeats 1000000 in
theorem rahead_any (s : ByteArray) (a b : UInt8) (w : World) (hs : s.size ≤ 4000000000) :
  Calls Tryz.prog 235 #[.string s, .int .u8 (a.toNat : Int), .int .u8 (b.toNat : Int)] w fun e w' => e = .returned (.tuple #[.string ⟨(aheadV [a, b] s.data.toList).1.toArray⟩, .string ⟨(aheadV [a, b] s.data.toList).2.toArray⟩]) ∧ Below w.heap.size w w' := by
 go_enter Tryz.func235, Tryz.ntmps235
 go_wp2
 go_loop [8] (fun i => ∃ k : Nat, k ≤ s.size ∧ i = .int .i64 k ∧ Lib.NoAny s.data.toList [a, b] k) (fun i => s.size - (intOf i).toNat)
 case atStart => exact ⟨0, Nat.zero_le _, rfl, Lib.NoAny.zero _ _⟩
 case round =>
  obtain ⟨k, hk, rfl, hno⟩ := hrel
  have HN := hid hno
  clear hno
  have ha8 := a.toNat_lt
  have hb8 := b.toNat_lt
  by_cases hlt : k < s.size
  ·have hxl : s.data.toList[k]? = some s[k] := Lib.data_getElem? s k hlt
   have hk' : (k : Int) ≤ (s.size : Int) := by omega
   by_cases hin : [a, b].contains s[k] = true
   ·have hidx := Lib.indexAny_hit HN.out hxl hin
    have HV := hid (show aheadV [a, b] s.data.toList = (s.data.toList.take k, s.data.toList.drop k) by
     rcases ahead_index [a, b] s.data.toList with ⟨h1, _⟩ | ⟨i, hi, h1, h2⟩
     ·rw [h1] at hidx; omega
     ·have : i = k := by rw [h1] at hidx; omega
      rw [h2, this])
    have hcase : ((s[k].toNat : Int) == (a.toNat : Int)) = true ∨ (((s[k].toNat : Int) == (a.toNat : Int)) = false ∧ ((s[k].toNat : Int) == (b.toNat : Int)) = true) := by
     by_cases h1 : s[k] = a
     ·exact .inl (byte_is h1)
     ·refine .inr ⟨byte_not h1, byte_is ?_⟩
      simp at hin
      rcases hin with h | h
      ·exact absurd h h1
      ·exact h
    clear hin hidx hxl
    rcases hcase with e1 | ⟨e1, e2⟩
    all_goals
     go_wp2
     go_region
     go_wp2
     go_ret2
     refine ⟨?_, (Below.refl _ w).drew⟩
     rw [HV.out]
     refine ret_ss ?_ ?_
     ·exact ba_ext (by rw [Lib.extract_data]; simp)
     ·exact ba_ext (by rw [extract_drop])
   ·have hin' : [a, b].contains s[k] = false := by simpa using hin
    have HN2 := hid (HN.out.succ hxl hin')
    have e1 : ((s[k].toNat : Int) == (a.toNat : Int)) = false := byte_not (fun e => hin (by simp [e]))
    have e2 : ((s[k].toNat : Int) == (b.toNat : Int)) = false := byte_not (fun e => hin (by simp [e]))
    clear hin hin' hxl
    go_wp2
    go_round
    case rel => exact ⟨k + 1, by omega, by go_num, HN2.out⟩
    case measure => simp [intOf]; omega
  ·have hke : k = s.data.toList.length := by simp; omega
   have hidx := Lib.indexAny_none (by rw [← hke]; exact HN.out)
   have HV := hid (show aheadV [a, b] s.data.toList = (s.data.toList, []) by
    rcases ahead_index [a, b] s.data.toList with ⟨_, h2⟩ | ⟨i, hi, h1, h2⟩
    ·exact h2
    ·rw [h1] at hidx; omega)
   clear hidx
   go_wp2
   go_ret2
   rw [HV.out]
   exact ⟨ret_ss (Lib.mk_data s).symm rfl, Below.refl _ _⟩

theorem ret_ssb {a b c d : ByteArray} {x y : Bool} (h : a = b) (g : c = d) (k : x = y) : Ending.returned (.tuple #[.string a, .string c, .bool x]) = .returned (.tuple #[.string b, .string d, .bool y]) := by rw [h, g, k]

set_option maxHeartbeats 1000000 in
theorem rpart_any (s : ByteArray) (c : UInt8) (w : World) (hs : s.size ≤ 4000000000) :
  Calls Tryz.prog 111 #[.string s, .int .u8 (c.toNat : Int)] w fun e w' => e = .returned (.tuple #[.string ⟨(part c s.data.toList).1.toArray⟩, .string ⟨(part c s.data.toList).2.1.toArray⟩, .bool (part c s.data.toList).2.2]) ∧ Below w.heap.size w w' := by
 go_enter Tryz.func111, Tryz.ntmps111
 go_wp2
 go_loop [7] (fun i => ∃ k : Nat, k ≤ s.size ∧ i = .int .i64 k ∧ c ∉ s.data.toList.take k) (fun i => s.size - (intOf i).toNat)
 case atStart => exact ⟨0, Nat.zero_le _, rfl, by simp⟩
 case round =>
  obtain ⟨k, hk, rfl, hno⟩ := hrel
  have HN := hid hno
  clear hno
  have hc8 := c.toNat_lt
  by_cases hlt : k < s.size
  ·have hk' : (k : Int) ≤ (s.size : Int) := by omega
   have hk2 : (k : Int) + 1 ≤ (s.size : Int) := by omega
   by_cases he : s[k] = c
   ·have HV := hid (show part c s.data.toList = (s.data.toList.take k, s.data.toList.drop (k + 1), true) by
     have e : s.data.toList = s.data.toList.take k ++ c :: s.data.toList.drop (k + 1) := by
      have := (List.take_append_drop k s.data.toList).symm
      rw [drop_cons s k hlt, he] at this
      exact this
     have h2 := part_some c (s.data.toList.take k) (s.data.toList.drop (k + 1)) HN.out
     rw [← e] at h2
     exact h2)
    have e1 : ((s[k].toNat : Int) == (c.toNat : Int)) = true := byte_is he
    clear he
    go_wp2
    go_region
    go_wp2
    go_ret3
    refine ⟨?_, (Below.refl _ w).drew⟩
    rw [HV.out]
    refine ret_ssb ?_ ?_ rfl
    ·exact ba_ext (by rw [Lib.extract_data]; simp)
    ·first | exact ba_ext (by rw [extract_drop]) | exact ba_ext (by rw [show ((k : Int) + 1).toNat = k + 1 by omega, extract_drop])
   ·have HT := hid (take_snoc s k hlt)
    have e1 : ((s[k].toNat : Int) == (c.toNat : Int)) = false := byte_not he
    have HN2 := hid (show c ∉ s.data.toList.take (k + 1) by
     rw [HT.out, List.mem_append]
     rintro (h | h)
     ·exact HN.out h
     ·simp at h; exact he h.symm)
    clear he
    go_wp2
    go_round
    case rel => exact ⟨k + 1, by omega, by go_num, HN2.out⟩
    case measure => simp [intOf]; omega
  ·have hno := HN.out
   rw [take_all s k hlt] at hno
   have HV := hid (part_none c _ hno)
   clear hno
   go_wp2
   go_ret3
   rw [HV.out]
   exact ⟨ret_ssb (Lib.mk_data s).symm rfl rfl, Below.refl _ _⟩

end Go.Proofs.YtpopljcmkbchcaaGreatDoor

namespace Go.Proofs.YtpopljcmkbchcaaGreatDoor
open Go.RowKit

def slTo (l : List UInt8) (k : Nat) : List UInt8 := (l.take k).map slC ++ l.drop k

theorem slTo_len (l : List UInt8) (k : Nat) : (slTo l k).length = l.length := by simp [slTo]; omega

theorem slTo_zero (l : List UInt8) : slTo l 0 = l := by simp [slTo]

theorem slTo_at (l : List UInt8) (k : Nat) (h : k < l.length) (h' : k < (slTo l k).length) : (slTo l k)[k] = l[k] := by
 have e : (slTo l k)[k]? = some l[k] := by
  unfold slTo
  have e1 : ((l.take k).map slC).length = k := by simp; omega
  rw [List.getElem?_append_right (by omega), e1, Nat.sub_self, List.getElem?_drop, Nat.add_zero, List.getElem?_eq_getElem h]
 exact (List.getElem?_eq_some_iff.1 e).2

theorem slTo_succ (l : List UInt8) (k : Nat) (h : k < l.length) : slTo l (k + 1) = (slTo l k).set k (slC l[k]) := by
 unfold slTo
 rw [List.set_append_right _ _ (by simp; omega)]
 have e : k - ((l.take k).map slC).length = 0 := by simp; omega
 rw [e, List.drop_eq_getElem_cons h, List.set_cons_zero, List.take_add_one, List.getElem?_eq_getElem h, List.map_append]
 simp

theorem slash_at (l : List UInt8) (k : Nat) (hno : ∀ c ∈ l.take k, c ≠ 63) (hk : l.length ≤ k ∨ l[k]? = some 63) : slashV l = slTo l k := by
 have e : l = l.take k ++ l.drop k := (List.take_append_drop k l).symm
 have hp : ∀ c ∈ l.take k, (fun c : UInt8 => !([63] : List UInt8).contains c) c = true := fun c hc => by
  have := hno c hc
  simp [this]
 have h1 : (aheadV [63] l).1 = l.take k ∧ (aheadV [63] l).2 = l.drop k := by
  have h3 : (l.drop k).takeWhile (fun c : UInt8 => !([63] : List UInt8).contains c) = [] ∧ (l.drop k).dropWhile (fun c : UInt8 => !([63] : List UInt8).contains c) = l.drop k := by
   rcases hk with h | h
   ·rw [List.drop_of_length_le h]; exact ⟨rfl, rfl⟩
   ·obtain ⟨hlt, hc⟩ := List.getElem?_eq_some_iff.1 h
    rw [List.drop_eq_getElem_cons hlt, hc]
    simp
  unfold aheadV
  constructor
  ·show l.takeWhile _ = _
   conv => lhs; rw [e]
   rw [List.takeWhile_append_of_pos hp, h3.1, List.append_nil]
  ·show l.dropWhile _ = _
   conv => lhs; rw [e]
   rw [List.dropWhile_append_of_pos hp, h3.2]
 rw [slashV, h1.1, h1.2]; rfl

set_option maxHeartbeats 1000000 in
theorem rslashes_any (s : ByteArray) (w : World) (hs : s.size ≤ 4000000000) :
  Calls Tryz.prog 233 #[.string s] w fun e w' => e = .returned (.string ⟨(slashV s.data.toList).toArray⟩) ∧ Below w.heap.size w w' := by
 have hcv := run_bytes_of_string (P := Tryz.prog) w 9 28 5 s Tryz.underlying9 Tryz.underlying28 Tryz.underlying5
 have hcap := grownCap_ge w s.size 0 5
 have hr0 := rowIs_bytes w 5 s (grownCap w s.size 0 5) hcap
 have hb0 : Below w.heap.size w (w.drew.alloc (.cells (bytesRow s (grownCap w s.size 0 5)) 5 ((bytesRow s (grownCap w s.size 0 5)).size, (bytesRow s (grownCap w s.size 0 5)).size + 1))) := (Below.refl _ w).drew.alloc (Nat.le_refl _) _
 generalize (w.drew.alloc (.cells (bytesRow s (grownCap w s.size 0 5)) 5 ((bytesRow s (grownCap w s.size 0 5)).size, (bytesRow s (grownCap w s.size 0 5)).size + 1))) = w0 at hcv hr0 hb0
 generalize grownCap w s.size 0 5 = cap at hcv hcap
 go_enter Tryz.func233, Tryz.ntmps233
 go_wp2
 clear hcv
 go_loopw [4] (fun i wr => ∃ k : Nat, k ≤ s.size ∧ i = .int .i64 k ∧ rowIs wr w.heap.size 5 (slTo s.data.toList k) ∧ Below w.heap.size w wr ∧ ∀ c ∈ s.data.toList.take k, c ≠ 63)
  (fun i _ => s.size - (intOf i).toNat)
 case atStart => exact ⟨0, Nat.zero_le _, rfl, by rw [slTo_zero]; exact hr0, hb0, by simp⟩
 case round =>
  obtain ⟨k, hk, rfl, hr, hbw, hno⟩ := hrel
  have HNo := hid hno
  clear hno
  have hgo : (∃ h : k < s.size, s[k] ≠ 63) ∨ (∃ h : k < s.size, s[k] = 63) ∨ ¬ k < s.size := by
   by_cases h : k < s.size
   ·by_cases h2 : s[k] = 63
    ·exact .inr (.inl ⟨h, h2⟩)
    ·exact .inl ⟨h, h2⟩
   ·exact .inr (.inr h)
  rcases hgo with ⟨hlt, h63⟩ | hgo
  ·have hl : k < s.data.toList.length := by simpa using hlt
   have hl' : k < (slTo s.data.toList k).length := by rw [slTo_len]; exact hl
   have hc := hr.cell k hl'
   rw [slTo_at _ _ hl] at hc
   have hf := hr.frozen k hl'
   have hsucc := slTo_succ s.data.toList k hl
   have hat := slTo_at s.data.toList k hl hl'
   have hsk : s.data.toList[k] = s[k] := rfl
   rw [hsk] at hc hsucc hat
   have HS := hid hsucc
   have HAt := hid hat
   have HR := hid hr
   have HNo2 := hid (show ∀ c ∈ s.data.toList.take (k + 1), c ≠ 63 by
    rw [take_snoc s k hlt]
    intro c hc
    rcases List.mem_append.1 hc with h | h
    ·exact HNo.out c h
    ·simp at h; rw [h]; exact h63)
   have hc8 : s[k].toNat < 256 := s[k].toNat_lt
   have e63 : ((s[k].toNat : Int) != 63) = true := by
    have : ((s[k].toNat : Int) == 63) = false := byte_not h63
    simp at this ⊢
    exact this
   clear hsucc hat hsk hr h63
   by_cases h92 : s[k] = 92
   ·have e92 : ((s[k].toNat : Int) == 92) = true := byte_is h92
    have HC := hid (show slC s[k] = 47 by rw [h92]; rfl)
    clear h92
    go_wp2
    go_roundw
    case rel =>
     refine ⟨k + 1, by omega, by go_num, ?_, hbw.setCell (p := ⟨w.heap.size, k, none⟩) (Nat.le_refl _) _, HNo2.out⟩
     rw [HS.out, HC.out]
     exact HR.out.set k 47
    case measure => simp [intOf]; omega
   ·have e92 : ((s[k].toNat : Int) == 92) = false := byte_not h92
    have HC := hid (show slC s[k] = s[k] by rw [slC, if_neg h92])
    clear h92
    go_wp2
    go_roundw
    case rel =>
     refine ⟨k + 1, by omega, by go_num, ?_, hbw, HNo2.out⟩
     have e : slC s[k] = (slTo s.data.toList k)[k] := by rw [HC.out, HAt.out]
     rw [HS.out, e, List.set_getElem_self]
     exact HR.out
    case measure => simp [intOf]; omega
  ·have hfin : slashV s.data.toList = slTo s.data.toList k := slash_at _ k HNo.out (by
    rcases hgo with ⟨h, h2⟩ | h
    ·exact .inr (by rw [Lib.data_getElem? s k h, h2])
    ·exact .inl (by simp; omega))
   have hr' : rowIs wr w.heap.size 5 (slashV s.data.toList) := by rw [hfin]; exact hr
   have hcv := hr'.string (P := Tryz.prog) (src := 28) (dst := 9) (cap := cap) Tryz.underlying28 Tryz.underlying5 Tryz.underlying9
   rw [show (slashV s.data.toList).length = s.size by rw [slash_len]; simp] at hcv
   rcases hgo with ⟨hlt, h2⟩ | hlt
   ·have hl : k < s.data.toList.length := by simpa using hlt
    have hl' : k < (slTo s.data.toList k).length := by rw [slTo_len]; exact hl
    have hc := hr.cell k hl'
    rw [slTo_at _ _ hl, show s.data.toList[k] = s[k] from rfl, h2] at hc
    clear hr hr' hfin h2
    go_wp2
    go_ret
    exact ⟨rfl, hbw⟩
   ·clear hr hr' hfin
    go_wp2
    go_ret
    exact ⟨rfl, hbw⟩

end Go.Proofs.YtpopljcmkbchcaaGreatDoor

namespace Go.Proofs.YtpopljcmkbchcaaGreatDoor
open Go.RowKit

theorem schR_yes {c : UInt8} (h : schC c = true) : letterI c.toNat = true ∨ (letterI c.toNat = false ∧ digitI c.toNat = true) ∨ (letterI c.toNat = false ∧ digitI c.toNat = false ∧ (((c.toNat : Int) != 43) = false ∨ (((c.toNat : Int) != 43) = true ∧ ((c.toNat : Int) != 45) = false) ∨ (((c.toNat : Int) != 43) = true ∧ ((c.toNat : Int) != 45) = true ∧ ((c.toNat : Int) != 46) = false))) := by
 have key : ∀ n < 256, schC (UInt8.ofNat n) = true → letterI (UInt8.ofNat n).toNat = true ∨ (letterI (UInt8.ofNat n).toNat = false ∧ digitI (UInt8.ofNat n).toNat = true) ∨ (letterI (UInt8.ofNat n).toNat = false ∧ digitI (UInt8.ofNat n).toNat = false ∧ ((((UInt8.ofNat n).toNat : Int) != 43) = false ∨ ((((UInt8.ofNat n).toNat : Int) != 43) = true ∧ (((UInt8.ofNat n).toNat : Int) != 45) = false) ∨ ((((UInt8.ofNat n).toNat : Int) != 43) = true ∧ (((UInt8.ofNat n).toNat : Int) != 45) = true ∧ (((UInt8.ofNat n).toNat : Int) != 46) = false))) := by decide +kernel
 have := key c.toNat c.toNat_lt
 have e : UInt8.ofNat c.toNat = c := by simp
 rw [e] at this
 exact this h

theorem schR_no {c : UInt8} (h : schC c = false) : letterI c.toNat = false ∧ digitI c.toNat = false ∧ ((c.toNat : Int) != 43) = true ∧ ((c.toNat : Int) != 45) = true ∧ ((c.toNat : Int) != 46) = true := by
 have key : ∀ n < 256, schC (UInt8.ofNat n) = false → letterI (UInt8.ofNat n).toNat = false ∧ digitI (UInt8.ofNat n).toNat = false ∧ (((UInt8.ofNat n).toNat : Int) != 43) = true ∧ (((UInt8.ofNat n).toNat : Int) != 45) = true ∧ (((UInt8.ofNat n).toNat : Int) != 46) = true := by decide +kernel
 have := key c.toNat c.toNat_lt
 have e : UInt8.ofNat c.toNat = c := by simp
 rw [e] at this
 exact this h

theorem letter_sch {c : UInt8} (h : letterI c.toNat = true) : schC c = true := by unfold schC; rw [h]; rfl

theorem part_at (c : UInt8) (l : List UInt8) (k : Nat) (hk : k < l.length) (hno : c ∉ l.take k) (hne : l[k] ≠ c) : (part c l).1.take (k + 1) = l.take (k + 1) := by
 rcases first_split c l with h | ⟨a, r, h, rfl⟩
 ·rw [part_none c l h]
 ·rw [part_some c a r h]
  have hka : k < a.length := by
   rcases Nat.lt_or_ge k a.length with h1 | h1
   ·exact h1
   ·exfalso
    rcases Nat.eq_or_lt_of_le h1 with h2 | h2
    ·apply hne
     simp [← h2]
    ·apply hno
     rw [List.take_append]
     refine List.mem_append.2 (.inr ?_)
     rw [show k - a.length = (k - a.length - 1) + 1 by omega, List.take_succ_cons]
     simp
  rw [List.take_append_of_le_length (by omega)]

theorem scheme_bad (l : List UInt8) (k : Nat) (hk : k < l.length) (hno : 58 ∉ l.take k) (hne : l[k] ≠ 58) (hb : schC l[k] = false) : schemeV l = none := by
 unfold schemeV
 have h1 := part_at 58 l k hk hno hne
 have hm : l[k] ∈ (part 58 l).1 := by
  have e0 : l.take (k + 1) = l.take k ++ [l[k]] := by rw [List.take_add_one, List.getElem?_eq_getElem hk]; rfl
  have : l[k] ∈ l.take (k + 1) := by rw [e0]; exact List.mem_append.2 (.inr (List.mem_singleton.2 rfl))
  rw [← h1] at this
  exact List.mem_of_mem_take this
 have h2 : schOk (part 58 l).1 = false := by
  unfold schOk
  have : (part 58 l).1.all schC = false := by rw [List.all_eq_false]; exact ⟨_, hm, by simp [hb]⟩
  rw [this, Bool.and_false]
 rw [h2, Bool.and_false]; rfl

theorem scheme_first (c : UInt8) (r : List UInt8) (h : letterI c.toNat = false) : schemeV (c :: r) = none := by
 unfold schemeV
 have h2 : schOk (part 58 (c :: r)).1 = false := by
  rw [part]
  split
  ·rfl
  ·show (letterI c.toNat && _) = false
   rw [h]; rfl
 rw [h2, Bool.and_false]; rfl

theorem scheme_end (l : List UInt8) (h : 58 ∉ l) : schemeV l = none := by
 unfold schemeV
 rw [part_none 58 l h]; rfl

theorem scheme_hit (s : ByteArray) (k : Nat) (hk : k < s.size) (h0 : 0 < k) (hno : 58 ∉ s.data.toList.take k) (hc : s[k] = 58) (hall : (s.data.toList.take k).all schC = true) (hl : letterI (s[0]'(by omega)).toNat = true) : schemeV s.data.toList = some (low (s.data.toList.take k), s.data.toList.drop (k + 1)) := by
 have e : s.data.toList = s.data.toList.take k ++ 58 :: s.data.toList.drop (k + 1) := by
  have := (List.take_append_drop k s.data.toList).symm
  rw [drop_cons s k hk, hc] at this
  exact this
 have h2 := part_some 58 (s.data.toList.take k) (s.data.toList.drop (k + 1)) hno
 rw [← e] at h2
 unfold schemeV
 rw [h2]
 have h3 : schOk (s.data.toList.take k) = true := by
  obtain ⟨r, er⟩ := list_one s (by omega)
  have e4 : s.data.toList.take k = s[0]'(by omega) :: r.take (k - 1) := by
   rw [er]
   cases k with
   | zero => omega
   | succ m => rfl
  unfold schOk
  rw [hall, Bool.and_true, e4]
  exact hl
 simp only [h3, Bool.and_self, if_true]

def schP (o : Option (List UInt8 × List UInt8)) : Value := .tuple #[.string ⟨(o.getD ([], [])).1.toArray⟩, .string ⟨(o.getD ([], [])).2.toArray⟩, .bool o.isSome]

set_option maxHeartbeats 2000000 in
set_option maxRecDepth 100000 in
theorem rscheme_any (s : ByteArray) (w : World) (hs : s.size ≤ 4000000000) :
  Calls Tryz.prog 198 #[.string s] w fun e w' => e = .returned (schP (schemeV s.data.toList)) ∧ Below w.heap.size w w' := by
 go_enter Tryz.func198, Tryz.ntmps198
 go_wp2
 go_loop [5] (fun i => ∃ k : Nat, k ≤ s.size ∧ i = .int .i64 k ∧ 58 ∉ s.data.toList.take k ∧ (s.data.toList.take k).all schC = true ∧ (0 < k → ∃ h : 0 < s.size, letterI (s[0]'h).toNat = true)) (fun i => s.size - (intOf i).toNat)
 case atStart => exact ⟨0, Nat.zero_le _, rfl, by simp, rfl, fun h => absurd h (by omega)⟩
 case round =>
  obtain ⟨k, hk, rfl, hno, hall, hlet⟩ := hrel
  have HNo := hid hno
  have HAl := hid hall
  have HLe := hid hlet
  clear hno hall hlet
  by_cases hlt : k < s.size
  ·have hl : k < s.data.toList.length := by simpa using hlt
   have HT := hid (take_snoc s k hlt)
   by_cases h58 : s[k] = 58
   ·have e58 : ((s[k].toNat : Int) == 58) = true := byte_is h58
    by_cases hk0 : 0 < k
    ·obtain ⟨hz, hlz⟩ := HLe.out hk0
     have HN := hid (scheme_hit s k hlt hk0 HNo.out h58 HAl.out hlz)
     have hk0' : (0 : Int) < (k : Int) := by omega
     have hk1 : (k : Int) ≤ (s.size : Int) := by omega
     have hk2 : (k : Int) + 1 ≤ (s.size : Int) := by omega
     have hk3 : (0 : Int) ≤ (k : Int) + 1 := by omega
     have hk4 : (0 : Int) ≤ (k : Int) + 1 ∧ (k : Int) + 1 ≤ (s.size : Int) := by omega
     have hk5 : IntKind.i64.wrap ((k : Int) + 1) = (k : Int) + 1 := by rw [IntKind.wrap_i64]; omega
     obtain ⟨A, hA⟩ : ∃ A : ByteArray, A = s.extract 0 k := ⟨_, rfl⟩
     have hAl : A.data.toList = s.data.toList.take k := by rw [hA, Lib.extract_data]; simp
     have hAs : A.size ≤ 4000000000 := by rw [hA]; simp <;> omega
     have HLo : Hid (∀ w : World, Calls Tryz.prog 79 #[.string (s.extract 0 k)] w fun e w' => e = .returned (.string ⟨(low (s.data.toList.take k)).toArray⟩) ∧ Below w.heap.size w w') := fun w => by
      have := rlower_any A w (by omega)
      rw [hAl] at this
      rw [← hA]; exact this
     clear h58 hlz hA hAl
     go_wp2
     go_region_with (go_at_call 79; refine (HLo.out _).mono ?_; rintro e w2 ⟨rfl, hb2⟩)
     all_goals
      have hb02 : Below w.heap.size w w2 := by first | exact hb2 | exact (Below.refl _ w).drew.trans hb2
      have HB2 := hid hb02
      clear hb2 hb02
      go_wp2
      go_ret3
      refine ⟨?_, HB2.out⟩
      rw [HN.out]
      refine ret_ssb rfl ?_ rfl
      first | exact ba_ext (by rw [extract_drop]; rfl) | exact ba_ext (by rw [show ((k : Int) + 1).toNat = k + 1 by omega, extract_drop]; rfl)
    ·obtain rfl : k = 0 := by omega
     have hL : letterI (s[0].toNat : Int) = false := by rw [h58]; rfl
     have HN := hid (show schemeV s.data.toList = none by
      obtain ⟨r, er⟩ := list_one s hlt
      rw [er]; exact scheme_first _ _ hL)
     clear h58 hk0
     go_wp2_with (go_at_call 147; refine (rletter_any _ _).mono ?_; rintro e w' ⟨rfl, rfl⟩; rw [hL])
     go_ret3
     rw [HN.out]
     exact ⟨rfl, Below.refl _ _⟩
   ·have e58 : ((s[k].toNat : Int) == 58) = false := byte_not h58
    have HNo2 := hid (show 58 ∉ s.data.toList.take (k + 1) by
     rw [HT.out, List.mem_append]
     rintro (h | h)
     ·exact HNo.out h
     ·exact h58 (List.mem_singleton.1 h).symm)
    by_cases hk0 : 0 < k
    ·have hkz : ((k : Int) == 0) = false := by rw [beq_eq_false_iff_ne]; omega
     by_cases hb : schC s[k] = true
     ·have HA2 := hid (all_snoc s k hlt HAl.out hb)
      have HL2 := hid (HLe.out hk0)
      rcases schR_yes hb with hL | ⟨hL, hD⟩ | ⟨hL, hD, hd⟩
      ·clear hb h58
       go_wp2_with (go_at_call 147; refine (rletter_any _ _).mono ?_; rintro e w' ⟨rfl, rfl⟩; rw [hL])
       go_round
       case rel => exact ⟨k + 1, by omega, by go_num, HNo2.out, HA2.out, fun _ => HL2.out⟩
       case measure => simp [intOf]; omega
      ·clear hb h58
       go_wp2_with (first | (go_at_call 147; refine (rletter_any _ _).mono ?_; rintro e w' ⟨rfl, rfl⟩; rw [hL]) | (go_at_call 148; refine (rdigit_any _ _).mono ?_; rintro e w' ⟨rfl, rfl⟩; rw [hD]))
       go_round
       case rel => exact ⟨k + 1, by omega, by go_num, HNo2.out, HA2.out, fun _ => HL2.out⟩
       case measure => simp [intOf]; omega
      ·clear hb h58
       rcases hd with hd | ⟨hd, hd2⟩ | ⟨hd, hd2, hd3⟩
       all_goals
        go_wp2_with (first | (go_at_call 147; refine (rletter_any _ _).mono ?_; rintro e w' ⟨rfl, rfl⟩; rw [hL]) | (go_at_call 148; refine (rdigit_any _ _).mono ?_; rintro e w' ⟨rfl, rfl⟩; rw [hD]))
        go_round
        case rel => exact ⟨k + 1, by omega, by go_num, HNo2.out, HA2.out, fun _ => HL2.out⟩
        case measure => simp [intOf]; omega
     ·have hb' : schC s[k] = false := by simpa using hb
      have HN := hid (scheme_bad s.data.toList k hl HNo.out h58 hb')
      obtain ⟨hL, hD, h43, h45, h46⟩ := schR_no hb'
      clear hb hb' h58
      go_wp2_with (first | (go_at_call 147; refine (rletter_any _ _).mono ?_; rintro e w' ⟨rfl, rfl⟩; rw [hL]) | (go_at_call 148; refine (rdigit_any _ _).mono ?_; rintro e w' ⟨rfl, rfl⟩; rw [hD]))
      go_ret3
      rw [HN.out]
      exact ⟨rfl, Below.refl _ _⟩
    ·obtain rfl : k = 0 := by omega
     by_cases hL : letterI (s[0].toNat : Int) = true
     ·have HA2 := hid (all_snoc s 0 hlt HAl.out (letter_sch hL))
      have HL2 := hid (show ∃ h : 0 < s.size, letterI (s[0]'h).toNat = true from ⟨hlt, hL⟩)
      clear h58 hk0
      go_wp2_with (go_at_call 147; refine (rletter_any _ _).mono ?_; rintro e w' ⟨rfl, rfl⟩; rw [hL])
      go_round
      case rel => exact ⟨1, by omega, by go_num, HNo2.out, HA2.out, fun _ => HL2.out⟩
      case measure => simp [intOf]; omega
     ·have hL' : letterI (s[0].toNat : Int) = false := by simpa using hL
      have HN := hid (show schemeV s.data.toList = none by
       obtain ⟨r, er⟩ := list_one s hlt
       rw [er]; exact scheme_first _ _ hL')
      clear h58 hk0 hL
      go_wp2_with (go_at_call 147; refine (rletter_any _ _).mono ?_; rintro e w' ⟨rfl, rfl⟩; rw [hL'])
      go_ret3
      rw [HN.out]
      exact ⟨rfl, Below.refl _ _⟩
  ·have hno := HNo.out
   rw [take_all s k hlt] at hno
   have HN := hid (scheme_end _ hno)
   clear hno
   go_wp2
   go_ret3
   rw [HN.out]
   exact ⟨rfl, Below.refl _ _⟩

end Go.Proofs.YtpopljcmkbchcaaGreatDoor

namespace Go.Proofs.YtpopljcmkbchcaaGreatDoor
open Go.RowKit

theorem ext_one (t : ByteArray) (h : 0 < t.size) : t.data.toList = t[0] :: (t.extract 1 t.size).data.toList := by
 obtain ⟨r, hr⟩ := list_one t h
 rw [extract_drop, hr]; rfl

theorem ext_last (t : ByteArray) (h : t.size - 1 < t.size) : t.data.toList = (t.extract 0 (t.size - 1)).data.toList ++ [t[t.size - 1]] := by
 have h1 : t.size - 1 + 1 = t.size := by omega
 have h2 := take_snoc t (t.size - 1) h
 rw [h1] at h2
 rw [Lib.extract_data]
 simp only [List.drop_zero, Nat.sub_zero]
 rw [← h2, List.take_of_length_le (by simp)]

theorem clean_of (l A M B : List UInt8) (h : l = A ++ M ++ B) (hA : A.all wsC = true) (hB : B.all wsC = true) (hM : M = [] ∨ ((∃ c r, M = c :: r ∧ wsC c = false) ∧ (∃ c r, M = r ++ [c] ∧ wsC c = false))) : cleanV l = keepC M := by
 rw [clean_keep, h, trim_parts A M B hA hB hM]

def strZ (v : Value) : Nat := match v with | .string t => t.size | _ => 0

set_option maxHeartbeats 4000000 in
set_option maxRecDepth 100000 in
theorem rclean_any (s : ByteArray) (w : World) (hs : s.size ≤ 1000000) :
  Calls Tryz.prog 197 #[.string s] w fun e w' => e = .returned (.string ⟨(cleanV s.data.toList).toArray⟩) ∧ w = w' := by
 go_enter Tryz.func197, Tryz.ntmps197
 go_wp2
 go_loop [0] (fun ts => ∃ (t : ByteArray) (A : List UInt8), ts = .string t ∧ s.data.toList = A ++ t.data.toList ∧ A.all wsC = true ∧ t.size ≤ s.size) (fun ts => strZ ts)
 case atStart => exact ⟨s, [], rfl, rfl, rfl, Nat.le_refl _⟩
 case round =>
  obtain ⟨t, A, rfl, hsA, hA, hts⟩ := hrel
  have HS := hid hsA
  have HA := hid hA
  clear hsA hA
  by_cases hgo : ∃ h : 0 < t.size, wsC t[0] = true
  ·obtain ⟨h0, hbl⟩ := hgo
   have h0' : (0 : Int) < (t.size : Int) := by omega
   have HE := hid (ext_one t h0)
   have hle : (t[0].toNat : Int) ≤ 32 := ws_yes hbl
   have HW := hid hbl
   have h1 : (1 : Int) ≤ (t.size : Int) := by omega
   clear hbl
   go_wp2
   go_round
   case rel =>
    refine ⟨_, A ++ [t[0]], rfl, ?_, ?_, ?_⟩
    ·rw [HS.out, HE.out]; simp
    ·rw [List.all_append, HA.out]; simp [HW.out]
    ·simp; omega
   case measure => simp [strZ]; omega
  ·have hx : t.size = 0 ∨ ∃ h : 0 < t.size, wsC t[0] = false := by
    by_cases h0 : 0 < t.size
    ·right
     refine ⟨h0, ?_⟩
     have := fun h => hgo ⟨h0, h⟩
     simpa using this
    ·left; omega
   have HF := hid (show t.data.toList = [] ∨ ∃ c r, t.data.toList = c :: r ∧ wsC c = false by
    rcases hx with h0 | ⟨h0, h1⟩
    ·exact .inl (List.eq_nil_of_length_eq_zero (by simpa using h0))
    ·exact .inr ⟨_, _, ext_one t h0, h1⟩)
   have hx2 : ¬ (0 : Int) < (t.size : Int) ∨ ((0 : Int) < (t.size : Int) ∧ ∃ h : 0 < t.size, ¬ (t[0].toNat : Int) ≤ 32) := by
    rcases hx with h0 | ⟨h0, h1⟩
    ·exact .inl (by omega)
    ·exact .inr ⟨by omega, h0, by have := ws_no h1; omega⟩
   clear hgo hx
   rcases hx2 with h0 | ⟨h0, h00, hbl⟩
   all_goals
    go_wp2
    clear h0
    try clear hbl
    try clear h00
    go_loop [0] (fun us => ∃ (u : ByteArray) (B : List UInt8), us = .string u ∧ t.data.toList = u.data.toList ++ B ∧ B.all wsC = true ∧ u.size ≤ s.size) (fun us => strZ us)
    case atStart => exact ⟨t, [], rfl, by simp, rfl, hts⟩
    case round =>
     obtain ⟨u, B, rfl, htB, hB, hus⟩ := hrel
     have HT := hid htB
     have HB := hid hB
     clear htB hB
     by_cases hgo : ∃ h : u.size - 1 < u.size, wsC u[u.size - 1] = true
     ·obtain ⟨hlt, hbl⟩ := hgo
      have HL := hid (ext_last u hlt)
      have hu0 : (0 : Int) < (u.size : Int) := by omega
      have hle : (u[u.size - 1].toNat : Int) ≤ 32 := ws_yes hbl
      have HW := hid hbl
      clear hbl
      go_wp2
      go_round
      case rel =>
       refine ⟨_, u[u.size - 1] :: B, rfl, ?_, ?_, ?_⟩
       ·rw [HT.out]; conv => lhs; rw [HL.out]
        simp
       ·rw [List.all_cons, HB.out]; simp [HW.out]
       ·simp; omega
      case measure => simp [strZ]; omega
     ·have hx : u.size = 0 ∨ ∃ h : u.size - 1 < u.size, wsC u[u.size - 1] = false := by
       by_cases h0 : u.size - 1 < u.size
       ·right
        refine ⟨h0, ?_⟩
        have := fun h => hgo ⟨h0, h⟩
        simpa using this
       ·left; omega
      have HC := hid (show cleanV s.data.toList = keepC u.data.toList by
       refine clean_of _ A u.data.toList B ?_ HA.out HB.out ?_
       ·rw [HS.out, HT.out]; simp
       ·rcases hx with h0 | ⟨h0, h1⟩
        ·exact .inl (List.eq_nil_of_length_eq_zero (by simpa using h0))
        ·refine .inr ⟨?_, _, _, ext_last u h0, h1⟩
         have hul : u.data.toList ≠ [] := by
          intro e
          have h6 : u.size = 0 := by rw [Lib.size_eq, e]; rfl
          omega
         rcases HF.out with hn | ⟨c, r, hc, hwc⟩
         ·have h5 := HT.out
          rw [hn] at h5
          exact absurd (List.append_eq_nil_iff.1 h5.symm).1 hul
         ·have h5 := HT.out
          rw [hc] at h5
          cases hu : u.data.toList with
          | nil => exact absurd hu hul
          | cons c' r' =>
           rw [hu] at h5
           simp only [List.cons_append, List.cons.injEq] at h5
           exact ⟨c', r', rfl, by rw [← h5.1]; exact hwc⟩)
      have hx2 : ¬ (0 : Int) < (u.size : Int) ∨ ((0 : Int) < (u.size : Int) ∧ ∃ h : u.size - 1 < u.size, ¬ (u[u.size - 1].toNat : Int) ≤ 32) := by
       rcases hx with h0 | ⟨h0, h1⟩
       ·exact .inl (by omega)
       ·exact .inr ⟨by omega, h0, by have := ws_no h1; omega⟩
      clear hgo hx
      rcases hx2 with hu0 | ⟨hu0, hlt, hbl⟩
      all_goals
       go_wp2
       have HU0 := hid hu0
       clear hu0
       try clear hbl
       try clear hlt
       go_loop [3, 4] (fun o i => ∃ (k : Nat) (O : ByteArray), k ≤ u.size ∧ i = .int .i64 k ∧ o = .string O ∧ O.data.toList = keepC (u.data.toList.take k) ∧ O.size ≤ k) (fun _ i => u.size - (intOf i).toNat)
       case atStart => exact ⟨0, ⟨#[]⟩, Nat.zero_le _, rfl, rfl, rfl, Nat.le_refl _⟩
       case round =>
        obtain ⟨k, O, hk, rfl, rfl, hO, hOs⟩ := hrel
        have HO := hid hO
        clear hO
        by_cases hlt2 : k < u.size
        ·by_cases hemp : (0 : Int) < (u.size : Int)
         case neg => exact absurd hlt2 (by omega)
         case pos =>
          have hkk : (k : Int) < (u.size : Int) := by omega
          have HTk := hid (take_snoc u k hlt2)
          by_cases he : eyeC u[k] = true
          ·have HO2 := hid (show O.data.toList = keepC (u.data.toList.take (k + 1)) by rw [HTk.out, keepC_yes _ _ he]; exact HO.out)
           have hd := eye_yes he
           clear he
           rcases hd with hd | ⟨hd, hd2⟩ | ⟨hd, hd2, hd3⟩
           all_goals
            go_wp2
            go_round
            case rel => exact ⟨k + 1, O, by omega, by go_num, rfl, HO2.out, by omega⟩
            case measure => simp [intOf]; omega
          ·have he' : eyeC u[k] = false := by simpa using he
           have HO2 := hid (show (O ++ u.extract k (k + 1)).data.toList = keepC (u.data.toList.take (k + 1)) by
            rw [HTk.out, keepC_no _ _ he', ← HO.out, ByteArray.data_append, Array.toList_append, extract_at u k hlt2])
           have HS2 := hid (show (O ++ u.extract k (k + 1)).size ≤ k + 1 by simp; omega)
           obtain ⟨hd1, hd2, hd3⟩ := eye_no he'
           clear he he'
           have hOb : O.size ≤ 1000000 := by omega
           have hUb : u.size ≤ 1000000 := by omega
           have hkb : k ≤ 1000000 := by omega
           go_wp2
           all_goals first | go_round | (exfalso; have h9 := HU0.out; omega)
           all_goals first | exact ⟨k + 1, _, by omega, by go_num, rfl, HO2.out, HS2.out⟩ | (simp [intOf]; omega)
        ·have hkk : ¬ (k : Int) < (u.size : Int) := by omega
         have HN := hid (show O = ⟨(cleanV s.data.toList).toArray⟩ by
          rw [HC.out]
          refine ba_ext ?_
          rw [HO.out, List.take_of_length_le (by simp; omega)])
         go_wp2
         go_ret
         rw [← HN.out]
         exact ⟨rfl, rfl⟩

end Go.Proofs.YtpopljcmkbchcaaGreatDoor
