/-
  Walks and plain facts that this claim leans on, put together out of 5 texts: Uf, Ug, Wr, Uh, Ui.
-/
import Derived.Test.YtgoefeaopegdoaaGreatDoorProg
import Derived.Test.YtgoefeaopegdoaaGreatDoorQa1
import Derived.Test.YtgoefeaopegdoaaGreatDoorQa3
import Derived.Test.YtgoefeaopegdoaaGreatDoorQa4
import Derived.Test.YtgoefeaopegdoaaGreatDoorQa6
import Derived.Test.YtgoefeaopegdoaaGreatDoorQa7
import Derived.Test.YtgoefeaopegdoaaGreatDoorQa8
import Derived.Test.YtgoefeaopegdoaaGreatDoorQa9
import Derived.Lib.IndexMore
import Derived.Lib.Join
import Derived.Lib.LastIndexByte
import Derived.WalkKit
import Derived.Lib.Strings
import Derived.Lib.UnsafeStr
import Derived.Laws.IdiomStrings
import Derived.Laws.AppendOwn
import Derived.Laws.BitsAllLaws
import Derived.Lib.Bytealg
import Derived.Lib.BufferMore
import Derived.Shelf.Strings.Builder1
import Derived.Shelf.Strings.Builder2
import Derived.Shelf.Strings.OnBuilder
import Derived.Shelf.Strings.Trim
import Derived.Shelf.Small.Utf8
import Derived.Shelf.Small.Bits
import Derived.Shelf.Small.Strs
import Derived.Shelf.Small.Wraps
import Derived.Shelf.Strings.BuilderF
import Derived.Shelf.Strings.BuilderK
import Derived.Shelf.Strings.BuilderRune
import Derived.Shelf.Utf8.AppendRune
import Derived.Shelf.Utf8.AppendRunePlain
import Derived.Shelf.Strings.Builder2Cap
import Derived.Shelf.Strconv.Itoa0
import Derived.Shelf.Strconv.Itoa1
import Derived.Shelf.LaysM
import Derived.Shelf.Strconv.Itoa2
import Derived.Shelf.Strconv.Itoa3
import Derived.Shelf.Strings.Search1
import Derived.Shelf.Strings.Search2
import Derived.Shelf.Strings.Search3
import Derived.Shelf.Strings.Cut
import Derived.Shelf.Strings.Count
import Derived.Shelf.Strings.Shaped
import Derived.Shelf.Strings.LastIndex
import Derived.Shelf.Strings.Prefix
import Derived.Shelf.Strings.Split
import Derived.Shelf.Strings.Replace
import Derived.Shelf.Strings.Runes
import Derived.Shelf.Strings.IndexAny
import Derived.Shelf.Strings.AsciiSet
import Derived.Shelf.Strings.IndexAnyAll
import Derived.Shelf.Unicode.DecodeSlow
import Derived.Ground.Names2Prog
import Derived.Shelf.Slices.Clone
import Derived.Shelf.Slices.In.SortNone
import Derived.Ground.SlgnProg
import Derived.Shelf.SlicesE.Clone
import Derived.Scope
import Derived.ScopeJumps
import Derived.WalkMore
import Derived.Lib.IndexAny
import Derived.Lib.Replace
import Derived.Lib.TrimByte
import Derived.Lib.ItoaNum
import Derived.Laws.RangeAny
import Derived.Lib.DecodeN
import Derived.Lib.OthersKept
import Derived.Deep.LoopGhost
import Derived.RegionTactic
import Derived.Deep.RegionWith
import Derived.Deep.QuietTactic
import Derived.BigQuiet
import Derived.Laws.BytesString
import Derived.WalkSpells
import Derived.WalkLawsBesides
import Derived.Lib.AppendIntMem
import Derived.Lib.SmallJoins
import Derived.WalkSmall
import Derived.OwnWalk
import Derived.Laws.CopyOwn
import Derived.Laws.ResultCell
import Derived.Deep.MidRow
import Derived.Lib.FrozenHead2
import Derived.Lib.Builder
import Derived.Deep.RegionLaw
set_option linter.unusedSimpArgs false
set_option linter.unusedVariables false

namespace Go.Proofs.YtgoefeaopegdoaaGreatDoor
open Go.RowKit

set_option maxHeartbeats 400000 in
theorem readQuery_any (s : ByteArray) (special : Bool) (w : World) (hs : s.size ≤ 4000000000) :
  Calls Tryz.prog 250 #[.string s, .bool special] w fun e w' => e = .returned (.string ⟨(querV special s.data.toList).toArray⟩) ∧ Below w.heap.size w w' := by
 cases special with
 | true =>
  have HN := hid (show querV true s.data.toList = pct 4 s.data.toList from rfl)
  go_enter Tryz.func250, Tryz.ntmps250
  go_wp2_with (go_at_call 247; refine (percent_any _ _ _ (by omega)).mono ?_; rintro e w1 ⟨rfl, hb1⟩)
  go_ret
  rw [HN.out]; exact ⟨rfl, hb1⟩
 | false =>
  have HN := hid (show querV false s.data.toList = pct 3 s.data.toList from rfl)
  go_enter Tryz.func250, Tryz.ntmps250
  go_wp2_with (go_at_call 247; refine (percent_any _ _ _ (by omega)).mono ?_; rintro e w1 ⟨rfl, hb1⟩)
  go_ret
  rw [HN.out]; exact ⟨rfl, hb1⟩

set_option maxHeartbeats 400000 in
theorem dots_any (s : ByteArray) (w : World) (hs : s.size ≤ 4000000000) :
  Calls Tryz.prog 279 #[.string s] w fun e w' => e = .returned (.int .i64 (dotsV s.data.toList : Nat)) ∧ Below w.heap.size w w' := by
 obtain ⟨U, hU⟩ : ∃ U : ByteArray, U = ⟨(unpct s.data.toList).toArray⟩ := ⟨_, rfl⟩
 have hUl : U.data.toList = unpct s.data.toList := by rw [hU]
 have HU := hid hU
 clear hU
 by_cases h1 : unpct s.data.toList = [46]
 ·have HN := hid (show dotsV s.data.toList = 1 by rw [dotsV, if_pos h1])
  have e1 := beq_yes U [46] (hUl.trans h1)
  clear h1 hUl
  go_enter Tryz.func279, Tryz.ntmps279
  go_wp2_with (go_at_call 131; refine (unpercent_any _ _ (by omega)).mono ?_; rintro e w1 ⟨rfl, hb1⟩; rw [← HU.out])
  go_ret
  rw [HN.out]; exact ⟨rfl, hb1⟩
 ·have e1 := beq_no U [46] (fun h => h1 (hUl.symm.trans h))
  by_cases h2 : unpct s.data.toList = [46, 46]
  ·have HN := hid (show dotsV s.data.toList = 2 by rw [dotsV, if_neg h1, if_pos h2])
   have e2 := beq_yes U [46, 46] (hUl.trans h2)
   clear h1 h2 hUl
   go_enter Tryz.func279, Tryz.ntmps279
   go_wp2_with (go_at_call 131; refine (unpercent_any _ _ (by omega)).mono ?_; rintro e w1 ⟨rfl, hb1⟩; rw [← HU.out])
   go_ret
   rw [HN.out]; exact ⟨rfl, hb1⟩
  ·have e2 := beq_no U [46, 46] (fun h => h2 (hUl.symm.trans h))
   have HN := hid (show dotsV s.data.toList = 0 by rw [dotsV, if_neg h1, if_neg h2])
   clear h1 h2 hUl
   go_enter Tryz.func279, Tryz.ntmps279
   go_wp2_with (go_at_call 131; refine (unpercent_any _ _ (by omega)).mono ?_; rintro e w1 ⟨rfl, hb1⟩; rw [← HU.out])
   go_ret
   rw [HN.out]; exact ⟨rfl, hb1⟩

theorem intV_range (l : List UInt8) : 0 ≤ intV l ∧ intV l ≤ 9223372036854775807 := by
 unfold intV
 split
 ·rename_i h
  simp only [Bool.and_eq_true] at h
  exact numI_range l h.1
 ·omega

theorem portV_bad {own : Int} {t : List UInt8} (h0 : t ≠ []) (h : intOk t = false) : portV own t = none := by rw [portV, if_neg h0, h]; rfl

theorem portV_big {own : Int} {t : List UInt8} (h0 : t ≠ []) (h : 65535 < intV t) : portV own t = none := by
 rw [portV, if_neg h0, if_neg]
 simp; intro _; omega

theorem portV_own {own : Int} {t : List UInt8} (h0 : t ≠ []) (h : intOk t = true) (h1 : intV t ≤ 65535) (h2 : intV t = own) : portV own t = some (-1) := by
 rw [portV, if_neg h0, h, if_pos (by simp [h1]), if_pos h2]

theorem portV_num {own : Int} {t : List UInt8} (h0 : t ≠ []) (h : intOk t = true) (h1 : intV t ≤ 65535) (h2 : intV t ≠ own) : portV own t = some (intV t) := by
 rw [portV, if_neg h0, h, if_pos (by simp [h1]), if_neg h2]

set_option maxHeartbeats 400000 in
theorem readPort_any (s : ByteArray) (own : Int) (w : World) (hs : s.size ≤ 4000000000) :
  Calls Tryz.prog 277 #[.string s, .int .i64 own] w fun e w' => e = .returned (.tuple #[.int .i64 ((portV own s.data.toList).getD 0), .bool (portV own s.data.toList).isSome]) ∧ w = w' := by
 by_cases h0 : s.data.toList = []
 ·have HN := hid (show portV own s.data.toList = some (-1) by rw [portV, if_pos h0])
  have he := empty_yes s h0
  clear h0
  go_enter Tryz.func277, Tryz.ntmps277
  go_wp2
  go_ret2
  rw [HN.out]; exact ⟨rfl, rfl⟩
 ·have he := empty_no s h0
  have hr := intV_range s.data.toList
  by_cases h1 : intOk s.data.toList = true
  ·by_cases h2 : 65535 < intV s.data.toList
   ·have HN := hid (portV_big (own := own) h0 h2)
    clear h0
    go_enter Tryz.func277, Tryz.ntmps277
    go_wp2_with (go_at_call 155; refine (int_any _ _ (by omega)).mono ?_; rintro e w' ⟨rfl, rfl⟩; rw [h1])
    go_ret2
    rw [HN.out]; exact ⟨rfl, rfl⟩
   ·have h2' : intV s.data.toList ≤ 65535 := by omega
    by_cases h3 : intV s.data.toList = own
    ·have HN := hid (portV_own h0 h1 h2' h3)
     clear h0 h2
     go_enter Tryz.func277, Tryz.ntmps277
     go_wp2_with (go_at_call 155; refine (int_any _ _ (by omega)).mono ?_; rintro e w' ⟨rfl, rfl⟩; rw [h1])
     go_ret2
     rw [HN.out]; exact ⟨rfl, rfl⟩
    ·have HN := hid (portV_num h0 h1 h2' h3)
     have h3' : (intV s.data.toList == own) = false := by rw [beq_eq_false_iff_ne]; exact h3
     clear h0 h2 h3
     go_enter Tryz.func277, Tryz.ntmps277
     go_wp2_with (go_at_call 155; refine (int_any _ _ (by omega)).mono ?_; rintro e w' ⟨rfl, rfl⟩; rw [h1])
     go_ret2
     rw [HN.out]; exact ⟨rfl, rfl⟩
  ·have h1' : intOk s.data.toList = false := by simpa using h1
   have HN := hid (portV_bad (own := own) h0 h1')
   clear h0 h1
   go_enter Tryz.func277, Tryz.ntmps277
   go_wp2_with (go_at_call 155; refine (int_any _ _ (by omega)).mono ?_; rintro e w' ⟨rfl, rfl⟩; rw [h1'])
   go_ret2
   rw [HN.out]; exact ⟨rfl, rfl⟩

end Go.Proofs.YtgoefeaopegdoaaGreatDoor

namespace Go.Proofs.YtgoefeaopegdoaaGreatDoor
open Go.RowKit

def cutS (l : List UInt8) : List UInt8 × List UInt8 := (schemeV l).getD ([], l)

theorem cutS_none {l : List UInt8} (h : ((part 58 l).2.2 && schOk (part 58 l).1) = false) : cutS l = ([], l) := by rw [cutS, schemeV, h]; rfl

theorem cutS_some {l : List UInt8} (h : ((part 58 l).2.2 && schOk (part 58 l).1) = true) : cutS l = (low (part 58 l).1, (part 58 l).2.1) := by rw [cutS, schemeV, if_pos h]; rfl

theorem sch_yes {c : UInt8} (h : schC c = true) : letterI c.toNat = true ∨ (letterI c.toNat = false ∧ (48 : Int) ≤ c.toNat ∧ (c.toNat : Int) ≤ 57) ∨ (letterI c.toNat = false ∧ (c.toNat : Int) < 48 ∧ (((c.toNat : Int) != 43) = false ∨ (((c.toNat : Int) != 43) = true ∧ ((c.toNat : Int) != 45) = false) ∨ (((c.toNat : Int) != 43) = true ∧ ((c.toNat : Int) != 45) = true ∧ ((c.toNat : Int) != 46) = false))) := by
 have key : ∀ n < 256, schC (UInt8.ofNat n) = true → letterI (UInt8.ofNat n).toNat = true ∨ (letterI (UInt8.ofNat n).toNat = false ∧ (48 : Int) ≤ (UInt8.ofNat n).toNat ∧ ((UInt8.ofNat n).toNat : Int) ≤ 57) ∨ (letterI (UInt8.ofNat n).toNat = false ∧ ((UInt8.ofNat n).toNat : Int) < 48 ∧ ((((UInt8.ofNat n).toNat : Int) != 43) = false ∨ ((((UInt8.ofNat n).toNat : Int) != 43) = true ∧ (((UInt8.ofNat n).toNat : Int) != 45) = false) ∨ ((((UInt8.ofNat n).toNat : Int) != 43) = true ∧ (((UInt8.ofNat n).toNat : Int) != 45) = true ∧ (((UInt8.ofNat n).toNat : Int) != 46) = false))) := by decide +kernel
 have := key c.toNat c.toNat_lt
 have e : UInt8.ofNat c.toNat = c := by simp
 rw [e] at this
 exact this h

theorem sch_no {c : UInt8} (h : schC c = false) : letterI c.toNat = false ∧ ((c.toNat : Int) < 48 ∨ (48 ≤ (c.toNat : Int) ∧ 57 < (c.toNat : Int))) ∧ ((c.toNat : Int) != 43) = true ∧ ((c.toNat : Int) != 45) = true ∧ ((c.toNat : Int) != 46) = true := by
 have key : ∀ n < 256, schC (UInt8.ofNat n) = false → letterI (UInt8.ofNat n).toNat = false ∧ (((UInt8.ofNat n).toNat : Int) < 48 ∨ (48 ≤ ((UInt8.ofNat n).toNat : Int) ∧ 57 < ((UInt8.ofNat n).toNat : Int))) ∧ (((UInt8.ofNat n).toNat : Int) != 43) = true ∧ (((UInt8.ofNat n).toNat : Int) != 45) = true ∧ (((UInt8.ofNat n).toNat : Int) != 46) = true := by decide +kernel
 have := key c.toNat c.toNat_lt
 have e : UInt8.ofNat c.toNat = c := by simp
 rw [e] at this
 exact this h

theorem schOk_head (s : ByteArray) (h : 0 < s.size) (h2 : letterI s[0].toNat = false) : schOk s.data.toList = false := by
 obtain ⟨r, e⟩ := list_one s h
 rw [e]; show (letterI s[0].toNat && _) = false; rw [h2]; rfl

theorem schOk_bad (s : ByteArray) (k : Nat) (h : k < s.size) (h2 : schC s[k] = false) : schOk s.data.toList = false := by
 unfold schOk; rw [all_at s k h h2, Bool.and_false]

theorem schOk_all (s : ByteArray) (h : 0 < s.size) (h2 : letterI s[0].toNat = true) (h3 : s.data.toList.all schC = true) : schOk s.data.toList = true := by
 obtain ⟨r, e⟩ := list_one s h
 unfold schOk; rw [h3, Bool.and_true, e]; exact h2

set_option maxHeartbeats 2000000 in
set_option maxRecDepth 100000 in
theorem cutScheme_any (s : ByteArray) (w : World) (hg : Gd w) (hs : s.size ≤ 4000000000) :
  Calls Tryz.prog 273 #[.string s] w fun e w' => e = .returned (.tuple #[.string ⟨(cutS s.data.toList).1.toArray⟩, .string ⟨(cutS s.data.toList).2.toArray⟩]) ∧ Below w.heap.size w w' := by
 have HG := hid hg
 clear hg
 have hl := part_le 58 s.data.toList
 obtain ⟨A, hA⟩ : ∃ A : ByteArray, A = ⟨(part 58 s.data.toList).1.toArray⟩ := ⟨_, rfl⟩
 obtain ⟨R, hR⟩ : ∃ R : ByteArray, R = ⟨(part 58 s.data.toList).2.1.toArray⟩ := ⟨_, rfl⟩
 obtain ⟨ok, hok⟩ : ∃ ok, ok = (part 58 s.data.toList).2.2 := ⟨_, rfl⟩
 have hAl : A.data.toList = (part 58 s.data.toList).1 := by rw [hA]
 have hRl : R.data.toList = (part 58 s.data.toList).2.1 := by rw [hR]
 have hAs : A.size ≤ 4000000000 := by rw [hA]; exact size_le hl.1 hs
 have HCut : Hid (∀ w : World, Gd w → Calls Tryz.prog 76 #[.string s, .string ⟨#[58]⟩] w fun e w' => e = .returned (.tuple #[.string A, .string R, .bool ok]) ∧ Below w.heap.size w w') := fun w hg => by
  have := cut_any s ⟨#[58]⟩ w hg hs
  rw [show (⟨#[58]⟩ : ByteArray).data.toList = [58] from rfl, cut_part, ← hA, ← hR, ← hok] at this
  exact this
 have HNo : Hid ((ok && schOk A.data.toList) = false → cutS s.data.toList = ([], s.data.toList)) := fun h => cutS_none (by rw [← hAl, ← hok]; exact h)
 have HYes : Hid ((ok && schOk A.data.toList) = true → cutS s.data.toList = (low A.data.toList, R.data.toList)) := fun h => by
  rw [cutS_some (by rw [← hAl, ← hok]; exact h), ← hAl, ← hRl]
 clear hA hR hok hl hAl hRl
 cases hok2 : ok with
 | false =>
  subst hok2
  have HN := hid (HNo.out rfl)
  go_enter Tryz.func273, Tryz.ntmps273
  go_wp2_with (go_at_call 76; refine (HCut.out _ HG.out).mono ?_; rintro e w1 ⟨rfl, hb1⟩)
  go_ret2
  rw [HN.out]; exact ⟨ret_ss rfl (Lib.mk_data s).symm, hb1⟩
 | true =>
  subst hok2
  by_cases h0 : A.data.toList = []
  ·have HN := hid (HNo.out (by rw [h0]; rfl))
   have he := empty_yes A h0
   clear h0
   go_enter Tryz.func273, Tryz.ntmps273
   go_wp2_with (go_at_call 76; refine (HCut.out _ HG.out).mono ?_; rintro e w1 ⟨rfl, hb1⟩)
   go_ret2
   rw [HN.out]; exact ⟨ret_ss rfl (Lib.mk_data s).symm, hb1⟩
  ·have he := empty_no A h0
   have hA0 : 0 < A.size := by
    rw [Lib.size_eq]; exact List.length_pos_iff.2 h0
   have hA0' : (0 : Int) < (A.size : Int) := by omega
   clear h0
   by_cases h1 : letterI A[0].toNat = true
   ·have H1 := hid h1
    go_enter Tryz.func273, Tryz.ntmps273
    go_wp2_with (first | (go_at_call 76; refine (HCut.out _ HG.out).mono ?_; rintro e w1 ⟨rfl, hb1⟩) | (go_at_call 312; refine (uletter_any _ _).mono ?_; rintro e w' ⟨rfl, rfl⟩; rw [H1.out]))
    clear h1
    go_loop [30] (fun i => ∃ k : Nat, k ≤ A.size ∧ i = .int .i64 k ∧ (A.data.toList.take k).all schC = true) (fun i => A.size - (intOf i).toNat)
    case atStart => exact ⟨0, Nat.zero_le _, rfl, rfl⟩
    case round =>
     obtain ⟨k, hk, rfl, hall⟩ := hrel
     have HA := hid hall
     clear hall
     by_cases hlt : k < A.size
     ·have HT := hid (take_snoc A k hlt)
      have hc8 : A[k].toNat < 256 := A[k].toNat_lt
      by_cases hb : schC A[k] = true
      ·have HB := hid hb
       rcases sch_yes hb with hL | ⟨hL, hd1, hd2⟩ | ⟨hL, hd0, hd⟩
       ·clear hb
        go_wp2_with (go_at_call 312; refine (uletter_any _ _).mono ?_; rintro e w' ⟨rfl, rfl⟩; rw [hL])
        go_round
        case rel => exact ⟨k + 1, by omega, by go_num, by rw [HT.out, List.all_append, HA.out]; simp [HB.out]⟩
        case measure => simp [intOf]; omega
       ·have hz1 : decide ((A[k].toNat : Int) < 48) = false := decide_eq_false (by omega)
        have hz2 : decide ((57 : Int) < (A[k].toNat : Int)) = false := decide_eq_false (by omega)
        clear hb hd1 hd2
        go_wp2_with (go_at_call 312; refine (uletter_any _ _).mono ?_; rintro e w' ⟨rfl, rfl⟩; rw [hL])
        go_round
        case rel => exact ⟨k + 1, by omega, by go_num, by rw [HT.out, List.all_append, HA.out]; simp [HB.out]⟩
        case measure => simp [intOf]; omega
       ·have hz1 : decide ((A[k].toNat : Int) < 48) = true := decide_eq_true hd0
        clear hb hd0
        rcases hd with hd | ⟨hd, hd2⟩ | ⟨hd, hd2, hd3⟩
        all_goals
         go_wp2_with (go_at_call 312; refine (uletter_any _ _).mono ?_; rintro e w' ⟨rfl, rfl⟩; rw [hL])
         go_round
         case rel => exact ⟨k + 1, by omega, by go_num, by rw [HT.out, List.all_append, HA.out]; simp [HB.out]⟩
         case measure => simp [intOf]; omega
      ·have hb' : schC A[k] = false := by simpa using hb
       have HN := hid (HNo.out (by rw [schOk_bad A k hlt hb', Bool.and_false]))
       obtain ⟨hL, hd, h43, h45, h46⟩ := sch_no hb'
       clear hb hb'
       rcases hd with hd | ⟨hd1, hd2⟩
       ·have hz1 : decide ((A[k].toNat : Int) < 48) = true := decide_eq_true hd
        clear hd
        go_wp2_with (go_at_call 312; refine (uletter_any _ _).mono ?_; rintro e w' ⟨rfl, rfl⟩; rw [hL])
        go_ret2
        rw [HN.out]; exact ⟨ret_ss rfl (Lib.mk_data s).symm, hb1⟩
       ·have hz1 : decide ((A[k].toNat : Int) < 48) = false := decide_eq_false (by omega)
        have hz2 : decide ((57 : Int) < (A[k].toNat : Int)) = true := decide_eq_true hd2
        clear hd1 hd2
        go_wp2_with (go_at_call 312; refine (uletter_any _ _).mono ?_; rintro e w' ⟨rfl, rfl⟩; rw [hL])
        go_ret2
        rw [HN.out]; exact ⟨ret_ss rfl (Lib.mk_data s).symm, hb1⟩
     ·have ha := HA.out
      rw [take_all A k hlt] at ha
      have HN := hid (HYes.out (by rw [schOk_all A hA0 H1.out ha]; rfl))
      clear ha
      go_wp2_with (go_at_call 89; refine (lower_any _ _ (by omega)).mono ?_; rintro e w2 ⟨rfl, hb2⟩)
      go_ret2
      rw [HN.out]
      exact ⟨ret_ss rfl (Lib.mk_data R).symm, below2 hb1 hb2⟩
   ·have h1' : letterI A[0].toNat = false := by simpa using h1
    have HN := hid (HNo.out (by rw [schOk_head A hA0 h1']; rfl))
    clear h1
    go_enter Tryz.func273, Tryz.ntmps273
    go_wp2_with (first | (go_at_call 76; refine (HCut.out _ HG.out).mono ?_; rintro e w1 ⟨rfl, hb1⟩) | (go_at_call 312; refine (uletter_any _ _).mono ?_; rintro e w' ⟨rfl, rfl⟩; rw [h1']))
    go_ret2
    rw [HN.out]; exact ⟨ret_ss rfl (Lib.mk_data s).symm, hb1⟩

end Go.Proofs.YtgoefeaopegdoaaGreatDoor

namespace Go.Proofs.YtgoefeaopegdoaaGreatDoor
open Go.RowKit

theorem ownsRow_same {w w' : World} {B : Nat} {e : TypeId} {size : Nat} {v : Value} {n : Nat} {xs : List Value} (h : w.ownsRow B e size v n xs) (hk : ∀ g, v.ownBlock = some g → w'.heap[g]? = w.heap[g]?) : w'.ownsRow B e size v n xs := by
 refine ⟨h.1, ?_⟩
 rcases h.2 with hn | ⟨g, cap, cur, rfl, hb, hgg, rest⟩
 ·exact .inl hn
 ·exact .inr ⟨g, cap, cur, rfl, hb, (hk g rfl).trans hgg, rest⟩

theorem ownsRow_kind {w : World} {B : Nat} {e : TypeId} {size : Nat} {v : Value} {n : Nat} {xs : List Value} (h : w.ownsRow B e size v n xs) (g : Nat) (hg : v.ownBlock = some g) : ∃ cur, w.heap[g]? = some (.cells cur e (0, 0)) := by
 rcases h.2 with ⟨rfl, _⟩ | ⟨g', cap, cur, rfl, hb, hgg, rest⟩
 ·simp [Value.ownBlock] at hg
 ·simp [Value.ownBlock] at hg
  subst hg
  exact ⟨cur, hgg⟩

theorem ownsRow_lower {w : World} {B B' : Nat} {e : TypeId} {size : Nat} {v : Value} {n : Nat} {xs : List Value} (h : w.ownsRow B e size v n xs) (hB : B' ≤ B) : w.ownsRow B' e size v n xs := by
 refine ⟨h.1, ?_⟩
 rcases h.2 with hn | ⟨g, cap, cur, rfl, hb, rest⟩
 ·exact .inl hn
 ·exact .inr ⟨g, cap, cur, rfl, Nat.le_trans hB hb, rest⟩

def AppAt (w : World) (v v' : Value) (n : Nat) : Prop := ∃ g cap, v' = .slice (some ⟨g, 0, none⟩) n cap ∧ (v.ownBlock = some g ∨ w.heap.size ≤ g)

theorem run_append_where {P : Program} (w : World) (base : Nat) (t ty e : TypeId) (i : TypeInfo) (z : Value) (size bytes : Nat) (ht : P.underlying t = some (.slice e)) (hi : P.info? e = some i) (hz : i.zero = some z)
  (hsize : i.size = size) (hby : i.bytes = bytes) (hzs : z.cells.size = size) (hsz : 0 < size)
  (v : Value) (n : Nat) (xs : List Value) (hown : w.ownsRow base e size v n xs)
  (a : Addr) (m c : Nat) (news : List Value) (hl : news.length = m * size) (hnews : ∀ j u, news[j]? = some u → w.cell? (a.add j) = some u) (h1 : ∀ u ∈ news, u.oneCell' = true)
  (h63 : n + m ≤ maxLen) (hbytes : (n + m) * bytes ≤ 140737488355328) (hbase : base ≤ w.heap.size) (hm : 0 < m) :
  ∃ v' w', (Builtin.append_ #[t, t] ty #[v, .slice (some a) m c]).run P w = .ok v' w' ∧ w'.ownsRow base e size v' (n + m) (xs ++ news) ∧ w.grownBy w' v.ownBlock ∧
   AppAt w v v' (n + m) := by
 obtain ⟨v', w', hr, ho, hg, _⟩ := run_append_own (P := P) w base t ty e i z size bytes ht hi hz hsize hby hzs hsz v n xs hown a m c news hl hnews h1 h63 hbytes hbase
 refine ⟨v', w', hr, ho, hg, ?_⟩
 subst hsize
 subst hby
 have hML : n + m ≤ 9223372036854775807 := by simp only [maxLen] at h63; omega
 rcases hown.2 with ⟨rfl, rfl⟩ | ⟨g, cap, cur, rfl, hbg, hgg, hnc, hcm, hcs, htake⟩
 ·have hr2 := run_append_nil (P := P) w t ty e i z ht hi hz a m c news hl hnews hm (by omega) (by have hb := hbytes; simp only [Nat.zero_add] at hb; omega)
  rw [hr2] at hr
  injection hr with e1 e2
  exact ⟨w.heap.size, _, by rw [← e1]; simp; rfl, .inr (Nat.le_refl _)⟩
 ·by_cases hroom : n + m ≤ cap
  ·have hfit : n * i.size + news.length ≤ cur.size := by rw [hl, hcs, ← Nat.add_mul]; exact Nat.mul_le_mul_right _ hroom
   have hr2 := run_append_room (P := P) w t ty e i ht hi g n cap cur hgg a m c news hl hnews h1 hroom hfit
   rw [hr2] at hr
   injection hr with e1 e2
   exact ⟨g, cap, e1.symm, .inl rfl⟩
  ·have hr2 := run_append_grow (P := P) w t ty e i z ht hi hz ⟨g, 0, none⟩ n cap xs hown.1 (hown.cells (g := g) rfl) a m c news hl hnews (by omega) (by omega) (growslice_fits (by omega) hbytes)
   rw [hr2] at hr
   injection hr with e1 e2
   exact ⟨w.heap.size, _, e1.symm, .inr (Nat.le_refl _)⟩

theorem wp_append_where {P : Program} (w : World) {o : Oper} {a : Act} {K : Act → World → Prop} {Q : Exit → Act → World → Prop} (s x : Operand) (t : TypeId)
  (ho : o.op = .call { callee := .builtin .append, args := #[s, x], argTypes := #[t, t] })
  (base : Nat) (e : TypeId) (i : TypeInfo) (z : Value) (size bytes : Nat) (ht : P.underlying t = some (.slice e)) (hi : P.info? e = some i) (hz : i.zero = some z)
  (hsize : i.size = size) (hby : i.bytes = bytes) (hzs : z.cells.size = size) (hsz : 0 < size)
  (v : Value) (n : Nat) (xs : List Value) (hs : a.eval s = v) (hown : w.ownsRow base e size v n xs)
  (ad : Addr) (m c : Nat) (news : List Value) (hx : a.eval x = .slice (some ad) m c) (hl : news.length = m * size) (hnews : ∀ j u, news[j]? = some u → w.cell? (ad.add j) = some u) (h1 : ∀ u ∈ news, u.oneCell' = true)
  (h63 : n + m ≤ maxLen) (hbytes : (n + m) * bytes ≤ 140737488355328) (hbase : base ≤ w.heap.size) (hm : 0 < m)
  (h : ∀ v' w', w'.ownsRow base e size v' (n + m) (xs ++ news) → w.grownBy w' v.ownBlock → AppAt w v v' (n + m) → K (a.put o.dst v') w') : o.wp P a w K Q := by
 obtain ⟨v', w', hr, h2, h3, h4⟩ := run_append_where (P := P) w base t o.type e i z size bytes ht hi hz hsize hby hzs hsz v n xs hown ad m c news hl hnews h1 h63 hbytes hbase hm
 unfold Oper.wp
 simp [execOp, ho, resolve, invoke, builtin, hs, hx, hr, Result.andThen]
 exact h v' w' h2 h3 h4

theorem wpList_append_where {P : Program} (w : World) {ops : Array Oper} {rest : List Oper} {o : Oper} {a : Act} {Q : Exit → Act → World → Prop} (hgd : o.guard = none) (s x : Operand) (t : TypeId)
  (ho : o.op = .call { callee := .builtin .append, args := #[s, x], argTypes := #[t, t] })
  (base : Nat) (e : TypeId) (i : TypeInfo) (z : Value) (size bytes : Nat) (ht : P.underlying t = some (.slice e)) (hi : P.info? e = some i) (hz : i.zero = some z)
  (hsize : i.size = size) (hby : i.bytes = bytes) (hzs : z.cells.size = size) (hsz : 0 < size)
  (v : Value) (n : Nat) (xs : List Value) (hs : a.eval s = v) (hown : w.ownsRow base e size v n xs)
  (ad : Addr) (m c : Nat) (news : List Value) (hx : a.eval x = .slice (some ad) m c) (hl : news.length = m * size) (hnews : ∀ j u, news[j]? = some u → w.cell? (ad.add j) = some u) (h1 : ∀ u ∈ news, u.oneCell' = true)
  (h63 : n + m ≤ maxLen) (hbytes : (n + m) * bytes ≤ 140737488355328) (hbase : base ≤ w.heap.size) (hm : 0 < m)
  (h : ∀ v' w', w'.ownsRow base e size v' (n + m) (xs ++ news) → w.grownBy w' v.ownBlock → AppAt w v v' (n + m) → wpList P ops Q rest (a.put o.dst v') w') : wpList P ops Q (o :: rest) a w :=
 wpList_plain hgd fun _ hK => wp_append_where w s x t ho base e i z size bytes ht hi hz hsize hby hzs hsz v n xs hs hown ad m c news hx hl hnews h1 h63 hbytes hbase hm fun v' w' h2 h3 h4 => hK _ _ (h v' w' h2 h3 h4)

end Go.Proofs.YtgoefeaopegdoaaGreatDoor

namespace Go.Proofs.YtgoefeaopegdoaaGreatDoor
open Go.RowKit

theorem dropWhile_all (p : UInt8 → Bool) (A M : List UInt8) (hA : A.all p = true) : (A ++ M).dropWhile p = M.dropWhile p := by
 rw [List.dropWhile_append_of_pos]
 intro x hx
 exact List.all_eq_true.1 hA x hx

theorem trim_parts (A M B : List UInt8) (hA : A.all wsC = true) (hB : B.all wsC = true) (hM : M = [] ∨ ((∃ c r, M = c :: r ∧ wsC c = false) ∧ (∃ c r, M = r ++ [c] ∧ wsC c = false))) : trimV (A ++ M ++ B) = M := by
 unfold trimV
 rcases hM with rfl | ⟨⟨c, r, h1, h2⟩, ⟨d, q, h3, h4⟩⟩
 ·rw [List.append_nil, dropWhile_all wsC A B hA]
  have : B.dropWhile wsC = [] := by
   have := dropWhile_all wsC B [] hB
   rw [List.append_nil] at this
   exact this
  rw [this]; rfl
 ·rw [List.append_assoc, dropWhile_all wsC A _ hA]
  have e1 : (M ++ B).dropWhile wsC = M ++ B := by rw [h1, List.cons_append, List.dropWhile_cons, h2]; rfl
  have hB' : B.reverse.all wsC = true := by rw [List.all_reverse]; exact hB
  have e2 : M.reverse.dropWhile wsC = M.reverse := by rw [h3, List.reverse_append, List.reverse_singleton, List.singleton_append, List.dropWhile_cons, h4]; rfl
  rw [e1, List.reverse_append, dropWhile_all wsC _ _ hB', e2, List.reverse_reverse]

theorem trim_of (l : List UInt8) (k m : Nat) (hkm : k ≤ m) (hm : m ≤ l.length) (hA : (l.take k).all wsC = true) (hB : (l.drop m).all wsC = true) (hM : k = m ∨ ((∃ h : k < l.length, wsC l[k] = false) ∧ (∃ h : m - 1 < l.length, wsC l[m - 1] = false))) : trimV l = (l.drop k).take (m - k) := by
 have e : l = l.take k ++ (l.drop k).take (m - k) ++ l.drop m := by
  have h1 : (l.drop k).drop (m - k) = l.drop m := by rw [List.drop_drop]; congr 1; omega
  rw [List.append_assoc, ← h1, List.take_append_drop, List.take_append_drop]
 have := trim_parts (l.take k) ((l.drop k).take (m - k)) (l.drop m) hA hB ?_
 ·rw [← e] at this; exact this
 ·by_cases hk : k = m
  ·left; rw [hk]; simp
  ·rcases hM with h | ⟨⟨h1, h2⟩, ⟨h3, h4⟩⟩
   ·exact absurd h hk
   ·right
    constructor
    ·refine ⟨l[k], (l.drop (k + 1)).take (m - k - 1), ?_, h2⟩
     rw [List.drop_eq_getElem_cons h1, show m - k = (m - k - 1) + 1 by omega, List.take_succ_cons]
     rfl
    ·refine ⟨l[m - 1], (l.drop k).take (m - 1 - k), ?_, h4⟩
     rw [show m - k = (m - 1 - k) + 1 by omega, List.take_add_one]
     congr 1
     rw [List.getElem?_drop, show k + (m - 1 - k) = m - 1 by omega, List.getElem?_eq_getElem h3]; rfl

def keepC (l : List UInt8) : List UInt8 := l.filter (fun c => !eyeC c)

theorem keepC_le (l : List UInt8) : (keepC l).length ≤ l.length := List.length_filter_le _ _

theorem keepC_yes (l : List UInt8) (c : UInt8) (h : eyeC c = true) : keepC (l ++ [c]) = keepC l := by simp [keepC, h]

theorem keepC_no (l : List UInt8) (c : UInt8) (h : eyeC c = false) : keepC (l ++ [c]) = keepC l ++ [c] := by simp [keepC, h]

theorem clean_keep (l : List UInt8) : cleanV l = keepC (trimV l) := rfl

theorem clean_le (l : List UInt8) : (cleanV l).length ≤ l.length := by
 rw [clean_keep]
 refine Nat.le_trans (keepC_le _) ?_
 unfold trimV
 rw [List.length_reverse]
 refine Nat.le_trans (List.dropWhile_suffix wsC).length_le ?_
 rw [List.length_reverse]
 exact (List.dropWhile_suffix wsC).length_le

theorem ws_yes {c : UInt8} (h : wsC c = true) : (c.toNat : Int) ≤ 32 := by
 have := of_decide_eq_true h; omega

theorem ws_no {c : UInt8} (h : wsC c = false) : 32 < (c.toNat : Int) := by
 have := of_decide_eq_false h; omega

theorem eye_no {c : UInt8} (h : eyeC c = false) : ((c.toNat : Int) != 9) = true ∧ ((c.toNat : Int) != 10) = true ∧ ((c.toNat : Int) != 13) = true := by
 have key : ∀ n < 256, eyeC (UInt8.ofNat n) = false → (((UInt8.ofNat n).toNat : Int) != 9) = true ∧ (((UInt8.ofNat n).toNat : Int) != 10) = true ∧ (((UInt8.ofNat n).toNat : Int) != 13) = true := by decide +kernel
 have := key c.toNat c.toNat_lt
 have e : UInt8.ofNat c.toNat = c := by simp
 rw [e] at this
 exact this h

theorem eye_yes {c : UInt8} (h : eyeC c = true) : ((c.toNat : Int) != 9) = false ∨ (((c.toNat : Int) != 9) = true ∧ ((c.toNat : Int) != 10) = false) ∨ (((c.toNat : Int) != 9) = true ∧ ((c.toNat : Int) != 10) = true ∧ ((c.toNat : Int) != 13) = false) := by
 have key : ∀ n < 256, eyeC (UInt8.ofNat n) = true → (((UInt8.ofNat n).toNat : Int) != 9) = false ∨ ((((UInt8.ofNat n).toNat : Int) != 9) = true ∧ (((UInt8.ofNat n).toNat : Int) != 10) = false) ∨ ((((UInt8.ofNat n).toNat : Int) != 9) = true ∧ (((UInt8.ofNat n).toNat : Int) != 10) = true ∧ (((UInt8.ofNat n).toNat : Int) != 13) = false) := by decide +kernel
 have := key c.toNat c.toNat_lt
 have e : UInt8.ofNat c.toNat = c := by simp
 rw [e] at this
 exact this h

theorem rowIs_same {w w' : World} {g : Nat} {e : TypeId} {l : List UInt8} (h : rowIs w g e l) (hb : w'.heap[g]? = w.heap[g]?) : rowIs w' g e l := by
 unfold rowIs at *
 rw [hb]; exact h

end Go.Proofs.YtgoefeaopegdoaaGreatDoor

namespace Go.Proofs.YtgoefeaopegdoaaGreatDoor
open Go.RowKit

theorem all_snoc {p : UInt8 → Bool} (s : ByteArray) (k : Nat) (h : k < s.size) (ha : (s.data.toList.take k).all p = true) (hb : p s[k] = true) : (s.data.toList.take (k + 1)).all p = true := by
 rw [take_snoc s k h, List.all_append, ha]; simp [hb]

theorem all_cons {p : UInt8 → Bool} (s : ByteArray) (k : Nat) (h : k < s.size) (ha : (s.data.toList.drop (k + 1)).all p = true) (hb : p s[k] = true) : (s.data.toList.drop k).all p = true := by
 rw [drop_cons s k h, List.all_cons, ha, hb]; rfl

set_option maxHeartbeats 4000000 in
set_option maxRecDepth 100000 in
theorem cleaned_any (s : ByteArray) (w : World) (hs : s.size ≤ 4000000000) :
    Calls Tryz.prog 272 #[.string s] w fun e w' => e = .returned (.string ⟨(cleanV s.data.toList).toArray⟩) ∧ Below w.heap.size w w' := by
  obtain ⟨i0, hi, hz0, hz1, hz2⟩ := info_parts infoByte
  go_enter Tryz.func272, Tryz.ntmps272
  go_wp2
  go_loop [3] (fun i => ∃ k : Nat, k ≤ s.size ∧ i = .int .i64 k ∧ (s.data.toList.take k).all wsC = true) (fun i => s.size - (intOf i).toNat)
  case atStart => exact ⟨0, Nat.zero_le _, rfl, rfl⟩
  case round =>
    obtain ⟨k, hk, rfl, hall⟩ := hrel
    have HA := hid hall
    clear hall
    have hcase : (∃ h : k < s.size, wsC s[k] = true) ∨ (∃ h : k < s.size, wsC s[k] = false) ∨ k = s.size := by
      by_cases h : k < s.size
      · cases hb : wsC s[k]
        · exact .inr (.inl ⟨h, hb⟩)
        · exact .inl ⟨h, hb⟩
      · exact .inr (.inr (by omega))
    rcases hcase with ⟨hlt, hb⟩ | hcase
    · have HN := hid (all_snoc s k hlt HA.out hb)
      have hb2 := ws_yes hb
      clear hb
      go_wp2
      go_round
      case rel => exact ⟨k + 1, by omega, by go_num, HN.out⟩
      case measure => simp [intOf]; omega
    · have HX : Hid (s.size ≤ k ∨ ∃ h : k < s.data.toList.length, wsC s.data.toList[k] = false) := by
        rcases hcase with ⟨h, hb⟩ | h
        · exact .inr ⟨by simpa using h, hb⟩
        · exact .inl (by omega)
      have hgo : (∃ hlt : k < s.size, (32 : Int) < (s[k].toNat : Int)) ∨ ¬ (k : Int) < (s.size : Int) := by
        rcases hcase with ⟨h, hb⟩ | h
        · exact .inl ⟨h, ws_no hb⟩
        · exact .inr (by omega)
      clear hcase
      rcases hgo with ⟨hlt, hb2⟩ | hlt
      all_goals
        go_wp2
        go_loop [4] (fun i => ∃ m : Nat, k ≤ m ∧ m ≤ s.size ∧ i = .int .i64 m ∧ (s.data.toList.drop m).all wsC = true) (fun i => (intOf i).toNat)
        case atStart => exact ⟨s.size, hk, Nat.le_refl _, rfl, by rw [List.drop_of_length_le (by simp)]; rfl⟩
        case round =>
          obtain ⟨m, hkm, hms, rfl, hall⟩ := hrel
          have HB := hid hall
          clear hall
          have hcase : (∃ (m' : Nat) (h : m' < s.size), m = m' + 1 ∧ k ≤ m' ∧ wsC s[m'] = true) ∨ (∃ (m' : Nat) (h : m' < s.size), m = m' + 1 ∧ k ≤ m' ∧ wsC s[m'] = false) ∨ k = m := by
            by_cases h : k < m
            · have h1 : m - 1 < s.size := by omega
              cases hb : wsC s[m - 1]
              · exact .inr (.inl ⟨m - 1, h1, by omega, by omega, hb⟩)
              · exact .inl ⟨m - 1, h1, by omega, by omega, hb⟩
            · exact .inr (.inr (by omega))
          rcases hcase with ⟨m', hlt, rfl, hkm', hb⟩ | hcase
          · have HN := hid (all_cons s m' hlt HB.out hb)
            have hb3 := ws_yes hb
            have hkm2 : (k : Int) < ((m' : Nat) : Int) + 1 := by omega
            clear hb
            go_wp2
            go_round
            case rel => exact ⟨m', hkm', by omega, by go_num, HN.out⟩
            case measure => simp [intOf]
          · have HY := hid (trim_of s.data.toList k m hkm (by simpa using hms) HA.out HB.out (by
              rcases hcase with ⟨m', h, e, h2, h3⟩ | h
              · rcases HX.out with h4 | h4
                · exact .inl (by omega)
                · subst e
                  exact .inr ⟨h4, by simpa using h, h3⟩
              · exact .inl h))
            have hgo2 : (∃ (m' : Nat) (h : m' < s.size), m = m' + 1 ∧ k ≤ m' ∧ (32 : Int) < (s[m'].toNat : Int)) ∨ k = m := by
              rcases hcase with ⟨m', h, e, h2, h3⟩ | h
              · exact .inl ⟨m', h, e, h2, ws_no h3⟩
              · exact .inr h
            clear hcase
            obtain ⟨n, rfl⟩ : ∃ n, m = k + n := ⟨m - k, by omega⟩
            obtain ⟨T, hT⟩ : ∃ T : ByteArray, s.extract k (k + n) = T := ⟨_, rfl⟩
            have hTl : T.data.toList = trimV s.data.toList := by rw [HY.out, ← hT, Lib.extract_data]
            have hTs : T.size = n := by rw [← hT]; simp; omega
            have HTl := hid hTl
            clear hTl
            have hgo3 : (∃ (m' : Nat) (h : m' < s.size), ((k : Int) + (n : Int) - 1 = (m' : Int)) ∧ (k : Int) < (k : Int) + (n : Int) ∧ (32 : Int) < (s[m'].toNat : Int)) ∨ ¬ (k : Int) < (k : Int) + (n : Int) := by
              rcases hgo2 with ⟨m', h, e, h2, h3⟩ | h
              · exact .inl ⟨m', h, by omega, by omega, h3⟩
              · exact .inr (by omega)
            clear hgo2
            have hkn : (k : Int) + (n : Int) - (k : Int) = (n : Int) := by omega
            have hkn2 : (k : Int) ≤ (k : Int) + (n : Int) := by omega
            have hkn3 : (k : Int) + (n : Int) ≤ (s.size : Int) := by omega
            rcases hgo3 with ⟨m', hlt2, hm1, hkm2, hb3⟩ | hkm2
            all_goals
              first
              | (exfalso; omega)
              | (go_wp2_with (at_make; refine wpList_make_own _ rfl _ _ 113 rfl w.heap.size 5 i0 (.int .u8 0) 1 Tryz.underlying113 hi hz0 hz1 .i64 .i64 _ n rfl rfl rfl (by rw [hz2]; omega) (by unfold maxLen; omega) (Nat.le_refl _) ?_)
                 intro w0 hown0 hgrow0
                 have hb0 : Below w.heap.size w w0 := (Below.refl _ w).grown hgrow0 (Nat.le_refl _) (fun k hk => by simp at hk)
                 have hlt0 := (hown0.lt w.heap.size rfl).2
                 clear hgrow0
                 have hcv := run_bytes_of_string (P := Tryz.prog) w0 9 113 5 T Tryz.underlying9 Tryz.underlying113 Tryz.underlying5
                 have hcap := grownCap_ge w0 T.size 0 5
                 have hr0 := rowIs_bytes w0 5 T (grownCap w0 T.size 0 5) hcap
                 have hb1 : Below w0.heap.size w0 (w0.drew.alloc (.cells (bytesRow T (grownCap w0 T.size 0 5)) 5 ((bytesRow T (grownCap w0 T.size 0 5)).size, (bytesRow T (grownCap w0 T.size 0 5)).size + 1))) := (Below.refl _ w0).drew.alloc (Nat.le_refl _) _
                 have hown1 := (show w0.drew.ownsRow w.heap.size 5 1 (Value.slice (some ⟨w.heap.size, 0, none⟩) 0 n) 0 [] from hown0).alloc (.cells (bytesRow T (grownCap w0 T.size 0 5)) 5 ((bytesRow T (grownCap w0 T.size 0 5)).size, (bytesRow T (grownCap w0 T.size 0 5)).size + 1))
                 generalize (w0.drew.alloc (.cells (bytesRow T (grownCap w0 T.size 0 5)) 5 ((bytesRow T (grownCap w0 T.size 0 5)).size, (bytesRow T (grownCap w0 T.size 0 5)).size + 1))) = w1 at hcv hr0 hb1 hown1
                 generalize grownCap w0 T.size 0 5 = cap at hcv hcap
                 rw [hTs] at hcv
                 go_wp2
                 clear hcv hT
                 go_loopw [5, 43] (fun v i wr => ∃ j : Nat, j ≤ n ∧ i = .int .i64 j ∧ wr.ownsRow w.heap.size 5 1 v (keepC (T.data.toList.take j)).length (Lib.byteCells (keepC (T.data.toList.take j))) ∧ Below w.heap.size w wr ∧ rowIs wr w0.heap.size 5 T.data.toList ∧ v ≠ .slice none 0 0 ∧ v.ownBlock ≠ some w0.heap.size)
                   (fun _ i _ => n - (intOf i).toNat)
                 case atStart =>
                   refine ⟨0, Nat.zero_le _, rfl, hown1, below2 hb0 hb1, hr0, by simp, ?_⟩
                   simp [Value.ownBlock]; omega
                 case round =>
                   obtain ⟨j, hj, rfl, hown, hbw, hr, hnn, hne⟩ := hrel
                   have hle := keepC_le (T.data.toList.take j)
                   have htl : (T.data.toList.take j).length ≤ j := List.length_take_le _ _
                   by_cases hjn : j < n
                   · first
                     | (exfalso; omega)
                     | (have hjT : j < T.size := by omega
                        have hjl : j < T.data.toList.length := by simpa using hjT
                        have HT := hid (take_snoc T j hjT)
                        have hc := hr.cell j hjl
                        have HR := hid hr
                        have HO := hid hown
                        have hcc : T.data.toList[j] = T[j] := rfl
                        rw [hcc] at hc
                        clear hr hown hcc
                        have hc8 : T[j].toNat < 256 := T[j].toNat_lt
                        by_cases he : eyeC T[j] = true
                        · have HK := hid (keepC_yes (T.data.toList.take j) T[j] he)
                          rcases eye_yes he with e1 | ⟨e1, e2⟩ | ⟨e1, e2, e3⟩
                          all_goals
                            clear he
                            go_wp2
                            go_roundw
                            case rel => exact ⟨j + 1, by omega, by go_num, by rw [HT.out, HK.out]; exact HO.out, hbw, HR.out, hnn, hne⟩
                            case measure => simp [intOf]; omega
                        · have he' : eyeC T[j] = false := by simpa using he
                          have HK := hid (keepC_no (T.data.toList.take j) T[j] he')
                          obtain ⟨e1, e2, e3⟩ := eye_no he'
                          have hwr := hbw.size
                          have hg0 : w0.heap.size < wr.heap.size := by
                            obtain ⟨C, fz, hgg, _⟩ := HR.out
                            exact (Array.getElem?_eq_some_iff.1 hgg).1
                          clear he he'
                          go_wp2_with (at_builtin; refine wpList_append_where _ rfl _ _ 113 rfl w.heap.size 5 i0 (.int .u8 0) 1 1 Tryz.underlying113 hi hz0 hz1 hz2 rfl (by decide) _ _ _ rfl (HO.out.alloc _) ⟨wr.heap.size, 0, none⟩ 1 1 [.int .u8 T[j].toNat] rfl rfl ?c1 ?c2 ?c3 ?c4 ?c5 (by decide) ?_)
                          case c1 =>
                            intro q u hq
                            match q, hq with
                            | 0, hq => simp at hq; subst hq; simp [Addr.add]
                          case c2 => intro u hu; simp at hu; subst hu; rfl
                          case c3 => unfold maxLen; omega
                          case c4 => omega
                          case c5 => simp; omega
                          intro v' w2 hown' hgrow hat
                          have HR2 := hid (rowIs_same (w' := w2) HR.out (by
                            rw [hgrow.block w0.heap.size (by simp; omega) (fun e => hne e.symm)]
                            exact ((Below.refl wr.heap.size wr).alloc (Nat.le_refl _) _).block _ hg0))
                          have HO2 := hid hown'
                          have HB2 := hid (show Below w.heap.size w w2 from (hbw.alloc hbw.size _).grown hgrow (by simp; omega) (fun g hg => (HO.out.lt g hg).1))
                          have HAt := hid (show v' ≠ .slice none 0 0 ∧ v'.ownBlock ≠ some w0.heap.size by
                            obtain ⟨g', cap', rfl, hg'⟩ := hat
                            refine ⟨by simp, ?_⟩
                            intro e
                            simp [Value.ownBlock] at e
                            rcases hg' with h | h
                            · exact hne (by rw [h, e])
                            · simp at h; omega)
                          clear hown' hgrow hat
                          go_wp2
                          go_roundw
                          case rel =>
                            refine ⟨j + 1, by omega, by go_num, ?_, HB2.out, HR2.out, HAt.out.1, HAt.out.2⟩
                            rw [HT.out, HK.out, Lib.byteCells_append, byteCells_one]
                            have := HO2.out
                            simpa using this
                          case measure => simp [intOf]; omega)
                   · have hje : j = n := by omega
                     subst hje
                     have hTj : T.data.toList.take j = T.data.toList := List.take_of_length_le (by simp; omega)
                     rw [hTj, HTl.out, ← clean_keep] at hown
                     have hcv2 := run_string_own (P := Tryz.prog) (src := 113) (dst := 9) Tryz.underlying113 Tryz.underlying5 Tryz.underlying9 hown hnn
                     go_wp2
                     go_ret
                     exact ⟨rfl, hbw⟩)

end Go.Proofs.YtgoefeaopegdoaaGreatDoor
