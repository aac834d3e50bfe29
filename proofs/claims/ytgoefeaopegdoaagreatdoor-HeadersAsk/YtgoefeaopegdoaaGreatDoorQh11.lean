/-
  Walks and plain facts that this claim leans on, put together out of 4 texts: Cc, Cd, Ce, Ch.
-/
import Derived.Test.YtgoefeaopegdoaaGreatDoorProg
import Derived.Test.YtgoefeaopegdoaaGreatDoorQh1
import Derived.Test.YtgoefeaopegdoaaGreatDoorQh2
import Derived.Test.YtgoefeaopegdoaaGreatDoorQh3
import Derived.Test.YtgoefeaopegdoaaGreatDoorQh4
import Derived.Test.YtgoefeaopegdoaaGreatDoorQh5
import Derived.Test.YtgoefeaopegdoaaGreatDoorQh6
import Derived.Test.YtgoefeaopegdoaaGreatDoorQh7
import Derived.Test.YtgoefeaopegdoaaGreatDoorQh8
import Derived.Test.YtgoefeaopegdoaaGreatDoorQh10
import Derived.BigRegion
import Derived.Deep.RegionHeld
import Derived.Deep.RegionHeldLaw
import Derived.Lib.IndexAny
import Derived.WalkKit
import Derived.Lib.UnsafeStr
import Derived.Lib.BufferRead
import Derived.Lib.RuneBytes
import Derived.Laws.RangeAny
import Derived.Deep.LoopGhost
import Derived.Maps.OwnSet
import Derived.Maps.OwnOps
import Derived.Maps.AppendAt
import Derived.StringKeys
import Derived.BigQuiet
import Derived.Deep.QuietTactic
import Derived.LoopN
import Derived.RegionTactic
import Derived.Deep.RegionLaw
import Derived.Deep.RegionWith
import Derived.WalkSpells
import Derived.WalkLawsBesides
import Derived.Lib.FieldsP
import Derived.Lib.DecodeN
import Derived.Lib.IndexMore
import Derived.Lib.Join
import Derived.Lib.SmallJoins
import Derived.Laws.CopyOwn
import Derived.Laws.ResultCell
import Derived.Deep.MidRow
import Derived.Laws.OwnMore
import Derived.Below
import Derived.WalkSmall
import Derived.Lib.LaidTab
import Derived.Lib.AppendIntMem
import Derived.Laws.AppendOwn
import Derived.Laws.Runes
import Derived.Lib.OthersKept
import Derived.Lib.FrozenHead2
import Derived.Lib.Builder
import Derived.Lib.AppendStr
import Derived.Lib.Replace
import Derived.Shelf.GgClosure.GivesRunes
import Derived.Laws.BitsAll
import Derived.Laws.Shifts
import Derived.Deep.DeepAppendRoom
import Derived.Laws.IdiomStrings
import Derived.Laws.BytesString
import Derived.Laws.CopyRow
import Derived.Lib.Strings
import Derived.Laws.BitsAllLaws
import Derived.Lib.Bytealg
import Derived.Lib.BufferMore
import Derived.Shelf.Strings.Builder1
import Derived.Shelf.Strings.Builder2
import Derived.Shelf.Strings.OnBuilder
import Derived.Shelf.Strings.Trim
import Derived.Shelf.Small.Utf8
import Derived.Shelf.Small.Bits
import Derived.Shelf.Small.Strs
import Derived.Shelf.Small.Wraps
import Derived.Shelf.Strings.BuilderF
import Derived.Shelf.Strings.BuilderK
import Derived.Shelf.Strings.BuilderRune
import Derived.Shelf.Utf8.AppendRune
import Derived.Shelf.Utf8.AppendRunePlain
import Derived.Shelf.Strings.Builder2Cap
import Derived.Shelf.Strconv.Itoa0
import Derived.Shelf.Strconv.Itoa1
import Derived.Shelf.LaysM
import Derived.Shelf.Strconv.Itoa2
import Derived.Shelf.Strconv.Itoa3
import Derived.Shelf.Strings.Search1
import Derived.Shelf.Strings.Search2
import Derived.Shelf.Strings.Search3
import Derived.Shelf.Strings.Cut
import Derived.Shelf.Strings.Count
import Derived.Shelf.Strings.Shaped
import Derived.Shelf.Strings.LastIndex
import Derived.Shelf.Strings.Prefix
import Derived.Shelf.Strings.Split
import Derived.Shelf.Strings.Replace
import Derived.Shelf.Strings.Runes
import Derived.Shelf.Strings.IndexAny
import Derived.Shelf.Strings.AsciiSet
import Derived.Shelf.Strings.IndexAnyAll
import Derived.Shelf.Unicode.DecodeSlow
import Derived.Ground.Names2Prog
import Derived.Shelf.Slices.Clone
import Derived.Shelf.Slices.In.SortNone
import Derived.Ground.SlgnProg
import Derived.Shelf.SlicesE.Clone
import Derived.Lib.SlTrimSet
import Derived.Shelf.Strings.SlTrimAscii
import Derived.Deep.CutRange
import Derived.Laws.Rows
import Derived.Laws.MakeOwn
import Derived.Deep.WholeRow
import Derived.Laws.AppendOwnNone
set_option linter.unusedSimpArgs false
set_option linter.unusedVariables false

namespace Go.Proofs.YtgoefeaopegdoaaGreatDoor
open Go.RowKit

theorem xint_range (l : List UInt8) : 0 ≤ intV l ∧ intV l ≤ 9223372036854775807 := by
 unfold intV
 split
 ·rename_i h
  simp only [Bool.and_eq_true] at h
  exact numI_range l h.1
 ·omega

theorem ba_nil {A : ByteArray} (h : A.data.toList = []) : A = ⟨#[]⟩ := xext h

set_option maxHeartbeats 4000000 in
set_option maxRecDepth 100000 in
theorem rrange_any (s : ByteArray) (w : World) (hs : s.size ≤ 4000000000) :
  Calls Tryz.prog 48 #[.string s] w fun e w' => e = .returned (.tuple #[.int .i64 (rFrom s.data.toList), .int .i64 (rTo s.data.toList), .bool (rOk s.data.toList)]) ∧ Below w.heap.size w w' := by
 have HOk := hid (rdOk_eq s.data.toList fun x => (xint_range x).1)
 have HBad := hid (show rOk s.data.toList = false → rFrom s.data.toList = 0 ∧ rTo s.data.toList = 0 from fun h => by unfold rFrom rTo; rw [h]; exact ⟨rfl, rfl⟩)
 obtain ⟨U, hU⟩ : ∃ x, x = rUnit s.data.toList := ⟨_, rfl⟩
 have HBg : Hid (∀ w, Calls Tryz.prog 96 #[.string s, .string ⟨#[98, 121, 116, 101, 115, 61]⟩] w fun e w' => e = .returned (.bool U) ∧ w = w') := fun w => by
  rw [hU]
  exact begins_any s ⟨#[98, 121, 116, 101, 115, 61]⟩ w hs (by decide)
 cases U with
 | false =>
  have h : Hid (rOk s.data.toList = false) := by rw [← HOk.out]; unfold rdOk; rw [← hU]; rfl
  clear hU
  go_enter Tryz.func48, Tryz.ntmps48
  go_wp2_with fail
  refine (HBg.out _).mono ?_
  rintro e w0 ⟨rfl, rfl⟩
  go_wp2
  go_ret3
  exact ⟨ret_iib (HBad.out h.out).1.symm (HBad.out h.out).2.symm h.out.symm, Below.refl _ _⟩
 | true =>
  have h6 : 6 ≤ s.size := by
   refine Classical.byContradiction fun hn => ?_
   have := begins_no s ⟨#[98, 121, 116, 101, 115, 61]⟩ (show ¬ (6 ≤ s.size) from hn)
   unfold rUnit at hU
   rw [this] at hU
   cases hU
  have h6' : (6 : Int) ≤ (s.size : Int) := by omega
  obtain ⟨R, hR⟩ : ∃ x : ByteArray, x = s.extract 6 s.size := ⟨_, rfl⟩
  have hRl : R.data.toList = rRest s.data.toList := by
   rw [hR, Lib.extract_data]
   unfold rRest
   rw [← hU]
   simp
   exact List.take_of_length_le (by rw [List.length_drop, ← Lib.size_eq]; omega)
  have hRn : (rRest s.data.toList).length = R.size := by rw [← hRl, ← Lib.size_eq]
  have hRs : R.size ≤ 4000000000 := by rw [hR]; simp; omega
  have HPt := hid (fun X => rpart9_any R 45 X hRs)
  rw [← cut_part, hRl] at HPt
  have hle := xcut_le (rRest s.data.toList) 45
  obtain ⟨A, hA⟩ : ∃ x : ByteArray, x = ⟨(Lib.cut (rRest s.data.toList) [45]).1.toArray⟩ := ⟨_, rfl⟩
  obtain ⟨B, hB⟩ : ∃ x : ByteArray, x = ⟨(Lib.cut (rRest s.data.toList) [45]).2.1.toArray⟩ := ⟨_, rfl⟩
  obtain ⟨D, hD⟩ : ∃ x, x = (Lib.cut (rRest s.data.toList) [45]).2.2 := ⟨_, rfl⟩
  have hAl : A.data.toList = rL s.data.toList := by rw [hA]; rfl
  have hBl : B.data.toList = rR s.data.toList := by rw [hB]; rfl
  have hAs : A.size ≤ 140737488351232 := by rw [hA, xsize]; have h1 := hle.1; omega
  have hBs : B.size ≤ 140737488351232 := by rw [hB, xsize]; have h1 := hle.2; omega
  rw [← hA, ← hB, ← hD] at HPt
  obtain ⟨p, hp⟩ : ∃ x, x = intV A.data.toList := ⟨_, rfl⟩
  obtain ⟨q, hq⟩ : ∃ x, x = intV B.data.toList := ⟨_, rfl⟩
  obtain ⟨po, hpo⟩ : ∃ x, x = intOk A.data.toList := ⟨_, rfl⟩
  obtain ⟨qo, hqo⟩ : ∃ x, x = intOk B.data.toList := ⟨_, rfl⟩
  have HIA := hid (fun X => rint_any A X hAs)
  have HIB := hid (fun X => rint_any B X hBs)
  rw [← hp, ← hpo] at HIA
  rw [← hq, ← hqo] at HIB
  have hp0 : 0 ≤ p ∧ p ≤ 9223372036854775807 := by rw [hp]; exact xint_range _
  have hq0 : 0 ≤ q ∧ q ≤ 9223372036854775807 := by rw [hq]; exact xint_range _
  have HK := hid (show rOk s.data.toList = (D && !(A.data.toList == [] && B.data.toList == []) && (A.data.toList == [] || po) && (B.data.toList == [] || qo) && !(decide (0 ≤ bndV A.data.toList) && decide (0 ≤ bndV B.data.toList) && decide (bndV B.data.toList < bndV A.data.toList))) by
   rw [← HOk.out]
   unfold rdOk bndOk
   rw [← hU, ← hD, ← hAl, ← hBl, ← hpo, ← hqo]
   simp)
  have HF := hid (show rFrom s.data.toList = if rOk s.data.toList then bndV A.data.toList else 0 by unfold rFrom; rw [hAl])
  have HT := hid (show rTo s.data.toList = if rOk s.data.toList then bndV B.data.toList else 0 by unfold rTo; rw [hBl])
  have HR := hid hR
  have hbA : A.data.toList ≠ [] → bndV A.data.toList = p := fun h => by unfold bndV; rw [if_neg h, hp]
  have hbB : B.data.toList ≠ [] → bndV B.data.toList = q := fun h => by unfold bndV; rw [if_neg h, hq]
  have HbA := hid hbA
  have HbB := hid hbB
  clear hU hR hRl hRn hRs hle hA hB hD hAl hBl hAs hBs hp hq hpo hqo hbA hbB HOk
  cases D with
  | false =>
   have h : Hid (rOk s.data.toList = false) := by rw [HK.out]; rfl
   go_enter Tryz.func48, Tryz.ntmps48
   go_wp2_with fail
   refine (HBg.out _).mono ?_
   rintro e w0 ⟨rfl, rfl⟩
   go_wp2_with fail
   rw [← HR.out]
   refine (HPt.out _).mono ?_
   rintro e w1 ⟨rfl, hb1⟩
   go_wp2
   go_ret3
   exact ⟨ret_iib (HBad.out h.out).1.symm (HBad.out h.out).2.symm h.out.symm, hb1⟩
  | true =>
   by_cases ha : A.data.toList = []
   ·obtain rfl := ba_nil ha
    by_cases hb : B.data.toList = []
    ·obtain rfl := ba_nil hb
     have h : Hid (rOk s.data.toList = false) := by rw [HK.out]; rfl
     clear ha hb
     go_enter Tryz.func48, Tryz.ntmps48
     go_wp2_with fail
     refine (HBg.out _).mono ?_
     rintro e w0 ⟨rfl, rfl⟩
     go_wp2_with fail
     rw [← HR.out]
     refine (HPt.out _).mono ?_
     rintro e w1 ⟨rfl, hb1⟩
     go_wp2
     go_ret3
     exact ⟨ret_iib (HBad.out h.out).1.symm (HBad.out h.out).2.symm h.out.symm, hb1⟩
    ·have hb' : (B.toList == []) = false := lst_ne hb
     have HQ := hid (HbB.out hb)
     have HK2 := hid (show rOk s.data.toList = qo by
      rw [HK.out, HQ.out]
      have h1 : (B.data.toList == []) = false := by rw [beq_eq_false_iff_ne]; exact hb
      rw [h1]
      cases qo <;> rfl)
     have HF2 := hid (show qo = true → rFrom s.data.toList = -1 ∧ rTo s.data.toList = q from fun h => by rw [HF.out, HT.out, HK2.out, h, HQ.out]; exact ⟨rfl, rfl⟩)
     clear ha hb HK HbA HbB
     cases qo
     all_goals
      go_enter Tryz.func48, Tryz.ntmps48
      go_wp2_with fail
      refine (HBg.out _).mono ?_
      rintro e w0 ⟨rfl, rfl⟩
      go_wp2_with fail
      rw [← HR.out]
      refine (HPt.out _).mono ?_
      rintro e w1 ⟨rfl, hb1⟩
      go_wp2_with fail
      refine (HIB.out _).mono ?_
      rintro e w2 ⟨rfl, rfl⟩
      go_wp2
      go_ret3
      first
       | exact ⟨ret_iib (HBad.out HK2.out).1.symm (HBad.out HK2.out).2.symm HK2.out.symm, hb1⟩
       | exact ⟨ret_iib (HF2.out trivial).1.symm (HF2.out trivial).2.symm HK2.out.symm, hb1⟩
       | exact ⟨ret_iib HF2.out.1.symm HF2.out.2.symm HK2.out.symm, hb1⟩
       | exact ⟨ret_iib (HF2.out rfl).1.symm (HF2.out rfl).2.symm HK2.out.symm, hb1⟩
   ·have ha' : (A.toList == []) = false := lst_ne ha
    have HP := hid (HbA.out ha)
    by_cases hb : B.data.toList = []
    ·obtain rfl := ba_nil hb
     have HK2 := hid (show rOk s.data.toList = po by
      rw [HK.out, HP.out]
      have h1 : (A.data.toList == []) = false := by rw [beq_eq_false_iff_ne]; exact ha
      rw [h1]
      cases po <;> simp [bndV])
     have HF2 := hid (show po = true → rFrom s.data.toList = p ∧ rTo s.data.toList = -1 from fun h => by rw [HF.out, HT.out, HK2.out, h, HP.out]; exact ⟨rfl, rfl⟩)
     clear ha hb HK HbA HbB
     cases po
     all_goals
      go_enter Tryz.func48, Tryz.ntmps48
      go_wp2_with fail
      refine (HBg.out _).mono ?_
      rintro e w0 ⟨rfl, rfl⟩
      go_wp2_with fail
      rw [← HR.out]
      refine (HPt.out _).mono ?_
      rintro e w1 ⟨rfl, hb1⟩
      go_wp2_with fail
      refine (HIA.out _).mono ?_
      rintro e w2 ⟨rfl, rfl⟩
      go_wp2
      go_ret3
      first
       | exact ⟨ret_iib (HBad.out HK2.out).1.symm (HBad.out HK2.out).2.symm HK2.out.symm, hb1⟩
       | exact ⟨ret_iib (HF2.out trivial).1.symm (HF2.out trivial).2.symm HK2.out.symm, hb1⟩
       | exact ⟨ret_iib HF2.out.1.symm HF2.out.2.symm HK2.out.symm, hb1⟩
       | exact ⟨ret_iib (HF2.out rfl).1.symm (HF2.out rfl).2.symm HK2.out.symm, hb1⟩
    ·have hb' : (B.toList == []) = false := lst_ne hb
     have HQ := hid (HbB.out hb)
     have HK2 := hid (show rOk s.data.toList = (po && qo && !decide (q < p)) by
      rw [HK.out, HP.out, HQ.out]
      have h1 : (A.data.toList == []) = false := by rw [beq_eq_false_iff_ne]; exact ha
      have h2 : (B.data.toList == []) = false := by rw [beq_eq_false_iff_ne]; exact hb
      rw [h1, h2]
      have h3 : decide (0 ≤ p) = true := by simpa using hp0.1
      have h4 : decide (0 ≤ q) = true := by simpa using hq0.1
      rw [h3, h4]
      cases po <;> cases qo <;> rfl)
     have HF2 := hid (show rOk s.data.toList = true → rFrom s.data.toList = p ∧ rTo s.data.toList = q from fun h => by rw [HF.out, HT.out, h, HP.out, HQ.out]; exact ⟨rfl, rfl⟩)
     clear ha hb HK HbA HbB
     by_cases hqp : q < p
     ·have HK4 := hid (show rOk s.data.toList = false by rw [HK2.out]; simp [hqp])
      clear HK2
      cases po <;> cases qo
      all_goals
       go_enter Tryz.func48, Tryz.ntmps48
       go_wp2_with fail
       refine (HBg.out _).mono ?_
       rintro e w0 ⟨rfl, rfl⟩
       go_wp2_with fail
       rw [← HR.out]
       refine (HPt.out _).mono ?_
       rintro e w1 ⟨rfl, hb1⟩
       go_wp2_with fail
       refine (HIA.out _).mono ?_
       rintro e w2 ⟨rfl, rfl⟩
       go_wp2_with fail
       refine (HIB.out _).mono ?_
       rintro e w2 ⟨rfl, rfl⟩
       go_wp2
       go_ret3
       exact ⟨ret_iib (HBad.out HK4.out).1.symm (HBad.out HK4.out).2.symm HK4.out.symm, hb1⟩
     ·have HK4 := hid (show rOk s.data.toList = (po && qo) by rw [HK2.out]; simp [hqp])
      clear HK2
      cases po <;> cases qo
      all_goals
       go_enter Tryz.func48, Tryz.ntmps48
       go_wp2_with fail
       refine (HBg.out _).mono ?_
       rintro e w0 ⟨rfl, rfl⟩
       go_wp2_with fail
       rw [← HR.out]
       refine (HPt.out _).mono ?_
       rintro e w1 ⟨rfl, hb1⟩
       go_wp2_with fail
       refine (HIA.out _).mono ?_
       rintro e w2 ⟨rfl, rfl⟩
       go_wp2_with fail
       refine (HIB.out _).mono ?_
       rintro e w2 ⟨rfl, rfl⟩
       go_wp2
       go_ret3
       have HK3 := HK4.out
       simp at HK3
       first
        | exact ⟨ret_iib (HBad.out HK3).1.symm (HBad.out HK3).2.symm HK3.symm, hb1⟩
        | exact ⟨ret_iib (HF2.out HK3).1.symm (HF2.out HK3).2.symm HK3.symm, hb1⟩

end Go.Proofs.YtgoefeaopegdoaaGreatDoor

namespace Go.Proofs.YtgoefeaopegdoaaGreatDoor
open Go.RowKit

def langS : ByteArray := ⟨#[32, 42, 44, 45, 46, 59, 61]⟩

def langTo (c : Int) (m : Nat) : Bool := letterI c || digitI c || (langS.data.toList.take m).any fun x => c == (x.toNat : Int)

theorem langTo_zero (c : Int) : langTo c 0 = (letterI c || digitI c) := by simp [langTo]

theorem langTo_succ (c : Int) (m : Nat) (h : m < langS.size) : langTo c (m + 1) = (langTo c m || c == (langS[m].toNat : Int)) := by
 have e : langS.data.toList.take (m + 1) = langS.data.toList.take m ++ [langS[m]] := take_snoc langS m h
 unfold langTo
 rw [e, List.any_append]
 simp [Bool.or_assoc]

theorem langTo_all (c : Int) : langTo c 7 = langI c := by
 unfold langTo langI langS
 simp only [List.take, List.any]
 cases letterI c <;> cases digitI c <;> simp [Bool.or_assoc, Bool.or_comm, Bool.or_left_comm]

set_option maxHeartbeats 4000000 in
set_option maxRecDepth 100000 in
theorem rlanguage_any (s : ByteArray) (w : World) (hs : s.size ≤ 140737488351232) :
  Calls Tryz.prog 110 #[.string s] w fun e w' => e = .returned (.bool (langV s.data.toList)) ∧ Below w.heap.size w w' := by
 have hs7 : (ByteArray.mk #[32, 42, 44, 45, 46, 59, 61]).size = 7 := rfl
 go_enter Tryz.func110, Tryz.ntmps110
 go_wp2
 go_loopw [3] (fun i wr => ∃ k : Nat, k ≤ s.size ∧ i = .int .i64 k ∧ langV (s.data.toList.take k) = true ∧ Hid (Below w.heap.size w wr)) (fun i _ => s.size - (intOf i).toNat)
 case atStart => exact ⟨0, Nat.zero_le _, rfl, rfl, Below.refl _ _⟩
 case round =>
  obtain ⟨k, hk, rfl, hall, HBw⟩ := hrel
  obtain ⟨WR, hWR⟩ : ∃ W, W = wr := ⟨_, rfl⟩
  subst hWR
  have HA := hid hall
  clear hall
  by_cases hlt : k < s.size
  ·have HT := hid (take_snoc s k hlt)
   have hlet : letterI (s[k].toNat : Int) = true ∨ letterI (s[k].toNat : Int) = false := by cases letterI (s[k].toNat : Int) <;> simp
   rcases hlet with hlet | hlet
   all_goals
    go_wp2_with (first | (go_at_call 137; refine (rletter_any _ _).mono ?_; rintro e w' ⟨rfl, rfl⟩) | (go_at_call 138; refine (rdigit_any _ _).mono ?_; rintro e w' ⟨rfl, rfl⟩))
    go_loopw [4, 5] (fun o j wq => ∃ m : Nat, m ≤ 7 ∧ j = .int .i64 m ∧ o = .bool (langTo (s[k].toNat : Int) m) ∧ Hid (Below w.heap.size w wq)) (fun _ j _ => 7 - (intOf j).toNat)
    case atStart => exact ⟨0, by omega, rfl, by rw [langTo_zero]; simp [hlet], by first | exact HBw.out | exact Go.below_drewN HBw.out _⟩
    case round =>
     obtain ⟨m, hm, rfl, rfl, HBq⟩ := hrel
     by_cases hm15 : m < 7
     ·have HS := hid (langTo_succ (s[k].toNat : Int) m hm15)
      unfold langS at HS
      have hot : langTo (s[k].toNat : Int) m = true ∨ langTo (s[k].toNat : Int) m = false := by cases langTo (s[k].toNat : Int) m <;> simp
      rcases hot with hot | hot
      all_goals
       go_wp2
       (try (go_quiet (fail); go_wp2))
       go_roundw
       case rel => exact ⟨m + 1, by omega, by go_num, by rw [HS.out, hot]; simp, by first | exact HBq.out | exact Go.below_drewN HBq.out _⟩
       case measure => simp [intOf]; omega
     ·obtain rfl : m = 7 := by omega
      have hall := langTo_all (s[k].toNat : Int)
      by_cases ht : langI (s[k].toNat : Int) = true
      ·rw [ht] at hall
       go_wp2
       (try (go_quiet (fail); go_wp2))
       go_roundw
       case rel => exact ⟨k + 1, by omega, by go_num, by unfold langV; rw [HT.out, List.all_append]; have := HA.out; unfold langV at this; rw [this]; simp [ht], by first | exact HBq.out | exact Go.below_drewN HBq.out _⟩
       case measure => simp [intOf]; omega
      ·have ht' : langI (s[k].toNat : Int) = false := by simpa using ht
       rw [ht'] at hall
       go_wp2
       (try (go_quiet (fail); go_wp2))
       go_ret
       exact ⟨ret_bool (all_stop (fun c => langI c.toNat) s k hlt (by simp [ht'])).symm, by first | exact HBq.out | exact Go.below_drewN HBq.out _⟩
  ·have ha := HA.out
   rw [take_all s k hlt] at ha
   have HB := hid ha
   clear ha
   go_wp2
   (try (go_quiet (fail); go_wp2))
   go_ret
   exact ⟨ret_bool HB.out.symm, by first | exact HBw.out | exact Go.below_drewN HBw.out _⟩

def riskS : ByteArray := ⟨#[34, 40, 41, 58, 60, 62, 63, 64, 91, 92, 93, 123, 125]⟩

def riskTo (c : Int) (m : Nat) : Bool := (riskS.data.toList.take m).any fun x => c == (x.toNat : Int)

theorem riskTo_succ (c : Int) (m : Nat) (h : m < riskS.size) : riskTo c (m + 1) = (riskTo c m || c == (riskS[m].toNat : Int)) := by
 have e : riskS.data.toList.take (m + 1) = riskS.data.toList.take m ++ [riskS[m]] := take_snoc riskS m h
 unfold riskTo
 rw [e, List.any_append]
 simp

theorem riskTo_all (c : Int) (h : ¬ (c < 32 ∧ ¬ c = 9) ∧ ¬ c = 127) : riskTo c 13 = riskI c := by
 have h1 : (c == 127) = false := by simpa using h.2
 have h2 : (decide (c < 32) && !(c == 9)) = false := by
  have := h.1
  cases hd : decide (c < 32) with
  | false => rfl
  | true =>
   have h3 : c < 32 := by simpa using hd
   have h4 : c = 9 := Classical.byContradiction fun h5 => this ⟨h3, h5⟩
   rw [h4]; rfl
 unfold riskTo riskI riskS
 rw [h1, h2]
 simp only [List.take, List.any]
 simp

theorem risk_bad (c : Int) (h : (c < 32 ∧ ¬ c = 9) ∨ c = 127) : riskI c = true := by
 unfold riskI
 rcases h with ⟨h1, h2⟩ | h
 ·have h3 : (decide (c < 32) && !(c == 9)) = true := by simp [h1, h2]
  rw [h3]; simp
 ·subst h; decide

theorem harm_stop (s : ByteArray) (k : Nat) (hk : k < s.size) (h : riskI (s[k].toNat : Int) = true) : harmV s.data.toList = false := all_stop (fun c => !riskI c.toNat) s k hk (by simp [h])

theorem riskTo_mono (c : Int) (m : Nat) (hm : m ≤ 13) (h : riskTo c m = true) : riskI c = true := by
 unfold riskTo at h
 obtain ⟨x, hx, he⟩ := List.any_eq_true.1 h
 have hx2 := List.mem_of_mem_take hx
 have he2 : c = (x.toNat : Int) := by simpa using he
 subst he2
 simp [riskS] at hx2
 rcases hx2 with rfl | rfl | rfl | rfl | rfl | rfl | rfl | rfl | rfl | rfl | rfl | rfl | rfl <;> decide

set_option maxHeartbeats 4000000 in
set_option maxRecDepth 100000 in
theorem risky5_any (s : ByteArray) (w : World) (hs : s.size ≤ 140737488351232) :
  Calls Tryz.prog 109 #[.string s] w fun e w' => e = .returned (.bool (!harmV s.data.toList)) ∧ Below w.heap.size w w' := by
 have hs13 : (ByteArray.mk #[34, 40, 41, 58, 60, 62, 63, 64, 91, 92, 93, 123, 125]).size = 13 := rfl
 go_enter Tryz.func109, Tryz.ntmps109
 go_wp2
 go_loopw [3] (fun i wr => ∃ k : Nat, k ≤ s.size ∧ i = .int .i64 k ∧ harmV (s.data.toList.take k) = true ∧ Hid (Below w.heap.size w wr)) (fun i _ => s.size - (intOf i).toNat)
 case atStart => exact ⟨0, Nat.zero_le _, rfl, rfl, Below.refl _ _⟩
 case round =>
  obtain ⟨k, hk, rfl, hall, HBw⟩ := hrel
  obtain ⟨WR, hWR⟩ : ∃ W, W = wr := ⟨_, rfl⟩
  subst hWR
  have HA := hid hall
  clear hall
  by_cases hlt : k < s.size
  ·have HT := hid (take_snoc s k hlt)
   have HSt := hid (harm_stop s k hlt)
   have hb := s[k].toNat_lt
   by_cases hbad : ((s[k].toNat : Int) < 32 ∧ ¬ (s[k].toNat : Int) = 9) ∨ (s[k].toNat : Int) = 127
   ·have HF := hid (HSt.out (risk_bad _ hbad))
    have hcs : ((s[k].toNat : Int) < 32 ∧ ¬ (s[k].toNat : Int) = 9) ∨ (¬ (s[k].toNat : Int) < 32 ∧ (s[k].toNat : Int) = 127) := by omega
    clear hbad
    rcases hcs with ⟨c1, c2⟩ | ⟨c1, c2⟩
    all_goals
     go_wp2
     (try (go_quiet (fail); go_wp2))
     go_ret
     exact ⟨ret_bool (by rw [HF.out]; rfl), by first | exact HBw.out | exact Go.below_drewN HBw.out _ | exact HBq.out | exact Go.below_drewN HBq.out _⟩
   ·have hgood : ¬ ((s[k].toNat : Int) < 32 ∧ ¬ (s[k].toNat : Int) = 9) ∧ ¬ (s[k].toNat : Int) = 127 := by omega
    have HAl := hid (riskTo_all _ hgood)
    have hcs : (¬ (s[k].toNat : Int) < 32 ∧ ¬ (s[k].toNat : Int) = 127) ∨ ((s[k].toNat : Int) = 9) := by omega
    clear hbad hgood
    rcases hcs with ⟨c1, c2⟩ | c1
    all_goals
     go_wp2
     (try (go_quiet (fail); go_wp2))
     go_loopw [4] (fun j wq => ∃ m : Nat, m ≤ 13 ∧ j = .int .i64 m ∧ riskTo (s[k].toNat : Int) m = false ∧ Hid (Below w.heap.size w wq)) (fun j _ => 13 - (intOf j).toNat)
     case atStart => exact ⟨0, by omega, rfl, rfl, by first | exact HBw.out | exact Go.below_drewN HBw.out _⟩
     case round =>
      obtain ⟨m, hm, rfl, hno, HBq⟩ := hrel
      have HNo := hid hno
      clear hno
      by_cases hm13 : m < 13
      ·have HS := hid (riskTo_succ (s[k].toNat : Int) m hm13)
       unfold riskS at HS
       have hmm : m < (ByteArray.mk #[34, 40, 41, 58, 60, 62, 63, 64, 91, 92, 93, 123, 125]).size := hm13
       by_cases heq : (s[k].toNat : Int) = ((ByteArray.mk #[34, 40, 41, 58, 60, 62, 63, 64, 91, 92, 93, 123, 125])[m].toNat : Int)
       ·have HF := hid (HSt.out (riskTo_mono _ (m + 1) (by omega) (by rw [HS.out]; simp [heq])))
        go_wp2
        (try (go_quiet (fail); go_wp2))
        go_ret
        exact ⟨ret_bool (by rw [HF.out]; rfl), by first | exact HBw.out | exact Go.below_drewN HBw.out _ | exact HBq.out | exact Go.below_drewN HBq.out _⟩
       ·have HN2 := hid (show riskTo (s[k].toNat : Int) (m + 1) = false by rw [HS.out, HNo.out]; simpa using heq)
        go_wp2
        (try (go_quiet (fail); go_wp2))
        go_roundw
        case rel => exact ⟨m + 1, by omega, by go_num, HN2.out, by first | exact HBq.out | exact Go.below_drewN HBq.out _⟩
        case measure => simp [intOf]; omega
      ·obtain rfl : m = 13 := by omega
       have ht : riskI (s[k].toNat : Int) = false := by rw [← HAl.out]; exact HNo.out
       have HH := hid ht
       clear ht
       go_wp2
       (try (go_quiet (fail); go_wp2))
       go_roundw
       case rel => exact ⟨k + 1, by omega, by go_num, by unfold harmV; rw [HT.out, List.all_append]; have := HA.out; unfold harmV at this; rw [this]; simp [HH.out], by first | exact HBq.out | exact Go.below_drewN HBq.out _⟩
       case measure => simp [intOf]; omega
  ·have ha := HA.out
   rw [take_all s k hlt] at ha
   have HB := hid ha
   clear ha
   go_wp2
   (try (go_quiet (fail); go_wp2))
   go_ret
   exact ⟨ret_bool (by rw [HB.out]; rfl), by first | exact HBw.out | exact Go.below_drewN HBw.out _⟩

end Go.Proofs.YtgoefeaopegdoaaGreatDoor

namespace Go.Proofs.YtgoefeaopegdoaaGreatDoor
open Go.RowKit

set_option maxHeartbeats 2000000 in
set_option maxRecDepth 100000 in
theorem rsafe_any (n v : ByteArray) (w : World) (hn : n.size ≤ 140737488351232) (hv : v.size ≤ 140737488351232) :
  Calls Tryz.prog 55 #[.string n, .string v] w fun e w' => e = .returned (.bool (safeV n.data.toList v.data.toList)) ∧ Below w.heap.size w w' := by
 by_cases hlong : 128 < v.size
 ·have hlong' : (128 : Int) < (v.size : Int) := by omega
  have HS := hid (show safeV n.data.toList v.data.toList = false by unfold safeV; rw [if_pos (by simpa using hlong)])
  go_enter Tryz.func55, Tryz.ntmps55
  go_wp2
  go_ret
  exact ⟨ret_bool HS.out.symm, Below.refl _ _⟩
 have hlong' : ¬ (128 : Int) < (v.size : Int) := by omega
 obtain ⟨C, hC⟩ : ∃ x : ByteArray, x = ⟨(low n.data.toList).toArray⟩ := ⟨_, rfl⟩
 have hCl : low n.data.toList = C.data.toList := by rw [hC]
 have HC := hid hC
 clear hC
 have hsv : safeV n.data.toList v.data.toList = (if C.data.toList = sAccept then harmV v.data.toList
  else if C.data.toList = sALang ∨ C.data.toList = sCLang then langV v.data.toList
  else if C.data.toList = sCType then harmV v.data.toList && kindV v.data.toList
  else if C.data.toList = sRange then rOk v.data.toList && decide (0 ≤ rFrom v.data.toList)
  else false) := by
  unfold safeV
  rw [if_neg (by simpa using hlong), hCl]
 clear hCl
 by_cases h1 : C.data.toList = sAccept
 ·have HS := hid (show safeV n.data.toList v.data.toList = harmV v.data.toList by rw [hsv, if_pos h1])
  have e1 := lst_yes h1
  unfold sAccept at e1
  have HE := hid e1
  clear hsv h1 e1
  go_enter Tryz.func55, Tryz.ntmps55
  go_wp2_with fail
  refine (rlower_any n _ hn).mono ?_
  rintro e w1 ⟨rfl, hb1⟩
  rw [← HC.out, HE.out]
  go_wp2_with (go_at_call 109; refine (risky5_any v _ hv).mono ?_; rintro e w' ⟨rfl, hbu⟩)
  go_ret
  exact ⟨ret_bool (by first | (rw [HS.out]; done) | (rw [HS.out]; simp)), belowT hb1 hbu⟩
 rw [if_neg h1] at hsv
 have h1' := lst_ne h1
 by_cases h2 : C.data.toList = sALang
 ·have HS := hid (show safeV n.data.toList v.data.toList = langV v.data.toList by rw [hsv, if_pos (.inl h2)])
  have e1 := lst_yes h2
  unfold sALang at e1
  have HE := hid e1
  clear hsv h1 e1 h2 h1'
  go_enter Tryz.func55, Tryz.ntmps55
  go_wp2_with fail
  refine (rlower_any n _ hn).mono ?_
  rintro e w1 ⟨rfl, hb1⟩
  rw [← HC.out, HE.out]
  go_wp2_with (go_at_call 110; refine (rlanguage_any v _ hv).mono ?_; rintro e w' ⟨rfl, hbu⟩)
  go_ret
  exact ⟨ret_bool HS.out.symm, belowT hb1 hbu⟩
 have h2' := lst_ne h2
 by_cases h3 : C.data.toList = sCLang
 ·have HS := hid (show safeV n.data.toList v.data.toList = langV v.data.toList by rw [hsv, if_pos (.inr h3)])
  have e1 := lst_yes h3
  unfold sCLang at e1
  have HE := hid e1
  clear hsv h1 e1 h2 h3 h1' h2'
  go_enter Tryz.func55, Tryz.ntmps55
  go_wp2_with fail
  refine (rlower_any n _ hn).mono ?_
  rintro e w1 ⟨rfl, hb1⟩
  rw [← HC.out, HE.out]
  go_wp2_with (go_at_call 110; refine (rlanguage_any v _ hv).mono ?_; rintro e w' ⟨rfl, hbu⟩)
  go_ret
  exact ⟨ret_bool HS.out.symm, belowT hb1 hbu⟩
 have h3' := lst_ne h3
 rw [if_neg (by rintro (h | h); exact h2 h; exact h3 h)] at hsv
 by_cases h4 : C.data.toList = sCType
 ·rw [if_pos h4] at hsv
  have e1 := lst_yes h4
  unfold sCType at e1
  have HE := hid e1
  clear h1 e1 h2 h3 h4 h1' h2' h3'
  obtain ⟨hm, hhm⟩ : ∃ x, x = harmV v.data.toList := ⟨_, rfl⟩
  have HHm : Hid (∀ w : World, Calls Tryz.prog 109 #[.string v] w fun e w' => e = .returned (.bool (!hm)) ∧ Below w.heap.size w w') := fun w => by
   have := risky5_any v w hv
   rw [← hhm] at this
   exact this
  have HS := hid (show safeV n.data.toList v.data.toList = (hm && kindV v.data.toList) by rw [hsv, hhm])
  have hcl := xcut_le v.data.toList 59
  have HPt := hid (fun X => rpart9_any v 59 X (by omega))
  rw [← cut_part] at HPt
  obtain ⟨A, hA⟩ : ∃ x : ByteArray, x = ⟨(Lib.cut v.data.toList [59]).1.toArray⟩ := ⟨_, rfl⟩
  have hAs : A.size ≤ 4000000000 := by rw [hA, xsize]; have := hcl.1; simp at this; omega
  rw [← hA] at HPt
  obtain ⟨B, hB⟩ : ∃ x : ByteArray, x = ⟨(strip A.data.toList).toArray⟩ := ⟨_, rfl⟩
  have hBs : B.size ≤ 4000000000 := by rw [hB, xsize]; have := strip_le A.data.toList; simp at this; omega
  obtain ⟨E, hE⟩ : ∃ x : ByteArray, x = ⟨(low B.data.toList).toArray⟩ := ⟨_, rfl⟩
  have HKd := hid (show kindV v.data.toList = (E.toList == sForm || (E.toList == sMulti || E.toList == sPlain)) by
   have : essV v.data.toList = E.toList := by rw [Lib.toList_data, hE, hB, hA]; rfl
   unfold kindV
   rw [this])
  have HSt := hid (fun X => rstrip_any A X (by omega))
  rw [← hB] at HSt
  have HLw := hid (fun X => rlower_any B X (by omega))
  rw [← hE] at HLw
  clear hsv hhm hA hB hE hcl
  have HFin := hid (show ∀ b : Bool, (hm && (E.toList == sForm || (E.toList == sMulti || E.toList == sPlain))) = b → Ending.returned (.bool b) = .returned (.bool (safeV n.data.toList v.data.toList)) from fun b hb => by
   rw [← hb, HS.out, HKd.out])
  clear HS HKd
  cases hm
  all_goals
   go_enter Tryz.func55, Tryz.ntmps55
   go_wp2_with fail
   refine (rlower_any n _ hn).mono ?_
   rintro e w1 ⟨rfl, hb1⟩
   rw [← HC.out, HE.out]
   go_wp2_with fail
   refine (HPt.out _).mono ?_
   rintro e w2 ⟨rfl, hb2⟩
   have HB2 := hid (belowT hb1 hb2)
   go_wp2_with fail
   refine (HSt.out _).mono ?_
   rintro e w3 ⟨rfl, rfl⟩
   go_wp2_with fail
   refine (HLw.out _).mono ?_
   rintro e w4 ⟨rfl, hb4⟩
   have HB4 := hid (belowT HB2.out hb4)
   clear hb1 hb2 hb4
   go_wp2_with (go_at_call 109; refine (HHm.out _).mono ?_; rintro e w5 ⟨rfl, hb5⟩; have HB5 := hid (belowT HB4.out hb5); clear hb5)
   all_goals
    go_ret
    refine ⟨HFin.out _ ?_, HB5.out⟩
    unfold sForm sMulti sPlain
    first | rfl | (simp [Bool.or_assoc]; done) | (simp only [*]; rfl) | (simp_all; done)
 have h4' := lst_ne h4
 rw [if_neg h4] at hsv
 by_cases h5 : C.data.toList = sRange
 ·rw [if_pos h5] at hsv
  have e1 := lst_yes h5
  unfold sRange at e1
  have HE := hid e1
  clear h1 e1 h2 h3 h4 h5 h1' h2' h3' h4'
  obtain ⟨ok, hok⟩ : ∃ x, x = rOk v.data.toList := ⟨_, rfl⟩
  obtain ⟨fr, hfr⟩ : ∃ x, x = rFrom v.data.toList := ⟨_, rfl⟩
  have HR : Hid (∀ w : World, Calls Tryz.prog 48 #[.string v] w fun e w' => e = .returned (.tuple #[.int .i64 fr, .int .i64 (rTo v.data.toList), .bool ok]) ∧ Below w.heap.size w w') := fun w => by
   have := rrange_any v w (by omega)
   rw [← hok, ← hfr] at this
   exact this
  have HS := hid (show safeV n.data.toList v.data.toList = (ok && decide (0 ≤ fr)) by rw [hsv, hok, hfr])
  clear hsv hok hfr
  cases ok with
  | false =>
   go_enter Tryz.func55, Tryz.ntmps55
   go_wp2_with fail
   refine (rlower_any n _ hn).mono ?_
   rintro e w1 ⟨rfl, hb1⟩
   rw [← HC.out, HE.out]
   go_wp2_with fail
   refine (HR.out _).mono ?_
   rintro e w2 ⟨rfl, hb2⟩
   go_wp2
   go_ret
   exact ⟨ret_bool (by rw [HS.out]; simp), belowT hb1 hb2⟩
  | true =>
   go_enter Tryz.func55, Tryz.ntmps55
   go_wp2_with fail
   refine (rlower_any n _ hn).mono ?_
   rintro e w1 ⟨rfl, hb1⟩
   rw [← HC.out, HE.out]
   go_wp2_with fail
   refine (HR.out _).mono ?_
   rintro e w2 ⟨rfl, hb2⟩
   go_wp2
   go_ret
   exact ⟨ret_bool (by rw [HS.out]; simp), belowT hb1 hb2⟩
 have h5' := lst_ne h5
 rw [if_neg h5] at hsv
 unfold sAccept at h1'
 unfold sALang at h2'
 unfold sCLang at h3'
 unfold sCType at h4'
 unfold sRange at h5'
 have HS := hid hsv
 clear h1 h2 h3 h4 h5 hsv
 go_enter Tryz.func55, Tryz.ntmps55
 go_wp2_with fail
 refine (rlower_any n _ hn).mono ?_
 rintro e w1 ⟨rfl, hb1⟩
 rw [← HC.out]
 go_wp2
 go_ret
 exact ⟨ret_bool (by rw [HS.out]), hb1⟩

end Go.Proofs.YtgoefeaopegdoaaGreatDoor

namespace Go.Proofs.YtgoefeaopegdoaaGreatDoor
open Go.RowKit

theorem forb_any_eq (l : List UInt8) : (forbL.any fun x => isL l x) = forbL.contains l := by
 rw [List.contains_eq_any_beq]
 rfl

set_option maxHeartbeats 4000000 in
set_option maxRecDepth 100000 in
theorem rforbidden_any (n : ByteArray) (w : World) (hn : n.size ≤ 4000000) :
  Calls Tryz.prog 53 #[.string n] w fun e w' => e = .returned (.bool (forbV n.data.toList)) ∧ Below w.heap.size w w' := by
 obtain ⟨C, hC⟩ : ∃ x : ByteArray, x = ⟨(low n.data.toList).toArray⟩ := ⟨_, rfl⟩
 have hCs : C.size ≤ 4000000 := by rw [hC, xsize, low_len]; simpa using hn
 have HLw := hid (rlower_any n w (by omega))
 rw [← hC] at HLw
 obtain ⟨q, hq⟩ : ∃ x, x = forbL.any fun x => isL C.data.toList x := ⟨_, rfl⟩
 obtain ⟨p1, hp1⟩ : ∃ x, x = Lib.hasPrefix C.data.toList [112, 114, 111, 120, 121, 45] := ⟨_, rfl⟩
 obtain ⟨p2, hp2⟩ : ∃ x, x = Lib.hasPrefix C.data.toList [115, 101, 99, 45] := ⟨_, rfl⟩
 have HV := hid (show forbV n.data.toList = (q || (p1 || p2)) by
  rw [hq, forb_any_eq, hp1, hp2, hC]
  rfl)
 have HHs := hid (fun X v (hv : TxAt X v forbL) => rhas_any v forbL C X hv (by decide))
 rw [← hq] at HHs
 have H1 : Hid (∀ X : World, Calls Tryz.prog 96 #[.string C, .string ⟨#[112, 114, 111, 120, 121, 45]⟩] X fun e w' => e = .returned (.bool (Lib.hasPrefix C.data.toList [112, 114, 111, 120, 121, 45])) ∧ X = w') := fun X => begins_any C ⟨#[112, 114, 111, 120, 121, 45]⟩ X (by omega) (by decide)
 have H2 : Hid (∀ X : World, Calls Tryz.prog 96 #[.string C, .string ⟨#[115, 101, 99, 45]⟩] X fun e w' => e = .returned (.bool (Lib.hasPrefix C.data.toList [115, 101, 99, 45])) ∧ X = w') := fun X => begins_any C ⟨#[115, 101, 99, 45]⟩ X (by omega) (by decide)
 rw [← hp1] at H1
 rw [← hp2] at H2
 clear hC hq hp1 hp2 hCs
 go_enter Tryz.func53, Tryz.ntmps53
 go_wp2_with fail
 refine HLw.out.mono ?_
 rintro e w1 ⟨rfl, hb1⟩
 have HB := hid (hb1.alloc hb1.size (.cells (cellsT forbL).toArray 9))
 have HHx := hid (HHs.out _ _ (tx_new6 w1 forbL 9 (by decide)))
 clear hb1 HHs HLw
 go_wp2_with fail
 refine HHx.out.mono ?_
 rintro e w2 ⟨rfl, hw2⟩
 rw [hw2] at HB
 clear hw2 HHx
 cases q
 ·cases p1
  ·go_wp2_with fail
   refine (H1.out _).mono ?_
   rintro e w3 ⟨rfl, rfl⟩
   go_wp2_with fail
   refine (H2.out _).mono ?_
   rintro e w3 ⟨rfl, rfl⟩
   go_wp2
   go_ret
   exact ⟨ret_bool (by rw [HV.out]; simp), HB.out⟩
  ·go_wp2_with fail
   refine (H1.out _).mono ?_
   rintro e w3 ⟨rfl, rfl⟩
   go_wp2
   go_ret
   exact ⟨ret_bool (by rw [HV.out]; simp), HB.out⟩
 ·go_wp2
  go_ret
  exact ⟨ret_bool (by rw [HV.out]; simp), HB.out⟩

end Go.Proofs.YtgoefeaopegdoaaGreatDoor
