/-
  Walks and plain facts that this claim leans on, put together out of 17 texts: Cd, Ce, Ha, Hb, Vb, Vj, Vc, Vd, Ve, Wb, Vf, Vg, Vh, Vi, Vk, Vl, Vm.
-/
import Derived.Test.YtpopljcmkbchcaaGreatDoorProg
import Derived.Test.YtpopljcmkbchcaaGreatDoorQc1
import Derived.Test.YtpopljcmkbchcaaGreatDoorQc2
import Derived.Test.YtpopljcmkbchcaaGreatDoorQc3
import Derived.Test.YtpopljcmkbchcaaGreatDoorQc4
import Derived.Test.YtpopljcmkbchcaaGreatDoorQc5
import Derived.Test.YtpopljcmkbchcaaGreatDoorQc6
import Derived.Test.YtpopljcmkbchcaaGreatDoorQc7
import Derived.BigRegion
import Derived.Deep.RegionHeld
import Derived.Deep.RegionHeldLaw
import Derived.Lib.IndexAny
import Derived.WalkKit
import Derived.Lib.UnsafeStr
import Derived.Lib.BufferRead
import Derived.Lib.RuneBytes
import Derived.Laws.RangeAny
import Derived.Deep.LoopGhost
import Derived.Maps.OwnSet
import Derived.Maps.OwnOps
import Derived.Maps.AppendAt
import Derived.StringKeys
import Derived.BigQuiet
import Derived.Deep.QuietTactic
import Derived.LoopN
import Derived.RegionTactic
import Derived.Deep.RegionLaw
import Derived.Deep.RegionWith
import Derived.WalkSpells
import Derived.WalkLawsBesides
import Derived.Lib.FieldsP
import Derived.Lib.DecodeN
import Derived.Lib.IndexMore
import Derived.Lib.Join
import Derived.Lib.SmallJoins
import Derived.Laws.CopyOwn
import Derived.Laws.ResultCell
import Derived.Deep.MidRow
import Derived.Laws.OwnMore
import Derived.Below
import Derived.WalkSmall
import Derived.Lib.LaidTab
import Derived.Lib.AppendIntMem
import Derived.Laws.AppendOwn
import Derived.Laws.Runes
import Derived.Lib.OthersKept
import Derived.Lib.FrozenHead2
import Derived.Lib.Builder
import Derived.Lib.AppendStr
import Derived.Lib.Replace
import Derived.Shelf.GgClosure.GivesRunes
import Derived.Laws.BitsAll
import Derived.Laws.Shifts
import Derived.Deep.DeepAppendRoom
import Derived.Laws.IdiomStrings
import Derived.Laws.BytesString
import Derived.Laws.CopyRow
import Derived.Lib.Strings
import Derived.Laws.BitsAllLaws
import Derived.Lib.Bytealg
import Derived.Lib.BufferMore
import Derived.Shelf.Strings.Builder1
import Derived.Shelf.Strings.Builder2
import Derived.Shelf.Strings.OnBuilder
import Derived.Shelf.Strings.Trim
import Derived.Shelf.Small.Utf8
import Derived.Shelf.Small.Bits
import Derived.Shelf.Small.Strs
import Derived.Shelf.Small.Wraps
import Derived.Shelf.Strings.BuilderF
import Derived.Shelf.Strings.BuilderK
import Derived.Shelf.Strings.BuilderRune
import Derived.Shelf.Utf8.AppendRune
import Derived.Shelf.Utf8.AppendRunePlain
import Derived.Shelf.Strings.Builder2Cap
import Derived.Shelf.Strconv.Itoa0
import Derived.Shelf.Strconv.Itoa1
import Derived.Shelf.LaysM
import Derived.Shelf.Strconv.Itoa2
import Derived.Shelf.Strconv.Itoa3
import Derived.Shelf.Strings.Search1
import Derived.Shelf.Strings.Search2
import Derived.Shelf.Strings.Cut
import Derived.Shelf.Strings.Shaped
import Derived.Shelf.Sort.Plain
import Derived.Shelf.Strings.Prefix
import Derived.Shelf.Unicode.Latin
import Derived.Shelf.Strings.Runes
import Derived.Shelf.Strings.IndexAny
import Derived.Shelf.Strings.AsciiSet
import Derived.Shelf.Strings.IndexAnyAll
import Derived.Shelf.Unicode.DecodeSlow
import Derived.Shelf.Unicode.DecodeAny
import Derived.Shelf.Unicode.DecodeLast
import Derived.Shelf.Unicode.CaseLookup
import Derived.Shelf.Unicode.CaseConvert
import Derived.Shelf.Unicode.CaseTo
import Derived.Shelf.Unicode.CaseLaid
import Derived.Shelf.Slices.CompactS
import Derived.Shelf.Slices.In.SortNone
import Derived.Lib.SlTrimSet
import Derived.Shelf.Strings.SlTrimAscii
import Derived.Deep.CutRange
import Derived.Laws.Rows
import Derived.Laws.MakeOwn
import Derived.Deep.WholeRow
import Derived.Laws.AppendOwnNone
import Derived.Lib.LastIndexByte
import Derived.WalkMore
import Derived.OwnWalk
set_option linter.unusedSimpArgs false
set_option linter.unusedVariables false

namespace Go.Proofs.YtpopljcmkbchcaaGreatDoor
open Go.RowKit

def langS : ByteArray := ⟨#[32, 42, 44, 45, 46, 59, 61]⟩

def langTo (c : Int) (m : Nat) : Bool := letterI c || digitI c || (langS.data.toList.take m).any fun x => c == (x.toNat : Int)

theorem langTo_zero (c : Int) : langTo c 0 = (letterI c || digitI c) := by simp [langTo]

theorem langTo_succ (c : Int) (m : Nat) (h : m < langS.size) : langTo c (m + 1) = (langTo c m || c == (langS[m].toNat : Int)) := by
 have e : langS.data.toList.take (m + 1) = langS.data.toList.take m ++ [langS[m]] := take_snoc langS m h
 unfold langTo
 rw [e, List.any_append]
 simp [Bool.or_assoc]

theorem langTo_all (c : Int) : langTo c 7 = langI c := by
 unfold langTo langI langS
 simp only [List.take, List.any]
 cases letterI c <;> cases digitI c <;> simp [Bool.or_assoc, Bool.or_comm, Bool.or_left_comm]

set_option maxHeartbeats 4000000 in
set_option maxRecDepth 100000 in
theorem rlanguage_any (s : ByteArray) (w : World) (hs : s.size ≤ 140737488351232) :
  Calls Tryz.prog 151 #[.string s] w fun e w' => e = .returned (.bool (langV s.data.toList)) ∧ Below w.heap.size w w' := by
 have hs7 : (ByteArray.mk #[32, 42, 44, 45, 46, 59, 61]).size = 7 := rfl
 go_enter Tryz.func151, Tryz.ntmps151
 go_wp2
 go_loopw [3] (fun i wr => ∃ k : Nat, k ≤ s.size ∧ i = .int .i64 k ∧ langV (s.data.toList.take k) = true ∧ Hid (Below w.heap.size w wr)) (fun i _ => s.size - (intOf i).toNat)
 case atStart => exact ⟨0, Nat.zero_le _, rfl, rfl, Below.refl _ _⟩
 case round =>
  obtain ⟨k, hk, rfl, hall, HBw⟩ := hrel
  obtain ⟨WR, hWR⟩ : ∃ W, W = wr := ⟨_, rfl⟩
  subst hWR
  have HA := hid hall
  clear hall
  by_cases hlt : k < s.size
  ·have HT := hid (take_snoc s k hlt)
   have hlet : letterI (s[k].toNat : Int) = true ∨ letterI (s[k].toNat : Int) = false := by cases letterI (s[k].toNat : Int) <;> simp
   rcases hlet with hlet | hlet
   all_goals
    go_wp2_with (first | (go_at_call 147; refine (rletter_any_Ra _ _).mono ?_; rintro e w' ⟨rfl, rfl⟩) | (go_at_call 148; refine (rdigit_any_Ra _ _).mono ?_; rintro e w' ⟨rfl, rfl⟩))
    go_loopw [4, 5] (fun o j wq => ∃ m : Nat, m ≤ 7 ∧ j = .int .i64 m ∧ o = .bool (langTo (s[k].toNat : Int) m) ∧ Hid (Below w.heap.size w wq)) (fun _ j _ => 7 - (intOf j).toNat)
    case atStart => exact ⟨0, by omega, rfl, by rw [langTo_zero]; simp [hlet], by first | exact HBw.out | exact Go.below_drewN HBw.out _⟩
    case round =>
     obtain ⟨m, hm, rfl, rfl, HBq⟩ := hrel
     by_cases hm15 : m < 7
     ·have HS := hid (langTo_succ (s[k].toNat : Int) m hm15)
      unfold langS at HS
      have hot : langTo (s[k].toNat : Int) m = true ∨ langTo (s[k].toNat : Int) m = false := by cases langTo (s[k].toNat : Int) m <;> simp
      rcases hot with hot | hot
      all_goals
       go_wp2
       (try (go_quiet (fail); go_wp2))
       go_roundw
       case rel => exact ⟨m + 1, by omega, by go_num, by rw [HS.out, hot]; simp, by first | exact HBq.out | exact Go.below_drewN HBq.out _⟩
       case measure => simp [intOf]; omega
     ·obtain rfl : m = 7 := by omega
      have hall := langTo_all (s[k].toNat : Int)
      by_cases ht : langI (s[k].toNat : Int) = true
      ·rw [ht] at hall
       go_wp2
       (try (go_quiet (fail); go_wp2))
       go_roundw
       case rel => exact ⟨k + 1, by omega, by go_num, by unfold langV; rw [HT.out, List.all_append]; have := HA.out; unfold langV at this; rw [this]; simp [ht], by first | exact HBq.out | exact Go.below_drewN HBq.out _⟩
       case measure => simp [intOf]; omega
      ·have ht' : langI (s[k].toNat : Int) = false := by simpa using ht
       rw [ht'] at hall
       go_wp2
       (try (go_quiet (fail); go_wp2))
       go_ret
       exact ⟨ret_bool (all_stop (fun c => langI c.toNat) s k hlt (by simp [ht'])).symm, by first | exact HBq.out | exact Go.below_drewN HBq.out _⟩
  ·have ha := HA.out
   rw [take_all s k hlt] at ha
   have HB := hid ha
   clear ha
   go_wp2
   (try (go_quiet (fail); go_wp2))
   go_ret
   exact ⟨ret_bool HB.out.symm, by first | exact HBw.out | exact Go.below_drewN HBw.out _⟩

def riskS : ByteArray := ⟨#[34, 40, 41, 58, 60, 62, 63, 64, 91, 92, 93, 123, 125]⟩

def riskTo (c : Int) (m : Nat) : Bool := (riskS.data.toList.take m).any fun x => c == (x.toNat : Int)

theorem riskTo_succ (c : Int) (m : Nat) (h : m < riskS.size) : riskTo c (m + 1) = (riskTo c m || c == (riskS[m].toNat : Int)) := by
 have e : riskS.data.toList.take (m + 1) = riskS.data.toList.take m ++ [riskS[m]] := take_snoc riskS m h
 unfold riskTo
 rw [e, List.any_append]
 simp

theorem riskTo_all (c : Int) (h : ¬ (c < 32 ∧ ¬ c = 9) ∧ ¬ c = 127) : riskTo c 13 = riskI c := by
 have h1 : (c == 127) = false := by simpa using h.2
 have h2 : (decide (c < 32) && !(c == 9)) = false := by
  have := h.1
  cases hd : decide (c < 32) with
  | false => rfl
  | true =>
   have h3 : c < 32 := by simpa using hd
   have h4 : c = 9 := Classical.byContradiction fun h5 => this ⟨h3, h5⟩
   rw [h4]; rfl
 unfold riskTo riskI riskS
 rw [h1, h2]
 simp only [List.take, List.any]
 simp

theorem risk_bad (c : Int) (h : (c < 32 ∧ ¬ c = 9) ∨ c = 127) : riskI c = true := by
 unfold riskI
 rcases h with ⟨h1, h2⟩ | h
 ·have h3 : (decide (c < 32) && !(c == 9)) = true := by simp [h1, h2]
  rw [h3]; simp
 ·subst h; decide

theorem harm_stop (s : ByteArray) (k : Nat) (hk : k < s.size) (h : riskI (s[k].toNat : Int) = true) : harmV s.data.toList = false := all_stop (fun c => !riskI c.toNat) s k hk (by simp [h])

theorem riskTo_mono (c : Int) (m : Nat) (hm : m ≤ 13) (h : riskTo c m = true) : riskI c = true := by
 unfold riskTo at h
 obtain ⟨x, hx, he⟩ := List.any_eq_true.1 h
 have hx2 := List.mem_of_mem_take hx
 have he2 : c = (x.toNat : Int) := by simpa using he
 subst he2
 simp [riskS] at hx2
 rcases hx2 with rfl | rfl | rfl | rfl | rfl | rfl | rfl | rfl | rfl | rfl | rfl | rfl | rfl <;> decide

set_option maxHeartbeats 4000000 in
set_option maxRecDepth 100000 in
theorem risky5_any (s : ByteArray) (w : World) (hs : s.size ≤ 140737488351232) :
  Calls Tryz.prog 150 #[.string s] w fun e w' => e = .returned (.bool (!harmV s.data.toList)) ∧ Below w.heap.size w w' := by
 have hs13 : (ByteArray.mk #[34, 40, 41, 58, 60, 62, 63, 64, 91, 92, 93, 123, 125]).size = 13 := rfl
 go_enter Tryz.func150, Tryz.ntmps150
 go_wp2
 go_loopw [3] (fun i wr => ∃ k : Nat, k ≤ s.size ∧ i = .int .i64 k ∧ harmV (s.data.toList.take k) = true ∧ Hid (Below w.heap.size w wr)) (fun i _ => s.size - (intOf i).toNat)
 case atStart => exact ⟨0, Nat.zero_le _, rfl, rfl, Below.refl _ _⟩
 case round =>
  obtain ⟨k, hk, rfl, hall, HBw⟩ := hrel
  obtain ⟨WR, hWR⟩ : ∃ W, W = wr := ⟨_, rfl⟩
  subst hWR
  have HA := hid hall
  clear hall
  by_cases hlt : k < s.size
  ·have HT := hid (take_snoc s k hlt)
   have HSt := hid (harm_stop s k hlt)
   have hb := s[k].toNat_lt
   by_cases hbad : ((s[k].toNat : Int) < 32 ∧ ¬ (s[k].toNat : Int) = 9) ∨ (s[k].toNat : Int) = 127
   ·have HF := hid (HSt.out (risk_bad _ hbad))
    have hcs : ((s[k].toNat : Int) < 32 ∧ ¬ (s[k].toNat : Int) = 9) ∨ (¬ (s[k].toNat : Int) < 32 ∧ (s[k].toNat : Int) = 127) := by omega
    clear hbad
    rcases hcs with ⟨c1, c2⟩ | ⟨c1, c2⟩
    all_goals
     go_wp2
     (try (go_quiet (fail); go_wp2))
     go_ret
     exact ⟨ret_bool (by rw [HF.out]; rfl), by first | exact HBw.out | exact Go.below_drewN HBw.out _ | exact HBq.out | exact Go.below_drewN HBq.out _⟩
   ·have hgood : ¬ ((s[k].toNat : Int) < 32 ∧ ¬ (s[k].toNat : Int) = 9) ∧ ¬ (s[k].toNat : Int) = 127 := by omega
    have HAl := hid (riskTo_all _ hgood)
    have hcs : (¬ (s[k].toNat : Int) < 32 ∧ ¬ (s[k].toNat : Int) = 127) ∨ ((s[k].toNat : Int) = 9) := by omega
    clear hbad hgood
    rcases hcs with ⟨c1, c2⟩ | c1
    all_goals
     go_wp2
     (try (go_quiet (fail); go_wp2))
     go_loopw [4] (fun j wq => ∃ m : Nat, m ≤ 13 ∧ j = .int .i64 m ∧ riskTo (s[k].toNat : Int) m = false ∧ Hid (Below w.heap.size w wq)) (fun j _ => 13 - (intOf j).toNat)
     case atStart => exact ⟨0, by omega, rfl, rfl, by first | exact HBw.out | exact Go.below_drewN HBw.out _⟩
     case round =>
      obtain ⟨m, hm, rfl, hno, HBq⟩ := hrel
      have HNo := hid hno
      clear hno
      by_cases hm13 : m < 13
      ·have HS := hid (riskTo_succ (s[k].toNat : Int) m hm13)
       unfold riskS at HS
       have hmm : m < (ByteArray.mk #[34, 40, 41, 58, 60, 62, 63, 64, 91, 92, 93, 123, 125]).size := hm13
       by_cases heq : (s[k].toNat : Int) = ((ByteArray.mk #[34, 40, 41, 58, 60, 62, 63, 64, 91, 92, 93, 123, 125])[m].toNat : Int)
       ·have HF := hid (HSt.out (riskTo_mono _ (m + 1) (by omega) (by rw [HS.out]; simp [heq])))
        go_wp2
        (try (go_quiet (fail); go_wp2))
        go_ret
        exact ⟨ret_bool (by rw [HF.out]; rfl), by first | exact HBw.out | exact Go.below_drewN HBw.out _ | exact HBq.out | exact Go.below_drewN HBq.out _⟩
       ·have HN2 := hid (show riskTo (s[k].toNat : Int) (m + 1) = false by rw [HS.out, HNo.out]; simpa using heq)
        go_wp2
        (try (go_quiet (fail); go_wp2))
        go_roundw
        case rel => exact ⟨m + 1, by omega, by go_num, HN2.out, by first | exact HBq.out | exact Go.below_drewN HBq.out _⟩
        case measure => simp [intOf]; omega
      ·obtain rfl : m = 13 := by omega
       have ht : riskI (s[k].toNat : Int) = false := by rw [← HAl.out]; exact HNo.out
       have HH := hid ht
       clear ht
       go_wp2
       (try (go_quiet (fail); go_wp2))
       go_roundw
       case rel => exact ⟨k + 1, by omega, by go_num, by unfold harmV; rw [HT.out, List.all_append]; have := HA.out; unfold harmV at this; rw [this]; simp [HH.out], by first | exact HBq.out | exact Go.below_drewN HBq.out _⟩
       case measure => simp [intOf]; omega
  ·have ha := HA.out
   rw [take_all s k hlt] at ha
   have HB := hid ha
   clear ha
   go_wp2
   (try (go_quiet (fail); go_wp2))
   go_ret
   exact ⟨ret_bool (by rw [HB.out]; rfl), by first | exact HBw.out | exact Go.below_drewN HBw.out _⟩

end Go.Proofs.YtpopljcmkbchcaaGreatDoor

namespace Go.Proofs.YtpopljcmkbchcaaGreatDoor
open Go.RowKit

set_option maxHeartbeats 2000000 in
set_option maxRecDepth 100000 in
theorem rsafe_any (n v : ByteArray) (w : World) (hn : n.size ≤ 140737488351232) (hv : v.size ≤ 140737488351232) :
  Calls Tryz.prog 98 #[.string n, .string v] w fun e w' => e = .returned (.bool (safeV n.data.toList v.data.toList)) ∧ Below w.heap.size w w' := by
 by_cases hlong : 128 < v.size
 ·have hlong' : (128 : Int) < (v.size : Int) := by omega
  have HS := hid (show safeV n.data.toList v.data.toList = false by unfold safeV; rw [if_pos (by simpa using hlong)])
  go_enter Tryz.func98, Tryz.ntmps98
  go_wp2
  go_ret
  exact ⟨ret_bool HS.out.symm, Below.refl _ _⟩
 have hlong' : ¬ (128 : Int) < (v.size : Int) := by omega
 obtain ⟨C, hC⟩ : ∃ x : ByteArray, x = ⟨(low n.data.toList).toArray⟩ := ⟨_, rfl⟩
 have hCl : low n.data.toList = C.data.toList := by rw [hC]
 have HC := hid hC
 clear hC
 have hsv : safeV n.data.toList v.data.toList = (if C.data.toList = sAccept then harmV v.data.toList
  else if C.data.toList = sALang ∨ C.data.toList = sCLang then langV v.data.toList
  else if C.data.toList = sCType then harmV v.data.toList && kindV v.data.toList
  else if C.data.toList = sRange then rOk v.data.toList && decide (0 ≤ rFrom v.data.toList)
  else false) := by
  unfold safeV
  rw [if_neg (by simpa using hlong), hCl]
 clear hCl
 by_cases h1 : C.data.toList = sAccept
 ·have HS := hid (show safeV n.data.toList v.data.toList = harmV v.data.toList by rw [hsv, if_pos h1])
  have e1 := lst_yes h1
  unfold sAccept at e1
  have HE := hid e1
  clear hsv h1 e1
  go_enter Tryz.func98, Tryz.ntmps98
  go_wp2_with fail
  refine (rlower_any_Ra n _ hn).mono ?_
  rintro e w1 ⟨rfl, hb1⟩
  rw [← HC.out, HE.out]
  go_wp2_with (go_at_call 150; refine (risky5_any v _ hv).mono ?_; rintro e w' ⟨rfl, hbu⟩)
  go_ret
  exact ⟨ret_bool (by first | (rw [HS.out]; done) | (rw [HS.out]; simp)), belowT hb1 hbu⟩
 rw [if_neg h1] at hsv
 have h1' := lst_ne h1
 by_cases h2 : C.data.toList = sALang
 ·have HS := hid (show safeV n.data.toList v.data.toList = langV v.data.toList by rw [hsv, if_pos (.inl h2)])
  have e1 := lst_yes h2
  unfold sALang at e1
  have HE := hid e1
  clear hsv h1 e1 h2 h1'
  go_enter Tryz.func98, Tryz.ntmps98
  go_wp2_with fail
  refine (rlower_any_Ra n _ hn).mono ?_
  rintro e w1 ⟨rfl, hb1⟩
  rw [← HC.out, HE.out]
  go_wp2_with (go_at_call 151; refine (rlanguage_any v _ hv).mono ?_; rintro e w' ⟨rfl, hbu⟩)
  go_ret
  exact ⟨ret_bool HS.out.symm, belowT hb1 hbu⟩
 have h2' := lst_ne h2
 by_cases h3 : C.data.toList = sCLang
 ·have HS := hid (show safeV n.data.toList v.data.toList = langV v.data.toList by rw [hsv, if_pos (.inr h3)])
  have e1 := lst_yes h3
  unfold sCLang at e1
  have HE := hid e1
  clear hsv h1 e1 h2 h3 h1' h2'
  go_enter Tryz.func98, Tryz.ntmps98
  go_wp2_with fail
  refine (rlower_any_Ra n _ hn).mono ?_
  rintro e w1 ⟨rfl, hb1⟩
  rw [← HC.out, HE.out]
  go_wp2_with (go_at_call 151; refine (rlanguage_any v _ hv).mono ?_; rintro e w' ⟨rfl, hbu⟩)
  go_ret
  exact ⟨ret_bool HS.out.symm, belowT hb1 hbu⟩
 have h3' := lst_ne h3
 rw [if_neg (by rintro (h | h); exact h2 h; exact h3 h)] at hsv
 by_cases h4 : C.data.toList = sCType
 ·rw [if_pos h4] at hsv
  have e1 := lst_yes h4
  unfold sCType at e1
  have HE := hid e1
  clear h1 e1 h2 h3 h4 h1' h2' h3'
  obtain ⟨hm, hhm⟩ : ∃ x, x = harmV v.data.toList := ⟨_, rfl⟩
  have HHm : Hid (∀ w : World, Calls Tryz.prog 150 #[.string v] w fun e w' => e = .returned (.bool (!hm)) ∧ Below w.heap.size w w') := fun w => by
   have := risky5_any v w hv
   rw [← hhm] at this
   exact this
  have HS := hid (show safeV n.data.toList v.data.toList = (hm && kindV v.data.toList) by rw [hsv, hhm])
  have hcl := xcut_le v.data.toList 59
  have HPt := hid (fun X => rpart9_any v 59 X (by omega))
  rw [← cut_part_Cb] at HPt
  obtain ⟨A, hA⟩ : ∃ x : ByteArray, x = ⟨(Lib.cut v.data.toList [59]).1.toArray⟩ := ⟨_, rfl⟩
  have hAs : A.size ≤ 4000000000 := by rw [hA, xsize]; have := hcl.1; simp at this; omega
  rw [← hA] at HPt
  obtain ⟨B, hB⟩ : ∃ x : ByteArray, x = ⟨(strip A.data.toList).toArray⟩ := ⟨_, rfl⟩
  have hBs : B.size ≤ 4000000000 := by rw [hB, xsize]; have := strip_le A.data.toList; simp at this; omega
  obtain ⟨E, hE⟩ : ∃ x : ByteArray, x = ⟨(low B.data.toList).toArray⟩ := ⟨_, rfl⟩
  have HKd := hid (show kindV v.data.toList = (E.toList == sForm || (E.toList == sMulti || E.toList == sPlain)) by
   have : essV v.data.toList = E.toList := by rw [Lib.toList_data, hE, hB, hA]; rfl
   unfold kindV
   rw [this])
  have HSt := hid (fun X => rstrip_any A X (by omega))
  rw [← hB] at HSt
  have HLw := hid (fun X => rlower_any_Ra B X (by omega))
  rw [← hE] at HLw
  clear hsv hhm hA hB hE hcl
  have HFin := hid (show ∀ b : Bool, (hm && (E.toList == sForm || (E.toList == sMulti || E.toList == sPlain))) = b → Ending.returned (.bool b) = .returned (.bool (safeV n.data.toList v.data.toList)) from fun b hb => by
   rw [← hb, HS.out, HKd.out])
  clear HS HKd
  cases hm
  all_goals
   go_enter Tryz.func98, Tryz.ntmps98
   go_wp2_with fail
   refine (rlower_any_Ra n _ hn).mono ?_
   rintro e w1 ⟨rfl, hb1⟩
   rw [← HC.out, HE.out]
   go_wp2_with fail
   refine (HPt.out _).mono ?_
   rintro e w2 ⟨rfl, hb2⟩
   have HB2 := hid (belowT hb1 hb2)
   go_wp2_with fail
   refine (HSt.out _).mono ?_
   rintro e w3 ⟨rfl, rfl⟩
   go_wp2_with fail
   refine (HLw.out _).mono ?_
   rintro e w4 ⟨rfl, hb4⟩
   have HB4 := hid (belowT HB2.out hb4)
   clear hb1 hb2 hb4
   go_wp2_with (go_at_call 150; refine (HHm.out _).mono ?_; rintro e w5 ⟨rfl, hb5⟩; have HB5 := hid (belowT HB4.out hb5); clear hb5)
   all_goals
    go_ret
    refine ⟨HFin.out _ ?_, HB5.out⟩
    unfold sForm sMulti sPlain
    first | rfl | (simp [Bool.or_assoc]; done) | (simp only [*]; rfl) | (simp_all; done)
 have h4' := lst_ne h4
 rw [if_neg h4] at hsv
 by_cases h5 : C.data.toList = sRange
 ·rw [if_pos h5] at hsv
  have e1 := lst_yes h5
  unfold sRange at e1
  have HE := hid e1
  clear h1 e1 h2 h3 h4 h5 h1' h2' h3' h4'
  obtain ⟨ok, hok⟩ : ∃ x, x = rOk v.data.toList := ⟨_, rfl⟩
  obtain ⟨fr, hfr⟩ : ∃ x, x = rFrom v.data.toList := ⟨_, rfl⟩
  have HR : Hid (∀ w : World, Calls Tryz.prog 152 #[.string v] w fun e w' => e = .returned (.tuple #[.int .i64 fr, .int .i64 (rTo v.data.toList), .bool ok]) ∧ Below w.heap.size w w') := fun w => by
   have := rrange_any v w (by omega)
   rw [← hok, ← hfr] at this
   exact this
  have HS := hid (show safeV n.data.toList v.data.toList = (ok && decide (0 ≤ fr)) by rw [hsv, hok, hfr])
  clear hsv hok hfr
  cases ok with
  | false =>
   go_enter Tryz.func98, Tryz.ntmps98
   go_wp2_with fail
   refine (rlower_any_Ra n _ hn).mono ?_
   rintro e w1 ⟨rfl, hb1⟩
   rw [← HC.out, HE.out]
   go_wp2_with fail
   refine (HR.out _).mono ?_
   rintro e w2 ⟨rfl, hb2⟩
   go_wp2
   go_ret
   exact ⟨ret_bool (by rw [HS.out]; simp), belowT hb1 hb2⟩
  | true =>
   go_enter Tryz.func98, Tryz.ntmps98
   go_wp2_with fail
   refine (rlower_any_Ra n _ hn).mono ?_
   rintro e w1 ⟨rfl, hb1⟩
   rw [← HC.out, HE.out]
   go_wp2_with fail
   refine (HR.out _).mono ?_
   rintro e w2 ⟨rfl, hb2⟩
   go_wp2
   go_ret
   exact ⟨ret_bool (by rw [HS.out]; simp), belowT hb1 hb2⟩
 have h5' := lst_ne h5
 rw [if_neg h5] at hsv
 unfold sAccept at h1'
 unfold sALang at h2'
 unfold sCLang at h3'
 unfold sCType at h4'
 unfold sRange at h5'
 have HS := hid hsv
 clear h1 h2 h3 h4 h5 hsv
 go_enter Tryz.func98, Tryz.ntmps98
 go_wp2_with fail
 refine (rlower_any_Ra n _ hn).mono ?_
 rintro e w1 ⟨rfl, hb1⟩
 rw [← HC.out]
 go_wp2
 go_ret
 exact ⟨ret_bool (by rw [HS.out]), hb1⟩

end Go.Proofs.YtpopljcmkbchcaaGreatDoor

namespace Go.Proofs.YtpopljcmkbchcaaGreatDoor
def forbL : List UInt8 := [0, 9, 10, 13, 32, 35, 47, 58, 60, 62, 63, 64, 91, 92, 93, 94, 124]

def forb (c : UInt8) : Bool := decide (0 ≤ Lib.indexByte forbL c)

def dig16 (c : UInt8) : Nat :=
 if 48 ≤ c.toNat ∧ c.toNat ≤ 57 then c.toNat - 48 else if 97 ≤ c.toNat ∧ c.toNat ≤ 102 then c.toNat - 87 else if 65 ≤ c.toNat ∧ c.toNat ≤ 70 then c.toNat - 55 else 16

def valN (base : Nat) : Nat → List UInt8 → Option Nat
 | n, [] => some n
 | n, c :: l => if dig16 c < base then valN base (min (n * base + dig16 c) 4294967296) l else none

def valV (base : Nat) (l : List UInt8) : Option Nat := valN base 0 l

def marked (l : List UInt8) : Bool := Lib.hasPrefix l [48, 120] || Lib.hasPrefix l [48, 88]

def numV (l : List UInt8) : Option Nat :=
 if marked l then valV 16 (l.drop 2)
 else match l with
  | [] => none
  | c :: r => if c = 48 then valV 8 r else valV 10 (c :: r)

def fourN : Nat → Nat → List UInt8 → Option Nat
 | 0, _, _ => none
 | r + 1, high, rest =>
  match numV (Lib.cut rest [46]).1 with
  | none => none
  | some n =>
   if (Lib.cut rest [46]).2.2 then (if 255 < n then none else fourN r (high * 256 + n) (Lib.cut rest [46]).2.1)
   else if n < 2 ^ (8 * (r + 1)) then some (high * 2 ^ (8 * (r + 1)) + n) else none

def noDot (l : List UInt8) : List UInt8 := Lib.trimSuffix l [46]

def fourV (l : List UInt8) : Option Nat := fourN 4 0 (noDot l)

def lastLab (l : List UInt8) : List UInt8 := (l.reverse.takeWhile (· != 46)).reverse

def numberedV (l : List UInt8) : Bool :=
 if marked (lastLab (noDot l)) then (valV 16 ((lastLab (noDot l)).drop 2)).isSome
 else decide (lastLab (noDot l) ≠ []) && (valV 10 (lastLab (noDot l))).isSome

def dec8 (n : Nat) : List UInt8 :=
 if n < 10 then [UInt8.ofNat (48 + n)] else if n < 100 then [UInt8.ofNat (48 + n / 10), UInt8.ofNat (48 + n % 10)] else [UInt8.ofNat (48 + n / 100), UInt8.ofNat (48 + n / 10 % 10), UInt8.ofNat (48 + n % 10)]

def text4 (n : Nat) : List UInt8 := dec8 (n / 16777216 % 256) ++ 46 :: (dec8 (n / 65536 % 256) ++ 46 :: (dec8 (n / 256 % 256) ++ 46 :: dec8 (n % 256)))

def plainB (l : List UInt8) : Option Nat :=
 match valV 10 l with
 | none => none
 | some n => if 255 < n ∨ l = [] ∨ (l.head? = some 48 ∧ l ≠ [48]) then none else some n

def dotN : Nat → Nat → List UInt8 → Option Nat
 | 0, n, _ => some n
 | r + 1, n, rest =>
  match plainB (Lib.cut rest [46]).1 with
  | none => none
  | some b => if (Lib.cut rest [46]).2.2 = decide (r ≠ 0) then dotN r (n * 256 + b) (Lib.cut rest [46]).2.1 else none

def dottedV (l : List UInt8) : Option Nat := dotN 4 0 l

def scanP (whole : Option Nat) (last : Bool) : Nat → Nat → List UInt8 → Option (List Nat)
 | i, n, [] => if i = 0 then none else some [n]
 | i, n, c :: l =>
  if c = 46 ∧ last = true then whole.map fun m => [m / 65536, m % 65536]
  else if dig16 c < 16 ∧ i ≠ 4 then scanP whole last (i + 1) (n * 16 + dig16 c) l else none

def pieceV (last : Bool) (p : List UInt8) : Option (List Nat) := scanP (dottedV p) last 0 0 p

def piecesN (atEnd : Bool) : Nat → List Nat → List UInt8 → Bool → Option (List Nat)
 | _, out, _, false => some out
 | 0, _, _, true => none
 | f + 1, out, rest, true =>
  match pieceV (atEnd && !(Lib.cut rest [58]).2.2) (Lib.cut rest [58]).1 with
  | none => none
  | some ns => piecesN atEnd f (out ++ ns) (Lib.cut rest [58]).2.1 (Lib.cut rest [58]).2.2

def piecesV (l : List UInt8) (atEnd : Bool) : Option (List Nat) := piecesN atEnd 8 [] l (decide (l ≠ []))

def sixV (l : List UInt8) : Option (List Nat) :=
 match piecesV (Lib.cut l [58, 58]).1 (!(Lib.cut l [58, 58]).2.2), piecesV (Lib.cut l [58, 58]).2.1 true with
 | some a, some b =>
  if a.length + b.length ≤ 8 ∧ ((Lib.cut l [58, 58]).2.2 = true ↔ a.length + b.length < 8) then some (a ++ List.replicate (8 - a.length - b.length) 0 ++ b) else none
 | _, _ => none

def digC (n : Nat) : UInt8 := if n < 10 then UInt8.ofNat (48 + n) else UInt8.ofNat (87 + n)

def digsN (base : Nat) : Nat → Nat → List UInt8 → List UInt8
 | 0, _, acc => acc
 | f + 1, n, acc => if n < base then digC n :: acc else digsN base f (n / base) (digC (n % base) :: acc)

def hex16 (n : Nat) : List UInt8 := digsN 16 4 n []

def zeros : List Nat → Nat
 | [] => 0
 | n :: l => if n = 0 then zeros l + 1 else 0

def lrunN : Nat → Nat → Nat → Nat → List Nat → Nat × Nat
 | _, _, fr, tu, [] => (fr, tu)
 | f, i, fr, tu, n :: l =>
  if max (tu - fr) 1 < zeros (n :: l) then lrunN f (i + 1) i (i + zeros (n :: l)) l else lrunN f (i + 1) fr tu l

def lrun (x : List Nat) : Nat × Nat := lrunN 0 0 0 0 x

def joined (x : List Nat) : List UInt8 := Lib.join (x.map hex16) [58]

def text6 (x : List Nat) : List UInt8 :=
 if (lrun x).1 = (lrun x).2 then joined x else joined (x.take (lrun x).1) ++ ([58, 58] ++ joined (x.drop (lrun x).2))

def nameB (c : UInt8) : Bool := !(decide (c.toNat < 33) || (decide (126 < c.toNat) || (c == 37 || forb c)))

def coded (l : List UInt8) : Bool := Lib.hasPrefix l [120, 110, 45, 45] || Lib.contains l [46, 120, 110, 45, 45]

def allN (l : List UInt8) : Bool := l.all nameB

def nameV (l : List UInt8) : Option (List UInt8) :=
 if l = [] ∨ allN l = false ∨ coded l = true then none
 else if numberedV l then (fourV l).map text4 else some l

def otherV (l : List UInt8) : Option (List UInt8) := if l.any forb then none else some (pct 1 l)

def bracketV (l : List UInt8) : Option (List UInt8) :=
 if Lib.hasSuffix l [93] then (sixV (Lib.trimSuffix l [93])).map fun x => 91 :: (text6 x ++ [93]) else none

def parseV (l : List UInt8) (special : Bool) : Option (List UInt8) :=
 if Lib.hasPrefix l [91] then bracketV (l.drop 1) else if special then nameV (low (unpct l)) else otherV l

end Go.Proofs.YtpopljcmkbchcaaGreatDoor

namespace Go.Proofs.YtpopljcmkbchcaaGreatDoor
theorem ba_ext {a : ByteArray} {l : List UInt8} (h : a.data.toList = l) : a = ⟨l.toArray⟩ := by
 subst h; exact (Lib.mk_data a).symm

theorem lastLab_none (l : List UInt8) (h : ∀ c ∈ l, c ≠ 46) : lastLab l = l := by
 unfold lastLab
 have e := List.takeWhile_append_of_pos (p := fun x : UInt8 => x != 46) (l₁ := l.reverse) (l₂ := []) (by intro c hc; have := h c (by simpa using hc); simpa using this)
 rw [List.append_nil] at e
 rw [e]
 simp

theorem lastLab_some (a l : List UInt8) (h : ∀ c ∈ l, c ≠ 46) : lastLab (a ++ 46 :: l) = l := by
 unfold lastLab
 have e : (a ++ 46 :: l).reverse = l.reverse ++ 46 :: a.reverse := by simp
 rw [e, List.takeWhile_append_of_pos (by intro c hc; have := h c (by simpa using hc); simpa using this)]
 simp

def er {α : Type} (o : Option α) : Int := match o with | some _ => 0 | none => 10

theorem noDot_le (l : List UInt8) : (noDot l).length ≤ l.length := Lib.trimSuffix_le _ _

theorem cut_le (l sep : List UInt8) : (Lib.cut l sep).1.length ≤ l.length ∧ (Lib.cut l sep).2.1.length ≤ l.length := by
 unfold Lib.cut
 split
 ·simp
  omega
 ·simp

end Go.Proofs.YtpopljcmkbchcaaGreatDoor

namespace Go.Proofs.YtpopljcmkbchcaaGreatDoor
open Go.RowKit

def dB64 : List Int := [0, 1, 56, 2, 57, 49, 28, 3, 61, 58, 42, 50, 38, 29, 17, 4, 62, 47, 59, 36, 45, 43, 51, 22, 53, 39, 33, 30, 24, 18, 12, 5, 63, 55, 48, 27, 60, 41, 37, 16, 46, 35, 44, 21, 52, 32, 23, 11, 54, 26, 40, 15, 34, 20, 31, 10, 25, 14, 19, 9, 13, 8, 7, 6]

theorem gPow10 : Tryz.prog.globalNamed "internal/strconv.uint64pow10" = some 0 := by kernel_rfl

theorem gDB64 : Tryz.prog.globalNamed "math/bits.deBruijn64tab" = some 6 := by kernel_rfl

def Gd (w : World) : Prop :=
 (∃ m, w.cell? ⟨2, 0, none⟩ = some (.int .i64 m)) ∧ Lib.TabIs Tryz.prog w "internal/strconv.uint64pow10" .u64 Lib.pow10Tab ∧ Lib.TabIs Tryz.prog w "math/bits.deBruijn64tab" .u8 dB64

theorem Gd.kept {w w' : World} (h : Gd w) (hb : Below w.heap.size w w') : Gd w' := by
 obtain ⟨⟨m, hm⟩, h1, h2⟩ := h
 exact ⟨⟨m, (hb.cell (World.block_lt_of_cell? w _ hm)).trans hm⟩, Joins.tab_stays gPow10 h1 hb (Nat.le_refl _), Joins.tab_stays gDB64 h2 hb (Nat.le_refl _)⟩

theorem below2 {a b c : World} (h1 : Below a.heap.size a b) (h2 : Below b.heap.size b c) : Below a.heap.size a c := h1.trans (h2.mono h1.size)

def behind (l : List UInt8) : List UInt8 := if marked l then l.drop 2 else []

end Go.Proofs.YtpopljcmkbchcaaGreatDoor

namespace Go.Proofs.YtpopljcmkbchcaaGreatDoor
open Go.RowKit

def Tail (w : World) (g : Nat) (T : List UInt8) : Prop :=
 ∃ cur : Array Value, w.heap[g]? = some (.cells cur 233 (0, 0)) ∧ cur.size = 65 ∧ T.length ≤ 65 ∧ ∀ j (h : j < T.length), cur[65 - T.length + j]? = some (.int .u8 (T[j].toNat : Int))

theorem Tail.cell {w : World} {g : Nat} {T : List UInt8} (h : Tail w g T) (k : Nat) (hk : k < 65) : ∃ v, w.cell? ⟨g, k, none⟩ = some v := by
 obtain ⟨cur, hg, hs, _, _⟩ := h
 rw [cell_of_row w g k cur _ _ hg]
 exact ⟨cur[k], by simp [hs, hk]⟩

theorem Tail.frozen {w : World} {g : Nat} {T : List UInt8} (h : Tail w g T) (k : Nat) : w.frozen? ⟨g, k, none⟩ = false := by
 obtain ⟨cur, hg, _⟩ := h
 simp [World.frozen?, hg]

theorem Tail.set {w : World} {g : Nat} {T : List UInt8} (h : Tail w g T) (c : UInt8) (hT : T.length < 65) : Tail (w.setCell ⟨g, 64 - T.length, none⟩ (.int .u8 (c.toNat : Int))) g (c :: T) := by
 obtain ⟨cur, hg, hs, hl, hc⟩ := h
 refine ⟨_, Lib.heap_setCell_same hg _, by simpa using hs, by simp; omega, ?_⟩
 intro j hj
 cases j with
 | zero =>
  have e : 65 - (c :: T).length + 0 = 64 - T.length := by rw [List.length_cons]; omega
  rw [e]
  have hlt : 64 - T.length < cur.size := by omega
  simp [hlt]
 | succ j =>
  have hj' : j < T.length := by simpa using hj
  have e : 65 - (c :: T).length + (j + 1) = 65 - T.length + j := by rw [List.length_cons]; omega
  rw [e]
  have hne : 64 - T.length ≠ 65 - T.length + j := by omega
  simp [Array.getElem?_setIfInBounds, hne]
  exact hc j hj'

theorem Tail.string {w : World} {g cap : Nat} {T : List UInt8} (h : Tail w g T) : (convert 28 9 (.slice (some ⟨g, 65 - T.length, none⟩) T.length cap)).run Tryz.prog w = .ok (.string ⟨T.toArray⟩) w := by
 obtain ⟨cur, hg, hs, hl, hc⟩ := h
 refine run_convert_bytes_back w 28 9 5 _ cap T Tryz.underlying28 Tryz.underlying5 Tryz.underlying9 fun j hj => ?_
 rw [Addr.add_mid, cell_of_row w g _ cur _ _ hg]
 exact hc j hj

theorem digsN_more (base f n : Nat) (T : List UInt8) (h : ¬ n < base) : digsN base (f + 1) n T = digsN base f (n / base) (digC (n % base) :: T) := by rw [digsN, if_neg h]

theorem digsN_last (base f n : Nat) (T : List UInt8) (h : n < base) : digsN base (f + 1) n T = digC n :: T := by rw [digsN, if_pos h]

end Go.Proofs.YtpopljcmkbchcaaGreatDoor

namespace Go.Proofs.YtpopljcmkbchcaaGreatDoor
open Go.RowKit

theorem numV_ten {l : List UInt8} {c : UInt8} (h : marked (c :: l) = false) (hc : c ≠ 48) : numV (c :: l) = valV 10 (c :: l) := by simp [numV, h, hc]

theorem size_le {l : List UInt8} {s : ByteArray} {n : Nat} (h : l.length ≤ s.data.toList.length) (hs : s.size ≤ n) : (⟨l.toArray⟩ : ByteArray).size ≤ n := by
 have e : (⟨l.toArray⟩ : ByteArray).size = l.length := by show l.toArray.size = _; simp
 simp at h
 omega

theorem empty_yes (s : ByteArray) (h : s.data.toList = []) : s.toList.isEmpty = true := by rw [Lib.toList_data, h]; rfl

theorem empty_no (s : ByteArray) (h : s.data.toList ≠ []) : s.toList.isEmpty = false := by
 rw [Lib.toList_data]; cases hl : s.data.toList with
 | nil => exact absurd hl h
 | cons a l => rfl

end Go.Proofs.YtpopljcmkbchcaaGreatDoor

namespace Go.Proofs.YtpopljcmkbchcaaGreatDoor
open Go.RowKit

theorem fourN_more {r high n : Nat} {l : List UInt8} (h : numV (Lib.cut l [46]).1 = some n) (hm : (Lib.cut l [46]).2.2 = true) (hn : ¬ 255 < n) : fourN (r + 1) high l = fourN r (high * 256 + n) (Lib.cut l [46]).2.1 := by rw [fourN, h]; simp [hm, hn]

theorem fourN_last {r high n : Nat} {l : List UInt8} (h : numV (Lib.cut l [46]).1 = some n) (hm : (Lib.cut l [46]).2.2 = false) (hn : n < 2 ^ (8 * (r + 1))) : fourN (r + 1) high l = some (high * 2 ^ (8 * (r + 1)) + n) := by rw [fourN, h]; simp [hm, hn]

theorem getD_some {o : Option Nat} {n : Nat} (h : o = some n) : o.getD 0 = n := by rw [h]; rfl

theorem getD_none {o : Option Nat} (h : o = none) : o.getD 0 = 0 := by rw [h]; rfl

theorem orN (k h n : Nat) (hn : n < 2 ^ k) (hh : h * 2 ^ k + n < 18446744073709551616) : bits .or .u64 ((h : Int) * 2 ^ k) (n : Int) = ((h * 2 ^ k + n : Nat) : Int) := by
 have e : (h : Int) * 2 ^ k = ((h * 2 ^ k : Nat) : Int) := by simp
 rw [e, u64_or_nat _ _ (by omega) (by omega)]
 congr 1
 rw [← Nat.shiftLeft_eq, Nat.shiftLeft_add_eq_or_of_lt hn]

end Go.Proofs.YtpopljcmkbchcaaGreatDoor

namespace Go.Proofs.YtpopljcmkbchcaaGreatDoor
open Go.RowKit

theorem and255 (n : Nat) (h : n < 4294967296) : bits .and .u32 (n : Int) 255 = ((n % 256 : Nat) : Int) := by
 have := u32_and_nat n 255 h (by omega)
 rw [nat_mask8] at this
 simpa using this

def txt4 (n : Nat) : Nat → List UInt8
 | 0 => text4 n
 | 1 => dec8 (n / 16777216 % 256) ++ ([46] ++ dec8 (n / 65536 % 256)) ++ ([46] ++ dec8 (n / 256 % 256))
 | 2 => dec8 (n / 16777216 % 256) ++ ([46] ++ dec8 (n / 65536 % 256))
 | _ => dec8 (n / 16777216 % 256)

theorem dec8_le (n : Nat) : (dec8 n).length ≤ 3 := by
 unfold dec8; split
 ·simp
 ·split <;> simp

theorem text4_le (n : Nat) : (text4 n).length ≤ 15 := by
 unfold text4
 have h1 := dec8_le (n / 16777216 % 256)
 have h2 := dec8_le (n / 65536 % 256)
 have h3 := dec8_le (n / 256 % 256)
 have h4 := dec8_le (n % 256)
 simp; omega

theorem txt4_le (n g : Nat) : (txt4 n g).length ≤ 15 := by
 have h1 := dec8_le (n / 16777216 % 256)
 have h2 := dec8_le (n / 65536 % 256)
 have h3 := dec8_le (n / 256 % 256)
 unfold txt4
 split
 ·exact text4_le n
 ·simp; omega
 ·simp; omega
 ·omega

theorem ba_app (a b : List UInt8) : (⟨a.toArray⟩ : ByteArray) ++ ⟨b.toArray⟩ = ⟨(a ++ b).toArray⟩ := by
 refine ba_ext ?_
 simp

end Go.Proofs.YtpopljcmkbchcaaGreatDoor

namespace Go.Proofs.YtpopljcmkbchcaaGreatDoor
open Go.RowKit

theorem sizeBuilder : (Tryz.prog.info? 162).map (·.size) = some 2 := by kernel_rfl

theorem liesBuilder : liesAt Tryz.prog Tryz.prog.depth 162 (2 / Tryz.prog.cellsOf 162) 0 162 1 = true := by kernel_rfl

theorem infoByte : (Tryz.prog.info? 5).map (fun i => (i.zero, i.size, i.bytes)) = some (some (.int .u8 0), 1, 1) := by kernel_rfl

end Go.Proofs.YtpopljcmkbchcaaGreatDoor

namespace Go.Proofs.YtpopljcmkbchcaaGreatDoor
open Go.RowKit

theorem nameV_bad {l : List UInt8} (h : l = [] ∨ allN l = false ∨ coded l = true) : nameV l = none := by rw [nameV, if_pos h]

theorem nameV_name {l : List UInt8} (h0 : l ≠ []) (h1 : allN l = true) (h2 : coded l = false) (h3 : numberedV l = false) : nameV l = some l := by simp [nameV, h0, h1, h2, h3]

theorem nameV_num {l : List UInt8} (h0 : l ≠ []) (h1 : allN l = true) (h2 : coded l = false) (h3 : numberedV l = true) : nameV l = (fourV l).map text4 := by simp [nameV, h0, h1, h2, h3]

theorem fourN_lt : ∀ (r h : Nat) (l : List UInt8) (n : Nat), r ≤ 4 → h < 2 ^ (8 * (4 - r)) → fourN r h l = some n → n < 4294967296
 | 0, _, _, _, _, _, e => by cases e
 | r + 1, h, l, n, hr, hh, e => by
  have ep : 2 ^ (8 * (4 - (r + 1))) * 2 ^ (8 * (r + 1)) = 4294967296 := by
   rw [← Nat.pow_add, show 8 * (4 - (r + 1)) + 8 * (r + 1) = 32 by omega]
  rw [fourN] at e
  split at e
  ·cases e
  ·split at e
   ·split at e
    ·cases e
    ·refine fourN_lt r _ _ n (by omega) ?_ e
     have e2 : 8 * (4 - r) = 8 * (4 - (r + 1)) + 8 := by omega
     rw [e2, Nat.pow_add]
     omega
   ·split at e
    ·rename_i m _ _ hm
     cases e
     have h1 : (h + 1) * 2 ^ (8 * (r + 1)) ≤ 2 ^ (8 * (4 - (r + 1))) * 2 ^ (8 * (r + 1)) := Nat.mul_le_mul_right _ hh
     rw [ep, Nat.add_mul, Nat.one_mul] at h1
     omega
    ·cases e

theorem fourV_lt {l : List UInt8} {n : Nat} (h : fourV l = some n) : n < 4294967296 := fourN_lt 4 0 _ n (by omega) (by decide) h

end Go.Proofs.YtpopljcmkbchcaaGreatDoor

namespace Go.Proofs.YtpopljcmkbchcaaGreatDoor
open Go.RowKit

theorem plainB_le {l : List UInt8} {n : Nat} (h : plainB l = some n) : n ≤ 255 := by
 unfold plainB at h
 split at h
 ·cases h
 ·split at h
  ·cases h
  ·cases h; omega

end Go.Proofs.YtpopljcmkbchcaaGreatDoor

namespace Go.Proofs.YtpopljcmkbchcaaGreatDoor
open Go.RowKit

theorem infoU16 : (Tryz.prog.info? 279).map (fun i => (i.zero, i.size, i.bytes)) = some (some (.int .u16 0), 1, 2) := by kernel_rfl

def cells16 (l : List Nat) : List Value := l.map fun (n : Nat) => Value.int .u16 (n : Int)

theorem cells16_app (a b : List Nat) : cells16 (a ++ b) = cells16 a ++ cells16 b := by simp [cells16]

theorem cells16_len (a : List Nat) : (cells16 a).length = a.length := by simp [cells16]

theorem own_form {w : World} {base : Nat} {e : TypeId} {size n : Nat} {v : Value} {xs : List Value} (h : w.ownsRow base e size v n xs) : ∃ a cap, v = .slice a n cap := by
 rcases h.2 with ⟨rfl, rfl⟩ | ⟨g, cap, cur, rfl, _⟩
 ·exact ⟨none, 0, rfl⟩
 ·exact ⟨_, cap, rfl⟩

theorem piecesN_done {e : Bool} {f : Nat} {out : List Nat} {l : List UInt8} : piecesN e f out l false = some out := by cases f <;> rfl

theorem own_kept {w w' : World} {base : Nat} {e : TypeId} {size n : Nat} {v : Value} {xs : List Value} (h : w.ownsRow base e size v n xs) (hb : Below w.heap.size w w') : w'.ownsRow base e size v n xs := by
 refine ⟨h.1, ?_⟩
 rcases h.2 with h | ⟨g, cap, cur, hv, h1, h2, h3⟩
 ·exact .inl h
 ·refine .inr ⟨g, cap, cur, hv, h1, ?_, h3⟩
  have hlt : g < w.heap.size := by
   rcases Nat.lt_or_ge g w.heap.size with h' | h'
   ·exact h'
   ·rw [Array.getElem?_eq_none h'] at h2; cases h2
  rw [hb.block g hlt]; exact h2

theorem own_nil (w : World) (base : Nat) (e : TypeId) : w.ownsRow base e 1 (.slice none 0 0) 0 [] := ⟨rfl, .inl ⟨rfl, rfl⟩⟩

end Go.Proofs.YtpopljcmkbchcaaGreatDoor

namespace Go.Proofs.YtpopljcmkbchcaaGreatDoor
open Go.RowKit

def zero8 : List Nat := [0, 0, 0, 0, 0, 0, 0, 0]

def agg8 (x : List Nat) : Value := .agg (cells16 x).toArray

theorem row_kept {w w' : World} {g : Nat} {o : Obj} (h : w.heap[g]? = some o) (hb : Below w.heap.size w w') : w'.heap[g]? = some o := by
 have hlt : g < w.heap.size := by
  rcases Nat.lt_or_ge g w.heap.size with h' | h'
  ·exact h'
  ·rw [Array.getElem?_eq_none h'] at h; cases h
 rw [hb.block g hlt]; exact h

theorem there_row {w : World} {g n : Nat} {cs : Array Value} {t : TypeId} (h : w.heap[g]? = some (.cells cs t (0, 0))) (hn : n ≤ cs.size) : w.there g 0 n := by
 intro j hj
 constructor
 ·rw [cell_of_row w g _ cs t _ h]; simp; omega
 ·simp [World.frozen?, h]

theorem range_row {w : World} {g : Nat} {cs : List Value} {t : TypeId} {f : Nat × Nat} (h : w.heap[g]? = some (.cells cs.toArray t f)) : w.rangeAt g 0 cs := by
 intro j v hv
 rw [Nat.zero_add, cell_of_row w g j _ t _ h]
 simpa using hv

theorem below_setCells {B b : Nat} (hb : B ≤ b) {w0 : World} : ∀ (vs : List Value) (o : Nat) (w : World), Below B w0 w → Below B w0 (w.setCells b o vs)
 | [], _, _, h => h
 | v :: r, o, w, h => by
  rw [World.setCells]
  exact below_setCells hb r (o + 1) _ (h.setCell (p := ⟨b, o, none⟩) hb v)

theorem results_six {fn : Func} {p u : Tmp} {ty : TypeId} (h : fn.results = #[.cell p ty, .tmp u]) (tmps : Array Value) (P : Program) (w : World) (b : Nat) (cs : List Value) (d : TypeDesc) (hp : tmps.getD p undef = .pointer (some ⟨b, 0, none⟩)) (hc : w.rangeAt b 0 cs)
  (hu : P.underlying ty = some d) (hd : d.isRow = true) (hi : (P.info? ty).map (·.size) = some cs.length) : (results fn tmps).run P w = .ok (.tuple #[.agg cs.toArray, tmps.getD u undef]) w := by
 rw [results_cell_tmp h, hp]
 simp [asAddr, Result.andThen, run_loadVar_mid w b 0 ty cs d hc hu hd hi]

theorem own_src {w w' : World} {base : Nat} {e : TypeId} {a : Option Addr} {cap : Nat} {o : List Nat} (h : w.ownsRow base e 1 (.slice a o.length cap) o.length (cells16 o)) (h0 : 0 < o.length) (hb : Below w.heap.size w w') :
  ∃ ad, a = some ad ∧ ∀ j v, (cells16 o)[j]? = some v → w'.cell? (ad.add j) = some v := by
 rcases h.2 with ⟨hv, hn⟩ | ⟨g, cap', cur, hv, _⟩
 ·omega
 ·cases hv
  refine ⟨⟨g, 0, none⟩, rfl, fun j v hj => ?_⟩
  have hc := h.cells (g := g) rfl j v hj
  have hlt := World.block_lt_of_cell? w _ hc
  rw [hb.cell hlt]
  exact hc

def cutAd (b k : Nat) : Addr := if k = 0 then ⟨b, 0, none⟩ else ⟨b, 8 - k, none⟩

theorem slice8_from (b k : Nat) (hk : k ≤ 8) (w : World) : (Instr.sliceAt 280 (.pointer (some ⟨b, 0, none⟩)) (some (.int .i64 (8 - (k : Int)))) none none).run Tryz.prog w = .ok (.slice (some (cutAd b k)) k k) w := by
 have e8 : Tryz.prog.arrayLen 280 = 8 := by kernel_rfl
 have es : (sizeOf (Tryz.prog.elem 280)).run Tryz.prog w = .ok 1 w := by kernel_rfl
 rw [run_sliceAt_array_l w 280 ⟨b, 0, none⟩ (by kernel_rfl) .i64 _ (by omega) (by rw [e8]; omega), es, e8]
 simp only [Result.andThen, slicedAt]
 have e1 : (8 - (k : Int)).toNat = 8 - k := by omega
 have e2 : 8 - (8 - k) = k := by omega
 have e3 : (if 8 = 8 - k then (⟨b, 0, none⟩ : Addr) else (⟨b, 0, none⟩ : Addr).add ((8 - k) * 1)) = cutAd b k := by
  unfold cutAd
  by_cases h0 : k = 0
  ·subst h0; rfl
  ·rw [if_neg (by omega), if_neg h0, Addr.add_mid]; simp
 rw [e1, e2, e3]

theorem size8 : (Tryz.prog.info? 280).map (·.size) = some 8 := by kernel_rfl

theorem cells16_one (x : List Nat) : ∀ v ∈ cells16 x, v.oneCell' = true := by
 intro v hv
 obtain ⟨n, _, rfl⟩ := List.mem_map.1 hv
 rfl

theorem splice16 (a b : List Nat) (h : a.length + b.length ≤ 8) : splice (splice (cells16 zero8) 0 (cells16 a)) (8 - b.length) (cells16 b) = cells16 (a ++ List.replicate (8 - a.length - b.length) 0 ++ b) := by
 have hz : cells16 zero8 = List.replicate 8 (Value.int .u16 0) := rfl
 have e1 : splice (cells16 zero8) 0 (cells16 a) = cells16 a ++ List.replicate (8 - a.length) (Value.int .u16 0) := by
  unfold splice
  rw [hz, List.take_zero, List.nil_append, Nat.zero_add, cells16_len, List.drop_replicate]
 rw [e1]
 unfold splice
 rw [cells16_app, cells16_app, cells16_len, List.take_append, List.take_of_length_le (by rw [cells16_len]; omega), cells16_len, List.take_replicate, List.append_assoc, List.append_assoc]
 congr 1
 have e2 : min (8 - b.length - a.length) (8 - a.length) = 8 - a.length - b.length := by omega
 have e3 : (cells16 a ++ List.replicate (8 - a.length) (Value.int IntKind.u16 0)).drop (8 - b.length + b.length) = [] := by
  apply List.drop_eq_nil_of_le
  rw [List.length_append, cells16_len, List.length_replicate]; omega
 rw [e2, e3, List.append_nil]
 congr 1
 simp [cells16]

end Go.Proofs.YtpopljcmkbchcaaGreatDoor

namespace Go.Proofs.YtpopljcmkbchcaaGreatDoor
open Go.RowKit

theorem infoStr : (Tryz.prog.info? 9).map (fun i => (i.zero, i.size, i.bytes)) = some (some (.string ByteArray.empty), 1, 16) := by kernel_rfl

def hexB (n : Nat) : ByteArray := ⟨(hex16 n).toArray⟩

def Strs (w : World) (g : Nat) (x : List Nat) (k : Nat) : Prop :=
 ∃ cur : Array Value, w.heap[g]? = some (.cells cur 9 (0, 0)) ∧ cur.size = x.length ∧ ∀ j (h : j < x.length), j < k → cur[j]? = some (.string (hexB x[j]))

theorem Strs.kept {w w' : World} {g : Nat} {x : List Nat} {k : Nat} (h : Strs w g x k) (hb : Below w.heap.size w w') : Strs w' g x k := by
 obtain ⟨cur, hg, h2⟩ := h
 exact ⟨cur, row_kept hg hb, h2⟩

theorem Strs.cell {w : World} {g : Nat} {x : List Nat} {k : Nat} (h : Strs w g x k) (j : Nat) (hj : j < x.length) : ∃ v, w.cell? ⟨g, j, none⟩ = some v := by
 obtain ⟨cur, hg, hs, _⟩ := h
 rw [cell_of_row w g j cur _ _ hg]
 exact ⟨cur[j], by simp [hs, hj]⟩

theorem Strs.frozen {w : World} {g : Nat} {x : List Nat} {k : Nat} (h : Strs w g x k) (j : Nat) : w.frozen? ⟨g, j, none⟩ = false := by
 obtain ⟨cur, hg, _⟩ := h
 simp [World.frozen?, hg]

theorem Strs.set {w : World} {g : Nat} {x : List Nat} {k : Nat} (h : Strs w g x k) (hk : k < x.length) : Strs (w.setCell ⟨g, k, none⟩ (.string (hexB x[k]))) g x (k + 1) := by
 obtain ⟨cur, hg, hs, hc⟩ := h
 refine ⟨_, Lib.heap_setCell_same hg _, by simpa using hs, ?_⟩
 intro j hj hj2
 by_cases e : k = j
 ·subst e
  have : k < cur.size := by omega
  simp [this]
 ·simp [Array.getElem?_setIfInBounds, e]
  exact hc j hj (by omega)

theorem hex16_le (n : Nat) : (hex16 n).length ≤ 5 := by
 have key : ∀ (f m : Nat) (acc : List UInt8), (digsN 16 f m acc).length ≤ acc.length + f := by
  intro f
  induction f with
  | zero => intro m acc; simp [digsN]
  | succ f ih =>
   intro m acc
   rw [digsN]
   split
   ·simp
   ·have := ih (m / 16) (digC (m % 16) :: acc)
    simp at this
    omega
 have := key 4 n []
 simp at this
 unfold hex16
 omega

theorem joined_le (x : List Nat) : (joined x).length ≤ 6 * x.length := by
 unfold joined
 induction x with
 | nil => simp [Lib.join, List.intercalate]
 | cons a x ih =>
  have ha := hex16_le a
  cases x with
  | nil => simp [Lib.join_one]; omega
  | cons b x =>
   have e : Lib.join ((a :: b :: x).map hex16) [58] = hex16 a ++ [58] ++ Lib.join ((b :: x).map hex16) [58] := by
    simp [Lib.join, List.intercalate, List.intersperse]
   rw [e]
   simp only [List.length_append, List.length_cons, List.length_nil] at ih ⊢
   omega

def Nums (w : World) (b o : Nat) (x : List Nat) : Prop := ∀ j (h : j < x.length), w.cell? ⟨b, o + j, none⟩ = some (.int .u16 (x[j] : Int))

theorem Nums.kept {w w' : World} {b o : Nat} {x : List Nat} (h : Nums w b o x) (hb : Below w.heap.size w w') : Nums w' b o x := fun j hj => by
 rw [hb.cell (World.block_lt_of_cell? w _ (h j hj))]; exact h j hj

end Go.Proofs.YtpopljcmkbchcaaGreatDoor

namespace Go.Proofs.YtpopljcmkbchcaaGreatDoor
open Go.RowKit

theorem nums_row {w : World} {g : Nat} {x : List Nat} {t : TypeId} {f : Nat × Nat} (h : w.heap[g]? = some (.cells (cells16 x).toArray t f)) : Nums w g 0 x := fun j hj => by
 rw [Nat.zero_add, cell_of_row w g j _ t f h]
 simp [cells16, hj]

theorem zeros_le (l : List Nat) : zeros l ≤ l.length := by
 induction l with
 | nil => simp [zeros]
 | cons a l ih => rw [zeros]; split <;> simp <;> omega

theorem zeros_hit {l : List Nat} {e : Nat} (h : e < l.length) (h0 : l[e] = 0) : zeros (l.drop e) = zeros (l.drop (e + 1)) + 1 := by
 rw [List.drop_eq_getElem_cons h, zeros, if_pos h0]

theorem zeros_miss {l : List Nat} {e : Nat} (h : e < l.length) (h0 : l[e] ≠ 0) : zeros (l.drop e) = 0 := by
 rw [List.drop_eq_getElem_cons h, zeros, if_neg h0]

theorem lrunN_take {i fr tu : Nat} {x : List Nat} (h : i < x.length) (hz : max (tu - fr) 1 < zeros (x.drop i)) : lrunN 0 i fr tu (x.drop i) = lrunN 0 (i + 1) i (i + zeros (x.drop i)) (x.drop (i + 1)) := by
 rw [List.drop_eq_getElem_cons h] at hz ⊢
 rw [lrunN, if_pos hz]

theorem lrunN_skip {i fr tu : Nat} {x : List Nat} (h : i < x.length) (hz : ¬ max (tu - fr) 1 < zeros (x.drop i)) : lrunN 0 i fr tu (x.drop i) = lrunN 0 (i + 1) fr tu (x.drop (i + 1)) := by
 rw [List.drop_eq_getElem_cons h] at hz ⊢
 rw [lrunN, if_neg hz]

end Go.Proofs.YtpopljcmkbchcaaGreatDoor

namespace Go.Proofs.YtpopljcmkbchcaaGreatDoor
open Go.RowKit

theorem lrunN_le : ∀ (l : List Nat) (i fr tu : Nat), fr ≤ tu → tu ≤ i + l.length → (lrunN 0 i fr tu l).1 ≤ (lrunN 0 i fr tu l).2 ∧ (lrunN 0 i fr tu l).2 ≤ i + l.length
 | [], i, fr, tu, h, h2 => ⟨h, h2⟩
 | n :: l, i, fr, tu, h, h2 => by
  rw [lrunN]
  have hz := zeros_le (n :: l)
  simp only [List.length_cons] at hz h2 ⊢
  split
  ·have := lrunN_le l (i + 1) i (i + zeros (n :: l)) (by omega) (by omega)
   omega
  ·have := lrunN_le l (i + 1) fr tu h (by omega)
   omega

theorem lrun_le (x : List Nat) : (lrun x).1 ≤ (lrun x).2 ∧ (lrun x).2 ≤ x.length := by
 have := lrunN_le x 0 0 0 (by omega) (by omega)
 rw [Nat.zero_add] at this
 exact this

theorem Nums.take {w : World} {b : Nat} {x : List Nat} (h : Nums w b 0 x) (k : Nat) : Nums w b 0 (x.take k) := fun j hj => by
 have hj' : j < x.length := by simp at hj; omega
 rw [List.getElem_take]; exact h j hj'

theorem Nums.drop {w : World} {b : Nat} {x : List Nat} (h : Nums w b 0 x) (k : Nat) : Nums w b k (x.drop k) := fun j hj => by
 have hj' : k + j < x.length := by simp at hj; omega
 rw [List.getElem_drop]
 have := h (k + j) hj'
 rwa [Nat.zero_add] at this

theorem text6_same {x : List Nat} (h : (lrun x).1 = (lrun x).2) : text6 x = joined x := by rw [text6, if_pos h]

theorem text6_run {x : List Nat} (h : (lrun x).1 ≠ (lrun x).2) : text6 x = joined (x.take (lrun x).1) ++ ([58, 58] ++ joined (x.drop (lrun x).2)) := by rw [text6, if_neg h]

end Go.Proofs.YtpopljcmkbchcaaGreatDoor
