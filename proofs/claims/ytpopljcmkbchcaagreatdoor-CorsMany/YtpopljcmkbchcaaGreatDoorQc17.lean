/-
  Walks and plain facts that this claim leans on, put together out of 2 texts: Sf, Sg.
-/
import Derived.Test.YtpopljcmkbchcaaGreatDoorProg
import Derived.Test.YtpopljcmkbchcaaGreatDoorQc1
import Derived.Test.YtpopljcmkbchcaaGreatDoorQc8
import Derived.Test.YtpopljcmkbchcaaGreatDoorQc10
import Derived.Test.YtpopljcmkbchcaaGreatDoorQc11
import Derived.Test.YtpopljcmkbchcaaGreatDoorQc12
import Derived.Test.YtpopljcmkbchcaaGreatDoorQc16
import Derived.Lib.IndexMore
import Derived.Lib.Join
import Derived.Lib.LastIndexByte
import Derived.WalkKit
import Derived.Lib.Strings
import Derived.Lib.UnsafeStr
import Derived.Laws.IdiomStrings
import Derived.Laws.AppendOwn
import Derived.Laws.BitsAllLaws
import Derived.Lib.Bytealg
import Derived.Lib.BufferMore
import Derived.LoopN
import Derived.RegionTactic
import Derived.Deep.RegionWith
import Derived.Deep.QuietTactic
import Derived.BigQuiet
import Derived.Laws.OwnMore
import Derived.Deep.LoopGhost
import Derived.Shelf.Strings.Builder1
import Derived.Shelf.Strings.Builder2
import Derived.Shelf.Strings.OnBuilder
import Derived.Shelf.Strings.Trim
import Derived.Shelf.Small.Utf8
import Derived.Shelf.Small.Bits
import Derived.Shelf.Small.Strs
import Derived.Shelf.Small.Wraps
import Derived.Shelf.Strings.BuilderF
import Derived.Shelf.Strings.BuilderK
import Derived.Shelf.Strings.BuilderRune
import Derived.Shelf.Utf8.AppendRune
import Derived.Shelf.Utf8.AppendRunePlain
import Derived.Shelf.Strings.Builder2Cap
import Derived.Shelf.Strconv.Itoa0
import Derived.Shelf.Strconv.Itoa1
import Derived.Shelf.LaysM
import Derived.Shelf.Strconv.Itoa2
import Derived.Shelf.Strconv.Itoa3
import Derived.Shelf.Strings.Search1
import Derived.Shelf.Strings.Search2
import Derived.Shelf.Strings.Cut
import Derived.Shelf.Strings.Shaped
import Derived.Shelf.Sort.Plain
import Derived.Shelf.Strings.Prefix
import Derived.Shelf.Unicode.Latin
import Derived.Shelf.Strings.Runes
import Derived.Shelf.Strings.IndexAny
import Derived.Shelf.Strings.AsciiSet
import Derived.Shelf.Strings.IndexAnyAll
import Derived.Shelf.Unicode.DecodeSlow
import Derived.Shelf.Unicode.DecodeAny
import Derived.Shelf.Unicode.DecodeLast
import Derived.Shelf.Unicode.CaseLookup
import Derived.Shelf.Unicode.CaseConvert
import Derived.Shelf.Unicode.CaseTo
import Derived.Shelf.Unicode.CaseLaid
import Derived.Shelf.Slices.CompactS
import Derived.Shelf.Slices.In.SortNone
import Derived.WalkSpells
import Derived.WalkLawsBesides
import Derived.Lib.AppendIntMem
import Derived.Lib.SmallJoins
import Derived.WalkSmall
import Derived.WalkMore
import Derived.OwnWalk
import Derived.Laws.CopyOwn
import Derived.Laws.ResultCell
import Derived.Deep.MidRow
import Derived.Lib.FrozenHead2
import Derived.Lib.OthersKept
import Derived.Lib.Builder
set_option linter.unusedSimpArgs false
set_option linter.unusedVariables false

namespace Go.Proofs.YtpopljcmkbchcaaGreatDoor
open Go.RowKit

theorem num_ret {x : List UInt8} {w : World} (h : rnumV x = none) : NumPost x w (.returned (.tuple #[.int .u64 0, .bool false])) w := by
 unfold NumPost
 rw [h]
 exact ⟨rfl, rfl⟩

theorem num_ret2 {x : List UInt8} {w : World} {n : Nat} {b : Bool} (h : (rnumV x).getD 0 = n) (hb : (rnumV x).isSome = b) : NumPost x w (.returned (.tuple #[.int .u64 n, .bool b])) w := by
 unfold NumPost
 rw [h, hb]
 exact ⟨rfl, rfl⟩

set_option maxHeartbeats 4000000 in
set_option maxRecDepth 100000 in
theorem rnumber_any (x : ByteArray) (w : World) (hs : x.size ≤ 4000000000) :
  Calls Tryz.prog 285 #[.string x] w (NumPost x.data.toList w) := by
 have hmk : marked x.data.toList = (Lib.hasPrefix x.data.toList [48, 120] || Lib.hasPrefix x.data.toList [48, 88]) := rfl
 by_cases hm : marked x.data.toList = true
 ·have h2 : 2 ≤ x.size := by
   obtain ⟨c, r, hx, _⟩ := marked_form _ hm
   have := congrArg List.length hx
   simp at this
   omega
  have h2' : (2 : Int) ≤ (x.size : Int) := by omega
  obtain ⟨Y, hY⟩ : ∃ Y : ByteArray, x.extract 2 x.size = Y := ⟨_, rfl⟩
  have hYd : Y.data.toList = x.data.toList.drop 2 := by rw [← hY, extract_drop]
  have hYs : Y.size ≤ 4000000000 := by rw [← hY]; simp; omega
  have HY := hid hY
  have HYd := hid hYd
  have hcase : (Lib.hasPrefix x.data.toList [48, 120] = true) ∨ (Lib.hasPrefix x.data.toList [48, 120] = false ∧ Lib.hasPrefix x.data.toList [48, 88] = true) := by
   rw [hmk] at hm
   cases h : Lib.hasPrefix x.data.toList [48, 120]
   ·rw [h] at hm; exact .inr ⟨rfl, by simpa using hm⟩
   ·exact .inl rfl
  have HRv := hid (show rnumV x.data.toList = valC lid 16 0 Y.data.toList by unfold rnumV; rw [if_pos hm, HYd.out])
  clear hm hmk hY hYd
  by_cases h0 : Y.data.toList = []
  ·have HN := hid (show rnumV x.data.toList = some 0 by rw [HRv.out, h0]; rfl)
   have hemp : (x.extract 2 x.size).toList.isEmpty = true := by rw [HY.out, Lib.toList_data, h0]; rfl
   clear h0
   rcases hcase with hp1 | ⟨hp1, hp2⟩
   all_goals
    go_enter Tryz.func285, Tryz.ntmps285
    go_wp2_with (first | (go_at_call 201; refine (begins_any _ _ _ hs (by decide)).mono ?_; rintro e w' ⟨rfl, rfl⟩; first | rw [show (⟨#[48, 120]⟩ : ByteArray).data.toList = [48, 120] from rfl, hp1] | rw [show (⟨#[48, 88]⟩ : ByteArray).data.toList = [48, 88] from rfl, hp2]))
    go_ret2
    exact num_ret2 (by rw [HN.out]; rfl) (by rw [HN.out]; rfl)
  ·have HR := hid (show rnumV x.data.toList = if Y.data.toList = [] then none else valC lid 16 0 Y.data.toList by rw [if_neg h0]; exact HRv.out)
   have hemp : (x.extract 2 x.size).toList.isEmpty = false := by rw [HY.out, Lib.toList_data]; simpa using h0
   clear h0
   rcases hcase with hp1 | ⟨hp1, hp2⟩
   all_goals
    go_enter Tryz.func285, Tryz.ntmps285
    go_wp2_with (first | (go_at_call 201; refine (begins_any _ _ _ hs (by decide)).mono ?_; rintro e w' ⟨rfl, rfl⟩; first | rw [show (⟨#[48, 120]⟩ : ByteArray).data.toList = [48, 120] from rfl, hp1] | rw [show (⟨#[48, 88]⟩ : ByteArray).data.toList = [48, 88] from rfl, hp2]))
    rw [HY.out]
    clear hemp
    go_loop [5, 6] (fun v i => ∃ k n : Nat, k ≤ Y.size ∧ i = .int .i64 k ∧ v = .int .u64 n ∧ n ≤ 1099511627776 ∧ valC lid 16 n (Y.data.toList.drop k) = valC lid 16 0 Y.data.toList) (fun _ i => Y.size - (intOf i).toNat)
    case atStart => exact ⟨0, 0, Nat.zero_le _, rfl, rfl, by omega, by rw [List.drop_zero]⟩
    case round =>
     obtain ⟨k, n, hk, rfl, rfl, hn, hv⟩ := hrel
     have HV := hid hv
     clear hv
     by_cases hlt : k < Y.size
     ·have hlt' : (k : Int) < (Y.size : Int) := by omega
      have HD := hid (drop_cons Y k hlt)
      have hc8 : Y[k].toNat < 256 := Y[k].toNat_lt
      by_cases hd : dig16 Y[k] < 16
      ·have hx := hex_yes (c := Y[k]) (by omega)
       have HN := hid (show valC lid 16 (min (n * 16 + dig16 Y[k]) lid) (Y.data.toList.drop (k + 1)) = valC lid 16 0 Y.data.toList by rw [← HV.out, HD.out, valC_cons_yes hd])
       generalize dig16 Y[k] = d at *
       have hd0 : ¬ ((d : Int) < 0) := by omega
       have hd1 : ¬ ((16 : Int) ≤ (d : Int)) := by omega
       by_cases hbig : 1099511627776 < n * 16 + d
       ·have hbig' : (1099511627776 : Int) < (n : Int) * 16 + (d : Int) := by omega
        have HM := hid (show min (n * 16 + d) lid = 1099511627776 by unfold lid; omega)
        go_wp2_with (go_at_call 283; refine (rhex_any _ _ (by omega) (by omega)).mono ?_; rintro e w' ⟨rfl, rfl⟩; rw [hx])
        go_round
        case rel => exact ⟨k + 1, 1099511627776, by omega, by go_num, by go_num, by omega, by rw [← HM.out]; exact HN.out⟩
        case measure => simp [intOf]; omega
       ·have hbig' : ¬ (1099511627776 : Int) < (n : Int) * 16 + (d : Int) := by omega
        have HM := hid (show min (n * 16 + d) lid = n * 16 + d by unfold lid; omega)
        go_wp2_with (go_at_call 283; refine (rhex_any _ _ (by omega) (by omega)).mono ?_; rintro e w' ⟨rfl, rfl⟩; rw [hx])
        go_round
        case rel => exact ⟨k + 1, n * 16 + d, by omega, by go_num, by go_num, by omega, by rw [← HM.out]; exact HN.out⟩
        case measure => simp [intOf]; omega
      ·have HN := hid (show valC lid 16 0 Y.data.toList = none by rw [← HV.out, HD.out, valC_cons_no hd])
       by_cases hd16 : dig16 Y[k] < 16
       ·have hx := hex_yes (c := Y[k]) hd16
        generalize dig16 Y[k] = d at *
        have hd0 : ¬ ((d : Int) < 0) := by omega
        have hd1 : ((16 : Int) ≤ (d : Int)) := by omega
        go_wp2_with (go_at_call 283; refine (rhex_any _ _ (by omega) (by omega)).mono ?_; rintro e w' ⟨rfl, rfl⟩; rw [hx])
        go_ret2
        exact num_ret (by rw [HR.out, HN.out]; simp) 
       ·have hx := hex_no (c := Y[k]) hd16
        clear hd16
        go_wp2_with (go_at_call 283; refine (rhex_any _ _ (by omega) (by omega)).mono ?_; rintro e w' ⟨rfl, rfl⟩; rw [hx])
        go_ret2
        exact num_ret (by rw [HR.out, HN.out]; simp)
     ·have hlt' : ¬ (k : Int) < (Y.size : Int) := by omega
      have HE := hid (show valC lid 16 0 Y.data.toList = some n by rw [← HV.out, drop_none Y k hlt]; rfl)
      by_cases h0 : Y.size = 0
      ·have hn0 : n = 0 := by
        have h1 := HE.out
        have h2 : Y.data.toList = [] := List.eq_nil_of_length_eq_zero (by simpa using h0)
        rw [h2, valC] at h1
        exact (Option.some.inj h1).symm
       have HR2 := hid (show rnumV x.data.toList = none by rw [HR.out, if_pos (List.eq_nil_of_length_eq_zero (by simpa using h0))])
       subst hn0
       go_wp2
       go_ret2
       exact num_ret2 (by rw [HR2.out]; rfl) (by rw [HR2.out]; simp [h0])
      ·have HR2 := hid (show rnumV x.data.toList = some n by rw [HR.out, if_neg (fun e => h0 (by have := congrArg List.length e; simpa using this)), HE.out])
       have h0' : (0 : Int) < (Y.size : Int) := by omega
       go_wp2
       go_ret2
       exact num_ret2 (by rw [HR2.out]; rfl) (by rw [HR2.out]; first | (simp; omega) | simp)
 ·have hp : Lib.hasPrefix x.data.toList [48, 120] = false ∧ Lib.hasPrefix x.data.toList [48, 88] = false := by
   rw [hmk] at hm
   simpa using hm
  obtain ⟨hp1, hp2⟩ := hp
  have hm' : marked x.data.toList = false := by simpa using hm
  by_cases h8 : 1 < x.size ∧ x.data.toList.head? = some 48
  ·have h1' : (1 : Int) < (x.size : Int) := by omega
   have hsz : 0 < x.size := by omega
   have h48 : x[0] = 48 := by
    have h := h8.2
    rw [List.head?_eq_getElem?, List.getElem?_eq_getElem (by simpa using hsz)] at h
    exact Option.some.inj h
   have h48' : (x[0].toNat : Int) = 48 := by rw [h48]; rfl
   obtain ⟨Y, hY⟩ : ∃ Y : ByteArray, x.extract 1 x.size = Y := ⟨_, rfl⟩
   have hYd : Y.data.toList = x.data.toList.drop 1 := by rw [← hY, extract_drop]
   have hYs : Y.size ≤ 4000000000 := by rw [← hY]; simp; omega
   have HY := hid hY
   have HR := hid (show rnumV x.data.toList = if Y.data.toList = [] then none else valC lid 8 0 Y.data.toList by
    rw [if_neg (by rw [hYd]; intro e; have := congrArg List.length e; simp at this; omega)]
    unfold rnumV
    rw [hm', if_neg (by simp), if_pos ⟨by simpa using h8.1, h8.2⟩, hYd])
   clear hm hmk hY hYd h8 h48 hm'
   go_enter Tryz.func285, Tryz.ntmps285
   go_wp2_with (first | (go_at_call 201; refine (begins_any _ _ _ hs (by decide)).mono ?_; rintro e w' ⟨rfl, rfl⟩; first | rw [show (⟨#[48, 120]⟩ : ByteArray).data.toList = [48, 120] from rfl, hp1] | rw [show (⟨#[48, 88]⟩ : ByteArray).data.toList = [48, 88] from rfl, hp2]))
   rw [HY.out]
   go_wp2
   go_loop [5, 6] (fun v i => ∃ k n : Nat, k ≤ Y.size ∧ i = .int .i64 k ∧ v = .int .u64 n ∧ n ≤ 1099511627776 ∧ valC lid 8 n (Y.data.toList.drop k) = valC lid 8 0 Y.data.toList) (fun _ i => Y.size - (intOf i).toNat)
   case atStart => exact ⟨0, 0, Nat.zero_le _, rfl, rfl, by omega, by rw [List.drop_zero]⟩
   case round =>
    obtain ⟨k, n, hk, rfl, rfl, hn, hv⟩ := hrel
    have HV := hid hv
    clear hv
    by_cases hlt : k < Y.size
    ·have hlt' : (k : Int) < (Y.size : Int) := by omega
     have HD := hid (drop_cons Y k hlt)
     have hc8 : Y[k].toNat < 256 := Y[k].toNat_lt
     by_cases hd : dig16 Y[k] < 8
     ·have hx := hex_yes (c := Y[k]) (by omega)
      have HN := hid (show valC lid 8 (min (n * 8 + dig16 Y[k]) lid) (Y.data.toList.drop (k + 1)) = valC lid 8 0 Y.data.toList by rw [← HV.out, HD.out, valC_cons_yes hd])
      generalize dig16 Y[k] = d at *
      have hd0 : ¬ ((d : Int) < 0) := by omega
      have hd1 : ¬ ((8 : Int) ≤ (d : Int)) := by omega
      by_cases hbig : 1099511627776 < n * 8 + d
      ·have hbig' : (1099511627776 : Int) < (n : Int) * 8 + (d : Int) := by omega
       have HM := hid (show min (n * 8 + d) lid = 1099511627776 by unfold lid; omega)
       go_wp2_with (go_at_call 283; refine (rhex_any _ _ (by omega) (by omega)).mono ?_; rintro e w' ⟨rfl, rfl⟩; rw [hx])
       go_round
       case rel => exact ⟨k + 1, 1099511627776, by omega, by go_num, by go_num, by omega, by rw [← HM.out]; exact HN.out⟩
       case measure => simp [intOf]; omega
      ·have hbig' : ¬ (1099511627776 : Int) < (n : Int) * 8 + (d : Int) := by omega
       have HM := hid (show min (n * 8 + d) lid = n * 8 + d by unfold lid; omega)
       go_wp2_with (go_at_call 283; refine (rhex_any _ _ (by omega) (by omega)).mono ?_; rintro e w' ⟨rfl, rfl⟩; rw [hx])
       go_round
       case rel => exact ⟨k + 1, n * 8 + d, by omega, by go_num, by go_num, by omega, by rw [← HM.out]; exact HN.out⟩
       case measure => simp [intOf]; omega
     ·have HN := hid (show valC lid 8 0 Y.data.toList = none by rw [← HV.out, HD.out, valC_cons_no hd])
      by_cases hd16 : dig16 Y[k] < 16
      ·have hx := hex_yes (c := Y[k]) hd16
       generalize dig16 Y[k] = d at *
       have hd0 : ¬ ((d : Int) < 0) := by omega
       have hd1 : ((8 : Int) ≤ (d : Int)) := by omega
       go_wp2_with (go_at_call 283; refine (rhex_any _ _ (by omega) (by omega)).mono ?_; rintro e w' ⟨rfl, rfl⟩; rw [hx])
       go_ret2
       exact num_ret (by rw [HR.out, HN.out]; simp) 
      ·have hx := hex_no (c := Y[k]) hd16
       clear hd16
       go_wp2_with (go_at_call 283; refine (rhex_any _ _ (by omega) (by omega)).mono ?_; rintro e w' ⟨rfl, rfl⟩; rw [hx])
       go_ret2
       exact num_ret (by rw [HR.out, HN.out]; simp)
    ·have hlt' : ¬ (k : Int) < (Y.size : Int) := by omega
     have HE := hid (show valC lid 8 0 Y.data.toList = some n by rw [← HV.out, drop_none Y k hlt]; rfl)
     by_cases h0 : Y.size = 0
     ·have hn0 : n = 0 := by
       have h1 := HE.out
       have h2 : Y.data.toList = [] := List.eq_nil_of_length_eq_zero (by simpa using h0)
       rw [h2, valC] at h1
       exact (Option.some.inj h1).symm
      have HR2 := hid (show rnumV x.data.toList = none by rw [HR.out, if_pos (List.eq_nil_of_length_eq_zero (by simpa using h0))])
      subst hn0
      go_wp2
      go_ret2
      exact num_ret2 (by rw [HR2.out]; rfl) (by rw [HR2.out]; simp [h0])
     ·have HR2 := hid (show rnumV x.data.toList = some n by rw [HR.out, if_neg (fun e => h0 (by have := congrArg List.length e; simpa using this)), HE.out])
      have h0' : (0 : Int) < (Y.size : Int) := by omega
      go_wp2
      go_ret2
      exact num_ret2 (by rw [HR2.out]; rfl) (by rw [HR2.out]; first | (simp; omega) | simp)
  ·obtain ⟨Y, hY⟩ : ∃ Y : ByteArray, x = Y := ⟨_, rfl⟩
   have HR := hid (show rnumV x.data.toList = if Y.data.toList = [] then none else valC lid 10 0 Y.data.toList by
    rw [← hY]
    unfold rnumV
    rw [hm', if_neg (by simp), if_neg (by simpa using h8)])
   have hYs : Y.size ≤ 4000000000 := by rw [← hY]; exact hs
   have hcase : ¬ (1 < x.size) ∨ (1 < x.size ∧ ∃ h : 0 < x.size, ((x[0].toNat : Int) == 48) = false) := by
    by_cases h1 : 1 < x.size
    ·right
     refine ⟨h1, by omega, ?_⟩
     rw [beq_eq_false_iff_ne]
     intro e
     apply h8
     refine ⟨h1, ?_⟩
     rw [List.head?_eq_getElem?, List.getElem?_eq_getElem (by simp; omega)]
     have : x[0] = 48 := UInt8.toNat_inj.1 (by show x[0].toNat = 48; omega)
     exact congrArg some this
    ·exact .inl h1
   clear hm hmk h8 hm'
   subst hY
   rcases hcase with h1 | ⟨h1, h0, h48⟩
   ·have h1' : ¬ (1 : Int) < (x.size : Int) := by omega
    go_enter Tryz.func285, Tryz.ntmps285
    go_wp2_with (first | (go_at_call 201; refine (begins_any _ _ _ hs (by decide)).mono ?_; rintro e w' ⟨rfl, rfl⟩; first | rw [show (⟨#[48, 120]⟩ : ByteArray).data.toList = [48, 120] from rfl, hp1] | rw [show (⟨#[48, 88]⟩ : ByteArray).data.toList = [48, 88] from rfl, hp2]))
    go_loop [5, 6] (fun v i => ∃ k n : Nat, k ≤ x.size ∧ i = .int .i64 k ∧ v = .int .u64 n ∧ n ≤ 1099511627776 ∧ valC lid 10 n (x.data.toList.drop k) = valC lid 10 0 x.data.toList) (fun _ i => x.size - (intOf i).toNat)
    case atStart => exact ⟨0, 0, Nat.zero_le _, rfl, rfl, by omega, by rw [List.drop_zero]⟩
    case round =>
     obtain ⟨k, n, hk, rfl, rfl, hn, hv⟩ := hrel
     have HV := hid hv
     clear hv
     by_cases hlt : k < x.size
     ·have hlt' : (k : Int) < (x.size : Int) := by omega
      have HD := hid (drop_cons x k hlt)
      have hc8 : x[k].toNat < 256 := x[k].toNat_lt
      by_cases hd : dig16 x[k] < 10
      ·have hx := hex_yes (c := x[k]) (by omega)
       have HN := hid (show valC lid 10 (min (n * 10 + dig16 x[k]) lid) (x.data.toList.drop (k + 1)) = valC lid 10 0 x.data.toList by rw [← HV.out, HD.out, valC_cons_yes hd])
       generalize dig16 x[k] = d at *
       have hd0 : ¬ ((d : Int) < 0) := by omega
       have hd1 : ¬ ((10 : Int) ≤ (d : Int)) := by omega
       by_cases hbig : 1099511627776 < n * 10 + d
       ·have hbig' : (1099511627776 : Int) < (n : Int) * 10 + (d : Int) := by omega
        have HM := hid (show min (n * 10 + d) lid = 1099511627776 by unfold lid; omega)
        go_wp2_with (go_at_call 283; refine (rhex_any _ _ (by omega) (by omega)).mono ?_; rintro e w' ⟨rfl, rfl⟩; rw [hx])
        go_round
        case rel => exact ⟨k + 1, 1099511627776, by omega, by go_num, by go_num, by omega, by rw [← HM.out]; exact HN.out⟩
        case measure => simp [intOf]; omega
       ·have hbig' : ¬ (1099511627776 : Int) < (n : Int) * 10 + (d : Int) := by omega
        have HM := hid (show min (n * 10 + d) lid = n * 10 + d by unfold lid; omega)
        go_wp2_with (go_at_call 283; refine (rhex_any _ _ (by omega) (by omega)).mono ?_; rintro e w' ⟨rfl, rfl⟩; rw [hx])
        go_round
        case rel => exact ⟨k + 1, n * 10 + d, by omega, by go_num, by go_num, by omega, by rw [← HM.out]; exact HN.out⟩
        case measure => simp [intOf]; omega
      ·have HN := hid (show valC lid 10 0 x.data.toList = none by rw [← HV.out, HD.out, valC_cons_no hd])
       by_cases hd16 : dig16 x[k] < 16
       ·have hx := hex_yes (c := x[k]) hd16
        generalize dig16 x[k] = d at *
        have hd0 : ¬ ((d : Int) < 0) := by omega
        have hd1 : ((10 : Int) ≤ (d : Int)) := by omega
        go_wp2_with (go_at_call 283; refine (rhex_any _ _ (by omega) (by omega)).mono ?_; rintro e w' ⟨rfl, rfl⟩; rw [hx])
        go_ret2
        exact num_ret (by rw [HR.out, HN.out]; simp) 
       ·have hx := hex_no (c := x[k]) hd16
        clear hd16
        go_wp2_with (go_at_call 283; refine (rhex_any _ _ (by omega) (by omega)).mono ?_; rintro e w' ⟨rfl, rfl⟩; rw [hx])
        go_ret2
        exact num_ret (by rw [HR.out, HN.out]; simp)
     ·have hlt' : ¬ (k : Int) < (x.size : Int) := by omega
      have HE := hid (show valC lid 10 0 x.data.toList = some n by rw [← HV.out, drop_none x k hlt]; rfl)
      by_cases h0 : x.size = 0
      ·have hn0 : n = 0 := by
        have h1 := HE.out
        have h2 : x.data.toList = [] := List.eq_nil_of_length_eq_zero (by simpa using h0)
        rw [h2, valC] at h1
        exact (Option.some.inj h1).symm
       have HR2 := hid (show rnumV x.data.toList = none by rw [HR.out, if_pos (List.eq_nil_of_length_eq_zero (by simpa using h0))])
       subst hn0
       go_wp2
       go_ret2
       exact num_ret2 (by rw [HR2.out]; rfl) (by rw [HR2.out]; simp [h0])
      ·have HR2 := hid (show rnumV x.data.toList = some n by rw [HR.out, if_neg (fun e => h0 (by have := congrArg List.length e; simpa using this)), HE.out])
       have h0' : (0 : Int) < (x.size : Int) := by omega
       go_wp2
       go_ret2
       exact num_ret2 (by rw [HR2.out]; rfl) (by rw [HR2.out]; first | (simp; omega) | simp)
   ·have h1' : (1 : Int) < (x.size : Int) := by omega
    go_enter Tryz.func285, Tryz.ntmps285
    go_wp2_with (first | (go_at_call 201; refine (begins_any _ _ _ hs (by decide)).mono ?_; rintro e w' ⟨rfl, rfl⟩; first | rw [show (⟨#[48, 120]⟩ : ByteArray).data.toList = [48, 120] from rfl, hp1] | rw [show (⟨#[48, 88]⟩ : ByteArray).data.toList = [48, 88] from rfl, hp2]))
    go_loop [5, 6] (fun v i => ∃ k n : Nat, k ≤ x.size ∧ i = .int .i64 k ∧ v = .int .u64 n ∧ n ≤ 1099511627776 ∧ valC lid 10 n (x.data.toList.drop k) = valC lid 10 0 x.data.toList) (fun _ i => x.size - (intOf i).toNat)
    case atStart => exact ⟨0, 0, Nat.zero_le _, rfl, rfl, by omega, by rw [List.drop_zero]⟩
    case round =>
     obtain ⟨k, n, hk, rfl, rfl, hn, hv⟩ := hrel
     have HV := hid hv
     clear hv
     by_cases hlt : k < x.size
     ·have hlt' : (k : Int) < (x.size : Int) := by omega
      have HD := hid (drop_cons x k hlt)
      have hc8 : x[k].toNat < 256 := x[k].toNat_lt
      by_cases hd : dig16 x[k] < 10
      ·have hx := hex_yes (c := x[k]) (by omega)
       have HN := hid (show valC lid 10 (min (n * 10 + dig16 x[k]) lid) (x.data.toList.drop (k + 1)) = valC lid 10 0 x.data.toList by rw [← HV.out, HD.out, valC_cons_yes hd])
       generalize dig16 x[k] = d at *
       have hd0 : ¬ ((d : Int) < 0) := by omega
       have hd1 : ¬ ((10 : Int) ≤ (d : Int)) := by omega
       by_cases hbig : 1099511627776 < n * 10 + d
       ·have hbig' : (1099511627776 : Int) < (n : Int) * 10 + (d : Int) := by omega
        have HM := hid (show min (n * 10 + d) lid = 1099511627776 by unfold lid; omega)
        go_wp2_with (go_at_call 283; refine (rhex_any _ _ (by omega) (by omega)).mono ?_; rintro e w' ⟨rfl, rfl⟩; rw [hx])
        go_round
        case rel => exact ⟨k + 1, 1099511627776, by omega, by go_num, by go_num, by omega, by rw [← HM.out]; exact HN.out⟩
        case measure => simp [intOf]; omega
       ·have hbig' : ¬ (1099511627776 : Int) < (n : Int) * 10 + (d : Int) := by omega
        have HM := hid (show min (n * 10 + d) lid = n * 10 + d by unfold lid; omega)
        go_wp2_with (go_at_call 283; refine (rhex_any _ _ (by omega) (by omega)).mono ?_; rintro e w' ⟨rfl, rfl⟩; rw [hx])
        go_round
        case rel => exact ⟨k + 1, n * 10 + d, by omega, by go_num, by go_num, by omega, by rw [← HM.out]; exact HN.out⟩
        case measure => simp [intOf]; omega
      ·have HN := hid (show valC lid 10 0 x.data.toList = none by rw [← HV.out, HD.out, valC_cons_no hd])
       by_cases hd16 : dig16 x[k] < 16
       ·have hx := hex_yes (c := x[k]) hd16
        generalize dig16 x[k] = d at *
        have hd0 : ¬ ((d : Int) < 0) := by omega
        have hd1 : ((10 : Int) ≤ (d : Int)) := by omega
        go_wp2_with (go_at_call 283; refine (rhex_any _ _ (by omega) (by omega)).mono ?_; rintro e w' ⟨rfl, rfl⟩; rw [hx])
        go_ret2
        exact num_ret (by rw [HR.out, HN.out]; simp) 
       ·have hx := hex_no (c := x[k]) hd16
        clear hd16
        go_wp2_with (go_at_call 283; refine (rhex_any _ _ (by omega) (by omega)).mono ?_; rintro e w' ⟨rfl, rfl⟩; rw [hx])
        go_ret2
        exact num_ret (by rw [HR.out, HN.out]; simp)
     ·have hlt' : ¬ (k : Int) < (x.size : Int) := by omega
      have HE := hid (show valC lid 10 0 x.data.toList = some n by rw [← HV.out, drop_none x k hlt]; rfl)
      by_cases h0 : x.size = 0
      ·exact absurd h1 (by omega)
      ·have HR2 := hid (show rnumV x.data.toList = some n by rw [HR.out, if_neg (fun e => h0 (by have := congrArg List.length e; simpa using this)), HE.out])
       have h0' : (0 : Int) < (x.size : Int) := by omega
       go_wp2
       go_ret2
       exact num_ret2 (by rw [HR2.out]; rfl) (by rw [HR2.out]; first | (simp; omega) | simp)

end Go.Proofs.YtpopljcmkbchcaaGreatDoor

namespace Go.Proofs.YtpopljcmkbchcaaGreatDoor
open Go.RowKit

theorem digit_eq (c : UInt8) : digitI (c.toNat : Int) = decide (dig16 c < 10) := by
 have key : ∀ n < 256, digitI ((UInt8.ofNat n).toNat : Int) = decide (dig16 (UInt8.ofNat n) < 10) := by decide +kernel
 have := key c.toNat c.toNat_lt
 have e : UInt8.ofNat c.toNat = c := by simp
 rw [e] at this
 exact this

def tenC (c : UInt8) : Bool := decide (dig16 c < 10)

def plainTo (X : ByteArray) (k : Nat) : Bool := decide (0 < X.size) && (X.data.toList.take k).all tenC

theorem plainTo_succ (X : ByteArray) (k : Nat) (h : k < X.size) : plainTo X (k + 1) = (plainTo X k && tenC X[k]) := by
 unfold plainTo
 rw [take_snoc X k h, List.all_append, Bool.and_assoc]
 simp

theorem plainTo_all (X : ByteArray) (k : Nat) (h : ¬ k < X.size) : plainTo X k = (decide (X.data.toList ≠ []) && X.data.toList.all fun c => decide (dig16 c < 10)) := by
 unfold plainTo
 rw [take_all X k h]
 congr 1
 rw [decide_eq_decide]
 rw [← List.length_pos_iff]
 simp

theorem lab_last (l : List UInt8) (L : List (List UInt8)) (m : Nat) (hL : labL l = L) (hm : L.length = m + 1) : L[m]'(by omega) = lastLab (noDot l) := by
 have h := lastL_of hm
 have h2 : L.getLast? = some (lastLab (noDot l)) := by rw [← hL, labL_eq, cutL_last]
 rw [h] at h2
 exact Option.some.inj h2

theorem labL_ne (l : List UInt8) : labL l ≠ [] := by rw [labL_eq]; exact cutL_ne _ _

theorem cutL_le (c : UInt8) : ∀ (l : List UInt8), ∀ x ∈ cutL c l, x.length ≤ l.length :=
 cutL_ind c (fun l h x hx => by rw [cutL_none c l h] at hx; simp at hx; rw [hx]; exact Nat.le_refl _)
  (fun a r h ih x hx => by
   rw [cutL_some c a r h] at hx
   rcases List.mem_cons.1 hx with rfl | hx
   ·simp
   ·have := ih x hx; simp; omega)

theorem labL_le (l : List UInt8) (x : List UInt8) (h : x ∈ labL l) : x.length ≤ l.length := by
 rw [labL_eq] at h
 exact Nat.le_trans (cutL_le 46 _ x h) (noDot_le l)

set_option maxHeartbeats 4000000 in
set_option maxRecDepth 100000 in
theorem rnumbered_any (s : ByteArray) (w : World) (hs : s.size ≤ 1000000) :
  Calls Tryz.prog 278 #[.string s] w fun e w' => e = .returned (.bool (numberedV s.data.toList)) ∧ Below w.heap.size w w' := by
 obtain ⟨L, hL⟩ : ∃ L, labL s.data.toList = L := ⟨_, rfl⟩
 have hne : L ≠ [] := by rw [← hL]; exact labL_ne _
 obtain ⟨m, hm⟩ : ∃ m, L.length = m + 1 := ⟨L.length - 1, by have := List.length_pos_iff.2 hne; omega⟩
 obtain ⟨X, hX⟩ : ∃ X : ByteArray, X = ⟨(L[m]'(by omega)).toArray⟩ := ⟨_, rfl⟩
 have HXd := hid (show X.data.toList = lastLab (noDot s.data.toList) by rw [hX]; exact lab_last _ L m hL hm)
 have hXs : X.size ≤ 1000000 := by
  have h1 := labL_le s.data.toList (L[m]'(by omega)) (by rw [hL]; exact List.getElem_mem _)
  rw [hX]
  show (L[m]'(by omega)).toArray.size ≤ _
  simp at h1 ⊢
  omega
 have HR := hid (show numberedV s.data.toList = ((decide (X.data.toList ≠ []) && X.data.toList.all fun c => decide (dig16 c < 10)) || (marked X.data.toList && (X.data.toList.drop 2).all fun c => decide (dig16 c < 16))) by rw [rnumbered_eq, HXd.out]; rfl)
 have HL := hid hL
 have HM := hid hm
 have hlab := labels_any s w hs
 rw [hL] at hlab
 clear hL
 go_enter Tryz.func278, Tryz.ntmps278
 go_wp2_with fail
 refine hlab.mono ?_
 rintro e w1 ⟨b, cap, rfl, hlc, hcm, htx, hbw⟩
 clear hlab
 have hcell := htx m (by omega)
 rw [← hX] at hcell
 clear htx hX
 unfold maxLen at hcm
 rw [hm] at hlc ⊢
 clear hm
 go_wp2_with fail
 go_loop [5, 6] (fun p i => ∃ k : Nat, k ≤ X.size ∧ i = .int .i64 k ∧ p = .bool (plainTo X k)) (fun _ i => X.size - (intOf i).toNat)
 case atStart => exact ⟨0, Nat.zero_le _, rfl, by simp [plainTo]⟩
 case round =>
  obtain ⟨k, hk, rfl, rfl⟩ := hrel
  by_cases hlt : k < X.size
  ·have hlt' : (k : Int) < (X.size : Int) := by omega
   have hc8 : X[k].toNat < 256 := X[k].toNat_lt
   have HS := hid (plainTo_succ X k hlt)
   have hd := digit_eq X[k]
   rw [show decide (dig16 X[k] < 10) = tenC X[k] from rfl] at hd
   cases hpl : plainTo X k with
   | true =>
    have HP := hid hpl
    clear hpl
    go_wp2_with (go_at_call 148; refine (rdigit_any _ _).mono ?_; rintro e w' ⟨rfl, rfl⟩; rw [hd])
    go_round
    case rel => exact ⟨k + 1, by omega, by go_num, by rw [HS.out, HP.out]; rfl⟩
    case measure => simp [intOf]; omega
   | false =>
    have HP := hid hpl
    clear hpl
    go_wp2_with fail
    go_round
    case rel => exact ⟨k + 1, by omega, by go_num, by rw [HS.out, HP.out]; rfl⟩
    case measure => simp [intOf]; omega
  ·have hlt' : ¬ (k : Int) < (X.size : Int) := by omega
   have hA := plainTo_all X k hlt
   have HA := hid hA
   clear hA
   cases hpl : plainTo X k with
   | true =>
    have HN := hid (show numberedV s.data.toList = true by rw [HR.out, ← HA.out, hpl]; rfl)
    clear hpl
    go_wp2_with fail
    go_ret
    exact ⟨ret_bool HN.out.symm, hbw⟩
   | false =>
    have HR2 := hid (show numberedV s.data.toList = (marked X.data.toList && (X.data.toList.drop 2).all fun c => decide (dig16 c < 16)) by rw [HR.out, ← HA.out, hpl]; rfl)
    clear hpl
    cases hm : marked X.data.toList with
    | false =>
     have HN := hid (show numberedV s.data.toList = false by rw [HR2.out, hm]; rfl)
     have hp : Lib.hasPrefix X.data.toList [48, 120] = false ∧ Lib.hasPrefix X.data.toList [48, 88] = false := by
      unfold marked at hm
      simpa using hm
     obtain ⟨hp1, hp2⟩ := hp
     clear hm
     go_wp2_with (first | (go_at_call 201; refine (begins_any _ _ _ (by omega) (by decide)).mono ?_; rintro e w' ⟨rfl, rfl⟩; first | rw [show (⟨#[48, 120]⟩ : ByteArray).data.toList = [48, 120] from rfl, hp1] | rw [show (⟨#[48, 88]⟩ : ByteArray).data.toList = [48, 88] from rfl, hp2]))
     go_ret
     exact ⟨ret_bool HN.out.symm, hbw⟩
    | true =>
     have h2 : 2 ≤ X.size := by
      obtain ⟨c, r, hx, _⟩ := marked_form _ hm
      have := congrArg List.length hx
      simp at this
      omega
     have HR3 := hid (show numberedV s.data.toList = (X.data.toList.drop 2).all (fun c => decide (dig16 c < 16)) by rw [HR2.out, hm]; rfl)
     have hcase : (Lib.hasPrefix X.data.toList [48, 120] = true) ∨ (Lib.hasPrefix X.data.toList [48, 120] = false ∧ Lib.hasPrefix X.data.toList [48, 88] = true) := by
      unfold marked at hm
      cases h : Lib.hasPrefix X.data.toList [48, 120]
      ·rw [h] at hm; exact .inr ⟨rfl, by simpa using hm⟩
      ·exact .inl rfl
     clear hm
     rcases hcase with hp1 | ⟨hp1, hp2⟩
     all_goals
      go_wp2_with (first | (go_at_call 201; refine (begins_any _ _ _ (by omega) (by decide)).mono ?_; rintro e w' ⟨rfl, rfl⟩; first | rw [show (⟨#[48, 120]⟩ : ByteArray).data.toList = [48, 120] from rfl, hp1] | rw [show (⟨#[48, 88]⟩ : ByteArray).data.toList = [48, 88] from rfl, hp2]))
      go_loop [7] (fun i => ∃ q : Nat, 2 ≤ q ∧ q ≤ X.size ∧ i = .int .i64 q ∧ (X.data.toList.drop q).all (fun c => decide (dig16 c < 16)) = (X.data.toList.drop 2).all (fun c => decide (dig16 c < 16))) (fun i => X.size - (intOf i).toNat)
      case atStart => exact ⟨2, by omega, by omega, rfl, rfl⟩
      case round =>
       obtain ⟨q, hq2, hq, rfl, hall⟩ := hrel
       have HQ := hid hall
       clear hall
       by_cases hqlt : q < X.size
       ·have hqlt' : (q : Int) < (X.size : Int) := by omega
        have hq8 : X[q].toNat < 256 := X[q].toNat_lt
        have HD := hid (drop_cons X q hqlt)
        by_cases hd : dig16 X[q] < 16
        ·have hx := hex_yes hd
         have HQ2 := hid (show (X.data.toList.drop (q + 1)).all (fun c => decide (dig16 c < 16)) = (X.data.toList.drop 2).all (fun c => decide (dig16 c < 16)) by rw [← HQ.out, HD.out, List.all_cons]; simp [hd])
         generalize dig16 X[q] = d at *
         have hd0 : ¬ ((d : Int) < 0) := by omega
         go_wp2_with (go_at_call 283; refine (rhex_any _ _ (by omega) (by omega)).mono ?_; rintro e w' ⟨rfl, rfl⟩; rw [hx])
         go_round
         case rel => exact ⟨q + 1, by omega, by omega, by go_num, HQ2.out⟩
         case measure => simp [intOf]; omega
        ·have hx := hex_no hd
         have HN := hid (show numberedV s.data.toList = false by rw [HR3.out, ← HQ.out, HD.out, List.all_cons]; simp [hd])
         clear hd
         go_wp2_with (go_at_call 283; refine (rhex_any _ _ (by omega) (by omega)).mono ?_; rintro e w' ⟨rfl, rfl⟩; rw [hx])
         go_ret
         exact ⟨ret_bool HN.out.symm, hbw⟩
       ·have hqlt' : ¬ (q : Int) < (X.size : Int) := by omega
        have HN := hid (show numberedV s.data.toList = true by rw [HR3.out, ← HQ.out, drop_none X q hqlt]; rfl)
        go_wp2_with fail
        go_ret
        exact ⟨ret_bool HN.out.symm, hbw⟩

end Go.Proofs.YtpopljcmkbchcaaGreatDoor
