/-
  Walks and plain facts that this claim leans on, put together out of 3 texts: Ewu, Rc, Ere.
-/
import Derived.Test.YtgoefeaopegdoaaGreatDoorProg
import Derived.Test.YtgoefeaopegdoaaGreatDoorQa1
import Derived.Test.YtgoefeaopegdoaaGreatDoorQa2
import Derived.Test.YtgoefeaopegdoaaGreatDoorQa3
import Derived.Test.YtgoefeaopegdoaaGreatDoorQa4
import Derived.Test.YtgoefeaopegdoaaGreatDoorQa5
import Derived.Test.YtgoefeaopegdoaaGreatDoorQa6
import Derived.Test.YtgoefeaopegdoaaGreatDoorQa7
import Derived.Test.YtgoefeaopegdoaaGreatDoorQa8
import Derived.Test.YtgoefeaopegdoaaGreatDoorQa9
import Derived.Test.YtgoefeaopegdoaaGreatDoorQa10
import Derived.Test.YtgoefeaopegdoaaGreatDoorQa11
import Derived.Test.YtgoefeaopegdoaaGreatDoorQa12
import Derived.Test.YtgoefeaopegdoaaGreatDoorQa13
import Derived.Test.YtgoefeaopegdoaaGreatDoorQa14
import Derived.Test.YtgoefeaopegdoaaGreatDoorQa15
import Derived.Test.YtgoefeaopegdoaaGreatDoorQa16
import Derived.Test.YtgoefeaopegdoaaGreatDoorQa17
import Derived.Test.YtgoefeaopegdoaaGreatDoorQa18
import Derived.Test.YtgoefeaopegdoaaGreatDoorQa19
import Derived.Test.YtgoefeaopegdoaaGreatDoorQa20
import Derived.Test.YtgoefeaopegdoaaGreatDoorQa21
import Derived.Test.YtgoefeaopegdoaaGreatDoorQa22
import Derived.Test.YtgoefeaopegdoaaGreatDoorQa23
import Derived.Test.YtgoefeaopegdoaaGreatDoorQa24
import Derived.Test.YtgoefeaopegdoaaGreatDoorQa25
import Derived.Test.YtgoefeaopegdoaaGreatDoorQa26
import Derived.Test.YtgoefeaopegdoaaGreatDoorQa27
import Derived.Test.YtgoefeaopegdoaaGreatDoorQq1
import Derived.Test.YtgoefeaopegdoaaGreatDoorQq2
import Derived.Deep.Cut
import Derived.Lib.IndexMore
import Derived.Lib.Join
import Derived.Lib.LastIndexByte
import Derived.WalkKit
import Derived.Lib.Strings
import Derived.Lib.UnsafeStr
import Derived.Laws.IdiomStrings
import Derived.Laws.AppendOwn
import Derived.Laws.BitsAllLaws
import Derived.Lib.Bytealg
import Derived.Lib.BufferMore
import Derived.Lib.BufferRead
import Derived.Lib.RuneBytes
import Derived.Laws.RangeAny
import Derived.LoopN
import Derived.RegionTactic
import Derived.Deep.RegionWith
import Derived.Deep.QuietTactic
import Derived.BigQuiet
import Derived.Laws.OwnMore
import Derived.Shelf.Strings.Builder1
import Derived.Shelf.Strings.Builder2
import Derived.Shelf.Strings.OnBuilder
import Derived.Shelf.Strings.Trim
import Derived.Shelf.Small.Utf8
import Derived.Shelf.Small.Bits
import Derived.Shelf.Small.Strs
import Derived.Shelf.Small.Wraps
import Derived.Shelf.Strings.BuilderF
import Derived.Shelf.Strings.BuilderK
import Derived.Shelf.Strings.BuilderRune
import Derived.Shelf.Utf8.AppendRune
import Derived.Shelf.Utf8.AppendRunePlain
import Derived.Shelf.Strings.Builder2Cap
import Derived.Shelf.Strconv.Itoa0
import Derived.Shelf.Strconv.Itoa1
import Derived.Shelf.LaysM
import Derived.Shelf.Strconv.Itoa2
import Derived.Shelf.Strconv.Itoa3
import Derived.Shelf.Strings.Search1
import Derived.Shelf.Strings.Search2
import Derived.Shelf.Strings.Search3
import Derived.Shelf.Strings.Cut
import Derived.Shelf.Strings.Count
import Derived.Shelf.Strings.Shaped
import Derived.Shelf.Strings.LastIndex
import Derived.Shelf.Strings.Prefix
import Derived.Shelf.Strings.Split
import Derived.Shelf.Strings.Replace
import Derived.Shelf.Strings.Runes
import Derived.Shelf.Strings.IndexAny
import Derived.Shelf.Strings.AsciiSet
import Derived.Shelf.Strings.IndexAnyAll
import Derived.Shelf.Unicode.DecodeSlow
import Derived.Ground.Names2Prog
import Derived.Shelf.Slices.Clone
import Derived.Shelf.Slices.In.SortNone
import Derived.Ground.SlgnProg
import Derived.Shelf.SlicesE.Clone
import Derived.Scope
import Derived.ScopeJumps
import Derived.WalkMore
import Derived.Lib.IndexAny
import Derived.Lib.Replace
import Derived.Lib.TrimByte
import Derived.Lib.ItoaNum
import Derived.Lib.DecodeN
import Derived.Lib.OthersKept
import Derived.Deep.LoopGhost
import Derived.Laws.BytesString
import Derived.Deep.WholeRow
import Derived.BigRegion
import Derived.WalkSpells
import Derived.WalkLawsBesides
import Derived.Lib.AppendIntMem
import Derived.Lib.SmallJoins
import Derived.WalkSmall
import Derived.OwnWalk
import Derived.Laws.CopyOwn
import Derived.Laws.ResultCell
import Derived.Deep.MidRow
import Derived.Lib.FrozenHead2
import Derived.Lib.Builder
import Derived.Deep.RegionLaw
import Derived.Lib.SlTrimSet
import Derived.Below
import Derived.Shelf.Strings.SlTrimAscii
import Derived.Laws.Runes
import Derived.Deep.RegionHeld
import Derived.Laws.AppendOwnNone
import Derived.Lib.AppendStr
set_option linter.unusedSimpArgs false
set_option linter.unusedVariables false

namespace Go.Proofs.YtgoefeaopegdoaaGreatDoor
open Go.RowKit

set_option maxHeartbeats 400000 in
theorem rletter4_any (c : Int) (w : World) :
  Calls Tryz.prog 137 #[.int .u8 c] w fun e w' => e = .returned (.bool (letterI c)) ∧ w = w' := by
 go_enter Tryz.func137, Tryz.ntmps137
 go_wp2
 all_goals
  go_ret
  exact ⟨ret_bool (by rw [Bool.eq_iff_iff]; simp [letterI]; omega), rfl⟩

theorem ext_one4 (s : ByteArray) (k : Nat) (h : k < s.size) (t : ByteArray) : (t ++ s.extract k (k + 1)).data.toList = t.data.toList ++ [s[k]] := by
 rw [ByteArray.data_append, Array.toList_append, Lib.extract_data, show k + 1 - k = 1 by omega, drop_cons s k h]
 rfl

theorem plI_or (c : Int) : plI c = (letterI c || (digitI c || (decide (c = 42) || (decide (c = 45) || (decide (c = 46) || decide (c = 95)))))) := by
 unfold plI
 cases letterI c <;> cases digitI c <;> simp [Bool.or_comm, Bool.or_left_comm]

set_option maxHeartbeats 8000000 in
set_option maxRecDepth 100000 in
theorem rwrote_any (s : ByteArray) (w : World) (hs : s.size ≤ 100000000) :
  Calls Tryz.prog 84 #[.string s] w fun e w' => e = .returned (.string ⟨(wrtV s.data.toList).toArray⟩) ∧ Below w.heap.size w w' := by
 go_enter Tryz.func84, Tryz.ntmps84
 go_wp2
 go_loopw [3, 4, 5] (fun o i _ wr => ∃ (k : Nat) (t : ByteArray), k ≤ s.size ∧ i = .int .i64 k ∧ o = .string t ∧ t.data.toList = wrtV (s.data.toList.take k) ∧ Below w.heap.size w wr) (fun _ i _ _ => s.size - (intOf i).toNat)
 case atStart => exact ⟨0, _, Nat.zero_le _, rfl, rfl, rfl, Below.refl _ w⟩
 case round =>
  obtain ⟨k, t, hk, rfl, rfl, ht, hbw⟩ := hrel
  have htl : t.size ≤ 3 * k := by
   rw [Lib.size_eq, ht]
   have := wrtV_le (s.data.toList.take k)
   have h2 : (s.data.toList.take k).length ≤ k := List.length_take_le _ _
   omega
  have HT := hid ht
  have HBw := hid hbw
  clear ht hbw
  by_cases hlt : k < s.size
  ·have hlt' : (k : Int) < (s.size : Int) := by omega
   have HS := hid (show wrtV (s.data.toList.take (k + 1)) = t.data.toList ++ wrtC s[k] by rw [take_snoc s k hlt, wrtV_snoc, HT.out])
   have hc8 : s[k].toNat < 256 := s[k].toNat_lt
   have HX := hid (ext_one4 s k hlt t)
   have hx1 : (s.extract k (k + 1)).size = 1 := by simp; omega
   have hwk : k + 1 ≤ s.size := by omega
   obtain ⟨cc, hcc⟩ : ∃ c : Int, (s[k].toNat : Int) = c := ⟨_, rfl⟩
   have HE := hid (fun w => rescape_any s[k] w)
   rw [hcc] at HE
   have HC := hid (show wrtC s[k] = if plI cc then [s[k]] else if cc = 32 then [43] else esc s[k] by
    unfold wrtC
    rw [hcc]
    split
    ·rfl
    ·by_cases h : s[k].toNat = 32
     ·rw [if_pos h, if_pos (by omega)]
     ·rw [if_neg h, if_neg (by omega)])
   have HLe := hid (fun w => rletter4_any cc w)
   have HDi := hid (fun w => rdigit_any cc w)
   have HPo := hid (plI_or cc)
   have hes : (ByteArray.mk (esc s[k]).toArray).size = 3 := rfl
   have HEl := hid (show (ByteArray.mk (esc s[k]).toArray).data.toList = esc s[k] from rfl)
   obtain ⟨EE, hEE⟩ : ∃ X : ByteArray, (⟨(esc s[k]).toArray⟩ : ByteArray) = X := ⟨_, rfl⟩
   rw [hEE] at HE hes HEl
   clear hEE
   by_cases h32 : cc = 32
   ·have HC2 := hid (show wrtC s[k] = [43] by rw [HC.out, h32]; rfl)
    have h32' : (cc == 32) = true := by rw [h32]; rfl
    clear h32
    go_wp2_with fail
    go_roundw
    case rel =>
     refine ⟨k + 1, _, by omega, by go_num, rfl, ?_, HBw.out⟩
     rw [HS.out, HC2.out, ByteArray.data_append, Array.toList_append]
    case measure => simp [intOf]; omega
   ·have h32' : (cc == 32) = false := by rw [beq_eq_false_iff_ne]; exact h32
    obtain ⟨q1, e1⟩ : ∃ q, letterI cc = q := ⟨_, rfl⟩
    obtain ⟨q2, e2⟩ : ∃ q, digitI cc = q := ⟨_, rfl⟩
    obtain ⟨q3, e3⟩ : ∃ q, (cc == 42) = q := ⟨_, rfl⟩
    obtain ⟨q4, e4⟩ : ∃ q, (cc == 45) = q := ⟨_, rfl⟩
    obtain ⟨q5, e5⟩ : ∃ q, (cc == 46) = q := ⟨_, rfl⟩
    obtain ⟨q6, e6⟩ : ∃ q, (cc == 95) = q := ⟨_, rfl⟩
    rw [e1] at HLe
    rw [e2] at HDi
    have HPl := hid (show plI cc = (q1 || (q2 || (q3 || (q4 || (q5 || q6))))) by rw [HPo.out, e1, e2, ← e3, ← e4, ← e5, ← e6]; rfl)
    have HCt := hid (show plI cc = true → wrtC s[k] = [s[k]] from fun h => by rw [HC.out, h]; rfl)
    have HCf := hid (show plI cc = false → wrtC s[k] = esc s[k] from fun h => by rw [HC.out, h, if_neg (by decide), if_neg h32])
    clear h32 e1 e2 HPo HC
    cases q1 with
    | true =>
     go_wp2_with fail
     refine (HLe.out _).mono ?_
     rintro e w' ⟨rfl, rfl⟩
     go_wp2_with fail
     go_roundw
     case rel =>
      refine ⟨k + 1, _, by omega, by go_num, rfl, ?_, HBw.out⟩
      rw [HS.out, HCt.out (by rw [HPl.out]; rfl), HX.out]
     case measure => simp [intOf]; omega
    | false =>
     cases q2 with
     | true =>
      go_wp2_with fail
      refine (HLe.out _).mono ?_
      rintro e w' ⟨rfl, rfl⟩
      go_wp2_with fail
      refine (HDi.out _).mono ?_
      rintro e w' ⟨rfl, rfl⟩
      go_wp2_with fail
      go_roundw
      case rel =>
       refine ⟨k + 1, _, by omega, by go_num, rfl, ?_, HBw.out⟩
       rw [HS.out, HCt.out (by rw [HPl.out]; rfl), HX.out]
      case measure => simp [intOf]; omega
     | false =>
      cases q3 with
      | true =>
       go_wp2_with fail
       refine (HLe.out _).mono ?_
       rintro e w' ⟨rfl, rfl⟩
       go_wp2_with fail
       refine (HDi.out _).mono ?_
       rintro e w' ⟨rfl, rfl⟩
       go_wp2_with fail
       go_roundw
       case rel =>
        refine ⟨k + 1, _, by omega, by go_num, rfl, ?_, HBw.out⟩
        rw [HS.out, HCt.out (by rw [HPl.out]; rfl), HX.out]
       case measure => simp [intOf]; omega
      | false =>
       cases q4 with
       | true =>
        go_wp2_with fail
        refine (HLe.out _).mono ?_
        rintro e w' ⟨rfl, rfl⟩
        go_wp2_with fail
        refine (HDi.out _).mono ?_
        rintro e w' ⟨rfl, rfl⟩
        go_wp2_with fail
        go_roundw
        case rel =>
         refine ⟨k + 1, _, by omega, by go_num, rfl, ?_, HBw.out⟩
         rw [HS.out, HCt.out (by rw [HPl.out]; rfl), HX.out]
        case measure => simp [intOf]; omega
       | false =>
        cases q5 with
        | true =>
         go_wp2_with fail
         refine (HLe.out _).mono ?_
         rintro e w' ⟨rfl, rfl⟩
         go_wp2_with fail
         refine (HDi.out _).mono ?_
         rintro e w' ⟨rfl, rfl⟩
         go_wp2_with fail
         go_roundw
         case rel =>
          refine ⟨k + 1, _, by omega, by go_num, rfl, ?_, HBw.out⟩
          rw [HS.out, HCt.out (by rw [HPl.out]; rfl), HX.out]
         case measure => simp [intOf]; omega
        | false =>
         cases q6 with
         | true =>
          go_wp2_with fail
          refine (HLe.out _).mono ?_
          rintro e w' ⟨rfl, rfl⟩
          go_wp2_with fail
          refine (HDi.out _).mono ?_
          rintro e w' ⟨rfl, rfl⟩
          go_wp2_with fail
          go_roundw
          case rel =>
           refine ⟨k + 1, _, by omega, by go_num, rfl, ?_, HBw.out⟩
           rw [HS.out, HCt.out (by rw [HPl.out]; rfl), HX.out]
          case measure => simp [intOf]; omega
         | false =>
          go_wp2_with fail
          refine (HLe.out _).mono ?_
          rintro e w' ⟨rfl, rfl⟩
          go_wp2_with fail
          refine (HDi.out _).mono ?_
          rintro e w' ⟨rfl, rfl⟩
          go_wp2_with fail
          refine (HE.out _).mono ?_
          rintro e w1 ⟨rfl, hb1⟩
          go_wp2_with fail
          go_roundw
          case rel =>
           refine ⟨k + 1, _, by omega, by go_num, rfl, ?_, below2 HBw.out hb1⟩
           rw [HS.out, HCf.out (by rw [HPl.out]; rfl), ByteArray.data_append, Array.toList_append, HEl.out]
          case measure => simp [intOf]; omega
  ·have ht := HT.out
   rw [take_all s k hlt] at ht
   have HT2 := hid ht
   have hlt' : decide ((k : Int) < (s.size : Int)) = false := by rw [decide_eq_false_iff_not]; omega
   clear ht HT
   go_wp2
   go_ret
   exact ⟨ret_str HT2.out, HBw.out⟩

def WrK (w : World) (L : List Hd) (t : ByteArray) (wr : World) (k : Nat) : Prop := t.data.toList = wrV (L.take k) ∧ Below w.heap.size w wr

set_option maxHeartbeats 16000000 in
set_option maxRecDepth 100000 in
theorem rwriteO_any (v : Value) (L : List Hd) (w : World) (h : HdAt w v L) (hbig : bigQ L ≤ 90000000) (hn : L.length ≤ 1000000) :
  Calls Tryz.prog 32 #[v] w fun e w' => e = .returned (.string ⟨(wrV L).toArray⟩) ∧ Below w.heap.size w w' := by
 have HH := hid h
 obtain ⟨a, cap, rfl, h1, h2, -⟩ := h
 have hn' : (L.length : Int) ≤ 1000000 := by omega
 clear h1 h2
 go_enter Tryz.func32, Tryz.ntmps32
 go_wp2
 go_loopw [3, 4] (fun o i wr => ∃ (k : Nat) (t : ByteArray), k ≤ L.length ∧ i = .int .i64 k ∧ o = .string t ∧ WrK w L t wr k) (fun _ i _ => L.length - (intOf i).toNat)
 case atStart => exact ⟨0, _, Nat.zero_le _, rfl, rfl, rfl, Below.refl _ _⟩
 case round =>
  obtain ⟨k, t, hk, rfl, rfl, ht, hbw⟩ := hrel
  by_cases hlt : k < L.length
  ·have hlt' : (k : Int) < (L.length : Int) := by omega
   obtain ⟨a', cap', he, -, -, hcells⟩ := HH.out.kept hbw
   obtain ⟨g, off, ha, c0, c1⟩ := hcells k hlt
   cases he
   subst ha
   obtain ⟨X, hX⟩ : ∃ X : ByteArray, (⟨L[k].name.toArray⟩ : ByteArray) = X := ⟨_, rfl⟩
   obtain ⟨Y, hY⟩ : ∃ X : ByteArray, (⟨L[k].value.toArray⟩ : ByteArray) = X := ⟨_, rfl⟩
   have hbt := big_take L k hlt
   have hal := wrA_le true (L.take k)
   have hXs : X.size = L[k].name.length := by rw [← hX, Lib.size_eq]
   have hYs : Y.size = L[k].value.length := by rw [← hY, Lib.size_eq]
   have HT := hid (show wrV (L.take (k + 1)) = t.data.toList ++ ((if k = 0 then [] else [38]) ++ (wrtV X.data.toList ++ 61 :: wrtV Y.data.toList)) by
    rw [ht]
    unfold wrV
    rw [List.take_succ_eq_append_getElem hlt, wrA_snoc, wrP, ← hX, ← hY]
    congr 2
    cases k with
    | zero => simp
    | succ k => cases hL : L with
     | nil => rw [hL] at hlt; simp at hlt
     | cons x t => simp)
   rw [hX] at c0
   rw [hY] at c1
   have hal' : t.size + 3 * X.size + 3 * Y.size + 2 ≤ 90000000 := by rw [Lib.size_eq, ht, hXs, hYs]; unfold bigH at hbt; unfold wrV; omega
   obtain ⟨TX, hTX⟩ : ∃ Z : ByteArray, (⟨(wrtV X.data.toList).toArray⟩ : ByteArray) = Z := ⟨_, rfl⟩
   obtain ⟨TY, hTY⟩ : ∃ Z : ByteArray, (⟨(wrtV Y.data.toList).toArray⟩ : ByteArray) = Z := ⟨_, rfl⟩
   have hTXl : TX.data.toList = wrtV X.data.toList := by rw [← hTX]
   have hTYl : TY.data.toList = wrtV Y.data.toList := by rw [← hTY]
   have hTXs : TX.size ≤ 3 * X.size := by rw [Lib.size_eq, hTXl, Lib.size_eq]; exact wrtV_le _
   have hTYs : TY.size ≤ 3 * Y.size := by rw [Lib.size_eq, hTYl, Lib.size_eq]; exact wrtV_le _
   rw [← hTXl, ← hTYl] at HT
   have HWX := hid (fun w => rwrote_any X w (by omega))
   have HWY := hid (fun w => rwrote_any Y w (by omega))
   rw [hTX] at HWX
   rw [hTY] at HWY
   have HK0 := hid (show ∀ Z, Below wr.heap.size wr Z → Z.cell? ⟨g, off + k * 2, none⟩ = some (.string X) ∧ Z.cell? ⟨g, off + k * 2 + 1, none⟩ = some (.string Y) from fun Z hZ => ⟨keptC4 c0 hZ, keptC4 c1 hZ⟩)
   have HBw := hid hbw
   have HQ0 := hid ((Below.refl wr.heap.size wr).drew)
   clear ht hX hY hXs hYs hbt hal hbw hTX hTY hTXl hTYl c0 c1
   have ha0 : off + k * 2 + 0 = off + k * 2 := rfl
   by_cases h0 : k = 0
   ·have HT2 := hid (show wrV (L.take (k + 1)) = t.data.toList ++ (TX.data.toList ++ 61 :: TY.data.toList) by rw [HT.out, if_pos h0]; rfl)
    have h0' : ¬ (0 : Int) < (k : Int) := by omega
    obtain ⟨t0, ht0⟩ : ∃ Z : ByteArray, Z = t := ⟨_, rfl⟩
    have hts : t0.size + TX.size + TY.size + 2 ≤ 90000001 := by rw [ht0]; omega
    rw [← ht0] at HT2
    subst ht0
    clear h0 HT
    go_upto_region 7 with fail
    refine wp_region_held_drew (S := (fun wx => Below wr.heap.size wr wx)) (by kernel_rfl) HQ0.out (fun hHeld => ?_)
    refine wpAnyH_to (fuel' := 17) (listed' := #[false, false, false, false, false, false, false, false, false, false, false, false, false, false, false, false, false]) rfl rfl ?_
    refine' wpAnyH_take (i := 0) (oi := ⟨some 15, _, _, _, _, _⟩) (v := _) rfl (by kernel_rfl) (by kernel_rfl) (by kernel_rfl) (fun _ _ _ h => h) (Or.inl ⟨by kernel_rfl, ?hywr1⟩) (by assumption) ?restwr1
    case hywr1 => (intro wx hSw; (try dsimp only at hSw); go_simp; first | done | with_reducible rfl | (rw [if_neg (by omega)]))
    (try simp only [Act.put, List.setIfInBounds_toArray, List.set_cons_zero, List.set_cons_succ])
    refine' wpAnyH_take (i := 1) (oi := ⟨some 16, _, _, _, _, _⟩) (v := _) rfl (by kernel_rfl) (by kernel_rfl) (by kernel_rfl) (fun _ _ _ h => h) (Or.inl ⟨by kernel_rfl, ?hywr2⟩) (by assumption) ?restwr2
    case hywr2 => (intro wx hSw; (try dsimp only at hSw); go_simp; first | done | with_reducible rfl | (rw [if_neg (by omega)]))
    (try simp only [Act.put, List.setIfInBounds_toArray, List.set_cons_zero, List.set_cons_succ])
    refine' wpAnyH_take (i := 2) (oi := ⟨some 17, _, _, _, _, _⟩) (v := _) rfl (by kernel_rfl) (by kernel_rfl) (by kernel_rfl) (fun _ _ _ h => h) (Or.inl ⟨by kernel_rfl, ?hywr3⟩) (by assumption) ?restwr3
    case hywr3 => (intro wx hSw; (try dsimp only at hSw); go_simp; first | done | with_reducible rfl | (rw [if_neg (by omega)]))
    (try simp only [Act.put, List.setIfInBounds_toArray, List.set_cons_zero, List.set_cons_succ])
    refine' wpAnyH_take (i := 3) (oi := ⟨some 18, _, _, _, _, _⟩) (v := _) rfl (by kernel_rfl) (by kernel_rfl) (by kernel_rfl) (fun _ _ _ h => h) (Or.inl ⟨by kernel_rfl, ?hywr4⟩) (by assumption) ?restwr4
    case hywr4 => (intro wx hSw; (try dsimp only at hSw); go_simp; first | done | with_reducible rfl | (rw [if_neg (by omega)]))
    (try simp only [Act.put, List.setIfInBounds_toArray, List.set_cons_zero, List.set_cons_succ])
    refine' wpAnyH_take (i := 4) (oi := ⟨some 19, _, _, _, _, _⟩) (v := _) rfl (by kernel_rfl) (by kernel_rfl) (by kernel_rfl) (fun _ _ _ h => h) (Or.inl ⟨by kernel_rfl, ?hywr5⟩) (by assumption) ?restwr5
    case hywr5 => (intro wx hSw; (try dsimp only at hSw); go_simp; first | done | with_reducible rfl | (rw [if_neg (by omega)]))
    (try simp only [Act.put, List.setIfInBounds_toArray, List.set_cons_zero, List.set_cons_succ])
    refine' wpAnyH_take (i := 5) (oi := ⟨some 20, _, _, _, _, _⟩) (v := _) rfl (by kernel_rfl) (by kernel_rfl) (by kernel_rfl) (fun _ _ _ h => h) (Or.inl ⟨by kernel_rfl, ?hywr6⟩) (by assumption) ?restwr6
    case hywr6 => (intro wx hSw; (try dsimp only at hSw); obtain ⟨k0, k1⟩ := HK0.out _ hSw; go_simp; first | done | with_reducible rfl | (rw [if_neg (by omega)]))
    (try simp only [Act.put, List.setIfInBounds_toArray, List.set_cons_zero, List.set_cons_succ])
    refine' wpAnyH_take (i := 9) (oi := ⟨some 24, _, _, _, _, _⟩) (v := _) rfl (by kernel_rfl) (by kernel_rfl) (by kernel_rfl) (fun _ _ _ h => h) (Or.inl ⟨by kernel_rfl, ?hywr7⟩) (by assumption) ?restwr7
    case hywr7 => (intro wx hSw; (try dsimp only at hSw); go_simp; first | done | with_reducible rfl | (rw [if_neg (by omega)]))
    (try simp only [Act.put, List.setIfInBounds_toArray, List.set_cons_zero, List.set_cons_succ])
    refine' wpAnyH_take (i := 10) (oi := ⟨some 25, _, _, _, _, _⟩) (v := _) rfl (by kernel_rfl) (by kernel_rfl) (by kernel_rfl) (fun _ _ _ h => h) (Or.inl ⟨by kernel_rfl, ?hywr8⟩) (by assumption) ?restwr8
    case hywr8 => (intro wx hSw; (try dsimp only at hSw); go_simp; first | done | with_reducible rfl | (rw [if_neg (by omega)]))
    (try simp only [Act.put, List.setIfInBounds_toArray, List.set_cons_zero, List.set_cons_succ])
    refine' wpAnyH_take (i := 11) (oi := ⟨some 26, _, _, _, _, _⟩) (v := _) rfl (by kernel_rfl) (by kernel_rfl) (by kernel_rfl) (fun _ _ _ h => h) (Or.inl ⟨by kernel_rfl, ?hywr9⟩) (by assumption) ?restwr9
    case hywr9 => (intro wx hSw; (try dsimp only at hSw); go_simp; first | done | with_reducible rfl | (rw [if_neg (by omega)]))
    (try simp only [Act.put, List.setIfInBounds_toArray, List.set_cons_zero, List.set_cons_succ])
    refine' wpAnyH_take (i := 12) (oi := ⟨some 27, _, _, _, _, _⟩) (v := _) rfl (by kernel_rfl) (by kernel_rfl) (by kernel_rfl) (fun _ _ _ h => h) (Or.inl ⟨by kernel_rfl, ?hywr10⟩) (by assumption) ?restwr10
    case hywr10 => (intro wx hSw; (try dsimp only at hSw); go_simp; first | done | with_reducible rfl | (rw [if_neg (by omega)]))
    (try simp only [Act.put, List.setIfInBounds_toArray, List.set_cons_zero, List.set_cons_succ])
    refine' wpAnyH_take (i := 13) (oi := ⟨some 28, _, _, _, _, _⟩) (v := _) rfl (by kernel_rfl) (by kernel_rfl) (by kernel_rfl) (fun _ _ _ h => h) (Or.inl ⟨by kernel_rfl, ?hywr11⟩) (by assumption) ?restwr11
    case hywr11 => (intro wx hSw; (try dsimp only at hSw); obtain ⟨k0, k1⟩ := HK0.out _ hSw; go_simp; first | done | with_reducible rfl | (rw [if_neg (by omega)]))
    (try simp only [Act.put, List.setIfInBounds_toArray, List.set_cons_zero, List.set_cons_succ])
    refine wpAnyH_ready (rs := [6]) (by kernel_rfl) (by simp) ?_
    refine AllReadyH.cons rfl (fun K9 hK => ?_) AllReadyH.nil
    rw [if_pos (by kernel_rfl)]
    go_simp
    go_wp2_with (go_at_call 84; refine (HWX.out _).mono ?_; rintro e w11 ⟨rfl, hba⟩)
    have HQ11 := hid (below2 HQ0.out hba)
    clear hba
    refine hK.out _ _ HQ11.out (fun hHeld2 => ?_)
    clear hK K9 hHeld
    rename _ => hHeld
    refine' wpAnyH_take (i := 7) (oi := ⟨some 22, _, _, _, _, _⟩) (v := _) rfl (by kernel_rfl) (by kernel_rfl) (by kernel_rfl) (fun _ _ _ h => h) (Or.inl ⟨by kernel_rfl, ?hywr12⟩) (by assumption) ?restwr12
    case hywr12 => (intro wx hSw; (try dsimp only at hSw); go_simp; first | done | with_reducible rfl | (rw [if_neg (by omega)]))
    (try simp only [Act.put, List.setIfInBounds_toArray, List.set_cons_zero, List.set_cons_succ])
    refine' wpAnyH_take (i := 8) (oi := ⟨some 23, _, _, _, _, _⟩) (v := _) rfl (by kernel_rfl) (by kernel_rfl) (by kernel_rfl) (fun _ _ _ h => h) (Or.inl ⟨by kernel_rfl, ?hywr13⟩) (by assumption) ?restwr13
    case hywr13 => (intro wx hSw; (try dsimp only at hSw); go_simp; first | done | with_reducible rfl | (rw [if_neg (by omega)]))
    (try simp only [Act.put, List.setIfInBounds_toArray, List.set_cons_zero, List.set_cons_succ])
    refine wpAnyH_ready (rs := [14]) (by kernel_rfl) (by simp) ?_
    refine AllReadyH.cons rfl (fun K9 hK => ?_) AllReadyH.nil
    rw [if_pos (by kernel_rfl)]
    go_simp
    go_wp2_with (go_at_call 84; refine (HWY.out _).mono ?_; rintro e w12 ⟨rfl, hba⟩)
    have HQ12 := hid (below2 HQ11.out hba)
    clear hba
    refine hK.out _ _ HQ12.out (fun hHeld2 => ?_)
    clear hK K9 hHeld
    rename _ => hHeld
    refine' wpAnyH_take (i := 15) (oi := ⟨some 30, _, _, _, _, _⟩) (v := _) rfl (by kernel_rfl) (by kernel_rfl) (by kernel_rfl) (fun _ _ _ h => h) (Or.inl ⟨by kernel_rfl, ?hywr14⟩) (by assumption) ?restwr14
    case hywr14 => (intro wx hSw; (try dsimp only at hSw); go_simp; first | done | with_reducible rfl | (rw [if_neg (by omega)]))
    (try simp only [Act.put, List.setIfInBounds_toArray, List.set_cons_zero, List.set_cons_succ])
    refine' wpAnyH_take (i := 16) (oi := ⟨some 3, _, _, _, _, _⟩) (v := _) rfl (by kernel_rfl) (by kernel_rfl) (by kernel_rfl) (fun _ _ _ h => h) (Or.inl ⟨by kernel_rfl, ?hywr15⟩) (by assumption) ?restwr15
    case hywr15 => (intro wx hSw; (try dsimp only at hSw); go_simp; first | done | with_reducible rfl | (rw [if_neg (by omega)]))
    (try simp only [Act.put, List.setIfInBounds_toArray, List.set_cons_zero, List.set_cons_succ])
    refine wpAnyH_done (by kernel_rfl) ?_ _
    go_wp2_with fail
    go_roundw
    case rel =>
     refine ⟨k + 1, _, by omega, by go_num, rfl, ?_, below2 HBw.out HQ12.out⟩
     rw [HT2.out]
     simp [ByteArray.data_append, Array.toList_append]
    case measure => simp [intOf]; omega
   ·have HT2 := hid (show wrV (L.take (k + 1)) = (t.data.toList ++ [38]) ++ (TX.data.toList ++ 61 :: TY.data.toList) by rw [HT.out, if_neg h0]; simp)
    have h0' : (0 : Int) < (k : Int) := by omega
    obtain ⟨t0, ht0⟩ : ∃ Z : ByteArray, t ++ (⟨#[38]⟩ : ByteArray) = Z := ⟨_, rfl⟩
    have ht0l : t0.data.toList = t.data.toList ++ [38] := by rw [← ht0, ByteArray.data_append, Array.toList_append]
    have hts : t0.size + TX.size + TY.size + 2 ≤ 90000001 := by rw [Lib.size_eq, ht0l, List.length_append, ← Lib.size_eq]; simp; omega
    rw [← ht0l] at HT2
    clear h0 HT ht0l
    go_upto_region 7 with fail
    refine wp_region_held_drew (S := (fun wx => Below wr.heap.size wr wx)) (by kernel_rfl) HQ0.out (fun hHeld => ?_)
    refine wpAnyH_to (fuel' := 17) (listed' := #[false, false, false, false, false, false, false, false, false, false, false, false, false, false, false, false, false]) rfl rfl ?_
    refine' wpAnyH_take (i := 0) (oi := ⟨some 15, _, _, _, _, _⟩) (v := _) rfl (by kernel_rfl) (by kernel_rfl) (by kernel_rfl) (fun _ _ _ h => h) (Or.inl ⟨by kernel_rfl, ?hywr61⟩) (by assumption) ?restwr61
    case hywr61 => (intro wx hSw; (try dsimp only at hSw); go_simp; first | done | with_reducible rfl | (rw [if_neg (by omega)]))
    (try simp only [Act.put, List.setIfInBounds_toArray, List.set_cons_zero, List.set_cons_succ])
    refine' wpAnyH_take (i := 1) (oi := ⟨some 16, _, _, _, _, _⟩) (v := _) rfl (by kernel_rfl) (by kernel_rfl) (by kernel_rfl) (fun _ _ _ h => h) (Or.inl ⟨by kernel_rfl, ?hywr62⟩) (by assumption) ?restwr62
    case hywr62 => (intro wx hSw; (try dsimp only at hSw); go_simp; first | done | with_reducible rfl | (rw [if_neg (by omega)]))
    (try simp only [Act.put, List.setIfInBounds_toArray, List.set_cons_zero, List.set_cons_succ])
    refine' wpAnyH_take (i := 2) (oi := ⟨some 17, _, _, _, _, _⟩) (v := _) rfl (by kernel_rfl) (by kernel_rfl) (by kernel_rfl) (fun _ _ _ h => h) (Or.inl ⟨by kernel_rfl, ?hywr63⟩) (by assumption) ?restwr63
    case hywr63 => (intro wx hSw; (try dsimp only at hSw); go_simp; first | done | with_reducible rfl | (rw [if_neg (by omega)]))
    (try simp only [Act.put, List.setIfInBounds_toArray, List.set_cons_zero, List.set_cons_succ])
    refine' wpAnyH_take (i := 3) (oi := ⟨some 18, _, _, _, _, _⟩) (v := _) rfl (by kernel_rfl) (by kernel_rfl) (by kernel_rfl) (fun _ _ _ h => h) (Or.inl ⟨by kernel_rfl, ?hywr64⟩) (by assumption) ?restwr64
    case hywr64 => (intro wx hSw; (try dsimp only at hSw); go_simp; first | done | with_reducible rfl | (rw [if_neg (by omega)]))
    (try simp only [Act.put, List.setIfInBounds_toArray, List.set_cons_zero, List.set_cons_succ])
    refine' wpAnyH_take (i := 4) (oi := ⟨some 19, _, _, _, _, _⟩) (v := _) rfl (by kernel_rfl) (by kernel_rfl) (by kernel_rfl) (fun _ _ _ h => h) (Or.inl ⟨by kernel_rfl, ?hywr65⟩) (by assumption) ?restwr65
    case hywr65 => (intro wx hSw; (try dsimp only at hSw); go_simp; first | done | with_reducible rfl | (rw [if_neg (by omega)]))
    (try simp only [Act.put, List.setIfInBounds_toArray, List.set_cons_zero, List.set_cons_succ])
    refine' wpAnyH_take (i := 5) (oi := ⟨some 20, _, _, _, _, _⟩) (v := _) rfl (by kernel_rfl) (by kernel_rfl) (by kernel_rfl) (fun _ _ _ h => h) (Or.inl ⟨by kernel_rfl, ?hywr66⟩) (by assumption) ?restwr66
    case hywr66 => (intro wx hSw; (try dsimp only at hSw); obtain ⟨k0, k1⟩ := HK0.out _ hSw; go_simp; first | done | with_reducible rfl | (rw [if_neg (by omega)]))
    (try simp only [Act.put, List.setIfInBounds_toArray, List.set_cons_zero, List.set_cons_succ])
    refine' wpAnyH_take (i := 9) (oi := ⟨some 24, _, _, _, _, _⟩) (v := _) rfl (by kernel_rfl) (by kernel_rfl) (by kernel_rfl) (fun _ _ _ h => h) (Or.inl ⟨by kernel_rfl, ?hywr67⟩) (by assumption) ?restwr67
    case hywr67 => (intro wx hSw; (try dsimp only at hSw); go_simp; first | done | with_reducible rfl | (rw [if_neg (by omega)]))
    (try simp only [Act.put, List.setIfInBounds_toArray, List.set_cons_zero, List.set_cons_succ])
    refine' wpAnyH_take (i := 10) (oi := ⟨some 25, _, _, _, _, _⟩) (v := _) rfl (by kernel_rfl) (by kernel_rfl) (by kernel_rfl) (fun _ _ _ h => h) (Or.inl ⟨by kernel_rfl, ?hywr68⟩) (by assumption) ?restwr68
    case hywr68 => (intro wx hSw; (try dsimp only at hSw); go_simp; first | done | with_reducible rfl | (rw [if_neg (by omega)]))
    (try simp only [Act.put, List.setIfInBounds_toArray, List.set_cons_zero, List.set_cons_succ])
    refine' wpAnyH_take (i := 11) (oi := ⟨some 26, _, _, _, _, _⟩) (v := _) rfl (by kernel_rfl) (by kernel_rfl) (by kernel_rfl) (fun _ _ _ h => h) (Or.inl ⟨by kernel_rfl, ?hywr69⟩) (by assumption) ?restwr69
    case hywr69 => (intro wx hSw; (try dsimp only at hSw); go_simp; first | done | with_reducible rfl | (rw [if_neg (by omega)]))
    (try simp only [Act.put, List.setIfInBounds_toArray, List.set_cons_zero, List.set_cons_succ])
    refine' wpAnyH_take (i := 12) (oi := ⟨some 27, _, _, _, _, _⟩) (v := _) rfl (by kernel_rfl) (by kernel_rfl) (by kernel_rfl) (fun _ _ _ h => h) (Or.inl ⟨by kernel_rfl, ?hywr70⟩) (by assumption) ?restwr70
    case hywr70 => (intro wx hSw; (try dsimp only at hSw); go_simp; first | done | with_reducible rfl | (rw [if_neg (by omega)]))
    (try simp only [Act.put, List.setIfInBounds_toArray, List.set_cons_zero, List.set_cons_succ])
    refine' wpAnyH_take (i := 13) (oi := ⟨some 28, _, _, _, _, _⟩) (v := _) rfl (by kernel_rfl) (by kernel_rfl) (by kernel_rfl) (fun _ _ _ h => h) (Or.inl ⟨by kernel_rfl, ?hywr71⟩) (by assumption) ?restwr71
    case hywr71 => (intro wx hSw; (try dsimp only at hSw); obtain ⟨k0, k1⟩ := HK0.out _ hSw; go_simp; first | done | with_reducible rfl | (rw [if_neg (by omega)]))
    (try simp only [Act.put, List.setIfInBounds_toArray, List.set_cons_zero, List.set_cons_succ])
    refine wpAnyH_ready (rs := [6]) (by kernel_rfl) (by simp) ?_
    refine AllReadyH.cons rfl (fun K9 hK => ?_) AllReadyH.nil
    rw [if_pos (by kernel_rfl)]
    go_simp
    go_wp2_with (go_at_call 84; refine (HWX.out _).mono ?_; rintro e w11 ⟨rfl, hba⟩)
    have HQ11 := hid (below2 HQ0.out hba)
    clear hba
    refine hK.out _ _ HQ11.out (fun hHeld2 => ?_)
    clear hK K9 hHeld
    rename _ => hHeld
    refine' wpAnyH_take (i := 7) (oi := ⟨some 22, _, _, _, _, _⟩) (v := _) rfl (by kernel_rfl) (by kernel_rfl) (by kernel_rfl) (fun _ _ _ h => h) (Or.inl ⟨by kernel_rfl, ?hywr72⟩) (by assumption) ?restwr72
    case hywr72 => (intro wx hSw; (try dsimp only at hSw); go_simp; first | done | with_reducible rfl | (rw [if_neg (by omega)]))
    (try simp only [Act.put, List.setIfInBounds_toArray, List.set_cons_zero, List.set_cons_succ])
    refine' wpAnyH_take (i := 8) (oi := ⟨some 23, _, _, _, _, _⟩) (v := _) rfl (by kernel_rfl) (by kernel_rfl) (by kernel_rfl) (fun _ _ _ h => h) (Or.inl ⟨by kernel_rfl, ?hywr73⟩) (by assumption) ?restwr73
    case hywr73 => (intro wx hSw; (try dsimp only at hSw); go_simp; first | done | with_reducible rfl | (rw [if_neg (by omega)]))
    (try simp only [Act.put, List.setIfInBounds_toArray, List.set_cons_zero, List.set_cons_succ])
    refine wpAnyH_ready (rs := [14]) (by kernel_rfl) (by simp) ?_
    refine AllReadyH.cons rfl (fun K9 hK => ?_) AllReadyH.nil
    rw [if_pos (by kernel_rfl)]
    go_simp
    go_wp2_with (go_at_call 84; refine (HWY.out _).mono ?_; rintro e w12 ⟨rfl, hba⟩)
    have HQ12 := hid (below2 HQ11.out hba)
    clear hba
    refine hK.out _ _ HQ12.out (fun hHeld2 => ?_)
    clear hK K9 hHeld
    rename _ => hHeld
    refine' wpAnyH_take (i := 15) (oi := ⟨some 30, _, _, _, _, _⟩) (v := _) rfl (by kernel_rfl) (by kernel_rfl) (by kernel_rfl) (fun _ _ _ h => h) (Or.inl ⟨by kernel_rfl, ?hywr74⟩) (by assumption) ?restwr74
    case hywr74 => (intro wx hSw; (try dsimp only at hSw); go_simp; first | done | with_reducible rfl | (rw [if_neg (by omega)]))
    (try simp only [Act.put, List.setIfInBounds_toArray, List.set_cons_zero, List.set_cons_succ])
    refine' wpAnyH_take (i := 16) (oi := ⟨some 3, _, _, _, _, _⟩) (v := _) rfl (by kernel_rfl) (by kernel_rfl) (by kernel_rfl) (fun _ _ _ h => h) (Or.inl ⟨by kernel_rfl, ?hywr75⟩) (by assumption) ?restwr75
    case hywr75 => (intro wx hSw; (try dsimp only at hSw); go_simp; first | done | with_reducible rfl | (rw [if_neg (by omega)]))
    (try simp only [Act.put, List.setIfInBounds_toArray, List.set_cons_zero, List.set_cons_succ])
    refine wpAnyH_done (by kernel_rfl) ?_ _
    go_wp2_with fail
    go_roundw
    case rel =>
     refine ⟨k + 1, _, by omega, by go_num, rfl, ?_, below2 HBw.out HQ12.out⟩
     rw [HT2.out]
     simp [ByteArray.data_append, Array.toList_append]
    case measure => simp [intOf]; omega
  ·have hlt' : decide ((k : Int) < (L.length : Int)) = false := by rw [decide_eq_false_iff_not]; omega
   rw [List.take_of_length_le (by omega)] at ht
   have HT2 := hid ht
   have HB := hid hbw
   clear ht hbw
   go_wp2
   go_ret
   exact ⟨ret_str HT2.out, HB.out⟩

end Go.Proofs.YtgoefeaopegdoaaGreatDoor

namespace Go.Proofs.YtgoefeaopegdoaaGreatDoor
open Go.RowKit

theorem enc_eq (r : Int) : (Utf8.encode r).data.toList = Lib.encodeRune r := by
 unfold Utf8.encode Lib.encodeRune Utf8.valid Utf8.runeError
 by_cases h1 : 0 ≤ r ∧ r ≤ 127
 ·rw [Lib.encodeRuneZ_one h1.1 h1.2]
  have hv : ((decide (0 ≤ r) && decide (r < 0xD800)) || (decide (0xE000 ≤ r) && decide (r ≤ 0x10FFFF))) = true := by simp; omega
  simp only [hv, if_true]
  rw [if_pos (by omega)]
  rfl
 by_cases h2 : 128 ≤ r ∧ r ≤ 2047
 ·rw [Lib.encodeRuneZ_two h2.1 h2.2]
  have hv : ((decide (0 ≤ r) && decide (r < 0xD800)) || (decide (0xE000 ≤ r) && decide (r ≤ 0x10FFFF))) = true := by simp; omega
  simp only [hv, if_true]
  rw [if_neg (by omega), if_pos (by omega)]
  have a1 : (192 + r / 64).toNat = 192 + r.toNat / 64 := by omega
  have a2 : (128 + r % 64).toNat = 128 + r.toNat % 64 := by omega
  simp only [List.map_cons, List.map_nil, a1, a2]
  try rfl
 by_cases h3 : (2048 ≤ r ∧ r < 55296) ∨ (57343 < r ∧ r ≤ 65535)
 ·rw [Lib.encodeRuneZ_three h3]
  have hv : ((decide (0 ≤ r) && decide (r < 0xD800)) || (decide (0xE000 ≤ r) && decide (r ≤ 0x10FFFF))) = true := by simp; omega
  simp only [hv, if_true]
  rw [if_neg (by omega), if_neg (by omega), if_pos (by omega)]
  have a1 : (224 + r / 4096).toNat = 224 + r.toNat / 4096 := by omega
  have a2 : (128 + r / 64 % 64).toNat = 128 + r.toNat / 64 % 64 := by omega
  have a3 : (128 + r % 64).toNat = 128 + r.toNat % 64 := by omega
  simp only [List.map_cons, List.map_nil, a1, a2, a3]
  try rfl
 by_cases h4 : 65536 ≤ r ∧ r ≤ 1114111
 ·rw [Lib.encodeRuneZ_four h4.1 h4.2]
  have hv : ((decide (0 ≤ r) && decide (r < 0xD800)) || (decide (0xE000 ≤ r) && decide (r ≤ 0x10FFFF))) = true := by simp; omega
  simp only [hv, if_true]
  rw [if_neg (by omega), if_neg (by omega), if_neg (by omega)]
  have a1 : (240 + r / 262144).toNat = 240 + r.toNat / 262144 := by omega
  have a2 : (128 + r / 4096 % 64).toNat = 128 + r.toNat / 4096 % 64 := by omega
  have a3 : (128 + r / 64 % 64).toNat = 128 + r.toNat / 64 % 64 := by omega
  have a4 : (128 + r % 64).toNat = 128 + r.toNat % 64 := by omega
  simp only [List.map_cons, List.map_nil, a1, a2, a3, a4]
  try rfl
 ·rw [Lib.encodeRuneZ_bad (by omega)]
  have hv : ((decide (0 ≤ r) && decide (r < 0xD800)) || (decide (0xE000 ≤ r) && decide (r ≤ 0x10FFFF))) = false := by simp; omega
  simp only [hv, Bool.false_eq_true, if_false]
  rfl

theorem enc_size (r : Int) : (Utf8.encode r).size ≤ 4 := by
 have h1 := Lib.runeCells_le r
 rw [Lib.runeCells_length, ← enc_eq, ← Lib.size_eq] at h1
 exact h1.2

theorem bom_list : (ByteArray.mk #[239, 187, 191]).toList = [239, 187, 191] := by rw [Lib.toList_data]

theorem bom_size : (ByteArray.mk #[239, 187, 191]).size = 3 := rfl

set_option maxHeartbeats 1000000 in
set_option maxRecDepth 100000 in
theorem rdecode_any (v : Value) (l : List UInt8) (w : World) (hv : SlB w v l) (hs : l.length ≤ 1000000) :
  Calls Tryz.prog 133 #[v] w fun e w' => e = .returned (.string ⟨(dec l).toArray⟩) ∧ Below w.heap.size w w' := by
 have hcv := hv.string (P := Tryz.prog) (src := 113) (dst := 9) Tryz.underlying113 Tryz.underlying5 Tryz.underlying9
 obtain ⟨s, hse⟩ : ∃ s : ByteArray, s = ⟨l.toArray⟩ := ⟨_, rfl⟩
 rw [← hse] at hcv
 have hsl : s.data.toList = l := by rw [hse]
 have hss : s.size ≤ 1000000 := by rw [Lib.size_eq, hsl]; exact hs
 clear hse
 by_cases h3 : s.size < 3
 ·have h3' : (s.size : Int) < 3 := by omega
  have HD : Hid (dec l = recode s) := by
   have := Lib.trimPrefix_miss s ⟨#[239, 187, 191]⟩ (by rw [bom_size]; simp; omega)
   unfold dec
   rw [← hsl]
   exact hid (congrArg recode this)
  clear hsl
  go_enter Tryz.func133, Tryz.ntmps133
  obtain ⟨t, ht⟩ : ∃ t, t = s := ⟨_, rfl⟩
  subst ht
  skip
  go_wp2
  go_loopw [4] (fun os wr => ∃ (pos fuel : Nat) (o : ByteArray), os = .string o ∧ wr.heap[w.heap.size]? = some (.stringIter t pos) ∧ Below w.heap.size w wr ∧ o.data.toList ++ recFrom t fuel pos = recode t ∧ t.size ≤ pos + fuel ∧ o.size ≤ 4 * pos) (fun _ wr => t.size - wr.iterPos w.heap.size)
  case atStart =>
   refine ⟨0, t.size, ⟨#[]⟩, rfl, ?_, (Below.refl _ w).alloc (Nat.le_refl _) _, rfl, by omega, by decide⟩
   exact World.iter_heap w t 0
  case round =>
   obtain ⟨pos, fuel, o, rfl, hit, hbw, hacc, hfu, hal⟩ := hrel
   have hszw : w.heap.size < wr.heap.size := (Array.getElem?_eq_some_iff.1 hit).1
   by_cases hp : pos < t.size
   ·have hnx : ∀ ty, (Instr.next (.pointer (some ⟨w.heap.size, 0, none⟩)) true ty).run Tryz.prog wr = _ := fun ty => Lib.run_next_any_at wr w.heap.size t pos ty hit hp
    have hwd := width_pos t pos hp
    have hit2 := Lib.iterAt_heap wr w.heap.size t pos (pos + (Utf8.decode t pos).2) hit
    have hbw2 := Lib.below_iterAt hbw (k := w.heap.size) (Nat.le_refl _) t (pos + (Utf8.decode t pos).2)
    obtain ⟨f, rfl⟩ : ∃ f, fuel = f + 1 := ⟨fuel - 1, by omega⟩
    have hes := enc_size ((Utf8.decode t pos).1 : Int)
    have HACC := hid hacc
    clear hacc
    go_wp2
    go_roundw
    case rel =>
     refine ⟨pos + (Utf8.decode t pos).2, f, _, rfl, hit2, hbw2, ?_, by omega, ?_⟩
     ·rw [ByteArray.data_append, Array.toList_append, enc_eq, ← HACC.out]; simp [recFrom, hp]
     ·simp; omega
    case measure =>
     simp only [World.iterPos, hit2, hit]
     omega
   ·have hnx : ∀ ty, (Instr.next (.pointer (some ⟨w.heap.size, 0, none⟩)) true ty).run Tryz.prog wr = _ := fun ty => Lib.run_next_end_at wr w.heap.size t pos ty hit hp
    rw [recFrom_end t fuel pos hp, List.append_nil] at hacc
    have HACC := hid hacc
    clear hacc
    go_wp2
    go_ret
    refine ⟨?_, hbw⟩
    rw [HD.out, ← HACC.out, Lib.mk_data]; rfl
 ·have h3' : (3 : Int) ≤ (s.size : Int) := by omega
  by_cases hb : ((s.extract 0 3).toList == [239, 187, 191]) = true
  ·obtain ⟨t, ht⟩ : ∃ t, t = s.extract 3 s.size := ⟨_, rfl⟩
   have HD : Hid (dec l = recode t) := by
    have := Lib.trimPrefix_hit s ⟨#[239, 187, 191]⟩ (by rw [bom_size]; omega) (by rw [bom_size, bom_list]; exact hb)
    unfold dec
    rw [← hsl, ht]
    exact hid (congrArg recode this)
   have hts : t.size ≤ 1000000 := by rw [ht]; simp; omega
   clear hsl
   have ht2 := ht.symm
   clear ht
   go_enter Tryz.func133, Tryz.ntmps133
   go_wp2
   go_loopw [4] (fun os wr => ∃ (pos fuel : Nat) (o : ByteArray), os = .string o ∧ wr.heap[w.heap.size]? = some (.stringIter t pos) ∧ Below w.heap.size w wr ∧ o.data.toList ++ recFrom t fuel pos = recode t ∧ t.size ≤ pos + fuel ∧ o.size ≤ 4 * pos) (fun _ wr => t.size - wr.iterPos w.heap.size)
   case atStart =>
    refine ⟨0, t.size, ⟨#[]⟩, rfl, ?_, (Below.refl _ w).alloc (Nat.le_refl _) _, rfl, by omega, by decide⟩
    exact World.iter_heap w t 0
   case round =>
    obtain ⟨pos, fuel, o, rfl, hit, hbw, hacc, hfu, hal⟩ := hrel
    have hszw : w.heap.size < wr.heap.size := (Array.getElem?_eq_some_iff.1 hit).1
    by_cases hp : pos < t.size
    ·have hnx : ∀ ty, (Instr.next (.pointer (some ⟨w.heap.size, 0, none⟩)) true ty).run Tryz.prog wr = _ := fun ty => Lib.run_next_any_at wr w.heap.size t pos ty hit hp
     have hwd := width_pos t pos hp
     have hit2 := Lib.iterAt_heap wr w.heap.size t pos (pos + (Utf8.decode t pos).2) hit
     have hbw2 := Lib.below_iterAt hbw (k := w.heap.size) (Nat.le_refl _) t (pos + (Utf8.decode t pos).2)
     obtain ⟨f, rfl⟩ : ∃ f, fuel = f + 1 := ⟨fuel - 1, by omega⟩
     have hes := enc_size ((Utf8.decode t pos).1 : Int)
     have HACC := hid hacc
     clear hacc
     go_wp2
     go_roundw
     case rel =>
      refine ⟨pos + (Utf8.decode t pos).2, f, _, rfl, hit2, hbw2, ?_, by omega, ?_⟩
      ·rw [ByteArray.data_append, Array.toList_append, enc_eq, ← HACC.out]; simp [recFrom, hp]
      ·simp; omega
     case measure =>
      simp only [World.iterPos, hit2, hit]
      omega
    ·have hnx : ∀ ty, (Instr.next (.pointer (some ⟨w.heap.size, 0, none⟩)) true ty).run Tryz.prog wr = _ := fun ty => Lib.run_next_end_at wr w.heap.size t pos ty hit hp
     rw [recFrom_end t fuel pos hp, List.append_nil] at hacc
     have HACC := hid hacc
     clear hacc
     go_wp2
     go_ret
     refine ⟨?_, hbw⟩
     rw [HD.out, ← HACC.out, Lib.mk_data]; rfl
  ·have hb' : ((s.extract 0 3).toList == [239, 187, 191]) = false := by simpa using hb
   clear hb
   have HD : Hid (dec l = recode s) := by
    have := Lib.trimPrefix_miss s ⟨#[239, 187, 191]⟩ (by rw [bom_size, Bool.and_eq_false_iff]; right; rw [bom_list]; exact hb')
    unfold dec
    rw [← hsl]
    exact hid (congrArg recode this)
   clear hsl
   go_enter Tryz.func133, Tryz.ntmps133
   obtain ⟨t, ht⟩ : ∃ t, t = s := ⟨_, rfl⟩
   subst ht
   go_wp2
   go_loopw [4] (fun os wr => ∃ (pos fuel : Nat) (o : ByteArray), os = .string o ∧ wr.heap[w.heap.size]? = some (.stringIter t pos) ∧ Below w.heap.size w wr ∧ o.data.toList ++ recFrom t fuel pos = recode t ∧ t.size ≤ pos + fuel ∧ o.size ≤ 4 * pos) (fun _ wr => t.size - wr.iterPos w.heap.size)
   case atStart =>
    refine ⟨0, t.size, ⟨#[]⟩, rfl, ?_, (Below.refl _ w).alloc (Nat.le_refl _) _, rfl, by omega, by decide⟩
    exact World.iter_heap w t 0
   case round =>
    obtain ⟨pos, fuel, o, rfl, hit, hbw, hacc, hfu, hal⟩ := hrel
    have hszw : w.heap.size < wr.heap.size := (Array.getElem?_eq_some_iff.1 hit).1
    by_cases hp : pos < t.size
    ·have hnx : ∀ ty, (Instr.next (.pointer (some ⟨w.heap.size, 0, none⟩)) true ty).run Tryz.prog wr = _ := fun ty => Lib.run_next_any_at wr w.heap.size t pos ty hit hp
     have hwd := width_pos t pos hp
     have hit2 := Lib.iterAt_heap wr w.heap.size t pos (pos + (Utf8.decode t pos).2) hit
     have hbw2 := Lib.below_iterAt hbw (k := w.heap.size) (Nat.le_refl _) t (pos + (Utf8.decode t pos).2)
     obtain ⟨f, rfl⟩ : ∃ f, fuel = f + 1 := ⟨fuel - 1, by omega⟩
     have hes := enc_size ((Utf8.decode t pos).1 : Int)
     have HACC := hid hacc
     clear hacc
     go_wp2
     go_roundw
     case rel =>
      refine ⟨pos + (Utf8.decode t pos).2, f, _, rfl, hit2, hbw2, ?_, by omega, ?_⟩
      ·rw [ByteArray.data_append, Array.toList_append, enc_eq, ← HACC.out]; simp [recFrom, hp]
      ·simp; omega
     case measure =>
      simp only [World.iterPos, hit2, hit]
      omega
    ·have hnx : ∀ ty, (Instr.next (.pointer (some ⟨w.heap.size, 0, none⟩)) true ty).run Tryz.prog wr = _ := fun ty => Lib.run_next_end_at wr w.heap.size t pos ty hit hp
     rw [recFrom_end t fuel pos hp, List.append_nil] at hacc
     have HACC := hid hacc
     clear hacc
     go_wp2
     go_ret
     refine ⟨?_, hbw⟩
     rw [HD.out, ← HACC.out, Lib.mk_data]; rfl

end Go.Proofs.YtgoefeaopegdoaaGreatDoor

namespace Go.Proofs.YtgoefeaopegdoaaGreatDoor
open Go.RowKit

theorem path_tx {w : World} {v : Value} {L : List (List UInt8)} (h : PathAt w v L) : TxAt w v L := by
 rcases h with ⟨rfl, rfl⟩ | ⟨b, cap, rfl, h2, h3, h4, h5⟩
 ·exact tx_nil _
 ·exact ⟨some ⟨b, 0, none⟩, cap, rfl, h3, h4, fun j hj => ⟨b, 0, rfl, by rw [Nat.zero_add]; exact h5 j hj⟩⟩

end Go.Proofs.YtgoefeaopegdoaaGreatDoor
