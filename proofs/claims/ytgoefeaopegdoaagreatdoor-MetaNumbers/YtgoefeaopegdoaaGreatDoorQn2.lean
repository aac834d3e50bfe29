/-
  Walks and plain facts that this claim leans on, put together out of 4 texts: Xk, Ezc, Ezf, Ezs.
-/
import Derived.Test.YtgoefeaopegdoaaGreatDoorProg
import Derived.Test.YtgoefeaopegdoaaGreatDoorQx1
import Derived.Test.YtgoefeaopegdoaaGreatDoorQx2
import Derived.Test.YtgoefeaopegdoaaGreatDoorQx3
import Derived.Test.YtgoefeaopegdoaaGreatDoorQx4
import Derived.Test.YtgoefeaopegdoaaGreatDoorQx5
import Derived.Test.YtgoefeaopegdoaaGreatDoorQx6
import Derived.Test.YtgoefeaopegdoaaGreatDoorQx7
import Derived.Test.YtgoefeaopegdoaaGreatDoorQx8
import Derived.Test.YtgoefeaopegdoaaGreatDoorQx9
import Derived.Test.YtgoefeaopegdoaaGreatDoorQx10
import Derived.Test.YtgoefeaopegdoaaGreatDoorQx11
import Derived.Test.YtgoefeaopegdoaaGreatDoorQx12
import Derived.Test.YtgoefeaopegdoaaGreatDoorQx13
import Derived.Test.YtgoefeaopegdoaaGreatDoorQx14
import Derived.Test.YtgoefeaopegdoaaGreatDoorQx15
import Derived.Test.YtgoefeaopegdoaaGreatDoorQx16
import Derived.Test.YtgoefeaopegdoaaGreatDoorQx17
import Derived.Test.YtgoefeaopegdoaaGreatDoorQx18
import Derived.Test.YtgoefeaopegdoaaGreatDoorQx19
import Derived.Test.YtgoefeaopegdoaaGreatDoorQx20
import Derived.Test.YtgoefeaopegdoaaGreatDoorQx21
import Derived.Test.YtgoefeaopegdoaaGreatDoorQx22
import Derived.Test.YtgoefeaopegdoaaGreatDoorQx23
import Derived.Test.YtgoefeaopegdoaaGreatDoorQx24
import Derived.Test.YtgoefeaopegdoaaGreatDoorQx25
import Derived.Test.YtgoefeaopegdoaaGreatDoorQx26
import Derived.Test.YtgoefeaopegdoaaGreatDoorQx27
import Derived.Test.YtgoefeaopegdoaaGreatDoorQx28
import Derived.Test.YtgoefeaopegdoaaGreatDoorQx29
import Derived.Test.YtgoefeaopegdoaaGreatDoorQx30
import Derived.Test.YtgoefeaopegdoaaGreatDoorQn1
import Derived.WalkKit
import Derived.Lib.Strings
import Derived.Lib.UnsafeStr
import Derived.Laws.IdiomStrings
import Derived.Laws.AppendOwn
import Derived.Laws.BitsAllLaws
import Derived.Lib.Bytealg
import Derived.Lib.BufferMore
import Derived.Shelf.Strings.Builder1
import Derived.Shelf.Strings.Builder2
import Derived.Shelf.Strings.OnBuilder
import Derived.Shelf.Strings.Trim
import Derived.Shelf.Small.Utf8
import Derived.Shelf.Small.Bits
import Derived.Shelf.Small.Strs
import Derived.Shelf.Small.Wraps
import Derived.Shelf.Strings.BuilderF
import Derived.Shelf.Strings.BuilderK
import Derived.Shelf.Strings.BuilderRune
import Derived.Shelf.Utf8.AppendRune
import Derived.Shelf.Utf8.AppendRunePlain
import Derived.Shelf.Strings.Builder2Cap
import Derived.Shelf.Strconv.Itoa0
import Derived.Shelf.Strconv.Itoa1
import Derived.Shelf.LaysM
import Derived.Shelf.Strconv.Itoa2
import Derived.Shelf.Strconv.Itoa3
import Derived.Shelf.Strings.Search1
import Derived.Shelf.Strings.Search2
import Derived.Shelf.Strings.Search3
import Derived.Shelf.Strings.Cut
import Derived.Shelf.Strings.Count
import Derived.Shelf.Strings.Shaped
import Derived.Shelf.Strings.LastIndex
import Derived.Shelf.Strings.Prefix
import Derived.Shelf.Strings.Split
import Derived.Shelf.Strings.Replace
import Derived.Shelf.Strings.Runes
import Derived.Shelf.Strings.IndexAny
import Derived.Shelf.Strings.AsciiSet
import Derived.Shelf.Strings.IndexAnyAll
import Derived.Shelf.Unicode.DecodeSlow
import Derived.Ground.Names2Prog
import Derived.Shelf.Slices.Clone
import Derived.Shelf.Slices.In.SortNone
import Derived.Ground.SlgnProg
import Derived.Shelf.SlicesE.Clone
import Derived.WalkSpells
import Derived.WalkLawsBesides
import Derived.Lib.SlTrimSet
import Derived.Lib.Join
import Derived.Lib.IndexMore
import Derived.Laws.OwnMore
import Derived.Below
import Derived.WalkSmall
import Derived.Lib.SmallJoins
import Derived.Deep.QuietTactic
import Derived.BigQuiet
import Derived.Deep.LoopGhost
import Derived.Deep.MidRow
import Derived.Shelf.Strings.SlTrimAscii
import Derived.Lib.LastIndexByte
import Derived.Scope
import Derived.ScopeJumps
import Derived.WalkMore
import Derived.Lib.IndexAny
import Derived.Lib.Replace
import Derived.Lib.TrimByte
import Derived.Lib.ItoaNum
import Derived.Laws.RangeAny
import Derived.Lib.DecodeN
import Derived.Lib.OthersKept
import Derived.RegionTactic
import Derived.Deep.RegionWith
import Derived.Lib.AppendIntMem
import Derived.OwnWalk
import Derived.Laws.CopyOwn
import Derived.Laws.ResultCell
import Derived.Lib.FrozenHead2
import Derived.Lib.Builder
import Derived.Deep.Cut
import Derived.BigRegion
import Derived.Deep.RegionHeld
import Derived.Lib.BufferRead
import Derived.Lib.RuneBytes
import Derived.LoopN
import Derived.Deep.RegionLaw
import Derived.Laws.AppendOwnNone
import Derived.Laws.BytesString
import Derived.Deep.WholeRow
import Derived.Lib.AppendStr
import Derived.Laws.Runes
set_option linter.unusedSimpArgs false
set_option linter.unusedVariables false

namespace Go.Proofs.YtgoefeaopegdoaaGreatDoor
open Go.RowKit

def restP (out : List (List UInt8)) (r : List UInt8) (mo : Bool) : List (List UInt8) := if mo then out ++ (pcs r).map trimB else out

theorem pcs_cut (r : List UInt8) : pcs r = if cutB r then cutA r :: pcs (cutR r) else [cutA r] := by
 unfold cutA cutR cutB
 cases h : cutQ false r with
 | none => rw [pcs_none r h]; rfl
 | some k => rw [pcs_some r k h]; rfl

theorem restP_step (out : List (List UInt8)) (r : List UInt8) : restP out r true = restP (out ++ [trimB (cutA r)]) (cutR r) (cutB r) := by
 unfold restP
 rw [if_pos rfl, pcs_cut]
 cases cutB r <;> simp

theorem cutR_len (r : List UInt8) (h : cutB r = true) : (cutR r).length + 1 ≤ r.length := by
 unfold cutB at h
 unfold cutR
 cases hc : cutQ false r with
 | none => rw [hc] at h; cases h
 | some k =>
  have := cutQ_lt r.length false r k (Nat.le_refl _) hc
  simp; omega

theorem cutA_len (r : List UInt8) : (cutA r).length ≤ r.length := by
 unfold cutA; split <;> simp <;> omega

theorem cutR_le (r : List UInt8) : (cutR r).length ≤ r.length := by
 unfold cutR; split <;> simp

def SplitPost (L : List (List UInt8)) (w : World) (e : Ending) (w' : World) : Prop :=
 ∃ v, e = .returned (.tuple #[v, .bool true]) ∧ w'.ownsRow w.heap.size 9 1 v L.length (cellsT L) ∧ Below w.heap.size w w'

set_option maxHeartbeats 2000000 in
set_option maxRecDepth 100000 in
theorem hsplit_any (v : Value) (L : List Hd) (n : ByteArray) (w : World) (h : HdAt w v L) (hs : n.size ≤ 140737488351232) (hz : Szd 140737488351232 L) (hl : L.length ≤ 1000000) (hb : bulkV L ≤ 1000000000) (hh : getB L n.data.toList = true) :
  Calls Tryz.prog 45 #[v, .string n] w (SplitPost (splitV L n.data.toList) w) := by
 obtain ⟨i0, hi, hz0, hz1, hz2⟩ := info3 infoTx
 have HG := hid (get_any v L n w h hs hz hl (by omega))
 have hgl := getT_len L n.data.toList
 obtain ⟨T, hT⟩ : ∃ T : ByteArray, T = ⟨(getT L n.data.toList).toArray⟩ := ⟨_, rfl⟩
 rw [← hT, hh] at HG
 have hTs : T.size ≤ 1000000000 := by rw [hT, xsize]; omega
 have HV := hid (show splitV L n.data.toList = restP [] T.data.toList true by rw [hT]; rfl)
 clear hT hgl h hz hb hh
 go_enter Tryz.func45, Tryz.ntmps45
 go_wp2_with fail
 refine HG.out.mono ?_
 rintro e w0 ⟨rfl, hb0⟩
 go_wp2
 go_loopw [6, 7, 8, 9] (fun r m vv x wr => ∃ (R : ByteArray) (mo : Bool) (out : List (List UInt8)), r = .string R ∧ m = .bool mo ∧ out.length + R.size ≤ 1000000001 ∧ (mo = true → out.length + R.size ≤ 1000000000) ∧ R.size ≤ 1000000000 ∧ restP out R.data.toList mo = restP [] T.data.toList true ∧ wr.ownsRow w.heap.size 9 1 vv out.length (cellsT out) ∧ Below w.heap.size w wr)
  (fun r m _ _ _ => match r, m with | .string R, .bool true => R.size + 1 | _, _ => 0)
 case atStart => exact ⟨T, true, [], rfl, rfl, by simp; omega, fun _ => by simp; omega, hTs, rfl, World.ownsRow_nil _ _ _ _, hb0⟩
 case round =>
  obtain ⟨R, mo, out, rfl, rfl, hol, holm, hRs, hrest, hown, hbw⟩ := hrel
  have HO := hid hown
  have hwr := hbw.size
  have HR := hid hrest
  clear hown hrest
  cases mo with
  | false =>
   have HE := hid (show out = splitV L n.data.toList by rw [HV.out, ← HR.out]; rfl)
   go_wp2
   go_ret2
   unfold SplitPost
   rw [← HE.out]
   exact ⟨_, rfl, HO.out, hbw⟩
  | true =>
   have hol' := holm rfl
   obtain ⟨A, hA⟩ : ∃ x : ByteArray, x = ⟨(cutA R.data.toList).toArray⟩ := ⟨_, rfl⟩
   obtain ⟨B, hB⟩ : ∃ x : ByteArray, x = ⟨(cutR R.data.toList).toArray⟩ := ⟨_, rfl⟩
   obtain ⟨mo, hmo⟩ : ∃ x, x = cutB R.data.toList := ⟨_, rfl⟩
   have HCP : Hid (∀ w : World, Calls Tryz.prog 92 #[.string R] w fun e w' => e = .returned (.tuple #[.string A, .string B, .bool mo]) ∧ Below w.heap.size w w') := fun w => by
    have := cutPiece_any R w (by omega)
    rw [← hA, ← hB, ← hmo] at this
    exact this
   have hAs : A.size ≤ 1000000000 := by have := cutA_len R.data.toList; rw [hA, xsize]; simp at this; omega
   have hBs : B.size ≤ R.size := by have := cutR_le R.data.toList; rw [hB, xsize]; simpa using this
   have hBm : mo = true → B.size + 1 ≤ R.size := fun h => by have := cutR_len R.data.toList (by rw [← hmo]; exact h); rw [hB, xsize]; simpa using this
   obtain ⟨P, hP⟩ : ∃ x : ByteArray, x = ⟨(trimB A.data.toList).toArray⟩ := ⟨_, rfl⟩
   have HTr : Hid (∀ w : World, Calls Tryz.prog 86 #[.string A, .string ⟨#[9, 32]⟩] w fun e w' => e = .returned (.string P) ∧ Below w.heap.size w w') := fun w => by
    have := trimB_any A w (by omega)
    rw [← hP] at this
    exact this
   have HS := hid (show restP (out ++ [P.data.toList]) B.data.toList mo = restP [] T.data.toList true by
    rw [← HR.out, restP_step, hP, hB, hmo, hA])
   clear hA hB hmo hP holm
   go_wp2_with fail
   refine (HCP.out _).mono ?_
   rintro e w1 ⟨rfl, hb1⟩
   have hbw1 := hbw.trans (hb1.mono hwr)
   have hw1 := hbw1.size
   have HO1 := hid (own_same HO.out hb1)
   go_wp2_with fail
   refine (HTr.out _).mono ?_
   rintro e w2 ⟨rfl, hb2⟩
   have hbw2 := hbw1.trans (hb2.mono hw1)
   have hw2 := hbw2.size
   have HO2 := hid (own_same HO1.out hb2)
   go_wp2_with (at_builtin; go_must (refine wpList_append_own _ rfl _ _ 32 rfl w.heap.size 9 i0 (.string ByteArray.empty) 1 16 Tryz.underlying32 hi hz0 hz1 hz2 rfl (by decide) _ _ _ rfl (HO2.out.alloc _) ⟨w2.heap.size, 0, none⟩ 1 1 [.string P] rfl rfl ?c1 ?c2 ?c3 ?c4 ?c5 ?_))
   case c1 =>
    intro q u hq
    match q, hq with
    | 0, hq => simp at hq; subst hq; simp [Addr.add]
   case c2 => intro u hu; simp at hu; subst hu; rfl
   case c3 => unfold maxLen; omega
   case c4 => omega
   case c5 => simp; omega
   intro v' w3 hown' hgrow hnil
   have HO3 := hid hown'
   have HB3 := hid (show Below w.heap.size w w3 from (hbw2.alloc hw2 _).grown hgrow (by simp; omega) (fun g hg => (HO2.out.lt g hg).1))
   clear hown' hgrow hnil
   go_wp2
   go_roundw
   case rel =>
    refine ⟨B, mo, out ++ [P.data.toList], rfl, rfl, by simp; omega, fun h => by have := hBm h; simp; omega, by omega, HS.out, ?_, HB3.out⟩
    rw [cellsT_app, cellsT_one, List.length_append]
    exact HO3.out
   case measure =>
    cases mo with
    | false => simp
    | true => have := hBm rfl; simp; omega

end Go.Proofs.YtgoefeaopegdoaaGreatDoor

namespace Go.Proofs.YtgoefeaopegdoaaGreatDoor
open Go.RowKit

def modS (i : Int) : ByteArray := if i = 1 then (⟨#[115, 97, 109, 101, 45, 111, 114, 105, 103, 105, 110]⟩ : ByteArray) else if i = 2 then (⟨#[110, 111, 45, 99, 111, 114, 115]⟩ : ByteArray) else if i = 3 then (⟨#[99, 111, 114, 115]⟩ : ByteArray) else ⟨#[]⟩

def desS (i : Int) : ByteArray := if i = 1 then (⟨#[101, 109, 112, 116, 121]⟩ : ByteArray) else if i = 2 then (⟨#[115, 99, 114, 105, 112, 116]⟩ : ByteArray) else if i = 3 then (⟨#[115, 116, 121, 108, 101]⟩ : ByteArray) else if i = 4 then (⟨#[105, 109, 97, 103, 101]⟩ : ByteArray) else if i = 5 then (⟨#[102, 111, 110, 116]⟩ : ByteArray) else if i = 6 then (⟨#[105, 102, 114, 97, 109, 101]⟩ : ByteArray) else ⟨#[]⟩

set_option maxHeartbeats 2000000 in
theorem mode15_any (i : Int) (w : World) : Calls Tryz.prog 12 #[.int .i64 i] w fun e w' => e = .returned (.string (modS i)) ∧ w = w' := by
 by_cases h0 : i = 1
 ·have hm : modS i = (⟨#[115, 97, 109, 101, 45, 111, 114, 105, 103, 105, 110]⟩ : ByteArray) := by unfold modS; rw [if_pos h0]
  rw [hm]
  clear hm
  subst h0
  go_enter Tryz.func12, Tryz.ntmps12
  go_wp2
  go_ret
  exact ⟨rfl, rfl⟩
 ·have b0 : (i == 1) = false := beq_eq_false_iff_ne.2 h0
  by_cases h1 : i = 2
  ·have hm : modS i = (⟨#[110, 111, 45, 99, 111, 114, 115]⟩ : ByteArray) := by unfold modS; rw [if_neg h0, if_pos h1]
   rw [hm]
   clear hm
   subst h1
   go_enter Tryz.func12, Tryz.ntmps12
   go_wp2
   go_ret
   exact ⟨rfl, rfl⟩
  ·have b1 : (i == 2) = false := beq_eq_false_iff_ne.2 h1
   by_cases h2 : i = 3
   ·have hm : modS i = (⟨#[99, 111, 114, 115]⟩ : ByteArray) := by unfold modS; rw [if_neg h0, if_neg h1, if_pos h2]
    rw [hm]
    clear hm
    subst h2
    go_enter Tryz.func12, Tryz.ntmps12
    go_wp2
    go_ret
    exact ⟨rfl, rfl⟩
   ·have b2 : (i == 3) = false := beq_eq_false_iff_ne.2 h2
    have hm : modS i = ⟨#[]⟩ := by unfold modS; rw [if_neg h0, if_neg h1, if_neg h2]
    rw [hm]
    clear hm
    go_enter Tryz.func12, Tryz.ntmps12
    go_wp2
    go_ret
    exact ⟨rfl, rfl⟩

set_option maxHeartbeats 2000000 in
theorem rmode15_any (i : Int) (w : World) : Calls Tryz.prog 13 #[.int .i64 i] w fun e w' => e = .returned (.string (modS i)) ∧ w = w' := by
 by_cases h0 : i = 1
 ·have hm : modS i = (⟨#[115, 97, 109, 101, 45, 111, 114, 105, 103, 105, 110]⟩ : ByteArray) := by unfold modS; rw [if_pos h0]
  rw [hm]
  clear hm
  subst h0
  go_enter Tryz.func13, Tryz.ntmps13
  go_wp2
  go_ret
  exact ⟨rfl, rfl⟩
 ·have b0 : (i == 1) = false := beq_eq_false_iff_ne.2 h0
  by_cases h1 : i = 2
  ·have hm : modS i = (⟨#[110, 111, 45, 99, 111, 114, 115]⟩ : ByteArray) := by unfold modS; rw [if_neg h0, if_pos h1]
   rw [hm]
   clear hm
   subst h1
   go_enter Tryz.func13, Tryz.ntmps13
   go_wp2
   go_ret
   exact ⟨rfl, rfl⟩
  ·have b1 : (i == 2) = false := beq_eq_false_iff_ne.2 h1
   by_cases h2 : i = 3
   ·have hm : modS i = (⟨#[99, 111, 114, 115]⟩ : ByteArray) := by unfold modS; rw [if_neg h0, if_neg h1, if_pos h2]
    rw [hm]
    clear hm
    subst h2
    go_enter Tryz.func13, Tryz.ntmps13
    go_wp2
    go_ret
    exact ⟨rfl, rfl⟩
   ·have b2 : (i == 3) = false := beq_eq_false_iff_ne.2 h2
    have hm : modS i = ⟨#[]⟩ := by unfold modS; rw [if_neg h0, if_neg h1, if_neg h2]
    rw [hm]
    clear hm
    go_enter Tryz.func13, Tryz.ntmps13
    go_wp2
    go_ret
    exact ⟨rfl, rfl⟩

set_option maxHeartbeats 2000000 in
theorem dest15_any (i : Int) (w : World) : Calls Tryz.prog 14 #[.int .i64 i] w fun e w' => e = .returned (.string (desS i)) ∧ w = w' := by
 by_cases h0 : i = 1
 ·have hm : desS i = (⟨#[101, 109, 112, 116, 121]⟩ : ByteArray) := by unfold desS; rw [if_pos h0]
  rw [hm]
  clear hm
  subst h0
  go_enter Tryz.func14, Tryz.ntmps14
  go_wp2
  go_ret
  exact ⟨rfl, rfl⟩
 ·have b0 : (i == 1) = false := beq_eq_false_iff_ne.2 h0
  by_cases h1 : i = 2
  ·have hm : desS i = (⟨#[115, 99, 114, 105, 112, 116]⟩ : ByteArray) := by unfold desS; rw [if_neg h0, if_pos h1]
   rw [hm]
   clear hm
   subst h1
   go_enter Tryz.func14, Tryz.ntmps14
   go_wp2
   go_ret
   exact ⟨rfl, rfl⟩
  ·have b1 : (i == 2) = false := beq_eq_false_iff_ne.2 h1
   by_cases h2 : i = 3
   ·have hm : desS i = (⟨#[115, 116, 121, 108, 101]⟩ : ByteArray) := by unfold desS; rw [if_neg h0, if_neg h1, if_pos h2]
    rw [hm]
    clear hm
    subst h2
    go_enter Tryz.func14, Tryz.ntmps14
    go_wp2
    go_ret
    exact ⟨rfl, rfl⟩
   ·have b2 : (i == 3) = false := beq_eq_false_iff_ne.2 h2
    by_cases h3 : i = 4
    ·have hm : desS i = (⟨#[105, 109, 97, 103, 101]⟩ : ByteArray) := by unfold desS; rw [if_neg h0, if_neg h1, if_neg h2, if_pos h3]
     rw [hm]
     clear hm
     subst h3
     go_enter Tryz.func14, Tryz.ntmps14
     go_wp2
     go_ret
     exact ⟨rfl, rfl⟩
    ·have b3 : (i == 4) = false := beq_eq_false_iff_ne.2 h3
     by_cases h4 : i = 5
     ·have hm : desS i = (⟨#[102, 111, 110, 116]⟩ : ByteArray) := by unfold desS; rw [if_neg h0, if_neg h1, if_neg h2, if_neg h3, if_pos h4]
      rw [hm]
      clear hm
      subst h4
      go_enter Tryz.func14, Tryz.ntmps14
      go_wp2
      go_ret
      exact ⟨rfl, rfl⟩
     ·have b4 : (i == 5) = false := beq_eq_false_iff_ne.2 h4
      by_cases h5 : i = 6
      ·have hm : desS i = (⟨#[105, 102, 114, 97, 109, 101]⟩ : ByteArray) := by unfold desS; rw [if_neg h0, if_neg h1, if_neg h2, if_neg h3, if_neg h4, if_pos h5]
       rw [hm]
       clear hm
       subst h5
       go_enter Tryz.func14, Tryz.ntmps14
       go_wp2
       go_ret
       exact ⟨rfl, rfl⟩
      ·have b5 : (i == 6) = false := beq_eq_false_iff_ne.2 h5
       have hm : desS i = ⟨#[]⟩ := by unfold desS; rw [if_neg h0, if_neg h1, if_neg h2, if_neg h3, if_neg h4, if_neg h5]
       rw [hm]
       clear hm
       go_enter Tryz.func14, Tryz.ntmps14
       go_wp2
       go_ret
       exact ⟨rfl, rfl⟩

set_option maxHeartbeats 2000000 in
theorem rdest15_any (i : Int) (w : World) : Calls Tryz.prog 15 #[.int .i64 i] w fun e w' => e = .returned (.string (desS i)) ∧ w = w' := by
 by_cases h0 : i = 1
 ·have hm : desS i = (⟨#[101, 109, 112, 116, 121]⟩ : ByteArray) := by unfold desS; rw [if_pos h0]
  rw [hm]
  clear hm
  subst h0
  go_enter Tryz.func15, Tryz.ntmps15
  go_wp2
  go_ret
  exact ⟨rfl, rfl⟩
 ·have b0 : (i == 1) = false := beq_eq_false_iff_ne.2 h0
  by_cases h1 : i = 2
  ·have hm : desS i = (⟨#[115, 99, 114, 105, 112, 116]⟩ : ByteArray) := by unfold desS; rw [if_neg h0, if_pos h1]
   rw [hm]
   clear hm
   subst h1
   go_enter Tryz.func15, Tryz.ntmps15
   go_wp2
   go_ret
   exact ⟨rfl, rfl⟩
  ·have b1 : (i == 2) = false := beq_eq_false_iff_ne.2 h1
   by_cases h2 : i = 3
   ·have hm : desS i = (⟨#[115, 116, 121, 108, 101]⟩ : ByteArray) := by unfold desS; rw [if_neg h0, if_neg h1, if_pos h2]
    rw [hm]
    clear hm
    subst h2
    go_enter Tryz.func15, Tryz.ntmps15
    go_wp2
    go_ret
    exact ⟨rfl, rfl⟩
   ·have b2 : (i == 3) = false := beq_eq_false_iff_ne.2 h2
    by_cases h3 : i = 4
    ·have hm : desS i = (⟨#[105, 109, 97, 103, 101]⟩ : ByteArray) := by unfold desS; rw [if_neg h0, if_neg h1, if_neg h2, if_pos h3]
     rw [hm]
     clear hm
     subst h3
     go_enter Tryz.func15, Tryz.ntmps15
     go_wp2
     go_ret
     exact ⟨rfl, rfl⟩
    ·have b3 : (i == 4) = false := beq_eq_false_iff_ne.2 h3
     by_cases h4 : i = 5
     ·have hm : desS i = (⟨#[102, 111, 110, 116]⟩ : ByteArray) := by unfold desS; rw [if_neg h0, if_neg h1, if_neg h2, if_neg h3, if_pos h4]
      rw [hm]
      clear hm
      subst h4
      go_enter Tryz.func15, Tryz.ntmps15
      go_wp2
      go_ret
      exact ⟨rfl, rfl⟩
     ·have b4 : (i == 5) = false := beq_eq_false_iff_ne.2 h4
      by_cases h5 : i = 6
      ·have hm : desS i = (⟨#[105, 102, 114, 97, 109, 101]⟩ : ByteArray) := by unfold desS; rw [if_neg h0, if_neg h1, if_neg h2, if_neg h3, if_neg h4, if_pos h5]
       rw [hm]
       clear hm
       subst h5
       go_enter Tryz.func15, Tryz.ntmps15
       go_wp2
       go_ret
       exact ⟨rfl, rfl⟩
      ·have b5 : (i == 6) = false := beq_eq_false_iff_ne.2 h5
       have hm : desS i = ⟨#[]⟩ := by unfold desS; rw [if_neg h0, if_neg h1, if_neg h2, if_neg h3, if_neg h4, if_neg h5]
       rw [hm]
       clear hm
       go_enter Tryz.func15, Tryz.ntmps15
       go_wp2
       go_ret
       exact ⟨rfl, rfl⟩

theorem keptC15 {w w' : World} {a : Addr} {v : Value} (h : w.cell? a = some v) (hb : Below w.heap.size w w') : w'.cell? a = some v := (hb.cell (World.block_lt_of_cell? w _ h)).trans h

def hasT (L : List (List UInt8)) (x : List UInt8) : Bool := L.any (fun y => x == y)

set_option maxHeartbeats 4000000 in
theorem index15_any (v : Value) (L : List (List UInt8)) (x : ByteArray) (w : World) (hv : TxAt w v L) (hl : L.length ≤ 1000000000) :
  Calls Tryz.prog 126 #[v, .string x] w fun e w' => ∃ z : Int, e = .returned (.int .i64 z) ∧ decide (0 ≤ z) = hasT L x.data.toList ∧ Below w.heap.size w w' := by
 obtain ⟨a1, c1, rfl, hc1, hm1, hv1⟩ := hv.view
 have HV := hid hv1
 obtain ⟨n, hn⟩ : ∃ n, n = L.length := ⟨_, rfl⟩
 have HN := hid hn
 rw [← hn] at hc1 hl ⊢
 clear hv hv1 hn
 go_enter Tryz.func126, Tryz.ntmps126
 go_wp2_with fail
 go_loopw [8] (fun v8 wr => ∃ k : Nat, k ≤ n ∧ v8 = .int .i64 k ∧ Hid (hasT (L.take k) x.data.toList = false ∧ Below w.heap.size w wr)) (fun v8 _ => n - (intOf v8).toNat)
 case atStart => exact ⟨0, Nat.zero_le _, rfl, rfl, Below.refl _ w⟩
 case round =>
  obtain ⟨k, hk, rfl, HR⟩ := hrel
  by_cases hlt : k < n
  ·have hkL : k < L.length := by have := HN.out; omega
   obtain ⟨b1, o1, rfl, e1⟩ := HV.out k hkL
   obtain ⟨y, hy⟩ : ∃ y, y = L[k] := ⟨_, rfl⟩
   rw [← hy] at e1
   have HYM := hid (show y ∈ L by rw [hy]; exact List.getElem_mem hkL)
   obtain ⟨V, hV⟩ : ∃ V : ByteArray, V = ⟨y.toArray⟩ := ⟨_, rfl⟩
   rw [← hV] at e1
   have f1 := keptC15 e1 HR.out.2
   obtain ⟨q, hq⟩ : ∃ q, (x.toList == V.toList) = q := ⟨_, rfl⟩
   have HQ := hid (show (x.data.toList == y) = q by rw [← hq, Lib.toList_data, Lib.toList_data, hV])
   have HT := hid (show hasT (L.take (k + 1)) x.data.toList = q by
    unfold hasT at *
    rw [List.take_succ_eq_append_getElem hkL, List.any_append, HR.out.1, ← hy, List.any_cons, HQ.out]; simp)
   have HTA := hid (show q = true → hasT L x.data.toList = true from fun h => List.any_eq_true.2 ⟨y, HYM.out, by rw [HQ.out]; exact h⟩)
   have hin : (k : Int) < (n : Int) := by omega
   clear e1 hy hV hkL HQ
   cases q with
   | false =>
    go_wp2
    go_roundw
    case rel =>
     have e4 : hasT (L.take (k + 1)) x.data.toList = false ∧ Below w.heap.size w wr := ⟨HT.out, HR.out.2⟩
     first
      | exact ⟨k + 1, by omega, by go_num, e4⟩
      | ((repeat apply Exists.intro); refine ⟨?_, rfl⟩; exact ⟨k + 1, by omega, by go_num, e4⟩)
      | ((repeat apply Exists.intro); exact ⟨⟨k + 1, by omega, by go_num, e4⟩, rfl⟩)
    case measure => simp [intOf]; omega
   | true =>
    go_wp2
    go_ret
    exact ⟨(k : Int), rfl, by rw [HTA.out (by trivial)]; simp, HR.out.2⟩
  ·obtain rfl : k = n := by omega
   have HA := hid (show hasT L x.data.toList = false by have h := HR.out.1; rwa [List.take_of_length_le (by have := HN.out; omega)] at h)
   have HB := hid HR.out.2
   clear HR hk hlt
   go_wp2
   go_ret
   exact ⟨-1, rfl, by rw [HA.out]; rfl, HB.out⟩

set_option maxHeartbeats 1000000 in
theorem contains15_any (v : Value) (L : List (List UInt8)) (x : ByteArray) (w : World) (hv : TxAt w v L) (hl : L.length ≤ 1000000000) :
  Calls Tryz.prog 72 #[v, .string x] w fun e w' => e = .returned (.bool (hasT L x.data.toList)) ∧ Below w.heap.size w w' := by
 have HI := hid (index15_any v L x w hv hl)
 obtain ⟨a1, c1, rfl, hc1, hm1, hv1⟩ := hv.view
 clear hv hl hv1 hc1 hm1
 go_enter Tryz.func72, Tryz.ntmps72
 go_wp2_with fail
 refine HI.out.mono ?_
 rintro e w2 ⟨z, rfl, hz, hb⟩
 have HZ := hid hz
 have HB := hid hb
 clear hz hb
 go_wp2_with fail
 go_ret
 exact ⟨ret_bool HZ.out, HB.out⟩

end Go.Proofs.YtgoefeaopegdoaaGreatDoor

namespace Go.Proofs.YtgoefeaopegdoaaGreatDoor
open Go.RowKit

theorem wpList_load_mid_g {P : Program} {ops : Array Oper} {rest : List Oper} {op : Oper} {a : Act} {w : World} {Q : Exit → Act → World → Prop} (hw : Region.wanted op (yielded ops a.tmps) = true) (ty : TypeId) (x : Operand) (ho : op.op = .load ty x)
  (b o : Nat) (hx : a.eval x = .pointer (some ⟨b, o, none⟩)) (cs : List Value) (d : TypeDesc) (hc : w.rangeAt b o cs)
  (hu : P.underlying ty = some d) (hd : d.isRow = true) (hi : (P.info? ty).map (·.size) = some cs.length)
  (h : wpList P ops Q rest (a.put op.dst (.agg cs.toArray)) w) : wpList P ops Q (op :: rest) a w :=
 wpList_step fun K hK => by
  rw [if_pos hw]
  exact wp_load_mid ty x ho b o hx cs d hc hu hd hi (hK _ _ h)

def nSite : List UInt8 := [115, 101, 99, 45, 102, 101, 116, 99, 104, 45, 115, 105, 116, 101]

def nMode : List UInt8 := [115, 101, 99, 45, 102, 101, 116, 99, 104, 45, 109, 111, 100, 101]

def nDest : List UInt8 := [115, 101, 99, 45, 102, 101, 116, 99, 104, 45, 100, 101, 115, 116]

def hdr3 (a b c : ByteArray) : List Hd := [⟨nSite, a.data.toList⟩, ⟨nMode, b.data.toList⟩, ⟨nDest, c.data.toList⟩]

def lastT (L : List Adr) : Bool := match L.getLast? with
 | none => false
 | some u => trustV u

def hdrV (o : Org) (L : List Adr) (mode dest : Int) : List Hd := if lastT L then hdr3 (wd15 (rk15 o L)) (modS mode) (desS dest) else []

def HdrPost (H : List Hd) (w : World) (e : Ending) (w' : World) : Prop :=
 ∃ v, e = .returned v ∧ w'.ownsRow w.heap.size 38 2 v H.length (cellsH H) ∧ Below w.heap.size w w'

theorem last_snoc (L : List Adr) (m : Nat) (h : L.length = m + 1) (u : Adr) (hu : L[m]? = some u) : lastT L = trustV u := by
 unfold lastT
 rw [List.getLast?_eq_getElem?, h, Nat.add_sub_cancel, hu]

set_option maxHeartbeats 8000000 in
set_option maxRecDepth 100000 in
theorem headers15_any (o : Org) (v : Value) (P : List (Adr × Value)) (mode dest : Int) (w : World) (hg : Gd w) (hv : UlAt w v P) (ho : SiteOk o) :
  Calls Tryz.prog 17 #[orgVal o, v, .int .i64 mode, .int .i64 dest] w (HdrPost (hdrV o (P.map (·.1)) mode dest) w) := by
 have hv0 := hv
 obtain ⟨a1, c1, rfl, hc1, hm1, hv1⟩ := hv.view
 obtain ⟨oS, oH, oP, oQ, hvo, hxo⟩ := org_named (o)
 rw [hvo]
 obtain ⟨W1, hW1⟩ : ∃ X, (w.alloc (.cells #[.string oS, .string oH, .int .i64 oP, .bool oQ] 28)) = X := ⟨_, rfl⟩
 have hbW1 : Below w.heap.size w W1 := by rw [← hW1]; exact (Below.refl _ w).alloc (Nat.le_refl _) _
 have hsW1 : W1.heap.size = w.heap.size + 1 := by rw [← hW1]; simp
 have hOW1 : OrgIn W1 w.heap.size (o) := by
  unfold OrgIn
  rw [hxo, ← hW1]
  exact heap_alloc_new w _
 have HB1 := hid hbW1
 have HO1 := hid hOW1
 have HXo := hid hxo
 have HSt := hid (fun (Z : World) (hZ : Below w.heap.size w Z) => site15_any o (.slice a1 P.length c1) P Z (hg.kept hZ) (hv0.kept hZ) ho)
 rw [hvo] at HSt
 have HMo := hid (fun w => mode15_any mode w)
 have HDe := hid (fun w => dest15_any dest w)
 obtain ⟨L, hL⟩ : ∃ L, L = P.map (·.1) := ⟨_, rfl⟩
 have HLn := hid (show L.length = P.length by rw [hL, List.length_map])
 have HLa := hid (show ∀ k (h : k < P.length), L[k]? = some P[k].1 from fun k h => by rw [hL]; simp [h])
 rw [← hL] at HSt ⊢
 obtain ⟨HH, hHH⟩ : ∃ H, hdrV o L mode dest = H := ⟨_, rfl⟩
 have HYes := hid (show lastT L = true → HH = hdr3 (wd15 (rk15 o L)) (modS mode) (desS dest) from fun h => by rw [← hHH]; unfold hdrV; rw [h]; rfl)
 have HFal := hid (show lastT L = false → HH = [] from fun h => by rw [← hHH]; unfold hdrV; rw [h]; rfl)
 rw [hHH]
 clear hHH
 generalize wd15 (rk15 o L) = S at HSt HYes
 generalize modS mode = M at HMo HYes
 generalize desS dest = D at HDe HYes
 have HNil := hid (show HdrPost [] w (.returned (.slice none 0 0)) W1 from ⟨_, rfl, World.ownsRow_nil _ _ _ _, hbW1⟩)
 have HNo := hid (show L.length = 0 → lastT L = false from fun h => by rw [List.eq_nil_of_length_eq_zero h]; rfl)
 have HLs := hid (last_snoc L)
 have HGx := hid hg
 have HV := hid hv1
 obtain ⟨n, hn⟩ : ∃ n, P.length = n := ⟨_, rfl⟩
 have HN := hid hn
 rw [hn] at HSt HLn ⊢
 have hnm : n ≤ 9223372036854775807 := by rw [← hn]; unfold maxLen at hm1; omega
 clear hv hv0 hv1 hc1 hm1 hbW1 hOW1 hsW1 hxo hvo hL hn hg
 cases n with
 | zero =>
  rw [HFal.out (HNo.out HLn.out)]
  go_enter Tryz.func17, Tryz.ntmps17
  go_wp2_with fail
  go_ret
  exact HNil.out
 | succ m =>
  have hmP : m < P.length := by have := HN.out; omega
  obtain ⟨g1, o1, rfl, hrg, hpt, htr⟩ := HV.out m hmP
  have HLast := hid (HLs.out m HLn.out _ (HLa.out m hmP))
  obtain ⟨A, hA⟩ : ∃ A, P[m].1 = A := ⟨_, rfl⟩
  obtain ⟨pv, hpv⟩ : ∃ A, P[m].2 = A := ⟨_, rfl⟩
  rw [hA] at hrg hpt htr HLast
  rw [hpv] at hrg hpt
  have hrg' := range_kept hrg HB1.out
  have hpt' := hpt.kept HB1.out
  obtain ⟨da, dn, dc, rfl⟩ := path_sl hpt
  obtain ⟨d0, d1, d2, d3, d4, d5, d6, d8, d9, d10, d11, hxd⟩ := adr_cells A da dn dc
  have hvd : adrVal A (.slice da dn dc) = .agg #[.string d0, .string d1, .string d2, .string d3, .bool d4, .int .i64 d5, .bool d6, .slice da dn dc, .string d8, .string d9, .bool d10, .bool d11] := by unfold adrVal; rw [hxd]
  rw [hxd] at hrg'
  have HRg := hid hrg'
  have HTr := hid (trusted_any A (.slice da dn dc) W1 (HGx.out.kept HB1.out) hpt' htr)
  rw [hvd] at HTr
  rw [HLast.out] at HYes HFal
  generalize trustV A = tr at HTr HYes HFal
  have hsub : (((m + 1 : Nat) : Int)) - 1 = (m : Int) := by omega
  have hm1 : ((m : Int)) < ((m + 1 : Nat) : Int) := by omega
  have hz0 : (((m + 1 : Nat) : Int) == 0) = false := by rw [beq_eq_false_iff_ne]; omega
  have hz1 : ¬ ((m + 1 : Nat) : Int) = 0 := by omega
  clear hrg hrg' hpt hpt' htr hA hpv hxd hvd hmP HLast
  generalize hk : m + 1 = k at *
  have HK := hid hk
  have hmk : m < k := by omega
  clear hk
  go_enter Tryz.func17, Tryz.ntmps17
  go_wp2_with (refine wpList_load_mid_g (by kernel_rfl) 34 (.tmp 17) rfl g1 (o1 + m * 12) rfl [.string d0, .string d1, .string d2, .string d3, .bool d4, .int .i64 d5, .bool d6, .slice da dn dc, .string d8, .string d9, .bool d10, .bool d11] _ HRg.out Tryz.underlying34 rfl sizeU ?_)
  refine HTr.out.mono ?_
  rintro e w2 ⟨rfl, hb2⟩
  have HB2 := hid (below2 HB1.out hb2)
  have HO2 := hid (HO1.out.kept hb2)
  clear hb2
  cases tr with
  | false =>
   have HE := hid (HFal.out (by first | rfl | trivial))
   have HF := hid (show HdrPost [] w (.returned (.slice none 0 0)) w2 from ⟨_, rfl, World.ownsRow_nil _ _ _ _, HB2.out⟩)
   go_wp2_with fail
   go_ret
   rw [HE.out]
   exact HF.out
  | true =>
   have HE := hid (HYes.out (by first | rfl | trivial))
   obtain ⟨p0, p1, p2, p3⟩ := org_four HXo.out HO2.out
   go_wp2_with fail
   refine (HSt.out _ HB2.out).mono ?_
   rintro e w3 ⟨rfl, hb3⟩
   have HB3 := hid (below2 HB2.out hb3)
   clear hb3 p0 p1 p2 p3
   go_wp2_with fail
   refine (HMo.out _).mono ?_
   rintro e w4 ⟨rfl, hw4⟩
   rw [← hw4]
   clear hw4
   go_wp2_with fail
   refine (HDe.out _).mono ?_
   rintro e w5 ⟨rfl, hw5⟩
   rw [← hw5]
   clear hw5
   have HF := hid (show HdrPost (hdr3 S M D) w (.returned (.slice (some ⟨w3.heap.size, 0, none⟩) 3 3)) (w3.alloc (.cells #[.string ⟨nSite.toArray⟩, .string S, .string ⟨nMode.toArray⟩, .string M, .string ⟨nDest.toArray⟩, .string D] 38)) from
    ⟨_, rfl, World.ownsRow_lit w3 _ 3 HB3.out.size (by decide) rfl, HB3.out.alloc HB3.out.size _⟩)
   go_wp2_with fail
   go_ret
   rw [HE.out]
   exact HF.out

set_option maxHeartbeats 1000000 in
theorem split_none15 (v : Value) (L : List Hd) (n : ByteArray) (w : World) (h : HdAt w v L) (hs : n.size ≤ 140737488351232) (hz : Szd 140737488351232 L) (hl : L.length ≤ 1000000) (hb : bulkV L ≤ 1000000000) (hh : getB L n.data.toList = false) :
  Calls Tryz.prog 45 #[v, .string n] w fun e w' => e = .returned (.tuple #[.slice none 0 0, .bool false]) ∧ Below w.heap.size w w' := by
 have HG := hid (get_any v L n w h hs hz hl (by omega))
 obtain ⟨T, hT⟩ : ∃ T : ByteArray, T = ⟨(getT L n.data.toList).toArray⟩ := ⟨_, rfl⟩
 rw [← hT, hh] at HG
 clear hT h hz hb hh
 go_enter Tryz.func45, Tryz.ntmps45
 go_wp2_with fail
 refine HG.out.mono ?_
 rintro e w0 ⟨rfl, hb0⟩
 go_wp2
 go_ret2
 exact ⟨rfl, hb0⟩

def pcs15 (L : List Hd) (n : List UInt8) : List (List UInt8) := if getB L n then splitV L n else []

def MpcPost15 (L : List (List UInt8)) (w : World) (e : Ending) (w' : World) : Prop :=
 ∃ v b, e = .returned (.tuple #[v, .bool b]) ∧ w'.ownsRow w.heap.size 9 1 v L.length (cellsT L) ∧ Below w.heap.size w w'

theorem split15_any (v : Value) (L : List Hd) (n : ByteArray) (w : World) (h : HdAt w v L) (hs : n.size ≤ 140737488351232) (hz : Szd 140737488351232 L) (hl : L.length ≤ 1000000) (hb : bulkV L ≤ 1000000000) :
  Calls Tryz.prog 45 #[v, .string n] w (MpcPost15 (pcs15 L n.data.toList) w) := by
 cases hh : getB L n.data.toList with
 | true =>
  refine (hsplit_any v L n w h hs hz hl hb hh).mono ?_
  rintro e w' ⟨u, rfl, ho, hb'⟩
  have e : pcs15 L n.data.toList = splitV L n.data.toList := by unfold pcs15; rw [hh]; rfl
  unfold MpcPost15
  rw [e]
  exact ⟨u, true, rfl, ho, hb'⟩
 | false =>
  refine (split_none15 v L n w h hs hz hl hb hh).mono ?_
  rintro e w' ⟨rfl, hb'⟩
  have e : pcs15 L n.data.toList = [] := by unfold pcs15; rw [hh]; rfl
  unfold MpcPost15
  rw [e]
  exact ⟨_, false, rfl, World.ownsRow_nil _ _ _ _, hb'⟩

def nTao : List UInt8 := [116, 105, 109, 105, 110, 103, 45, 97, 108, 108, 111, 119, 45, 111, 114, 105, 103, 105, 110]

def timV (H : List Hd) (o : Org) : Bool := hasT (pcs15 H nTao) [42] || hasT (pcs15 H nTao) (textO o)

set_option maxHeartbeats 8000000 in
set_option maxRecDepth 100000 in
theorem timed15_any (v : Value) (H : List Hd) (o : Org) (w : World) (hg : Gd w) (hv : HdAt w v H) (hz : Szd 140737488351232 H) (hl : H.length ≤ 1000000) (hbk : bulkV H ≤ 1000000000) (hn : (pcs15 H nTao).length ≤ 1000000000) (h1 : o.scheme.length ≤ 1000000) (h2 : o.host.length ≤ 1000000) (h3 : o.opq = false → 0 ≤ o.port ∧ o.port ≤ 65535) :
  Calls Tryz.prog 23 #[v, orgVal o] w fun e w' => e = .returned (.bool (timV H o)) ∧ Below w.heap.size w w' := by
 obtain ⟨oS, oH, oP, oQ, hvo, hxo⟩ := org_named (o)
 rw [hvo]
 obtain ⟨W1, hW1⟩ : ∃ X, (w.alloc (.cells #[.string oS, .string oH, .int .i64 oP, .bool oQ] 28)) = X := ⟨_, rfl⟩
 have hbW1 : Below w.heap.size w W1 := by rw [← hW1]; exact (Below.refl _ w).alloc (Nat.le_refl _) _
 have hsW1 : W1.heap.size = w.heap.size + 1 := by rw [← hW1]; simp
 have hOW1 : OrgIn W1 w.heap.size (o) := by
  unfold OrgIn
  rw [hxo, ← hW1]
  exact heap_alloc_new w _
 have HB1 := hid hbW1
 have HO1 := hid hOW1
 have HXo := hid hxo
 have HSp := hid (split15_any v H (⟨#[116, 105, 109, 105, 110, 103, 45, 97, 108, 108, 111, 119, 45, 111, 114, 105, 103, 105, 110]⟩ : ByteArray) W1 (hv.kept hbW1) (by decide) hz hl hbk)
 rw [show (⟨#[116, 105, 109, 105, 110, 103, 45, 97, 108, 108, 111, 119, 45, 111, 114, 105, 103, 105, 110]⟩ : ByteArray).data.toList = nTao from rfl] at HSp
 unfold timV
 unfold MpcPost15 at HSp
 generalize pcs15 H nTao = C at HSp hn ⊢
 have HTx := hid (fun (Z : World) (hZ : Below w.heap.size w Z) => textO_any o Z (hg.kept hZ) h1 h2 h3)
 rw [hvo] at HTx
 obtain ⟨X, hX⟩ : ∃ X : ByteArray, X = ⟨(textO o).toArray⟩ := ⟨_, rfl⟩
 rw [← hX] at HTx
 have hXl : textO o = X.data.toList := by rw [hX]
 rw [hXl]
 have HC1 := hid (fun (u : Value) (Z : World) (hZ : TxAt Z u C) => contains15_any u C ⟨#[42]⟩ Z hZ hn)
 have HC2 := hid (fun (u : Value) (Z : World) (hZ : TxAt Z u C) => contains15_any u C X Z hZ hn)
 rw [show (⟨#[42]⟩ : ByteArray).data.toList = [42] from rfl] at HC1
 generalize hasT C [42] = r1 at HC1 ⊢
 generalize hasT C X.data.toList = r2 at HC2 ⊢
 obtain ⟨a9, c9, rfl, _, _, _⟩ := hv.view
 clear hg hv hz hl hbk hn h1 h2 h3 hbW1 hsW1 hOW1 hxo hvo hX hXl
 go_enter Tryz.func23, Tryz.ntmps23
 go_wp2_with fail
 refine HSp.out.mono ?_
 rintro e w2 ⟨u, b2, rfl, hown, hb2⟩
 have hT2 := own_txt' hown
 obtain ⟨a2, c2, rfl, _, _, _⟩ := hT2.view
 have HT2 := hid hT2
 have HB2 := hid (below2 HB1.out hb2)
 have HO2 := hid (HO1.out.kept hb2)
 clear hown hT2 hb2
 go_wp2_with fail
 refine (HC1.out _ _ HT2.out).mono ?_
 rintro e w3 ⟨rfl, hb3⟩
 have HB3 := hid (below2 HB2.out hb3)
 have HO3 := hid (HO2.out.kept hb3)
 have HT3 := hid (HT2.out.kept hb3)
 clear hb3
 cases r1 with
 | true =>
  go_wp2_with fail
  go_ret
  exact ⟨ret_bool (by simp), HB3.out⟩
 | false =>
  obtain ⟨p0, p1, p2, p3⟩ := org_four HXo.out HO3.out
  go_wp2_with fail
  refine (HTx.out _ HB3.out).mono ?_
  rintro e w4 ⟨rfl, hb4⟩
  have HB4 := hid (below2 HB3.out hb4)
  have HT4 := hid (HT3.out.kept hb4)
  clear hb4 p0 p1 p2 p3
  go_wp2_with fail
  refine (HC2.out _ _ HT4.out).mono ?_
  rintro e w5 ⟨rfl, hb5⟩
  go_wp2_with fail
  go_ret
  exact ⟨ret_bool (by simp), below2 HB4.out hb5⟩

end Go.Proofs.YtgoefeaopegdoaaGreatDoor

namespace Go.Proofs.YtgoefeaopegdoaaGreatDoor
open Go.RowKit

theorem hd_ext {a b : Hd} (h1 : a.name = b.name) (h2 : a.value = b.value) : a = b := by cases a; cases b; simp at h1 h2; simp [h1, h2]

set_option maxHeartbeats 2000000 in
theorem sameH_any (v1 v2 : Value) (L1 L2 : List Hd) (w : World) (h1 : HdAt w v1 L1) (h2 : HdAt w v2 L2) (hl1 : L1.length ≤ 1000000) (hl2 : L2.length ≤ 1000000) :
  Calls Tryz.prog 22 #[v1, v2] w fun e w' => e = .returned (.bool (decide (L1 = L2))) ∧ Below w.heap.size w w' := by
 obtain ⟨a1, c1, rfl, hc1, hm1, hv1⟩ := h1.view
 obtain ⟨a2, c2, rfl, hc2, hm2, hv2⟩ := h2.view
 have V1 := hid hv1
 have V2 := hid hv2
 clear h1 h2 hv1 hv2
 by_cases hl : L1.length = L2.length
 ·have hl' : ((L1.length : Int) == (L2.length : Int)) = true := by rw [beq_iff_eq]; omega
  go_enter Tryz.func22, Tryz.ntmps22
  go_wp2
  go_loopw [5] (fun i wr => ∃ k : Nat, k ≤ L1.length ∧ i = .int .i64 k ∧ (∀ j (h1 : j < L1.length) (h2 : j < L2.length), j < k → L1[j] = L2[j]) ∧ Below w.heap.size w wr) (fun i _ => L1.length - (intOf i).toNat)
  case atStart => exact ⟨0, Nat.zero_le _, rfl, fun j _ _ h => absurd h (by omega), Below.refl _ _⟩
  case round =>
   obtain ⟨k, hk, rfl, hall, hb⟩ := hrel
   have HA := hid hall
   clear hall
   by_cases hlt : k < L1.length
   ·have hlt' : (k : Int) < (L1.length : Int) := by omega
    have hlt2' : (k : Int) < (L2.length : Int) := by omega
    obtain ⟨b1, o1, rfl, e1, e1'⟩ := V1.out k hlt
    obtain ⟨b2, o2, rfl, e2, e2'⟩ := V2.out k (by omega)
    have f1 : wr.cell? ⟨b1, o1 + k * 2, none⟩ = some (.string ⟨L1[k].name.toArray⟩) := (hb.cell (World.block_lt_of_cell? w _ e1)).trans e1
    have f1' : wr.cell? ⟨b1, o1 + k * 2 + 1, none⟩ = some (.string ⟨L1[k].value.toArray⟩) := (hb.cell (World.block_lt_of_cell? w _ e1')).trans e1'
    have f2 : wr.cell? ⟨b2, o2 + k * 2, none⟩ = some (.string ⟨(L2[k]'(by omega)).name.toArray⟩) := (hb.cell (World.block_lt_of_cell? w _ e2)).trans e2
    have f2' : wr.cell? ⟨b2, o2 + k * 2 + 1, none⟩ = some (.string ⟨(L2[k]'(by omega)).value.toArray⟩) := (hb.cell (World.block_lt_of_cell? w _ e2')).trans e2'
    clear e1 e2 e1' e2'
    obtain ⟨x, hx⟩ : ∃ x, x = L1[k].name := ⟨_, rfl⟩
    obtain ⟨x', hx'⟩ : ∃ x, x = L1[k].value := ⟨_, rfl⟩
    obtain ⟨y, hy⟩ : ∃ y, y = (L2[k]'(by omega)).name := ⟨_, rfl⟩
    obtain ⟨y', hy'⟩ : ∃ y, y = (L2[k]'(by omega)).value := ⟨_, rfl⟩
    rw [← hx] at f1
    rw [← hx'] at f1'
    rw [← hy] at f2
    rw [← hy'] at f2'
    have HX := hid hx
    have HY := hid hy
    have HX' := hid hx'
    have HY' := hid hy'
    clear hx hy hx' hy'
    by_cases hxy : x = y ∧ x' = y'
    ·obtain ⟨rfl, rfl⟩ := hxy
     go_wp2
     go_quiet (fail)
     go_wp2
     go_roundw
     case rel =>
      refine ⟨k + 1, by omega, by go_num, fun j h1 h2 hj => ?_, Go.below_drewN hb _⟩
      by_cases he : j = k
      ·subst he; exact hd_ext (by rw [← HX.out, ← HY.out]) (by rw [← HX'.out, ← HY'.out])
      ·exact HA.out j h1 h2 (by omega)
     case measure => simp [intOf]; omega
    ·have HN := hid (show ¬ L1 = L2 from fun e => hxy ⟨by rw [HX.out, HY.out]; subst e; rfl, by rw [HX'.out, HY'.out]; subst e; rfl⟩)
     by_cases hx1 : x = y
     ·subst hx1
      have hne : (x' == y') = false := by
       rw [beq_eq_false_iff_ne]
       exact fun e => hxy ⟨rfl, e⟩
      clear hxy
      go_wp2
      go_quiet (fail)
      go_wp2
      go_ret
      exact ⟨ret_bool (by simp [HN.out]), Go.below_drewN hb _⟩
     ·have hne : (x == y) = false := by
       rw [beq_eq_false_iff_ne]
       exact hx1
      clear hxy hx1
      go_wp2
      go_quiet (fail)
      go_wp2
      go_ret
      exact ⟨ret_bool (by simp [HN.out]), Go.below_drewN hb _⟩
   ·have HE := hid (show L1 = L2 from list_eq_of hl fun j h1 h2 => HA.out j h1 h2 (by omega))
    go_wp2
    go_ret
    exact ⟨ret_bool (by simp [HE.out]), hb⟩
 ·have hl' : ((L1.length : Int) == (L2.length : Int)) = false := by rw [beq_eq_false_iff_ne]; omega
  have HN := hid (show ¬ L1 = L2 from fun e => hl (by rw [e]))
  go_enter Tryz.func22, Tryz.ntmps22
  go_wp2
  go_ret
  exact ⟨ret_bool (by simp [HN.out]), Below.refl _ _⟩

end Go.Proofs.YtgoefeaopegdoaaGreatDoor
