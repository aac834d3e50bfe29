/-
  Walks and plain facts that this claim leans on, put together out of 2 texts: Vq, Eig.
-/
import Derived.Test.YtpopljcmkbchcaaGreatDoorProg
import Derived.Test.YtpopljcmkbchcaaGreatDoorQc1
import Derived.Test.YtpopljcmkbchcaaGreatDoorQc2
import Derived.Test.YtpopljcmkbchcaaGreatDoorQc3
import Derived.Test.YtpopljcmkbchcaaGreatDoorQc4
import Derived.Test.YtpopljcmkbchcaaGreatDoorQc5
import Derived.Test.YtpopljcmkbchcaaGreatDoorQc6
import Derived.Test.YtpopljcmkbchcaaGreatDoorQc7
import Derived.Test.YtpopljcmkbchcaaGreatDoorQc8
import Derived.Test.YtpopljcmkbchcaaGreatDoorQc9
import Derived.Test.YtpopljcmkbchcaaGreatDoorQc10
import Derived.Test.YtpopljcmkbchcaaGreatDoorQc11
import Derived.Test.YtpopljcmkbchcaaGreatDoorQc12
import Derived.Test.YtpopljcmkbchcaaGreatDoorQc13
import Derived.Test.YtpopljcmkbchcaaGreatDoorQc14
import Derived.Test.YtpopljcmkbchcaaGreatDoorQc15
import Derived.Test.YtpopljcmkbchcaaGreatDoorQc16
import Derived.Test.YtpopljcmkbchcaaGreatDoorQc17
import Derived.Test.YtpopljcmkbchcaaGreatDoorQc18
import Derived.Test.YtpopljcmkbchcaaGreatDoorQc19
import Derived.Test.YtpopljcmkbchcaaGreatDoorQc20
import Derived.Test.YtpopljcmkbchcaaGreatDoorQc21
import Derived.Test.YtpopljcmkbchcaaGreatDoorQc22
import Derived.Test.YtpopljcmkbchcaaGreatDoorQc23
import Derived.Test.YtpopljcmkbchcaaGreatDoorQc24
import Derived.Test.YtpopljcmkbchcaaGreatDoorQc25
import Derived.Test.YtpopljcmkbchcaaGreatDoorQc26
import Derived.Test.YtpopljcmkbchcaaGreatDoorQc27
import Derived.Test.YtpopljcmkbchcaaGreatDoorQc28
import Derived.Test.YtpopljcmkbchcaaGreatDoorQc29
import Derived.Test.YtpopljcmkbchcaaGreatDoorQc30
import Derived.Test.YtpopljcmkbchcaaGreatDoorQc31
import Derived.Lib.IndexMore
import Derived.Lib.Join
import Derived.Lib.LastIndexByte
import Derived.WalkKit
import Derived.Lib.Strings
import Derived.Lib.UnsafeStr
import Derived.Laws.IdiomStrings
import Derived.Laws.AppendOwn
import Derived.Laws.BitsAllLaws
import Derived.Lib.Bytealg
import Derived.Lib.BufferMore
import Derived.Shelf.Strings.Builder1
import Derived.Shelf.Strings.Builder2
import Derived.Shelf.Strings.OnBuilder
import Derived.Shelf.Strings.Trim
import Derived.Shelf.Small.Utf8
import Derived.Shelf.Small.Bits
import Derived.Shelf.Small.Strs
import Derived.Shelf.Small.Wraps
import Derived.Shelf.Strings.BuilderF
import Derived.Shelf.Strings.BuilderK
import Derived.Shelf.Strings.BuilderRune
import Derived.Shelf.Utf8.AppendRune
import Derived.Shelf.Utf8.AppendRunePlain
import Derived.Shelf.Strings.Builder2Cap
import Derived.Shelf.Strconv.Itoa0
import Derived.Shelf.Strconv.Itoa1
import Derived.Shelf.LaysM
import Derived.Shelf.Strconv.Itoa2
import Derived.Shelf.Strconv.Itoa3
import Derived.Shelf.Strings.Search1
import Derived.Shelf.Strings.Search2
import Derived.Shelf.Strings.Cut
import Derived.Shelf.Strings.Shaped
import Derived.Shelf.Sort.Plain
import Derived.Shelf.Strings.Prefix
import Derived.Shelf.Unicode.Latin
import Derived.Shelf.Strings.Runes
import Derived.Shelf.Strings.IndexAny
import Derived.Shelf.Strings.AsciiSet
import Derived.Shelf.Strings.IndexAnyAll
import Derived.Shelf.Unicode.DecodeSlow
import Derived.Shelf.Unicode.DecodeAny
import Derived.Shelf.Unicode.DecodeLast
import Derived.Shelf.Unicode.CaseLookup
import Derived.Shelf.Unicode.CaseConvert
import Derived.Shelf.Unicode.CaseTo
import Derived.Shelf.Unicode.CaseLaid
import Derived.Shelf.Slices.CompactS
import Derived.Shelf.Slices.In.SortNone
import Derived.WalkSpells
import Derived.WalkLawsBesides
import Derived.Lib.AppendIntMem
import Derived.Lib.SmallJoins
import Derived.WalkSmall
import Derived.BigRegion
import Derived.Deep.RegionHeld
import Derived.Deep.RegionHeldLaw
import Derived.Lib.IndexAny
import Derived.Lib.BufferRead
import Derived.Lib.RuneBytes
import Derived.Laws.RangeAny
import Derived.Deep.LoopGhost
import Derived.Maps.OwnSet
import Derived.Maps.OwnOps
import Derived.Maps.AppendAt
import Derived.StringKeys
import Derived.BigQuiet
import Derived.Deep.QuietTactic
import Derived.LoopN
import Derived.RegionTactic
import Derived.Deep.RegionLaw
import Derived.Deep.RegionWith
import Derived.Lib.FieldsP
import Derived.Lib.DecodeN
import Derived.Laws.CopyOwn
import Derived.Laws.ResultCell
import Derived.Deep.MidRow
import Derived.Laws.OwnMore
import Derived.Below
import Derived.Lib.LaidTab
import Derived.Laws.Runes
import Derived.Lib.OthersKept
import Derived.Lib.FrozenHead2
import Derived.Lib.Builder
import Derived.Lib.AppendStr
import Derived.Lib.Replace
import Derived.Shelf.GgClosure.GivesRunes
import Derived.Laws.BitsAll
import Derived.Laws.Shifts
import Derived.Deep.DeepAppendRoom
import Derived.Laws.BytesString
import Derived.Laws.CopyRow
import Derived.Sort.OwnSorted
import Derived.Lib.SlicesCompact
import Derived.Sort.KeysCollected
import Derived.Lib.Case
import Derived.Maps.RangeWalk
import Derived.Lib.SlMapMerge
import Derived.Laws.IdiomRangeMap
import Derived.Deep.Cut
import Derived.Deep.CutRange
import Derived.Shelf.SlIter.Nil
import Derived.Shelf.SortM.Plain
import Derived.Shelf.SortM.SortNone
import Derived.OwnWalk
import Derived.Laws.AppendOwnNone
import Derived.Scope
import Derived.ScopeJumps
import Derived.WalkMore
import Derived.Lib.TrimByte
import Derived.Lib.ItoaNum
import Derived.Deep.WholeRow
import Derived.Lib.SlTrimSet
import Derived.Shelf.Strings.SlTrimAscii
import Derived.Laws.Rows
import Derived.Laws.MakeOwn
set_option linter.unusedSimpArgs false
set_option linter.unusedVariables false

namespace Go.Proofs.YtpopljcmkbchcaaGreatDoor
open Go.RowKit

def withinI (n lo hi : Int) : Int :=
 let r := n.tmod (hi - lo + 1)
 if r < 0 then lo + (r + hi - lo + 1) else lo + r

theorem within_mod (n m : Int) (hm : 0 < m) : -m < n.tmod m ∧ n.tmod m < m := by
 refine ⟨?_, Int.tmod_lt_of_pos n hm⟩
 have h1 := Int.tmod_lt_of_pos (-n) hm
 rw [Int.neg_tmod] at h1
 omega

theorem withinI_bounds (n lo hi : Int) (h : lo ≤ hi) : lo ≤ withinI n lo hi ∧ withinI n lo hi ≤ hi := by
 have hb := within_mod n (hi - lo + 1) (by omega)
 unfold withinI
 simp only
 split <;> omega

set_option maxHeartbeats 400000 in
theorem within_any (n lo hi : Int) (w : World) (h0 : -9223372036854775808 ≤ n) (h1 : n ≤ 9223372036854775807) (hlo : 0 ≤ lo) (hlh : lo ≤ hi) (hhi : hi ≤ 1099511627776) :
  Calls Tryz.prog 49 #[.int .i64 n, .int .i64 lo, .int .i64 hi] w fun e w' => e = .returned (.int .i64 (withinI n lo hi)) ∧ w = w' := by
 have hb := within_mod n (hi - lo + 1) (by omega)
 have hm0 : (hi - lo + 1 == 0) = false := by simp; omega
 obtain ⟨b1, b2⟩ := hb
 by_cases hneg : n.tmod (hi - lo + 1) < 0
 ·have HW := hid (show withinI n lo hi = lo + (n.tmod (hi - lo + 1) + hi - lo + 1) by unfold withinI; rw [if_pos hneg])
  go_enter Tryz.func49, Tryz.ntmps49
  go_wp2
  go_ret
  exact ⟨ret_int HW.out.symm, rfl⟩
 ·have HW := hid (show withinI n lo hi = lo + n.tmod (hi - lo + 1) by unfold withinI; rw [if_neg hneg])
  go_enter Tryz.func49, Tryz.ntmps49
  go_wp2
  go_ret
  exact ⟨ret_int HW.out.symm, rfl⟩

end Go.Proofs.YtpopljcmkbchcaaGreatDoor

namespace Go.Proofs.YtpopljcmkbchcaaGreatDoor
open Go.RowKit

theorem ownsRow_same18 {w w' : World} {B : Nat} {e : TypeId} {size : Nat} {v : Value} {n : Nat} {xs : List Value} (h : w.ownsRow B e size v n xs) (hk : ∀ g, v.ownBlock = some g → w'.heap[g]? = w.heap[g]?) : w'.ownsRow B e size v n xs := ownsRow_same h hk

def MnI (L : List Hd) (w : World) (lv : Value) (wr : World) : Prop :=
 Szd 1000 L ∧ wr.ownsRow w.heap.size 45 2 lv L.length (cellsH L) ∧ Below w.heap.size w wr

theorem MnI.below {L : List Hd} {w wr w2 : World} {lv : Value} (h : MnI L w lv wr) (hb : Below wr.heap.size wr w2) : MnI L w lv w2 :=
 ⟨h.1, own_same h.2.1 hb, h.2.2.trans (hb.mono h.2.2.size)⟩

theorem infoB18 : (Tryz.prog.info? 5).map (fun i => (i.zero, i.size, i.bytes)) = some (some (.int .u8 0), 1, 1) := by kernel_rfl

def RowB (w : World) (g : Nat) (l : List UInt8) : Prop := ∃ C : Array Value, w.heap[g]? = some (.cells C 5 (0, 0)) ∧ ∀ j (h : j < l.length), C[j]? = some (.int .u8 (l[j].toNat : Int))

theorem RowB.lt {w : World} {g : Nat} {l : List UInt8} (h : RowB w g l) : g < w.heap.size := by
 obtain ⟨C, hg, _⟩ := h
 exact (Array.getElem?_eq_some_iff.1 hg).1

theorem RowB.below {w w' : World} {g : Nat} {l : List UInt8} (h : RowB w g l) (hb : Below w.heap.size w w') : RowB w' g l := by
 have hl := h.lt
 obtain ⟨C, hg, hc⟩ := h
 exact ⟨C, (hb.block g hl).trans hg, hc⟩

theorem RowB.cell {w : World} {g : Nat} {l : List UInt8} (h : RowB w g l) (j : Nat) (hj : j < l.length) : w.cell? ⟨g, j, none⟩ = some (.int .u8 (l[j].toNat : Int)) := by
 obtain ⟨C, hg, hc⟩ := h
 rw [Lib.cell_of_heap hg]; exact hc j hj

theorem RowB.frozen {w : World} {g : Nat} {l : List UInt8} (h : RowB w g l) (j : Nat) : w.frozen? ⟨g, j, none⟩ = false := by
 obtain ⟨C, hg, _⟩ := h
 exact Lib.frozen_of_heap hg j

theorem RowB.set {w : World} {g : Nat} {l : List UInt8} (h : RowB w g l) (j : Nat) (c : UInt8) : RowB (w.setCell ⟨g, j, none⟩ (.int .u8 (c.toNat : Int))) g (l.set j c) := by
 obtain ⟨C, hg, hc⟩ := h
 refine ⟨_, Lib.heap_setCell_same hg _, ?_⟩
 intro i hi
 have hi' : i < l.length := by simpa using hi
 have hCi := hc i hi'
 have hlt : i < C.size := (Array.getElem?_eq_some_iff.1 hCi).1
 by_cases e : j = i
 ·subst e; simp [hlt]
 ·simp [Array.getElem?_setIfInBounds, e, hCi]

theorem RowB.string {w : World} {g cap : Nat} {l : List UInt8} (h : RowB w g l) : (convert 28 9 (.slice (some ⟨g, 0, none⟩) l.length cap)).run Tryz.prog w = .ok (.string ⟨l.toArray⟩) w := by
 refine run_convert_bytes_back w 28 9 5 ⟨g, 0, none⟩ cap l Tryz.underlying28 Tryz.underlying5 Tryz.underlying9 fun j hj => ?_
 have := h.cell j hj
 rw [Addr.add_lit]
 simpa using this

theorem row_made {w : World} {B g n : Nat} (h : w.ownsRow B 5 1 (.slice (some ⟨g, 0, none⟩) n n) n (madeCells (Value.int .u8 0).cells (n * 1)).toList) : RowB w g (List.replicate n 0) := by
 have e : (madeCells (Value.int .u8 0).cells (n * 1)).toList = List.replicate n (.int .u8 0) := by rw [Nat.mul_one]; exact toList_madeCells_one _ _
 rw [e] at h
 rcases h.2 with ⟨h0, hn⟩ | ⟨g', cap, cur, hv, _, hrow, _, _, hcs, ht⟩
 ·cases h0
 ·simp only [Value.slice.injEq, Option.some.injEq, Addr.mk.injEq] at hv
  obtain ⟨⟨rfl, _, _⟩, _, rfl⟩ := hv
  refine ⟨cur, hrow, ?_⟩
  intro i hi
  have hi : i < n := by simpa using hi
  have h2 : (cur.toList.take (n * 1))[i]? = some (.int .u8 0) := by rw [ht]; simp [hi]
  rw [List.getElem?_take, if_pos (by omega)] at h2
  simpa using h2

theorem mn_set {L : List Hd} {w wr : World} {lv : Value} {g : Nat} (h : MnI L w lv wr) (hg : w.heap.size ≤ g) (hne : ∀ b, lv.ownBlock = some b → b ≠ g) (j : Nat) (v : Value) : MnI L w lv (wr.setCell ⟨g, j, none⟩ v) :=
 ⟨h.1, ownsRow_same18 h.2.1 (fun b hb => heap_setCell_other wr ⟨g, j, none⟩ b v (hne b hb)), h.2.2.setCell (p := ⟨g, j, none⟩) hg v⟩

set_option maxHeartbeats 16000000 in
set_option maxRecDepth 100000 in
theorem corsMany_walk (n z : Int) (m : ByteArray) (w : World) (hn0 : (Lit.int .i64 n).wf = true) (hz0 : (Lit.int .i64 z).wf = true) (hm : m.size ≤ 140737488351232) (hg : Gd w) (hg5 : G5 w) :
  Calls Tryz.prog 7 #[.int .i64 n, .int .i64 z, .string m] w fun e w' => e = .returned (.bool true) ∧ Below w.heap.size w w' := by
 have hn : -9223372036854775808 ≤ n ∧ n ≤ 9223372036854775807 := by simpa [Lit.wf, IntKind.min, IntKind.max, IntKind.bits, IntKind.signed] using hn0
 have hz : -9223372036854775808 ≤ z ∧ z ≤ 9223372036854775807 := by simpa [Lit.wf, IntKind.min, IntKind.max, IntKind.bits, IntKind.signed] using hz0
 clear hn0 hz0
 obtain ⟨i0, hi, hz0, hz1, hz2⟩ := info3 infoHd
 obtain ⟨j0, ji, jz0, jz1, jz2⟩ := info3 infoB18
 have HW1 := hid (fun w => within_any n 0 20 w hn.1 hn.2 (by decide) (by decide) (by decide))
 have HW2 := hid (fun w => within_any z 0 130 w hz.1 hz.2 (by decide) (by decide) (by decide))
 obtain ⟨hw1, hw2⟩ := withinI_bounds n 0 20 (by decide)
 obtain ⟨hw3, hw4⟩ := withinI_bounds z 0 130 (by decide)
 obtain ⟨nn, hnn⟩ : ∃ k : Nat, withinI n 0 20 = (k : Int) := ⟨(withinI n 0 20).toNat, by omega⟩
 obtain ⟨zz, hzz⟩ : ∃ k : Nat, withinI z 0 130 = (k : Int) := ⟨(withinI z 0 130).toNat, by omega⟩
 rw [hnn] at HW1 hw1 hw2
 rw [hzz] at HW2 hw3 hw4
 have hnl : nn ≤ 20 := by omega
 have hzl : zz ≤ 130 := by omega
 have HFw := hid (fun w => few_any m 30 w (by decide) (by omega))
 have hml : (m.data.toList.take 30).length ≤ 30 := by rw [List.length_take]; omega
 obtain ⟨m0, hm0⟩ : ∃ X : ByteArray, X = ⟨(m.data.toList.take 30).toArray⟩ := ⟨_, rfl⟩
 rw [← hm0] at HFw
 have hm0s : m0.size ≤ 30 := by rw [hm0, xsize]; exact hml
 have HK := hid (fun w hg => known18_any w hg)
 have HG := hid hg
 have HG5 := hid hg5
 clear hn hz hm hg hg5 hw1 hw2 hw3 hw4 hnn hzz hml hm0
 go_enter Tryz.func7, Tryz.ntmps7
 go_wp2_with fail
 refine (HW1.out _).mono ?_
 rintro e wz ⟨rfl, hwz⟩
 rw [← hwz]
 clear hwz
 go_wp2_with fail
 refine (HW2.out _).mono ?_
 rintro e wz ⟨rfl, hwz⟩
 rw [← hwz]
 clear hwz
 go_wp2_with fail
 go_loopw [7, 8, 9, 10] (fun lv iv x9 x10 wr => ∃ (i : Nat) (L : List Hd), L.length = i ∧ i ≤ nn ∧ iv = .int .i64 i ∧ Hid (MnI L w lv wr)) (fun _ iv _ _ _ => nn - (intOf iv).toNat)
 case atStart => exact ⟨0, [], rfl, Nat.zero_le _, rfl, fun x hx => by simp at hx, World.ownsRow_nil _ _ _ _, Below.refl _ _⟩
 case round =>
  obtain ⟨i, L, hLl, hin, rfl, HI⟩ := hrel
  have HLl := hid hLl
  clear hLl
  by_cases hlt : i < nn
  ·have hlt' : (i : Int) < (nn : Int) := by omega
   have hws := HI.out.2.2.size
   go_wp2_with (at_make; refine wpList_make_full _ rfl _ _ 28 rfl wr.heap.size 5 j0 (.int .u8 0) 1 Tryz.underlying28 ji jz0 jz1 .i64 .i64 _ _ zz rfl rfl rfl rfl (by rw [jz2]; omega) (by unfold maxLen; omega) (Nat.le_refl _) ?_; intro w3 hown3 hgrow3)
   have hb3 : Below wr.heap.size wr w3 := ⟨hgrow3.os, hgrow3.tape, hgrow3.output, hgrow3.size, fun k hk => hgrow3.block k hk (by simp)⟩
   obtain ⟨gb, hgb⟩ : ∃ g, wr.heap.size = g := ⟨_, rfl⟩
   have HR0 := hid (show RowB w3 wr.heap.size (List.replicate zz 0) from row_made hown3)
   rw [hgb] at HR0
   have HI3 := hid (HI.out.below hb3)
   have hs3 : w.heap.size ≤ gb := by rw [← hgb]; exact hws
   have HGb := hid hgb
   have HB3 := hid hb3
   clear hown3 hgrow3 hb3
   go_wp2_with fail
   rw [HGb.out]
   have hlu : ∀ b, u7.ownBlock = some b → b < gb := fun b hb => by rw [← HGb.out]; exact (HI.out.2.1.lt b hb).2
   have HLu := hid hlu
   have HB3g := hid (show Below gb wr w3 by rw [← HGb.out]; exact HB3.out)
   obtain ⟨la, ln, lc, rfl⟩ := ownsRow_slice HI.out.2.1
   clear hlu
   go_loopw [10] (fun kv wq => ∃ (k : Nat) (l : List UInt8), k ≤ zz ∧ kv = .int .i64 k ∧ l.length = zz ∧ Hid (RowB wq gb l ∧ MnI L w (.slice la ln lc) wq)) (fun kv _ => zz - (intOf kv).toNat)
   case atStart => exact ⟨0, _, Nat.zero_le _, rfl, by simp, HR0.out, HI3.out⟩
   case round =>
    obtain ⟨k, l, hk, rfl, hll, HS⟩ := hrel
    by_cases hkz : k < zz
    ·have hkz' : (k : Int) < (zz : Int) := by omega
     have hkl : k < l.length := by omega
     have hc := HS.out.1.cell k hkl
     have hf := HS.out.1.frozen k
     have HS2 := hid (show RowB (wr.setCell ⟨gb, k, none⟩ (.int .u8 97)) gb (l.set k 97) ∧ MnI L w (.slice la ln lc) (wr.setCell ⟨gb, k, none⟩ (.int .u8 97)) from ⟨HS.out.1.set k 97, mn_set HS.out.2 hs3 (fun b hb => Nat.ne_of_lt (HLu.out b hb)) k _⟩)
     generalize l[k] = c0 at hc
     go_wp2
     go_roundw
     case rel => exact ⟨k + 1, l.set k 97, by omega, by go_num, by simpa using hll, HS2⟩
     case measure => simp [intOf]; omega
    ·have hkz' : ¬ (k : Int) < (zz : Int) := by omega
     obtain ⟨Wd, hWd⟩ : ∃ X, X = wr := ⟨_, rfl⟩
     subst hWd
     obtain ⟨V, hV⟩ : ∃ X : ByteArray, X = ⟨l.toArray⟩ := ⟨_, rfl⟩
     have hVs : V.size ≤ 130 := by rw [hV, xsize]; omega
     have HCv := hid (fun (Y : World) (hY : RowB Y gb l) => show (convert 28 9 (.slice (some ⟨gb, 0, none⟩) zz zz)).run Tryz.prog Y = .ok (.string V) Y from by
      have h := hY.string (cap := zz)
      rw [hll, ← hV] at h
      exact h)
     obtain ⟨nm, hnm⟩ : ∃ x : ByteArray, (#[⟨#[65, 99, 99, 101, 112, 116]⟩, ⟨#[97, 99, 99, 101, 112, 116, 45, 108, 97, 110, 103, 117, 97, 103, 101]⟩, ⟨#[67, 111, 110, 116, 101, 110, 116, 45, 76, 97, 110, 103, 117, 97, 103, 101]⟩] : Array ByteArray)[i % 3]? = some x := by
      have h3 : i % 3 < 3 := Nat.mod_lt _ (by decide)
      exact ⟨_, Array.getElem?_eq_getElem (by simpa using h3)⟩
     have hns : nm.size ≤ 16 := by
      rcases (show i % 3 = 0 ∨ i % 3 = 1 ∨ i % 3 = 2 by omega) with e | e | e <;> (rw [e] at hnm; simp at hnm; subst hnm; decide)
     have hcell : (#[.string ⟨#[65, 99, 99, 101, 112, 116]⟩, .string ⟨#[97, 99, 99, 101, 112, 116, 45, 108, 97, 110, 103, 117, 97, 103, 101]⟩, .string ⟨#[67, 111, 110, 116, 101, 110, 116, 45, 76, 97, 110, 103, 117, 97, 103, 101]⟩] : Array Value)[i % 3]? = some (.string nm) := by
      rcases (show i % 3 = 0 ∨ i % 3 = 1 ∨ i % 3 = 2 by omega) with e | e | e <;> (rw [e] at hnm ⊢; simp at hnm ⊢; subst hnm; rfl)
     have hrem : (i : Int).tmod 3 = ((i % 3 : Nat) : Int) := by rw [Int.tmod_eq_emod_of_nonneg (by omega)]; omega
     have hq3 : ((i % 3 : Nat) : Int) < 3 := by omega
     have HLs := hid (show cellsH (L ++ [⟨nm.data.toList, V.data.toList⟩]) = cellsH L ++ [.string nm, .string V] by rw [cellsH_app, cellsH_one, Lib.mk_data, Lib.mk_data])
     have HSz := hid (show Szd 1000 (L ++ [⟨nm.data.toList, V.data.toList⟩]) from fun x hx => by
      rcases List.mem_append.1 hx with hx | hx
      ·exact HS.out.2.1 x hx
      ·rw [List.mem_singleton.1 hx]
       refine ⟨?_, ?_⟩
       ·show nm.data.toList.length ≤ _; rw [← Lib.size_eq]; omega
       ·show V.data.toList.length ≤ _; rw [← Lib.size_eq]; omega)
     have HO := hid HS.out.2.2.1
     have HBd := hid HS.out.2.2.2
     have hlL := HLl.out
     have hwd := HBd.out.size
     generalize hmod : i % 3 = q at hcell hrem hq3
     have HMo := hid hmod
     clear hmod hnm hV
     have HQ0 := hid (show Below w.heap.size w Wd.drew ∧ RowB Wd.drew gb l from ⟨HBd.out.drew, HS.out.1.below (Below.refl _ Wd).drew⟩)
     go_upto_region 12 with fail
     refine wp_region_held_drew (S := (fun wx => Below w.heap.size w wx ∧ RowB wx gb l)) (by kernel_rfl) HQ0.out (fun hHeld => ?_)
     refine wpAnyH_to (fuel' := 12) (listed' := #[false, false, false, false, false, false, false, false, false, false, false, false]) rfl rfl ?_
     refine' wpAnyH_take (i := 0) (oi := ⟨some 30, _, _, _, _, _⟩) (v := _) rfl (by kernel_rfl) (by kernel_rfl) (by kernel_rfl) (fun _ _ _ h => h) (Or.inl ⟨by kernel_rfl, ?hyrm1⟩) (by assumption) ?restrm1
     case hyrm1 => (intro wx hSw; (try dsimp only at hSw); have hcv := HCv.out _ hSw.2; go_simp; first | done | with_reducible rfl)
     (try simp only [Act.put, List.setIfInBounds_toArray, List.set_cons_zero, List.set_cons_succ])
     refine' wpAnyH_take (i := 2) (oi := ⟨some 32, _, _, _, _, _⟩) (v := _) rfl (by kernel_rfl) (by kernel_rfl) (by kernel_rfl) (fun _ _ _ h => h) (Or.inl ⟨by kernel_rfl, ?hyrm2⟩) (by assumption) ?restrm2
     case hyrm2 => (intro wx hSw; (try dsimp only at hSw); have hcv := HCv.out _ hSw.2; go_simp; first | done | with_reducible rfl)
     (try simp only [Act.put, List.setIfInBounds_toArray, List.set_cons_zero, List.set_cons_succ])
     refine' wpAnyH_take (i := 3) (oi := ⟨some 33, _, _, _, _, _⟩) (v := _) rfl (by kernel_rfl) (by kernel_rfl) (by kernel_rfl) (fun _ _ _ h => h) (Or.inl ⟨by kernel_rfl, ?hyrm3⟩) (by assumption) ?restrm3
     case hyrm3 => (intro wx hSw; (try dsimp only at hSw); have hcv := HCv.out _ hSw.2; go_simp; first | done | with_reducible rfl)
     (try simp only [Act.put, List.setIfInBounds_toArray, List.set_cons_zero, List.set_cons_succ])
     refine' wpAnyH_take (i := 6) (oi := ⟨some 36, _, _, _, _, _⟩) (v := _) rfl (by kernel_rfl) (by kernel_rfl) (by kernel_rfl) (fun _ _ _ h => h) (Or.inl ⟨by kernel_rfl, ?hyrm4⟩) (by assumption) ?restrm4
     case hyrm4 => (intro wx hSw; (try dsimp only at hSw); have hcv := HCv.out _ hSw.2; go_simp; first | done | with_reducible rfl)
     (try simp only [Act.put, List.setIfInBounds_toArray, List.set_cons_zero, List.set_cons_succ])
     refine' wpAnyH_take (i := 7) (oi := ⟨some 37, _, _, _, _, _⟩) (v := _) rfl (by kernel_rfl) (by kernel_rfl) (by kernel_rfl) (fun _ _ _ h => h) (Or.inl ⟨by kernel_rfl, ?hyrm5⟩) (by assumption) ?restrm5
     case hyrm5 => (intro wx hSw; (try dsimp only at hSw); have hcv := HCv.out _ hSw.2; go_simp; first | done | with_reducible rfl)
     (try simp only [Act.put, List.setIfInBounds_toArray, List.set_cons_zero, List.set_cons_succ])
     refine wpAnyH_ready (rs := [1]) (by kernel_rfl) (by simp) ?_
     refine AllReadyH.cons rfl (fun K9 hK => ?_) AllReadyH.nil
     rw [if_pos (by kernel_rfl)]
     go_simp
     obtain ⟨W1, hW1⟩ : ∃ Z, Wd.alloc (.cells #[.string ⟨#[65, 99, 99, 101, 112, 116]⟩, .string ⟨#[97, 99, 99, 101, 112, 116, 45, 108, 97, 110, 103, 117, 97, 103, 101]⟩, .string ⟨#[67, 111, 110, 116, 101, 110, 116, 45, 76, 97, 110, 103, 117, 97, 103, 101]⟩] 9) = Z := ⟨_, rfl⟩
     have hb1 : Below Wd.heap.size Wd W1 := by rw [← hW1]; exact (Below.refl _ Wd).alloc (Nat.le_refl _) _
     have hs1 : W1.heap.size = Wd.heap.size + 1 := by rw [← hW1]; simp
     have hc1 : W1.drew.cell? ⟨Wd.heap.size, q, none⟩ = some (.string nm) := by
      have hr : W1.heap[Wd.heap.size]? = some (.cells #[.string ⟨#[65, 99, 99, 101, 112, 116]⟩, .string ⟨#[97, 99, 99, 101, 112, 116, 45, 108, 97, 110, 103, 117, 97, 103, 101]⟩, .string ⟨#[67, 111, 110, 116, 101, 110, 116, 45, 76, 97, 110, 103, 117, 97, 103, 101]⟩] 9 (0, 0)) := by rw [← hW1]; exact heap_alloc_new Wd _
      rw [Lib.cell_of_heap (w := W1.drew) hr]
      exact hcell
     have HL1 := hid hb1
     have HQ1 := hid (show Below w.heap.size w W1.drew ∧ RowB W1.drew gb l from ⟨(below2 HBd.out hb1).drew, HS.out.1.below hb1.drew⟩)
     have HS1 := hid hs1
     have HC1 := hid hc1
     first | rw [hW1] | skip
     clear hb1 hs1 hc1 hW1
     refine hK.out _ _ HQ1.out (fun hHeld2 => ?_)
     clear hK K9 hHeld
     rename _ => hHeld
     refine' wpAnyH_take (i := 4) (oi := ⟨some 34, _, _, _, _, _⟩) (v := _) rfl (by kernel_rfl) (by kernel_rfl) (by kernel_rfl) (fun _ _ _ h => h) (Or.inl ⟨by kernel_rfl, ?hyrm6⟩) (by assumption) ?restrm6
     case hyrm6 => (intro wx hSw; (try dsimp only at hSw); have hcv := HCv.out _ hSw.2; go_simp; first | done | with_reducible rfl)
     (try simp only [Act.put, List.setIfInBounds_toArray, List.set_cons_zero, List.set_cons_succ])
     have hc1 := HC1.out
     refine wpAnyH_ready (rs := [5]) (by kernel_rfl) (by simp) ?_
     refine AllReadyH.cons rfl (fun K9 hK => ?_) AllReadyH.nil
     rw [if_pos (by kernel_rfl)]
     go_simp
     refine hK.out _ _ HQ1.out (fun hHeld2 => ?_)
     clear hK K9 hHeld
     rename _ => hHeld
     refine' wpAnyH_take (i := 8) (oi := ⟨some 38, _, _, _, _, _⟩) (v := _) rfl (by kernel_rfl) (by kernel_rfl) (by kernel_rfl) (fun _ _ _ h => h) (Or.inl ⟨by kernel_rfl, ?hyrm7⟩) (by assumption) ?restrm7
     case hyrm7 => (intro wx hSw; (try dsimp only at hSw); have hcv := HCv.out _ hSw.2; go_simp; first | done | with_reducible rfl)
     (try simp only [Act.put, List.setIfInBounds_toArray, List.set_cons_zero, List.set_cons_succ])
     refine wpAnyH_ready (rs := [9]) (by kernel_rfl) (by simp) ?_
     refine AllReadyH.cons rfl (fun K9 hK => ?_) AllReadyH.nil
     rw [if_pos (by kernel_rfl)]
     go_simp
     obtain ⟨W2, hW2⟩ : ∃ Z, W1.alloc (.cells #[.string nm, .string V] 45) = Z := ⟨_, rfl⟩
     have HL2 := hid (show Below Wd.heap.size Wd W2 by rw [← hW2]; exact HL1.out.alloc HL1.out.size _)
     have HQ2 := hid (show Below w.heap.size w W2.drew ∧ RowB W2.drew gb l from ⟨(below2 HBd.out HL2.out).drew, HS.out.1.below HL2.out.drew⟩)
     have HX2 := hid (show W2.heap[W1.heap.size]? = some (.cells #[.string nm, .string V] 45 (0, 0)) by rw [← hW2]; exact heap_alloc_new W1 _)
     first | rw [hW2] | skip
     clear hW2 hc1
     refine hK.out _ _ HQ2.out (fun hHeld2 => ?_)
     clear hK K9 hHeld
     rename _ => hHeld
     have HO2 := hid (show W2.drew.ownsRow w.heap.size 45 2 (.slice la ln lc) L.length (cellsH L) from own_same HO.out HL2.out.drew)
     have hw2 : Wd.heap.size ≤ W2.drew.heap.size := HL2.out.size
     refine wpAnyH_ready (rs := [10]) (by kernel_rfl) (by simp) ?_
     refine AllReadyH.cons rfl (fun K9 hK => ?_) AllReadyH.nil
     refine xstep_append_own rfl (.tmp 30) (.tmp 39) 27 rfl w.heap.size 45 i0 _ 2 32 Tryz.underlying27 hi hz0 hz1 hz2 rfl (by decide) _ L.length _ rfl HO2.out ⟨W1.heap.size, 0, none⟩ 1 1 [.string nm, .string V] rfl rfl ?d1 ?d2 ?d3 ?d4 ?d5 ?_
     case d1 =>
      intro q2 u hq
      rw [Addr.add_mid]
      exact range_row_Cb (cs := [.string nm, .string V]) HX2.out q2 u hq
     case d2 => intro u hu; simp at hu; rcases hu with rfl | rfl <;> rfl
     case d3 => unfold maxLen; omega
     case d4 => omega
     case d5 => omega
     intro v8 w8 hown8 hgrow8 hnil8
     have HF := hid (show MnI (L ++ [⟨nm.data.toList, V.data.toList⟩]) w v8 w8 from by
      refine ⟨HSz.out, ?_, ?_⟩
      ·rw [HLs.out, List.length_append]
       exact hown8
      ·exact HQ2.out.1.grown hgrow8 (by omega) (fun g hg => (HO.out.lt g hg).1))
     have HQ8 := hid (show Below w.heap.size w w8 ∧ RowB w8 gb l from ⟨HF.out.2.2, by
      obtain ⟨C9, h9, k9⟩ := HQ2.out.2
      exact ⟨C9, (hgrow8.block gb HQ2.out.2.lt (fun e => by have := HLu.out gb e.symm; omega)).trans h9, k9⟩⟩)
     clear hown8 hgrow8 hnil8
     refine hK.out _ _ HQ8.out (fun hHeld2 => ?_)
     clear hK K9 hHeld
     rename _ => hHeld
     refine' wpAnyH_take (i := 11) (oi := ⟨some 7, _, _, _, _, _⟩) (v := _) rfl (by kernel_rfl) (by kernel_rfl) (by kernel_rfl) (fun _ _ _ h => h) (Or.inl ⟨by kernel_rfl, ?hyrm8⟩) (by assumption) ?restrm8
     case hyrm8 => (intro wx hSw; (try dsimp only at hSw); have hcv := HCv.out _ hSw.2; go_simp; first | done | with_reducible rfl)
     (try simp only [Act.put, List.setIfInBounds_toArray, List.set_cons_zero, List.set_cons_succ])
     refine wpAnyH_done (by kernel_rfl) ?_ _
     go_wp2_with fail
     go_roundw
     case rel => exact ⟨i + 1, L ++ [⟨nm.data.toList, V.data.toList⟩], by rw [List.length_append]; simpa using HLl.out, by omega, by go_num, HF⟩
     case measure => simp [intOf]; omega
  ·have hlt' : ¬ (i : Int) < (nn : Int) := by omega
   have HO := hid HI.out.2.1
   have hws := HI.out.2.2.size
   have hLl := HLl.out
   obtain ⟨la, ln, lc, rfl⟩ := ownsRow_slice HI.out.2.1
   have HLs := hid (show cellsH (L ++ [⟨m0.data.toList, [120]⟩]) = cellsH L ++ [.string m0, .string ⟨#[120]⟩] by rw [cellsH_app, cellsH_one, Lib.mk_data])
   have HSz := hid (show Szd 1000000 (L ++ [⟨m0.data.toList, [120]⟩]) from fun x hx => by
    rcases List.mem_append.1 hx with hx | hx
    ·have := HI.out.1 x hx; omega
    ·rw [List.mem_singleton.1 hx]
     refine ⟨?_, by show ([120] : List UInt8).length ≤ _; decide⟩
     show m0.data.toList.length ≤ _; rw [← Lib.size_eq]; omega)
   have HLn := hid (show (L ++ [(⟨m0.data.toList, [120]⟩ : Hd)]).length ≤ 1000 by rw [List.length_append]; have := HLl.out; simp; omega)
   go_wp2_with fail
   refine (HFw.out _).mono ?_
   rintro e wz ⟨rfl, hwz⟩
   rw [← hwz]
   clear hwz
   go_wp2_with (at_builtin; go_must (refine wpList_append_own _ rfl _ _ 27 rfl w.heap.size 45 i0 (.agg #[.string ByteArray.empty, .string ByteArray.empty]) 2 32 Tryz.underlying27 hi hz0 hz1 hz2 rfl (by decide) _ _ _ rfl (HO.out.alloc _) ⟨wr.heap.size, 0, none⟩ 1 1 [.string m0, .string ⟨#[120]⟩] rfl rfl ?f1 ?f2 ?f3 ?f4 ?f5 ?_))
   case f1 =>
    intro q u hq
    match q, hq with
    | 0, hq => simp at hq; subst hq; simp [Addr.add]
    | 1, hq => simp at hq; subst hq; simp [Addr.add]
   case f2 => intro u hu; simp at hu; rcases hu with rfl | rfl <;> rfl
   case f3 => unfold maxLen; omega
   case f4 => omega
   case f5 => first | omega | (simp; omega)
   intro v5 w5 hown5 hgrow5 hnil5
   have HB5 := hid (show Below w.heap.size w w5 from (HI.out.2.2.alloc hws _).grown hgrow5 (by simp; omega) (fun g hg => (HO.out.lt g hg).1))
   have hown6 : w5.ownsRow w.heap.size 45 2 v5 (L ++ [(⟨m0.data.toList, [120]⟩ : Hd)]).length (cellsH (L ++ [⟨m0.data.toList, [120]⟩])) := by
    rw [HLs.out, List.length_append, HLl.out]
    exact hown5
   have HHd := hid (own_hd hown6)
   obtain ⟨ya, yn, yc, rfl⟩ := ownsRow_slice hown6
   clear hown5 hown6 hgrow5 hnil5
   generalize L ++ [(⟨m0.data.toList, [120]⟩ : Hd)] = G at HHd HSz HLn
   have HU1 := hid (fun (Y : World) (hY : Below w.heap.size w Y) (hu : HdAt Y (.slice ya yn yc) G) => (unsafe18_any (.slice ya yn yc) G Y (HG5.out.kept hY) hu HLn.out HSz.out).mono fun e w' h => unR_of h)
   have HU2 := hid (fun (Y : World) (hu : HdAt Y (.slice ya yn yc) G) => (runsafe18_any (.slice ya yn yc) G Y hu HLn.out HSz.out).mono fun e w' h => unR_of h)
   have hul : (unsV G).length ≤ 1000000 := by have := unsV_len G; have := HLn.out; omega
   have HS2 := hid (fun (u1 u2 : Value) (Y : World) (h1 : TxAt Y u1 (unsV G)) (h2 : TxAt Y u2 (unsV G)) => sameT_any u1 u2 _ _ Y h1 h2 hul hul)
   simp only [decide_true] at HS2
   unfold UnR at HU1 HU2
   generalize unsV G = X2 at HU1 HU2 HS2 hul
   clear hul
   go_wp2_with fail
   refine (HU1.out _ HB5.out HHd.out).mono ?_
   rintro e w6 ⟨a6, n6, c6, rfl, ht6, hb⟩
   have HB6 := hid (below2 HB5.out hb)
   have HH6 := hid (HHd.out.kept hb)
   have HT6 := hid ht6
   clear hb ht6
   go_wp2_with fail
   refine (HU2.out _ HH6.out).mono ?_
   rintro e w7 ⟨a7, n7, c7, rfl, ht7, hb⟩
   have HB7 := hid (below2 HB6.out hb)
   have HT67 := hid (HT6.out.kept hb)
   have HT7 := hid ht7
   clear hb ht7
   go_wp2_with fail
   refine (HS2.out _ _ _ HT67.out HT7.out).mono ?_
   rintro e w8 ⟨rfl, hb⟩
   have HB8 := hid (below2 HB7.out hb)
   clear hb
   go_wp2_with fail
   refine (HK.out _ (HG.out.kept HB8.out)).mono ?_
   rintro e w9 ⟨rfl, hb⟩
   have HB9 := hid (below2 HB8.out hb)
   clear hb
   go_wp2_with fail
   go_ret
   exact ⟨rfl, HB9.out⟩

end Go.Proofs.YtpopljcmkbchcaaGreatDoor
