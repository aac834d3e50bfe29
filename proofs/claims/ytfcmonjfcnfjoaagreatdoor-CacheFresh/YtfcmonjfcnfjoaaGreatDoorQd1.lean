/-
  Walks and plain facts that this claim leans on, put together out of 5 texts: Xd, Xg, Ehn, Efb, Ehq.
-/
import Derived.Test.YtfcmonjfcnfjoaaGreatDoorProg
import Derived.Test.YtfcmonjfcnfjoaaGreatDoorQc1
import Derived.Test.YtfcmonjfcnfjoaaGreatDoorQc2
import Derived.Test.YtfcmonjfcnfjoaaGreatDoorQc3
import Derived.Test.YtfcmonjfcnfjoaaGreatDoorQc4
import Derived.Test.YtfcmonjfcnfjoaaGreatDoorQc5
import Derived.Test.YtfcmonjfcnfjoaaGreatDoorQc6
import Derived.Test.YtfcmonjfcnfjoaaGreatDoorQc7
import Derived.Test.YtfcmonjfcnfjoaaGreatDoorQc8
import Derived.Test.YtfcmonjfcnfjoaaGreatDoorQc9
import Derived.Test.YtfcmonjfcnfjoaaGreatDoorQc10
import Derived.Test.YtfcmonjfcnfjoaaGreatDoorQc11
import Derived.Test.YtfcmonjfcnfjoaaGreatDoorQc12
import Derived.Test.YtfcmonjfcnfjoaaGreatDoorQc13
import Derived.Test.YtfcmonjfcnfjoaaGreatDoorQc14
import Derived.Test.YtfcmonjfcnfjoaaGreatDoorQc15
import Derived.Test.YtfcmonjfcnfjoaaGreatDoorQc16
import Derived.Test.YtfcmonjfcnfjoaaGreatDoorQc17
import Derived.Test.YtfcmonjfcnfjoaaGreatDoorQc18
import Derived.WalkKit
import Derived.Lib.Strings
import Derived.Lib.UnsafeStr
import Derived.Laws.IdiomStrings
import Derived.Laws.AppendOwn
import Derived.Lib.BufferMore
import Derived.Lib.SlTrimSet
import Derived.Lib.Join
import Derived.Lib.IndexMore
import Derived.Laws.BitsAllLaws
import Derived.Lib.Bytealg
import Derived.WalkSpells
import Derived.WalkLawsBesides
import Derived.Laws.OwnMore
import Derived.Below
import Derived.WalkSmall
import Derived.Lib.SmallJoins
import Derived.Deep.QuietTactic
import Derived.BigQuiet
import Derived.Deep.LoopGhost
import Derived.BigRegion
import Derived.Deep.RegionHeld
import Derived.Deep.RegionHeldLaw
import Derived.Lib.IndexAny
import Derived.Lib.BufferRead
import Derived.Lib.RuneBytes
import Derived.Laws.RangeAny
import Derived.Maps.OwnSet
import Derived.Maps.OwnOps
import Derived.Maps.AppendAt
import Derived.StringKeys
import Derived.LoopN
import Derived.RegionTactic
import Derived.Deep.RegionLaw
import Derived.Deep.RegionWith
import Derived.Lib.FieldsP
import Derived.Lib.DecodeN
import Derived.Laws.CopyOwn
import Derived.Laws.ResultCell
import Derived.Deep.MidRow
import Derived.Lib.LaidTab
import Derived.Lib.AppendIntMem
import Derived.Laws.Runes
import Derived.Lib.OthersKept
import Derived.Lib.FrozenHead2
import Derived.Lib.Builder
import Derived.Lib.AppendStr
import Derived.Lib.Replace
import Derived.Shelf.GgClosure.GivesRunes
import Derived.Laws.BitsAll
import Derived.Laws.Shifts
import Derived.Deep.DeepAppendRoom
import Derived.Laws.BytesString
import Derived.Laws.CopyRow
import Derived.Sort.OwnSorted
import Derived.Lib.SlicesCompact
import Derived.Deep.CutRange
import Derived.Shelf.Slices.In.SortNone
import Derived.Shelf.Slices.CompactS
import Derived.Lib.SliceRun
import Derived.Lib.ItoaLen
import Derived.Shelf.Strings.Builder1
import Derived.Shelf.Strings.Builder2
import Derived.Shelf.Strings.OnBuilder
import Derived.Shelf.Strings.Trim
import Derived.Shelf.Small.Utf8
import Derived.Shelf.Small.Bits
import Derived.Shelf.Small.Strs
import Derived.Shelf.Small.Wraps
import Derived.Shelf.Strings.BuilderF
import Derived.Shelf.Strings.BuilderK
import Derived.Shelf.Strings.Builder2Cap
import Derived.Shelf.Strconv.Itoa0
import Derived.Shelf.Strconv.Itoa1
import Derived.Shelf.LaysM
import Derived.Shelf.Strconv.Itoa2
import Derived.Shelf.Strconv.Itoa3
import Derived.Shelf.Strings.Search1
import Derived.Shelf.Strings.Search2
import Derived.Shelf.Strings.Cut
import Derived.Shelf.Strings.Shaped
import Derived.Shelf.Sort.Plain
import Derived.Shelf.Strings.Prefix
import Derived.Shelf.Strings.Runes
import Derived.Shelf.Strings.IndexAny
import Derived.Shelf.Strings.AsciiSet
import Derived.Shelf.Strings.IndexAnyAll
import Derived.Shelf.Unicode.DecodeSlow
import Derived.Shelf.Unicode.DecodeAny
import Derived.Shelf.Unicode.DecodeLast
import Derived.Shelf.Strings.SlTrimAscii
import Derived.Laws.Rows
import Derived.Laws.MakeOwn
import Derived.Deep.WholeRow
import Derived.Laws.AppendOwnNone
set_option linter.unusedSimpArgs false
set_option linter.unusedVariables false

namespace Go.Proofs.YtfcmonjfcnfjoaaGreatDoor
def Wrd (x : List UInt8) : Prop := x ≠ [] ∧ x.all (fun c => decide (97 ≤ c.toNat) && decide (c.toNat ≤ 122)) = true

end Go.Proofs.YtfcmonjfcnfjoaaGreatDoor

namespace Go.Proofs.YtfcmonjfcnfjoaaGreatDoor
open Go.RowKit

theorem word_app (s : ByteArray) (k : Nat) (h : k < s.size) (T : List UInt8) : (⟨T.toArray⟩ : ByteArray) ++ s.extract k (k + 1) = ⟨(T ++ [s[k]]).toArray⟩ := by
 refine xext ?_
 rw [ByteArray.data_append, Array.toList_append, Lib.extract_data, show k + 1 - k = 1 by omega, drop_cons s k h]
 rfl

end Go.Proofs.YtfcmonjfcnfjoaaGreatDoor

namespace Go.Proofs.YtfcmonjfcnfjoaaGreatDoor
open Go.RowKit

set_option maxHeartbeats 1000000 in
theorem len17_any (p M : Nat) (C : CaS) (w : World) (hI : CaI w p M C) :
  Calls Tryz.prog 15 #[.pointer (some ⟨p, 0, none⟩)] w fun e w' => e = .returned (.int .i64 (C.rows.length : Int)) ∧ w' = w := by
 obtain ⟨_, a, c, Z, hrow, _⟩ := hI
 obtain ⟨n, hn⟩ : ∃ n, n = C.rows.length := ⟨_, rfl⟩
 rw [← hn] at hrow ⊢
 have d0 : w.cell? ⟨p, 0, none⟩ = some (.slice a n c) := by rw [Lib.cell_of_heap hrow]; rfl
 clear hn hrow
 go_enter Tryz.func15, Tryz.ntmps15
 go_wp2
 go_ret
 exact ⟨rfl, rfl⟩

end Go.Proofs.YtfcmonjfcnfjoaaGreatDoor

namespace Go.Proofs.YtfcmonjfcnfjoaaGreatDoor
open Go.RowKit

theorem getT_cons16 (a b : Hd) (n : List UInt8) (h1 : isN n a = true) (h2 : isN n b = false) : getT [a, b] n = a.value ∧ getB [a, b] n = true := by
 unfold getT getB selV
 simp [h1, h2, Lib.join]

theorem getT_snd16 (a b : Hd) (n : List UInt8) (h1 : isN n a = false) (h2 : isN n b = true) : getT [a, b] n = b.value ∧ getB [a, b] n = true := by
 unfold getT getB selV
 simp [h1, h2, Lib.join]

end Go.Proofs.YtfcmonjfcnfjoaaGreatDoor

namespace Go.Proofs.YtfcmonjfcnfjoaaGreatDoor
open Go.RowKit

set_option maxHeartbeats 2000000 in
theorem word17_any (s : ByteArray) (w : World) (hs : s.size ≤ 9223372036854775807) :
  Calls Tryz.prog 32 #[.string s] w fun e w' => ∃ T, e = .returned (.string ⟨T.toArray⟩) ∧ Wrd T ∧ T.length ≤ 21 ∧ w = w' := by
 go_enter Tryz.func32, Tryz.ntmps32
 go_wp2
 go_loop [3, 4] (fun o i => ∃ (k : Nat) (T : List UInt8), k ≤ s.size ∧ k ≤ 20 ∧ i = .int .i64 k ∧ o = .string ⟨T.toArray⟩ ∧ Wrd T ∧ T.length ≤ k + 1) (fun o i => s.size - (intOf i).toNat)
 case atStart => exact ⟨0, [119], Nat.zero_le _, by decide, rfl, rfl, ⟨by simp, by decide⟩, by decide⟩
 case round =>
  obtain ⟨k, T, hk, hk20, rfl, rfl, hT, hTl⟩ := hrel
  have HT := hid hT
  clear hT
  by_cases hlt : k < s.size
  ·have hlt' : (k : Int) < (s.size : Int) := by omega
   have HW := hid (word_app s k hlt T)
   by_cases h12 : k < 20
   ·have h12' : (k : Int) < 20 := by omega
    have hb := s[k].toNat_lt
    by_cases ha : 97 ≤ s[k].toNat
    ·by_cases hz : s[k].toNat ≤ 122
     ·have hwk : k + 1 ≤ s.size := by omega
      have HN := hid (show Wrd (T ++ [s[k]]) from ⟨by simp, by rw [List.all_append, HT.out.2]; simp [ha, hz]⟩)
      go_wp2
      go_round
      case rel => exact ⟨k + 1, T ++ [s[k]], by omega, by omega, by go_num, by rw [HW.out], HN.out, by simp; omega⟩
      case measure => simp [intOf]; omega
     ·go_wp2
      go_round
      case rel => exact ⟨k + 1, T, by omega, by omega, by go_num, rfl, HT.out, by omega⟩
      case measure => simp [intOf]; omega
    ·have ha' : decide ((97 : Int) ≤ (s[k].toNat : Int)) = false := by rw [decide_eq_false_iff_not]; omega
     go_wp2
     go_round
     case rel => exact ⟨k + 1, T, by omega, by omega, by go_num, rfl, HT.out, by omega⟩
     case measure => simp [intOf]; omega
   ·go_wp2
    go_ret
    exact ⟨T, rfl, HT.out, by omega, rfl⟩
  ·have hlt' : decide ((k : Int) < (s.size : Int)) = false := by rw [decide_eq_false_iff_not]; omega
   go_wp2
   go_ret
   exact ⟨T, rfl, HT.out, by omega, rfl⟩

def tVaU : List UInt8 := [86, 97, 114, 121]

def tAlU : List UInt8 := [65, 99, 99, 101, 112, 116, 45, 76, 97, 110, 103, 117, 97, 103, 101]

def tAlL : List UInt8 := [97, 99, 99, 101, 112, 116, 45, 108, 97, 110, 103, 117, 97, 103, 101]

def frH (T : List UInt8) : List Hd := [⟨CC17, sMax ++ T⟩, ⟨tVaU, tAlU⟩]

theorem fr_ctl {n : Nat} {T : List UInt8} (h : Dec n T) : ctlV (frH T) = ⟨false, false, n⟩ := by
 have h1 := getT_cons16 ⟨CC17, sMax ++ T⟩ ⟨tVaU, tAlU⟩ nCC (show (low CC17 == low nCC) = true by decide) (show (low tVaU == low nCC) = false by decide)
 unfold ctlV pcsV frH
 rw [h1.2]
 simp only [if_true]
 unfold splitV
 rw [h1.1]
 exact ctl_plain n T h

theorem fr_var (T : List UInt8) : pcsV (frH T) nVy = [tAlU] := by
 have h1 := getT_snd16 ⟨CC17, sMax ++ T⟩ ⟨tVaU, tAlU⟩ nVy (show (low CC17 == low nVy) = false by decide) (show (low tVaU == low nVy) = true by decide)
 unfold pcsV frH
 rw [h1.2]
 simp only [if_true]
 unfold splitV
 rw [h1.1]
 decide +kernel

theorem fr_age (T : List UInt8) (s n : Int) : ageV (frH T) s n = addV 0 (sinV s n) := by
 have h1 : getT (frH T) nAg = [] := by
  unfold getT selV frH
  have e1 : isN nAg ⟨CC17, sMax ++ T⟩ = false := show (low CC17 == low nAg) = false by decide
  have e2 : isN nAg ⟨tVaU, tAlU⟩ = false := show (low tVaU == low nAg) = false by decide
  simp [e1, e2, Lib.join]
 unfold ageV
 rw [h1, show intV (strip []) = 0 by decide]

theorem fr_fre {n : Nat} {T : List UInt8} (h : Dec n T) (o : Nat) (ho : o ≤ 1500) : freV (frH T) 100 (100 + o) = decide (o < n) := by
 have h1 : ageV (frH T) 100 (100 + o) = o := by
  rw [fr_age]
  unfold addV sinV
  repeat' split <;> omega
 unfold freV
 rw [h1, fr_ctl h]
 simp

theorem fr_ask (N X : List UInt8) (hN : low N = tAlL) : ctlV [⟨N, X⟩] = ctl0 ∧ choV [⟨N, X⟩] tAlL = ⟨tAlL, X, true⟩ := by
 have h1 := (get_one17 ⟨N, X⟩ nCC).2 (show (low N == low nCC) = false by rw [hN]; decide)
 have h2 := (get_one17 ⟨N, X⟩ tAlL).1 (show (low N == low tAlL) = true by rw [hN]; decide)
 constructor
 ·unfold ctlV pcsV
  rw [h1.2]
  rfl
 ·unfold choV
  rw [h2.1, h2.2]

theorem fr_ctl0 : ctl0.ns = false ∧ ctl0.nc = false := by decide

def frR (l T X : List UInt8) : RowC := ⟨uU, [⟨tAlL, X, true⟩], ⟨200, frH T, l⟩, 100, 1⟩

def frC (l T X : List UInt8) : CaS := ⟨[frR l T X], 1⟩

theorem fr_ok (l T X : List UInt8) {n : Nat} (h : Dec n T) : putOk [⟨tAlL, X⟩] ⟨200, frH T, l⟩ = true := by
 unfold putOk
 dsimp only
 rw [fr_var, fr_ctl h, (fr_ask tAlL X (by decide)).1]
 exact (by decide : (vrOk [tAlU] && decide ((200 : Int) = 200) && !false && !ctl0.ns) = true)

theorem fr_put (l T X : List UInt8) {n : Nat} (h : Dec n T) : putV ⟨[], 0⟩ uU [⟨tAlL, X⟩] ⟨200, frH T, l⟩ 100 = frC l T X := by
 unfold putV
 rw [if_pos (fr_ok l T X h)]
 dsimp only
 rw [fr_var, show varV [tAlU] = [tAlL] by decide +kernel]
 show CaS.mk (roomV [] ++ [⟨uU, [choV [⟨tAlL, X⟩] tAlL], ⟨200, frH T, l⟩, 100, 0 + 1⟩]) (0 + 1) = _
 rw [(fr_ask tAlL X (by decide)).2]
 rfl

theorem fr_meant (l T X N Y : List UInt8) (hN : low N = tAlL) : meantV uU [⟨N, Y⟩] (frR l T X) = decide (X = Y) := by
 unfold meantV frR
 simp only [List.any_cons, List.any_nil, Bool.or_false, (fr_ask N Y hN).2, decide_true, Bool.true_and]
 by_cases h : X = Y
 ·simp [h]
 ·have : ¬ Y = X := fun e => h e.symm
  simp [h, this]

theorem fr_take (l T X N Y : List UInt8) (hN : low N = tAlL) : takeV (frC l T X) uU [⟨N, Y⟩] = if X = Y then some (frR l T X, []) else none := by
 have hm := fr_meant l T X N Y hN
 unfold takeV
 rw [(fr_ask N Y hN).1, fr_ctl0.1]
 show (if false = true then none else match bestV (meantV uU [⟨N, Y⟩]) [frR l T X] 1 with
  | none => none
  | some a => (([frR l T X] : List RowC)[a]?).map fun x => (x, ([frR l T X] : List RowC).eraseIdx a)) = _
 by_cases h : X = Y
 ·rw [if_pos h]
  rw [decide_eq_true h] at hm
  have hb : bestV (meantV uU [⟨N, Y⟩]) [frR l T X] 1 = some 0 := by
   unfold bestV
   simp [bestV, hm]
  rw [hb]
  rfl
 ·rw [if_neg h]
  have hb : bestV (meantV uU [⟨N, Y⟩]) [frR l T X] 1 = none := by
   unfold bestV
   simp [bestV, hm, h]
  rw [hb]
  rfl

theorem fr_use (l T X N Y : List UInt8) (hN : low N = tAlL) : useV (frC l T X) uU [⟨N, Y⟩] = frC l T X := by
 unfold useV
 rw [fr_take l T X N Y hN]
 by_cases h : X = Y
 ·rw [if_pos h]; rfl
 ·rw [if_neg h]

theorem fr_find (l T X N Y : List UInt8) (hN : low N = tAlL) {n : Nat} (hT : Dec n T) (o : Nat) (ho : o ≤ 1500) (h : X = Y) : ∃ L K, findV Lib.itoa (frC l T X) uU [⟨N, Y⟩] (100 + o) = ⟨if o < n then 2 else 1, ⟨200, L, l⟩, K⟩ := by
 unfold findV
 rw [fr_take l T X N Y hN, if_pos h]
 dsimp only
 unfold foundV frR
 dsimp only
 rw [fr_fre hT o ho, (fr_ask N Y hN).1, fr_ctl0.2]
 by_cases h : o < n
 ·rw [if_neg (by simp [h]), if_pos h]; exact ⟨_, _, rfl⟩
 ·rw [if_pos (by simp [h]), if_neg h]; exact ⟨_, _, rfl⟩

theorem fr_lost (l T X N Y : List UInt8) (hN : low N = tAlL) (now : Int) (h : ¬ X = Y) : findV Lib.itoa (frC l T X) uU [⟨N, Y⟩] now = ⟨0, ⟨0, [], []⟩, []⟩ := by
 unfold findV
 rw [fr_take l T X N Y hN, if_neg h]

theorem fr_other (l T X N Y : List UInt8) (hN : low N = tAlL) (now : Int) : findV Lib.itoa (frC l T X) [118] [⟨N, Y⟩] now = ⟨0, ⟨0, [], []⟩, []⟩ ∧ useV (frC l T X) [118] [⟨N, Y⟩] = frC l T X := by
 have hm : meantV [118] [⟨N, Y⟩] (frR l T X) = false := by
  unfold meantV frR
  rw [show decide (uU = [118]) = false by decide]
  rfl
 have ht : takeV (frC l T X) [118] [⟨N, Y⟩] = none := by
  unfold takeV
  rw [(fr_ask N Y hN).1, fr_ctl0.1]
  show (if false = true then none else match bestV (meantV [118] [⟨N, Y⟩]) [frR l T X] 1 with
   | none => none
   | some a => (([frR l T X] : List RowC)[a]?).map fun x => (x, ([frR l T X] : List RowC).eraseIdx a)) = _
  have hb : bestV (meantV [118] [⟨N, Y⟩]) [frR l T X] 1 = none := by
   unfold bestV
   simp [bestV, hm]
  rw [hb]
  rfl
 unfold findV useV
 rw [ht]
 exact ⟨rfl, rfl⟩

theorem fr_drop (l T X : List UInt8) : drpV (frC l T X) uU = ⟨[], 1⟩ := by
 unfold drpV frC frR
 simp

theorem fr_none (u : List UInt8) (N Y : List UInt8) (now : Int) : findV Lib.itoa ⟨[], 1⟩ u [⟨N, Y⟩] now = ⟨0, ⟨0, [], []⟩, []⟩ ∧ useV ⟨[], 1⟩ u [⟨N, Y⟩] = ⟨[], 1⟩ := by
 have ht : takeV ⟨[], 1⟩ u [⟨N, Y⟩] = none := by
  unfold takeV
  split <;> rfl
 unfold findV useV
 rw [ht]
 exact ⟨rfl, rfl⟩

theorem fr_hk (T : List UInt8) (hT : T.length ≤ 40) : Hk (frH T) := by
 refine ⟨by simp [frH], fun x hx => ?_⟩
 simp only [frH, List.mem_cons, List.not_mem_nil, or_false] at hx
 rcases hx with rfl | rfl
 ·exact ⟨(by decide : CC17.length ≤ 4096), by simp [sMax]; omega⟩
 ·exact ⟨(by decide : tVaU.length ≤ 4096), (by decide : tAlU.length ≤ 4096)⟩

theorem fr_szo (N X : List UInt8) (hN : N.length ≤ 100) (hX : X.length ≤ 100) : Szo [⟨N, X⟩] := by
 refine Hk.szo ⟨by simp, fun x hx => ?_⟩
 rw [List.mem_singleton.1 hx]
 exact ⟨by show N.length ≤ 4096; omega, by show X.length ≤ 4096; omega⟩

theorem fr_cag (l T X : List UInt8) (hl : l.length ≤ 1000000) (hT : T.length ≤ 40) : CaG (frC l T X) := by
 refine ⟨by simp [frC], by simp [frC], fun r hr => ?_⟩
 rw [List.mem_singleton.1 hr]
 refine ⟨fr_hk T hT, by simp [frR], fun c hc => ?_, hl, by simp [frR]⟩
 rw [List.mem_singleton.1 hc]
 exact (by decide : tAlL.length ≤ 140737488351232)

theorem field_fo0 (s st : Int) (a b c : Option Addr) (x1 x2 x3 y1 y2 y3 : Nat) (w : World) : (Instr.field 33 (.agg #[.int .i64 s, .int .i64 st, .slice a x1 y1, .slice b x2 y2, .slice c x3 y3]) 0).run Tryz.prog w = .ok (.int .i64 s) w := by kernel_rfl

theorem alloc_sz17 (w : World) (o : Obj) : (w.alloc o).heap.size = w.heap.size + 1 := by simp

theorem lit_hdt (w : World) (N X : List UInt8) (NB XB : ByteArray) (h1 : NB.data.toList = N) (h2 : XB.data.toList = X) : HdT (w.alloc (.cells #[.string NB, .string XB] 30)) (.slice (some ⟨w.heap.size, 0, none⟩) 1 1) [⟨N, X⟩] := by
 have h := own_lit17 w [⟨N, X⟩] 1 rfl (by decide)
 have e : (cellsH [⟨N, X⟩]).toArray = #[.string NB, .string XB] := by
  rw [cellsH_one, ← h1, ← h2, ← xself NB, ← xself XB]
 rw [e] at h
 exact own_hdt h

set_option maxHeartbeats 8000000 in
set_option maxRecDepth 100000 in
theorem cacheFresh_walk (q0 : Option Addr) (len0 cap0 : Nat) (z0 : List Int) (life off : Int) (sa sb : ByteArray) (w : World) (w0 : IsRow .u8 w q0 len0 cap0 z0) (h1 : (Lit.int .i64 life).wf = true) (h2 : (Lit.int .i64 off).wf = true) (hsa : sa.size ≤ 140737488351232) (hsb : sb.size ≤ 140737488351232) (h5 : G5 w) (hgp : Gp17 w) (hg : gMax < w.heap.size) :
  Calls Tryz.prog 5 #[.slice q0 len0 cap0, .int .i64 life, .int .i64 off, .string sa, .string sb] w fun e w' => e = .returned (.bool true) ∧ Below w.heap.size w w' := by
 obtain ⟨l0, hl0, hS0, hc0, hm0⟩ := w0.bytes
 obtain ⟨n, hn, hWn⟩ := wit17_1000 life
 obtain ⟨o, ho, hWo⟩ := wit17_2000 off
 have hSl := slB_take17 hS0 hl0 200
 have hll : (l0.take 200).length ≤ 200 := by simp; omega
 have hlc : (l0.take 200).length ≤ cap0 := by simp; omega
 have HFb := hid (fun (Y : World) (hY : Below w.heap.size w Y) => fewBytes_any q0 len0 cap0 200 l0 Y hl0 (hS0.kept hY) hc0 hm0 (by decide))
 obtain ⟨l, hl⟩ : ∃ l, l = l0.take 200 := ⟨_, rfl⟩
 rw [← hl] at hSl hll hlc HFb
 have HSl := hid hSl
 have HBd := hid (slB_bdt (p := w.heap.size) hSl rfl hlc hm0 (Nat.le_refl _))
 have HLL := hid hll
 have HWn := hid hWn
 have HWo := hid hWo
 have HN := hid (new17_any w h5 hg)
 have HGp := hid hgp
 have HGx := hid hg
 have HWa := hid (fun w => word17_any sa w (by omega))
 have HWb := hid (fun w => word17_any sb w (by omega))
 obtain ⟨i0, hi, hz0, hz1, hz2⟩ := info3 infoHd
 clear hSl hll hlc hl hWn hWo w0 h1 h2 h5 hgp hg hl0 hS0 hc0 hm0 hsa hsb
 go_enter Tryz.func5, Tryz.ntmps5
 go_wp2_with fail
 refine HN.out.mono ?_
 rintro e w1 ⟨rfl, hc1, hb1⟩
 have HS1 := hid (show StC w w1 ⟨[], 0⟩ from ⟨hc1, hb1, HGp.out.low HGx.out hb1⟩)
 clear hc1 hb1
 go_wp2_with fail
 refine (HWn.out _).mono ?_
 rintro e w2 ⟨rfl, hw2⟩
 rw [← hw2]
 clear hw2
 go_wp2_with fail
 refine (HWo.out _).mono ?_
 rintro e w2 ⟨rfl, hw2⟩
 rw [← hw2]
 clear hw2
 go_wp2_with fail
 refine (HWa.out _).mono ?_
 rintro e w2 ⟨X, rfl, hXw, hXl0, hw2⟩
 rw [← hw2]
 clear hw2 hXw
 go_wp2_with fail
 refine (HWb.out _).mono ?_
 rintro e w2 ⟨Y, rfl, hYw, hYl0, hw2⟩
 rw [← hw2]
 clear hw2 hYw
 have hXl : X.length ≤ 100 := by omega
 have hYl : Y.length ≤ 100 := by omega
 obtain ⟨XB, hXB⟩ : ∃ B : ByteArray, (⟨X.toArray⟩ : ByteArray) = B := ⟨_, rfl⟩
 obtain ⟨YB, hYB⟩ : ∃ B : ByteArray, (⟨Y.toArray⟩ : ByteArray) = B := ⟨_, rfl⟩
 have hXd : XB.data.toList = X := by rw [← hXB]
 have hYd : YB.data.toList = Y := by rw [← hYB]
 rw [hXB, hYB]
 go_wp2_with fail
 refine (HFb.out _ HS1.out.2.1).mono ?_
 rintro e w2 ⟨len2, rfl, _, rfl, _, hw2⟩
 rw [← hw2]
 clear hw2
 go_wp2_with fail
 refine (digits17_any n _ (by omega)).mono ?_
 rintro e w2 ⟨T, rfl, hT, hw2⟩
 rw [← hw2]
 clear hw2
 have DT := hid hT
 have lT : T.length ≤ 40 := hT.2.2.2
 have HApp := hid (show (⟨#[109, 97, 120, 45, 97, 103, 101, 61]⟩ : ByteArray) ++ ⟨T.toArray⟩ = ⟨(sMax ++ T).toArray⟩ from app17b sMax T)
 clear hT
 go_wp2_with fail
 rw [HApp.out]
 refine (cc17_any _ _).mono ?_
 rintro e w2 ⟨rfl, ho2, hb2⟩
 rw [xmk] at ho2
 have HO2 := hid ho2
 have HS2 := hid (HS1.out.below hb2)
 have HB2 := hid hb2
 have hs2 := hb2.size
 clear ho2 hb2
 go_wp2_with (at_builtin; go_must (refine wpList_append_own _ rfl _ _ 25 rfl w1.heap.size 30 i0 _ 2 32 Tryz.underlying25 hi hz0 hz1 hz2 rfl (by decide) _ _ _ rfl (HO2.out.alloc _) ⟨w2.heap.size, 0, none⟩ 1 1 [.string ⟨#[86, 97, 114, 121]⟩, .string ⟨#[65, 99, 99, 101, 112, 116, 45, 76, 97, 110, 103, 117, 97, 103, 101]⟩] rfl rfl ?c1 ?c2 ?c3 ?c4 ?c5 ?_))
 case c1 =>
  intro q u hq
  match q, hq with
  | 0, hq => simp at hq; subst hq; simp [Addr.add]
  | 1, hq => simp at hq; subst hq; simp [Addr.add]
 case c2 => intro u hu; simp at hu; rcases hu with rfl | rfl <;> rfl
 case c3 => unfold maxLen; omega
 case c4 => omega
 case c5 => simp; omega
 intro v3 w3 hown3 hgrow3 hnil3
 have hB3 : Below w1.heap.size w1 w3 := (HB2.out.alloc hs2 _).grown hgrow3 (by simp; omega) (fun g hg => (HO2.out.lt g hg).1)
 have HS3' := hid (HS1.out.below hB3)
 have HV3 := hid (show HdT w3 v3 (frH T) from own_hdt (L := frH T) hown3)
 obtain ⟨va, vc, rfl⟩ := own_sl16 hown3
 clear hown3 hgrow3 hnil3 hs2 hB3
 go_wp2_with fail
 obtain ⟨Wr, hWr⟩ : ∃ X, w3.alloc (.cells #[.int .i64 200, .slice va 2 vc, .slice q0 l.length cap0] 28) = X := ⟨_, rfl⟩
 have hzr : Wr.heap.size = w3.heap.size + 1 := by rw [← hWr]; exact alloc_sz17 _ _
 have hbr : Below w3.heap.size w3 Wr := by rw [← hWr]; exact (Below.refl _ w3).alloc (Nat.le_refl _) _
 have hla := lit_hdt Wr tAlL X ⟨#[97, 99, 99, 101, 112, 116, 45, 108, 97, 110, 103, 117, 97, 103, 101]⟩ XB rfl hXd
 obtain ⟨Ws, hWs⟩ : ∃ Z, Wr.alloc (.cells #[.string ⟨#[97, 99, 99, 101, 112, 116, 45, 108, 97, 110, 103, 117, 97, 103, 101]⟩, .string XB] 30) = Z := ⟨_, rfl⟩
 have hzs : Ws.heap.size = w3.heap.size + 1 + 1 := by rw [← hWs, ← hzr]; exact alloc_sz17 _ _
 have hbs : Below Wr.heap.size Wr Ws := by rw [← hWs]; exact (Below.refl _ Wr).alloc (Nat.le_refl _) _
 have hlb := lit_hdt Ws tAlU Y ⟨#[65, 99, 99, 101, 112, 116, 45, 76, 97, 110, 103, 117, 97, 103, 101]⟩ YB rfl hYd
 obtain ⟨Wa, hWa⟩ : ∃ Z, Ws.alloc (.cells #[.string ⟨#[65, 99, 99, 101, 112, 116, 45, 76, 97, 110, 103, 117, 97, 103, 101]⟩, .string YB] 30) = Z := ⟨_, rfl⟩
 have hba : Below Ws.heap.size Ws Wa := by rw [← hWa]; exact (Below.refl _ Ws).alloc (Nat.le_refl _) _
 rw [hWs, hzr] at hla
 rw [hWa, hzs] at hlb
 rw [hWr, hWs, hWa]
 have HSa := hid (HS3'.out.below (below2 (below2 hbr hbs) hba))
 have HAa := hid (hla.kept hba)
 have HBa := hid hlb
 have HVa := hid (HV3.out.kept (below2 (below2 hbr hbs) hba))
 clear hla hlb hba hbs hbr hzr hzs hWr hWs hWa
 refine (put_at17 w.heap.size Wa.heap.size ⟨[], 0⟩ (frC l T X) ⟨#[117]⟩ (.slice (some ⟨w3.heap.size + 1, 0, none⟩) 1 1) [⟨tAlL, X⟩] 200 (.slice va 2 vc) (.slice q0 l.length cap0) (frH T) l 100 true Wa HSa.out.1 (cagB_ok (by decide +kernel)) HAa.out (fr_szo _ _ (by decide) hXl) HVa.out (fr_hk T lT) (HBd.out.kept HSa.out.2.1) (by have := HLL.out; omega) (fr_ok l T X DT.out) (fr_put l T X DT.out)).mono ?_
 rintro e wp ⟨rfl, hcp, htp⟩
 have HSp := hid (HSa.out.turn hcp htp)
 have HHa := hid (HAa.out.tq htp)
 have HHb := hid (HBa.out.tq htp)
 clear hcp htp
 obtain ⟨Lf, Kf, hfa⟩ := fr_find l T X tAlL X (by decide) DT.out o ho rfl
 by_cases hon : o < n
 ·rw [if_pos hon] at hfa
  have HF1 := hid (find_at17 w.heap.size wp.heap.size (frC l T X) (frC l T X) ⟨#[117]⟩ (.slice (some ⟨w3.heap.size + 1, 0, none⟩) 1 1) [⟨tAlL, X⟩] (100 + o) 2 200 Lf Kf l wp HSp.out.1 (fr_cag l T X (by have := HLL.out; omega) lT) HHa.out (fr_szo _ _ (by decide) hXl) HSp.out.2.2 (by omega) hfa (fr_use l T X tAlL X (by decide)))
  clear hfa
  by_cases hXY : X = Y
  ·obtain ⟨Lg, Kg, hfe⟩ := fr_find l T X tAlU Y (by decide) DT.out o ho hXY
   rw [if_pos hon] at hfe
   have hBB : XB = YB := by rw [← hXB, ← hYB, hXY]
   clear hXB hYB hXd hYd
   subst hBB
   go_wp2_with fail
   refine HF1.out.mono ?_
   rintro e w4 ⟨a1, c1, a2, c2, a3, c3, M4, rfl, hc4, _, ho4, _, ht4⟩
   have HS4 := hid (HSp.out.turn hc4 ht4)
   have HB4 := hid (HHb.out.tq ht4)
   have HA4 := hid (HHa.out.tq ht4)
   have HO4 := hid ho4
   clear hc4 ho4 ht4
   obtain ⟨Wb, hWb⟩ : ∃ X, w4.alloc (.cells #[.int .i64 2, .int .i64 200, .slice a1 Lf.length c1, .slice a2 l.length c2, .slice a3 Kf.length c3] 33) = X := ⟨_, rfl⟩
   have hbb : Below w4.heap.size w4 Wb := by rw [← hWb]; exact (Below.refl _ w4).alloc (Nat.le_refl _) _
   have HSb := hid (HS4.out.below hbb)
   have HXb := hid (show Wb.heap[w4.heap.size]? = some (.cells #[.int .i64 2, .int .i64 200, .slice a1 Lf.length c1, .slice a2 l.length c2, .slice a3 Kf.length c3] 33 (0, 0)) by rw [← hWb]; exact heap_alloc_new w4 _)
   have HOb := hid (own_same HO4.out hbb)
   have HBb := hid (HB4.out.kept hbb)
   have HAb := hid (HA4.out.kept hbb)
   have HF2 := hid (find_at17 w.heap.size Wb.heap.size (frC l T X) (frC l T X) ⟨#[117]⟩ (.slice (some ⟨w3.heap.size + 1 + 1, 0, none⟩) 1 1) [⟨tAlU, Y⟩] (100 + o) 2 200 Lg Kg l Wb HSb.out.1 (fr_cag l T X (by have := HLL.out; omega) lT) HBb.out (fr_szo _ _ (by decide) hYl) HSb.out.2.2 (by omega) hfe (fr_use l T X tAlU Y (by decide)))
   clear hbb
   go_wp2_with fail
   refine HF2.out.mono ?_
   rintro e w5 ⟨b1, d1, b2, d2, b3, d3, M5, rfl, hc5, _, _, _, ht5⟩
   clear hWb
   have HS5 := hid (HSb.out.turn hc5 ht5)
   have HA5 := hid (HAb.out.tq ht5)
   have hx5 := (ht5.2 _ _ _ _ HXb.out (by decide) (by decide)).trans HXb.out
   have ho5 := ht5.own HOb.out (by decide) (by decide)
   clear hc5 ht5
   obtain ⟨Wc, hWc⟩ : ∃ X, w5.alloc (.cells #[.int .i64 2, .int .i64 200, .slice b1 Lg.length d1, .slice b2 l.length d2, .slice b3 Kg.length d3] 33) = X := ⟨_, rfl⟩
   have hbc : Below w5.heap.size w5 Wc := by rw [← hWc]; exact (Below.refl _ w5).alloc (Nat.le_refl _) _
   have HSc := hid (HS5.out.below hbc)
   have HAc := hid (HA5.out.kept hbc)
   have hxc := (hbc.block _ (Array.getElem?_eq_some_iff.1 hx5).1).trans hx5
   have hyc : Wc.heap[w5.heap.size]? = some (.cells #[.int .i64 2, .int .i64 200, .slice b1 Lg.length d1, .slice b2 l.length d2, .slice b3 Kg.length d3] 33 (0, 0)) := by rw [← hWc]; exact heap_alloc_new w5 _
   have hoc := own_same ho5 hbc
   have f0 : Wc.cell? ⟨w4.heap.size, 0, none⟩ = some (.int .i64 2) := by rw [Lib.cell_of_heap hxc]; rfl
   have f3 : Wc.cell? ⟨w4.heap.size, 3, none⟩ = some (.slice a2 l.length c2) := by rw [Lib.cell_of_heap hxc]; rfl
   have g0 : Wc.cell? ⟨w5.heap.size, 0, none⟩ = some (.int .i64 2) := by rw [Lib.cell_of_heap hyc]; rfl
   have e1 : (convert 26 9 (.slice a2 l.length c2)).run Tryz.prog Wc = .ok (.string ⟨l.toArray⟩) Wc := (own_slB hoc).string (P := Tryz.prog) Tryz.underlying26 Tryz.underlying5 Tryz.underlying9
   have e3 : (convert 26 9 (.slice q0 l.length cap0)).run Tryz.prog Wc = .ok (.string ⟨l.toArray⟩) Wc := (HSl.out.kept (HSc.out.2.1)).string (P := Tryz.prog) Tryz.underlying26 Tryz.underlying5 Tryz.underlying9
   have HF3 := hid (find_at17 w.heap.size Wc.heap.size (frC l T X) (frC l T X) ⟨#[118]⟩ (.slice (some ⟨w3.heap.size + 1, 0, none⟩) 1 1) [⟨tAlL, X⟩] 100 0 0 [] [] [] Wc HSc.out.1 (fr_cag l T X (by have := HLL.out; omega) lT) HAc.out (fr_szo _ _ (by decide) hXl) HSc.out.2.2 (by omega) (fr_other l T X tAlL X (by decide) 100).1 (fr_other l T X tAlL X (by decide) 100).2)
   clear hbc hxc hyc hoc hx5 ho5
   go_wp2_with fail
   refine HF3.out.mono ?_
   clear hWc f0 f3 g0 e1 e3
   rintro e w6 ⟨g1, i1, g2, i2, g3, i3, M6, rfl, hc6, _, _, _, ht6⟩
   have HS6 := hid (HSc.out.turn hc6 ht6)
   have HA6 := hid (HAc.out.tq ht6)
   clear hc6 ht6
   have hf6 : ∀ w, (Instr.field 33 (.agg #[.int .i64 0, .int .i64 0, .slice g1 0 i1, .slice g2 0 i2, .slice g3 0 i3]) 0).run Tryz.prog w = .ok (.int .i64 0) w := fun w => field_fo0 0 0 g1 g2 g3 0 0 0 i1 i2 i3 w
   have HD := hid (drop17_any w.heap.size w6.heap.size (frC l T X) ⟨#[117]⟩ w6 HS6.out.1 (by simp [frC]))
   rw [show (⟨#[117]⟩ : ByteArray).data.toList = uU from rfl, fr_drop] at HD
   go_wp2_with fail
   refine HD.out.mono ?_
   rintro e w7 ⟨rfl, hc7, ht7⟩
   have HS7 := hid (HS6.out.turn hc7 ht7)
   have HA7 := hid (HA6.out.tq ht7)
   have hn7 : ((frC l T X).rows.length : Int) - (([] : List RowC).length : Int) = 1 := by simp [frC]
   clear hc7 ht7
   rw [hn7]
   have HF4 := hid (find_at17 w.heap.size w7.heap.size ⟨[], 1⟩ ⟨[], 1⟩ ⟨#[117]⟩ (.slice (some ⟨w3.heap.size + 1, 0, none⟩) 1 1) [⟨tAlL, X⟩] 100 0 0 [] [] [] w7 HS7.out.1 (cagB_ok (by decide +kernel)) HA7.out (fr_szo _ _ (by decide) hXl) HS7.out.2.2 (by omega) (fr_none uU tAlL X 100).1 (fr_none uU tAlL X 100).2)
   go_wp2_with fail
   refine HF4.out.mono ?_
   rintro e w8 ⟨j1, k1, j2, k2, j3, k3, M8, rfl, hc8, _, _, _, ht8⟩
   have HS8 := hid (HS7.out.turn hc8 ht8)
   clear hc8 ht8
   have hf8 : ∀ w, (Instr.field 33 (.agg #[.int .i64 0, .int .i64 0, .slice j1 0 k1, .slice j2 0 k2, .slice j3 0 k3]) 0).run Tryz.prog w = .ok (.int .i64 0) w := fun w => field_fo0 0 0 j1 j2 j3 0 0 0 k1 k2 k3 w
   have HL8 := hid (len17_any w.heap.size w8.heap.size ⟨[], 1⟩ w8 HS8.out.1)
   have HK := hid HS8.out.known
   go_wp2_with fail
   refine HL8.out.mono ?_
   rintro e w9 ⟨rfl, rfl⟩
   go_wp2_with fail
   refine HK.out.mono ?_
   rintro e w10 ⟨rfl, hb10⟩
   go_wp2_with fail
   go_ret
   exact ⟨rfl, hb10⟩

  ·have hNB : ¬ XB = YB := fun e => hXY (by rw [← hXd, ← hYd, e])
   have hNB4 : (X == Y) = false := by rw [beq_eq_false_iff_ne]; exact hXY
   have hNB3 : (XB.data.toList == YB.data.toList) = false := by rw [hXd, hYd]; exact hNB4
   have hNB2 : (XB.toList == YB.toList) = false := by rw [ByteArray.toList_eq, ByteArray.toList_eq]; exact hNB3
   go_wp2_with fail
   refine HF1.out.mono ?_
   rintro e w4 ⟨a1, c1, a2, c2, a3, c3, M4, rfl, hc4, _, ho4, _, ht4⟩
   have HS4 := hid (HSp.out.turn hc4 ht4)
   have HB4 := hid (HHb.out.tq ht4)
   have HA4 := hid (HHa.out.tq ht4)
   have HO4 := hid ho4
   clear hc4 ho4 ht4
   obtain ⟨Wb, hWb⟩ : ∃ X, w4.alloc (.cells #[.int .i64 2, .int .i64 200, .slice a1 Lf.length c1, .slice a2 l.length c2, .slice a3 Kf.length c3] 33) = X := ⟨_, rfl⟩
   have hbb : Below w4.heap.size w4 Wb := by rw [← hWb]; exact (Below.refl _ w4).alloc (Nat.le_refl _) _
   have HSb := hid (HS4.out.below hbb)
   have HXb := hid (show Wb.heap[w4.heap.size]? = some (.cells #[.int .i64 2, .int .i64 200, .slice a1 Lf.length c1, .slice a2 l.length c2, .slice a3 Kf.length c3] 33 (0, 0)) by rw [← hWb]; exact heap_alloc_new w4 _)
   have HOb := hid (own_same HO4.out hbb)
   have HBb := hid (HB4.out.kept hbb)
   have HAb := hid (HA4.out.kept hbb)
   have HF2 := hid (find_at17 w.heap.size Wb.heap.size (frC l T X) (frC l T X) ⟨#[117]⟩ (.slice (some ⟨w3.heap.size + 1 + 1, 0, none⟩) 1 1) [⟨tAlU, Y⟩] (100 + o) 0 0 [] [] [] Wb HSb.out.1 (fr_cag l T X (by have := HLL.out; omega) lT) HBb.out (fr_szo _ _ (by decide) hYl) HSb.out.2.2 (by omega) (fr_lost l T X tAlU Y (by decide) (100 + o) hXY) (fr_use l T X tAlU Y (by decide)))
   clear hbb
   go_wp2_with fail
   refine HF2.out.mono ?_
   rintro e w5 ⟨b1, d1, b2, d2, b3, d3, M5, rfl, hc5, _, _, _, ht5⟩
   clear hWb
   have HS5 := hid (HSb.out.turn hc5 ht5)
   have HA5 := hid (HAb.out.tq ht5)
   have hx5 := (ht5.2 _ _ _ _ HXb.out (by decide) (by decide)).trans HXb.out
   have ho5 := ht5.own HOb.out (by decide) (by decide)
   clear hc5 ht5
   obtain ⟨Wc, hWc⟩ : ∃ X, w5.alloc (.cells #[.int .i64 0, .int .i64 0, .slice b1 0 d1, .slice b2 0 d2, .slice b3 0 d3] 33) = X := ⟨_, rfl⟩
   have hbc : Below w5.heap.size w5 Wc := by rw [← hWc]; exact (Below.refl _ w5).alloc (Nat.le_refl _) _
   have HSc := hid (HS5.out.below hbc)
   have HAc := hid (HA5.out.kept hbc)
   have hxc := (hbc.block _ (Array.getElem?_eq_some_iff.1 hx5).1).trans hx5
   have hyc : Wc.heap[w5.heap.size]? = some (.cells #[.int .i64 0, .int .i64 0, .slice b1 0 d1, .slice b2 0 d2, .slice b3 0 d3] 33 (0, 0)) := by rw [← hWc]; exact heap_alloc_new w5 _
   have hoc := own_same ho5 hbc
   have f0 : Wc.cell? ⟨w4.heap.size, 0, none⟩ = some (.int .i64 2) := by rw [Lib.cell_of_heap hxc]; rfl
   have f3 : Wc.cell? ⟨w4.heap.size, 3, none⟩ = some (.slice a2 l.length c2) := by rw [Lib.cell_of_heap hxc]; rfl
   have g0 : Wc.cell? ⟨w5.heap.size, 0, none⟩ = some (.int .i64 0) := by rw [Lib.cell_of_heap hyc]; rfl
   have e1 : (convert 26 9 (.slice a2 l.length c2)).run Tryz.prog Wc = .ok (.string ⟨l.toArray⟩) Wc := (own_slB hoc).string (P := Tryz.prog) Tryz.underlying26 Tryz.underlying5 Tryz.underlying9
   have e3 : (convert 26 9 (.slice q0 l.length cap0)).run Tryz.prog Wc = .ok (.string ⟨l.toArray⟩) Wc := (HSl.out.kept (HSc.out.2.1)).string (P := Tryz.prog) Tryz.underlying26 Tryz.underlying5 Tryz.underlying9
   have HF3 := hid (find_at17 w.heap.size Wc.heap.size (frC l T X) (frC l T X) ⟨#[118]⟩ (.slice (some ⟨w3.heap.size + 1, 0, none⟩) 1 1) [⟨tAlL, X⟩] 100 0 0 [] [] [] Wc HSc.out.1 (fr_cag l T X (by have := HLL.out; omega) lT) HAc.out (fr_szo _ _ (by decide) hXl) HSc.out.2.2 (by omega) (fr_other l T X tAlL X (by decide) 100).1 (fr_other l T X tAlL X (by decide) 100).2)
   clear hbc hxc hyc hoc hx5 ho5
   go_wp2_with fail
   refine HF3.out.mono ?_
   clear hWc f0 f3 g0 e1 e3
   rintro e w6 ⟨g1, i1, g2, i2, g3, i3, M6, rfl, hc6, _, _, _, ht6⟩
   have HS6 := hid (HSc.out.turn hc6 ht6)
   have HA6 := hid (HAc.out.tq ht6)
   clear hc6 ht6
   have hf6 : ∀ w, (Instr.field 33 (.agg #[.int .i64 0, .int .i64 0, .slice g1 0 i1, .slice g2 0 i2, .slice g3 0 i3]) 0).run Tryz.prog w = .ok (.int .i64 0) w := fun w => field_fo0 0 0 g1 g2 g3 0 0 0 i1 i2 i3 w
   have HD := hid (drop17_any w.heap.size w6.heap.size (frC l T X) ⟨#[117]⟩ w6 HS6.out.1 (by simp [frC]))
   rw [show (⟨#[117]⟩ : ByteArray).data.toList = uU from rfl, fr_drop] at HD
   go_wp2_with fail
   refine HD.out.mono ?_
   rintro e w7 ⟨rfl, hc7, ht7⟩
   have HS7 := hid (HS6.out.turn hc7 ht7)
   have HA7 := hid (HA6.out.tq ht7)
   have hn7 : ((frC l T X).rows.length : Int) - (([] : List RowC).length : Int) = 1 := by simp [frC]
   clear hc7 ht7
   rw [hn7]
   have HF4 := hid (find_at17 w.heap.size w7.heap.size ⟨[], 1⟩ ⟨[], 1⟩ ⟨#[117]⟩ (.slice (some ⟨w3.heap.size + 1, 0, none⟩) 1 1) [⟨tAlL, X⟩] 100 0 0 [] [] [] w7 HS7.out.1 (cagB_ok (by decide +kernel)) HA7.out (fr_szo _ _ (by decide) hXl) HS7.out.2.2 (by omega) (fr_none uU tAlL X 100).1 (fr_none uU tAlL X 100).2)
   go_wp2_with fail
   refine HF4.out.mono ?_
   rintro e w8 ⟨j1, k1, j2, k2, j3, k3, M8, rfl, hc8, _, _, _, ht8⟩
   have HS8 := hid (HS7.out.turn hc8 ht8)
   clear hc8 ht8
   have hf8 : ∀ w, (Instr.field 33 (.agg #[.int .i64 0, .int .i64 0, .slice j1 0 k1, .slice j2 0 k2, .slice j3 0 k3]) 0).run Tryz.prog w = .ok (.int .i64 0) w := fun w => field_fo0 0 0 j1 j2 j3 0 0 0 k1 k2 k3 w
   have HL8 := hid (len17_any w.heap.size w8.heap.size ⟨[], 1⟩ w8 HS8.out.1)
   have HK := hid HS8.out.known
   go_wp2_with fail
   refine HL8.out.mono ?_
   rintro e w9 ⟨rfl, rfl⟩
   go_wp2_with fail
   refine HK.out.mono ?_
   rintro e w10 ⟨rfl, hb10⟩
   go_wp2_with fail
   go_ret
   exact ⟨rfl, hb10⟩

 ·rw [if_neg hon] at hfa
  have hno : n ≤ o := by omega
  have HF1 := hid (find_at17 w.heap.size wp.heap.size (frC l T X) (frC l T X) ⟨#[117]⟩ (.slice (some ⟨w3.heap.size + 1, 0, none⟩) 1 1) [⟨tAlL, X⟩] (100 + o) 1 200 Lf Kf l wp HSp.out.1 (fr_cag l T X (by have := HLL.out; omega) lT) HHa.out (fr_szo _ _ (by decide) hXl) HSp.out.2.2 (by omega) hfa (fr_use l T X tAlL X (by decide)))
  clear hfa
  by_cases hXY : X = Y
  ·obtain ⟨Lg, Kg, hfe⟩ := fr_find l T X tAlU Y (by decide) DT.out o ho hXY
   rw [if_neg hon] at hfe
   have hBB : XB = YB := by rw [← hXB, ← hYB, hXY]
   clear hXB hYB hXd hYd
   subst hBB
   go_wp2_with fail
   refine HF1.out.mono ?_
   rintro e w4 ⟨a1, c1, a2, c2, a3, c3, M4, rfl, hc4, _, ho4, _, ht4⟩
   have HS4 := hid (HSp.out.turn hc4 ht4)
   have HB4 := hid (HHb.out.tq ht4)
   have HA4 := hid (HHa.out.tq ht4)
   have HO4 := hid ho4
   clear hc4 ho4 ht4
   obtain ⟨Wb, hWb⟩ : ∃ X, w4.alloc (.cells #[.int .i64 1, .int .i64 200, .slice a1 Lf.length c1, .slice a2 l.length c2, .slice a3 Kf.length c3] 33) = X := ⟨_, rfl⟩
   have hbb : Below w4.heap.size w4 Wb := by rw [← hWb]; exact (Below.refl _ w4).alloc (Nat.le_refl _) _
   have HSb := hid (HS4.out.below hbb)
   have HXb := hid (show Wb.heap[w4.heap.size]? = some (.cells #[.int .i64 1, .int .i64 200, .slice a1 Lf.length c1, .slice a2 l.length c2, .slice a3 Kf.length c3] 33 (0, 0)) by rw [← hWb]; exact heap_alloc_new w4 _)
   have HOb := hid (own_same HO4.out hbb)
   have HBb := hid (HB4.out.kept hbb)
   have HAb := hid (HA4.out.kept hbb)
   have HF2 := hid (find_at17 w.heap.size Wb.heap.size (frC l T X) (frC l T X) ⟨#[117]⟩ (.slice (some ⟨w3.heap.size + 1 + 1, 0, none⟩) 1 1) [⟨tAlU, Y⟩] (100 + o) 1 200 Lg Kg l Wb HSb.out.1 (fr_cag l T X (by have := HLL.out; omega) lT) HBb.out (fr_szo _ _ (by decide) hYl) HSb.out.2.2 (by omega) hfe (fr_use l T X tAlU Y (by decide)))
   clear hbb
   go_wp2_with fail
   refine HF2.out.mono ?_
   rintro e w5 ⟨b1, d1, b2, d2, b3, d3, M5, rfl, hc5, _, _, _, ht5⟩
   clear hWb
   have HS5 := hid (HSb.out.turn hc5 ht5)
   have HA5 := hid (HAb.out.tq ht5)
   have hx5 := (ht5.2 _ _ _ _ HXb.out (by decide) (by decide)).trans HXb.out
   have ho5 := ht5.own HOb.out (by decide) (by decide)
   clear hc5 ht5
   obtain ⟨Wc, hWc⟩ : ∃ X, w5.alloc (.cells #[.int .i64 1, .int .i64 200, .slice b1 Lg.length d1, .slice b2 l.length d2, .slice b3 Kg.length d3] 33) = X := ⟨_, rfl⟩
   have hbc : Below w5.heap.size w5 Wc := by rw [← hWc]; exact (Below.refl _ w5).alloc (Nat.le_refl _) _
   have HSc := hid (HS5.out.below hbc)
   have HAc := hid (HA5.out.kept hbc)
   have hxc := (hbc.block _ (Array.getElem?_eq_some_iff.1 hx5).1).trans hx5
   have hyc : Wc.heap[w5.heap.size]? = some (.cells #[.int .i64 1, .int .i64 200, .slice b1 Lg.length d1, .slice b2 l.length d2, .slice b3 Kg.length d3] 33 (0, 0)) := by rw [← hWc]; exact heap_alloc_new w5 _
   have hoc := own_same ho5 hbc
   have f0 : Wc.cell? ⟨w4.heap.size, 0, none⟩ = some (.int .i64 1) := by rw [Lib.cell_of_heap hxc]; rfl
   have f3 : Wc.cell? ⟨w4.heap.size, 3, none⟩ = some (.slice a2 l.length c2) := by rw [Lib.cell_of_heap hxc]; rfl
   have g0 : Wc.cell? ⟨w5.heap.size, 0, none⟩ = some (.int .i64 1) := by rw [Lib.cell_of_heap hyc]; rfl
   have e1 : (convert 26 9 (.slice a2 l.length c2)).run Tryz.prog Wc = .ok (.string ⟨l.toArray⟩) Wc := (own_slB hoc).string (P := Tryz.prog) Tryz.underlying26 Tryz.underlying5 Tryz.underlying9
   have e3 : (convert 26 9 (.slice q0 l.length cap0)).run Tryz.prog Wc = .ok (.string ⟨l.toArray⟩) Wc := (HSl.out.kept (HSc.out.2.1)).string (P := Tryz.prog) Tryz.underlying26 Tryz.underlying5 Tryz.underlying9
   have HF3 := hid (find_at17 w.heap.size Wc.heap.size (frC l T X) (frC l T X) ⟨#[118]⟩ (.slice (some ⟨w3.heap.size + 1, 0, none⟩) 1 1) [⟨tAlL, X⟩] 100 0 0 [] [] [] Wc HSc.out.1 (fr_cag l T X (by have := HLL.out; omega) lT) HAc.out (fr_szo _ _ (by decide) hXl) HSc.out.2.2 (by omega) (fr_other l T X tAlL X (by decide) 100).1 (fr_other l T X tAlL X (by decide) 100).2)
   clear hbc hxc hyc hoc hx5 ho5
   go_wp2_with fail
   refine HF3.out.mono ?_
   clear hWc f0 f3 g0 e1 e3
   rintro e w6 ⟨g1, i1, g2, i2, g3, i3, M6, rfl, hc6, _, _, _, ht6⟩
   have HS6 := hid (HSc.out.turn hc6 ht6)
   have HA6 := hid (HAc.out.tq ht6)
   clear hc6 ht6
   have hf6 : ∀ w, (Instr.field 33 (.agg #[.int .i64 0, .int .i64 0, .slice g1 0 i1, .slice g2 0 i2, .slice g3 0 i3]) 0).run Tryz.prog w = .ok (.int .i64 0) w := fun w => field_fo0 0 0 g1 g2 g3 0 0 0 i1 i2 i3 w
   have HD := hid (drop17_any w.heap.size w6.heap.size (frC l T X) ⟨#[117]⟩ w6 HS6.out.1 (by simp [frC]))
   rw [show (⟨#[117]⟩ : ByteArray).data.toList = uU from rfl, fr_drop] at HD
   go_wp2_with fail
   refine HD.out.mono ?_
   rintro e w7 ⟨rfl, hc7, ht7⟩
   have HS7 := hid (HS6.out.turn hc7 ht7)
   have HA7 := hid (HA6.out.tq ht7)
   have hn7 : ((frC l T X).rows.length : Int) - (([] : List RowC).length : Int) = 1 := by simp [frC]
   clear hc7 ht7
   rw [hn7]
   have HF4 := hid (find_at17 w.heap.size w7.heap.size ⟨[], 1⟩ ⟨[], 1⟩ ⟨#[117]⟩ (.slice (some ⟨w3.heap.size + 1, 0, none⟩) 1 1) [⟨tAlL, X⟩] 100 0 0 [] [] [] w7 HS7.out.1 (cagB_ok (by decide +kernel)) HA7.out (fr_szo _ _ (by decide) hXl) HS7.out.2.2 (by omega) (fr_none uU tAlL X 100).1 (fr_none uU tAlL X 100).2)
   go_wp2_with fail
   refine HF4.out.mono ?_
   rintro e w8 ⟨j1, k1, j2, k2, j3, k3, M8, rfl, hc8, _, _, _, ht8⟩
   have HS8 := hid (HS7.out.turn hc8 ht8)
   clear hc8 ht8
   have hf8 : ∀ w, (Instr.field 33 (.agg #[.int .i64 0, .int .i64 0, .slice j1 0 k1, .slice j2 0 k2, .slice j3 0 k3]) 0).run Tryz.prog w = .ok (.int .i64 0) w := fun w => field_fo0 0 0 j1 j2 j3 0 0 0 k1 k2 k3 w
   have HL8 := hid (len17_any w.heap.size w8.heap.size ⟨[], 1⟩ w8 HS8.out.1)
   have HK := hid HS8.out.known
   go_wp2_with fail
   refine HL8.out.mono ?_
   rintro e w9 ⟨rfl, rfl⟩
   go_wp2_with fail
   refine HK.out.mono ?_
   rintro e w10 ⟨rfl, hb10⟩
   go_wp2_with fail
   go_ret
   exact ⟨rfl, hb10⟩

  ·have hNB : ¬ XB = YB := fun e => hXY (by rw [← hXd, ← hYd, e])
   have hNB4 : (X == Y) = false := by rw [beq_eq_false_iff_ne]; exact hXY
   have hNB3 : (XB.data.toList == YB.data.toList) = false := by rw [hXd, hYd]; exact hNB4
   have hNB2 : (XB.toList == YB.toList) = false := by rw [ByteArray.toList_eq, ByteArray.toList_eq]; exact hNB3
   go_wp2_with fail
   refine HF1.out.mono ?_
   rintro e w4 ⟨a1, c1, a2, c2, a3, c3, M4, rfl, hc4, _, ho4, _, ht4⟩
   have HS4 := hid (HSp.out.turn hc4 ht4)
   have HB4 := hid (HHb.out.tq ht4)
   have HA4 := hid (HHa.out.tq ht4)
   have HO4 := hid ho4
   clear hc4 ho4 ht4
   obtain ⟨Wb, hWb⟩ : ∃ X, w4.alloc (.cells #[.int .i64 1, .int .i64 200, .slice a1 Lf.length c1, .slice a2 l.length c2, .slice a3 Kf.length c3] 33) = X := ⟨_, rfl⟩
   have hbb : Below w4.heap.size w4 Wb := by rw [← hWb]; exact (Below.refl _ w4).alloc (Nat.le_refl _) _
   have HSb := hid (HS4.out.below hbb)
   have HXb := hid (show Wb.heap[w4.heap.size]? = some (.cells #[.int .i64 1, .int .i64 200, .slice a1 Lf.length c1, .slice a2 l.length c2, .slice a3 Kf.length c3] 33 (0, 0)) by rw [← hWb]; exact heap_alloc_new w4 _)
   have HOb := hid (own_same HO4.out hbb)
   have HBb := hid (HB4.out.kept hbb)
   have HAb := hid (HA4.out.kept hbb)
   have HF2 := hid (find_at17 w.heap.size Wb.heap.size (frC l T X) (frC l T X) ⟨#[117]⟩ (.slice (some ⟨w3.heap.size + 1 + 1, 0, none⟩) 1 1) [⟨tAlU, Y⟩] (100 + o) 0 0 [] [] [] Wb HSb.out.1 (fr_cag l T X (by have := HLL.out; omega) lT) HBb.out (fr_szo _ _ (by decide) hYl) HSb.out.2.2 (by omega) (fr_lost l T X tAlU Y (by decide) (100 + o) hXY) (fr_use l T X tAlU Y (by decide)))
   clear hbb
   go_wp2_with fail
   refine HF2.out.mono ?_
   rintro e w5 ⟨b1, d1, b2, d2, b3, d3, M5, rfl, hc5, _, _, _, ht5⟩
   clear hWb
   have HS5 := hid (HSb.out.turn hc5 ht5)
   have HA5 := hid (HAb.out.tq ht5)
   have hx5 := (ht5.2 _ _ _ _ HXb.out (by decide) (by decide)).trans HXb.out
   have ho5 := ht5.own HOb.out (by decide) (by decide)
   clear hc5 ht5
   obtain ⟨Wc, hWc⟩ : ∃ X, w5.alloc (.cells #[.int .i64 0, .int .i64 0, .slice b1 0 d1, .slice b2 0 d2, .slice b3 0 d3] 33) = X := ⟨_, rfl⟩
   have hbc : Below w5.heap.size w5 Wc := by rw [← hWc]; exact (Below.refl _ w5).alloc (Nat.le_refl _) _
   have HSc := hid (HS5.out.below hbc)
   have HAc := hid (HA5.out.kept hbc)
   have hxc := (hbc.block _ (Array.getElem?_eq_some_iff.1 hx5).1).trans hx5
   have hyc : Wc.heap[w5.heap.size]? = some (.cells #[.int .i64 0, .int .i64 0, .slice b1 0 d1, .slice b2 0 d2, .slice b3 0 d3] 33 (0, 0)) := by rw [← hWc]; exact heap_alloc_new w5 _
   have hoc := own_same ho5 hbc
   have f0 : Wc.cell? ⟨w4.heap.size, 0, none⟩ = some (.int .i64 1) := by rw [Lib.cell_of_heap hxc]; rfl
   have f3 : Wc.cell? ⟨w4.heap.size, 3, none⟩ = some (.slice a2 l.length c2) := by rw [Lib.cell_of_heap hxc]; rfl
   have g0 : Wc.cell? ⟨w5.heap.size, 0, none⟩ = some (.int .i64 0) := by rw [Lib.cell_of_heap hyc]; rfl
   have e1 : (convert 26 9 (.slice a2 l.length c2)).run Tryz.prog Wc = .ok (.string ⟨l.toArray⟩) Wc := (own_slB hoc).string (P := Tryz.prog) Tryz.underlying26 Tryz.underlying5 Tryz.underlying9
   have e3 : (convert 26 9 (.slice q0 l.length cap0)).run Tryz.prog Wc = .ok (.string ⟨l.toArray⟩) Wc := (HSl.out.kept (HSc.out.2.1)).string (P := Tryz.prog) Tryz.underlying26 Tryz.underlying5 Tryz.underlying9
   have HF3 := hid (find_at17 w.heap.size Wc.heap.size (frC l T X) (frC l T X) ⟨#[118]⟩ (.slice (some ⟨w3.heap.size + 1, 0, none⟩) 1 1) [⟨tAlL, X⟩] 100 0 0 [] [] [] Wc HSc.out.1 (fr_cag l T X (by have := HLL.out; omega) lT) HAc.out (fr_szo _ _ (by decide) hXl) HSc.out.2.2 (by omega) (fr_other l T X tAlL X (by decide) 100).1 (fr_other l T X tAlL X (by decide) 100).2)
   clear hbc hxc hyc hoc hx5 ho5
   go_wp2_with fail
   refine HF3.out.mono ?_
   clear hWc f0 f3 g0 e1 e3
   rintro e w6 ⟨g1, i1, g2, i2, g3, i3, M6, rfl, hc6, _, _, _, ht6⟩
   have HS6 := hid (HSc.out.turn hc6 ht6)
   have HA6 := hid (HAc.out.tq ht6)
   clear hc6 ht6
   have hf6 : ∀ w, (Instr.field 33 (.agg #[.int .i64 0, .int .i64 0, .slice g1 0 i1, .slice g2 0 i2, .slice g3 0 i3]) 0).run Tryz.prog w = .ok (.int .i64 0) w := fun w => field_fo0 0 0 g1 g2 g3 0 0 0 i1 i2 i3 w
   have HD := hid (drop17_any w.heap.size w6.heap.size (frC l T X) ⟨#[117]⟩ w6 HS6.out.1 (by simp [frC]))
   rw [show (⟨#[117]⟩ : ByteArray).data.toList = uU from rfl, fr_drop] at HD
   go_wp2_with fail
   refine HD.out.mono ?_
   rintro e w7 ⟨rfl, hc7, ht7⟩
   have HS7 := hid (HS6.out.turn hc7 ht7)
   have HA7 := hid (HA6.out.tq ht7)
   have hn7 : ((frC l T X).rows.length : Int) - (([] : List RowC).length : Int) = 1 := by simp [frC]
   clear hc7 ht7
   rw [hn7]
   have HF4 := hid (find_at17 w.heap.size w7.heap.size ⟨[], 1⟩ ⟨[], 1⟩ ⟨#[117]⟩ (.slice (some ⟨w3.heap.size + 1, 0, none⟩) 1 1) [⟨tAlL, X⟩] 100 0 0 [] [] [] w7 HS7.out.1 (cagB_ok (by decide +kernel)) HA7.out (fr_szo _ _ (by decide) hXl) HS7.out.2.2 (by omega) (fr_none uU tAlL X 100).1 (fr_none uU tAlL X 100).2)
   go_wp2_with fail
   refine HF4.out.mono ?_
   rintro e w8 ⟨j1, k1, j2, k2, j3, k3, M8, rfl, hc8, _, _, _, ht8⟩
   have HS8 := hid (HS7.out.turn hc8 ht8)
   clear hc8 ht8
   have hf8 : ∀ w, (Instr.field 33 (.agg #[.int .i64 0, .int .i64 0, .slice j1 0 k1, .slice j2 0 k2, .slice j3 0 k3]) 0).run Tryz.prog w = .ok (.int .i64 0) w := fun w => field_fo0 0 0 j1 j2 j3 0 0 0 k1 k2 k3 w
   have HL8 := hid (len17_any w.heap.size w8.heap.size ⟨[], 1⟩ w8 HS8.out.1)
   have HK := hid HS8.out.known
   go_wp2_with fail
   refine HL8.out.mono ?_
   rintro e w9 ⟨rfl, rfl⟩
   go_wp2_with fail
   refine HK.out.mono ?_
   rintro e w10 ⟨rfl, hb10⟩
   go_wp2_with fail
   go_ret
   exact ⟨rfl, hb10⟩

end Go.Proofs.YtfcmonjfcnfjoaaGreatDoor
