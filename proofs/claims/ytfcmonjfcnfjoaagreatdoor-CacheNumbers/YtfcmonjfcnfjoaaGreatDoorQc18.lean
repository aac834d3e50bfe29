/-
  Walks and plain facts that this claim leans on, put together out of 3 texts: Ehw, Ehp, Ehz.
-/
import Derived.Test.YtfcmonjfcnfjoaaGreatDoorProg
import Derived.Test.YtfcmonjfcnfjoaaGreatDoorTie
import Derived.Test.YtfcmonjfcnfjoaaGreatDoorQc1
import Derived.Test.YtfcmonjfcnfjoaaGreatDoorQc2
import Derived.Test.YtfcmonjfcnfjoaaGreatDoorQc3
import Derived.Test.YtfcmonjfcnfjoaaGreatDoorQc4
import Derived.Test.YtfcmonjfcnfjoaaGreatDoorQc5
import Derived.Test.YtfcmonjfcnfjoaaGreatDoorQc6
import Derived.Test.YtfcmonjfcnfjoaaGreatDoorQc7
import Derived.Test.YtfcmonjfcnfjoaaGreatDoorQc8
import Derived.Test.YtfcmonjfcnfjoaaGreatDoorQc9
import Derived.Test.YtfcmonjfcnfjoaaGreatDoorQc10
import Derived.Test.YtfcmonjfcnfjoaaGreatDoorQc11
import Derived.Test.YtfcmonjfcnfjoaaGreatDoorQc12
import Derived.Test.YtfcmonjfcnfjoaaGreatDoorQc14
import Derived.Test.YtfcmonjfcnfjoaaGreatDoorQc16
import Derived.Test.YtfcmonjfcnfjoaaGreatDoorQc17
import Derived.BigRegion
import Derived.Deep.RegionHeld
import Derived.Deep.RegionHeldLaw
import Derived.Lib.IndexAny
import Derived.WalkKit
import Derived.Lib.UnsafeStr
import Derived.Lib.BufferRead
import Derived.Lib.RuneBytes
import Derived.Laws.RangeAny
import Derived.Deep.LoopGhost
import Derived.Maps.OwnSet
import Derived.Maps.OwnOps
import Derived.Maps.AppendAt
import Derived.StringKeys
import Derived.BigQuiet
import Derived.Deep.QuietTactic
import Derived.LoopN
import Derived.RegionTactic
import Derived.Deep.RegionLaw
import Derived.Deep.RegionWith
import Derived.WalkSpells
import Derived.WalkLawsBesides
import Derived.Lib.FieldsP
import Derived.Lib.DecodeN
import Derived.Lib.IndexMore
import Derived.Lib.Join
import Derived.Lib.SmallJoins
import Derived.Laws.CopyOwn
import Derived.Laws.ResultCell
import Derived.Deep.MidRow
import Derived.Laws.OwnMore
import Derived.Below
import Derived.WalkSmall
import Derived.Lib.LaidTab
import Derived.Lib.AppendIntMem
import Derived.Laws.AppendOwn
import Derived.Laws.Runes
import Derived.Lib.OthersKept
import Derived.Lib.FrozenHead2
import Derived.Lib.Builder
import Derived.Lib.AppendStr
import Derived.Lib.Replace
import Derived.Shelf.GgClosure.GivesRunes
import Derived.Laws.BitsAll
import Derived.Laws.Shifts
import Derived.Deep.DeepAppendRoom
import Derived.Laws.IdiomStrings
import Derived.Laws.BytesString
import Derived.Laws.CopyRow
import Derived.Lib.Strings
import Derived.Laws.BitsAllLaws
import Derived.Lib.Bytealg
import Derived.Lib.BufferMore
import Derived.Shelf.Strings.Builder1
import Derived.Shelf.Strings.Builder2
import Derived.Shelf.Strings.OnBuilder
import Derived.Shelf.Strings.Trim
import Derived.Shelf.Small.Utf8
import Derived.Shelf.Small.Bits
import Derived.Shelf.Small.Strs
import Derived.Shelf.Small.Wraps
import Derived.Shelf.Strings.BuilderF
import Derived.Shelf.Strings.BuilderK
import Derived.Shelf.Strings.Builder2Cap
import Derived.Shelf.Strconv.Itoa0
import Derived.Shelf.Strconv.Itoa1
import Derived.Shelf.LaysM
import Derived.Shelf.Strconv.Itoa2
import Derived.Shelf.Strconv.Itoa3
import Derived.Shelf.Strings.Search1
import Derived.Shelf.Strings.Search2
import Derived.Shelf.Strings.Cut
import Derived.Shelf.Strings.Shaped
import Derived.Shelf.Sort.Plain
import Derived.Shelf.Strings.Prefix
import Derived.Shelf.Strings.Runes
import Derived.Shelf.Strings.IndexAny
import Derived.Shelf.Strings.AsciiSet
import Derived.Shelf.Strings.IndexAnyAll
import Derived.Shelf.Unicode.DecodeSlow
import Derived.Shelf.Unicode.DecodeAny
import Derived.Shelf.Unicode.DecodeLast
import Derived.Shelf.Slices.CompactS
import Derived.Shelf.Slices.In.SortNone
import Derived.Lib.SlTrimSet
import Derived.Shelf.Strings.SlTrimAscii
import Derived.Deep.CutRange
import Derived.Laws.Rows
import Derived.Laws.MakeOwn
import Derived.Deep.WholeRow
import Derived.Laws.AppendOwnNone
import Derived.Sort.OwnSorted
import Derived.Lib.SlicesCompact
import Derived.Lib.SliceRun
import Derived.Lib.ItoaLen
import Derived.Stop.LaidErr
import Derived.LaidMore
set_option linter.unusedSimpArgs false
set_option linter.unusedVariables false

namespace Go.Proofs.YtfcmonjfcnfjoaaGreatDoor
open Go.RowKit

set_option maxHeartbeats 400000 in
theorem fewBytes_any (a : Option Addr) (len cap n : Nat) (l : List UInt8) (w : World) (hl : l.length = len) (hS : SlB w (.slice a len cap) l) (hc : len ≤ cap) (hm : cap ≤ maxLen) (hn : n ≤ 9223372036854775807) :
  Calls Tryz.prog 33 #[.slice a len cap, .int .i64 n] w fun e w' => ∃ len', len' = (l.take n).length ∧ len' ≤ cap ∧ e = .returned (.slice a len' cap) ∧ SlB w (.slice a len' cap) (l.take n) ∧ w = w' := by
 unfold maxLen at hm
 by_cases h : n < len
 ·have h' : (n : Int) < (len : Int) := by omega
  go_enter Tryz.func33, Tryz.ntmps33
  go_wp2
  go_ret
  exact ⟨n, by simp; omega, by omega, rfl, hS.take n (by omega), rfl⟩
 ·have h' : (len : Int) ≤ (n : Int) := by omega
  go_enter Tryz.func33, Tryz.ntmps33
  go_wp2
  go_ret
  have e : l.take n = l := List.take_of_length_le (by omega)
  rw [e]
  exact ⟨len, hl.symm, hc, rfl, hS, rfl⟩

theorem n_within_mod (n m : Int) (hm : 1 ≤ m) : 0 - m < n.tmod m ∧ n.tmod m < m := by
 have h1 := Int.tmod_lt_of_pos n (b := m) (by omega)
 have h2 := Int.tmod_lt_of_pos (-n) (b := m) (by omega)
 rw [Int.neg_tmod] at h2
 omega

def n_withinI (n lo hi : Int) : Int := if n.tmod (hi - lo + 1) < 0 then lo + (n.tmod (hi - lo + 1) + hi - lo + 1) else lo + n.tmod (hi - lo + 1)

theorem n_withinI_bounds (n lo hi : Int) (h : lo ≤ hi) : lo ≤ n_withinI n lo hi ∧ n_withinI n lo hi ≤ hi := by
 have := n_within_mod n (hi - lo + 1) (by omega)
 unfold n_withinI
 split <;> omega

set_option maxHeartbeats 400000 in
theorem n_within_any (n lo hi : Int) (w : World) (h0 : -9223372036854775808 ≤ n) (h1 : n ≤ 9223372036854775807) (hlo : 0 ≤ lo) (hlh : lo ≤ hi) (hhi : hi ≤ 1099511627776) :
  Calls Tryz.prog 31 #[.int .i64 n, .int .i64 lo, .int .i64 hi] w fun e w' => e = .returned (.int .i64 (n_withinI n lo hi)) ∧ w = w' := by
 have hb := n_within_mod n (hi - lo + 1) (by omega)
 have hm0 : (hi - lo + 1 == 0) = false := by simp; omega
 obtain ⟨b1, b2⟩ := hb
 by_cases hneg : n.tmod (hi - lo + 1) < 0
 ·have HW := hid (show n_withinI n lo hi = lo + (n.tmod (hi - lo + 1) + hi - lo + 1) by unfold n_withinI; rw [if_pos hneg])
  go_enter Tryz.func31, Tryz.ntmps31
  go_wp2
  go_ret
  exact ⟨ret_int HW.out.symm, rfl⟩
 ·have HW := hid (show n_withinI n lo hi = lo + n.tmod (hi - lo + 1) by unfold n_withinI; rw [if_neg hneg])
  go_enter Tryz.func31, Tryz.ntmps31
  go_wp2
  go_ret
  exact ⟨ret_int HW.out.symm, rfl⟩

end Go.Proofs.YtfcmonjfcnfjoaaGreatDoor

namespace Go.Proofs.YtfcmonjfcnfjoaaGreatDoor
open Go.RowKit

theorem wit17_1000 (x : Int) : ∃ n : Nat, n ≤ 900 ∧ ∀ w : World, Calls Tryz.prog 31 #[.int .i64 (x.tmod 1000), .int .i64 0, .int .i64 900] w fun e w' => e = .returned (.int .i64 (n : Int)) ∧ w = w' := by
 have h : -1000 < x.tmod 1000 ∧ x.tmod 1000 < 1000 := by
  rcases Int.lt_or_le x 0 with h | h
  ·have h1 : x.tmod 1000 = -((-x) % 1000) := by
    have := Int.neg_tmod x 1000
    have h2 : (-x).tmod 1000 = (-x) % 1000 := Int.tmod_eq_emod_of_nonneg (by omega)
    omega
   omega
  ·have h2 : x.tmod 1000 = x % 1000 := Int.tmod_eq_emod_of_nonneg h
   omega
 have hb := n_withinI_bounds (x.tmod 1000) 0 900 (by omega)
 refine ⟨(n_withinI (x.tmod 1000) 0 900).toNat, by omega, fun w => ?_⟩
 have := n_within_any (x.tmod 1000) 0 900 w (by omega) (by omega) (by omega) (by omega) (by omega)
 rw [show (((n_withinI (x.tmod 1000) 0 900).toNat : Nat) : Int) = n_withinI (x.tmod 1000) 0 900 by omega]
 exact this

theorem wit17_2000 (x : Int) : ∃ n : Nat, n ≤ 1500 ∧ ∀ w : World, Calls Tryz.prog 31 #[.int .i64 (x.tmod 2000), .int .i64 0, .int .i64 1500] w fun e w' => e = .returned (.int .i64 (n : Int)) ∧ w = w' := by
 have h : -2000 < x.tmod 2000 ∧ x.tmod 2000 < 2000 := by
  rcases Int.lt_or_le x 0 with h | h
  ·have h1 : x.tmod 2000 = -((-x) % 2000) := by
    have := Int.neg_tmod x 2000
    have h2 : (-x).tmod 2000 = (-x) % 2000 := Int.tmod_eq_emod_of_nonneg (by omega)
    omega
   omega
  ·have h2 : x.tmod 2000 = x % 2000 := Int.tmod_eq_emod_of_nonneg h
   omega
 have hb := n_withinI_bounds (x.tmod 2000) 0 1500 (by omega)
 refine ⟨(n_withinI (x.tmod 2000) 0 1500).toNat, by omega, fun w => ?_⟩
 have := n_within_any (x.tmod 2000) 0 1500 w (by omega) (by omega) (by omega) (by omega) (by omega)
 rw [show (((n_withinI (x.tmod 2000) 0 1500).toNat : Nat) : Int) = n_withinI (x.tmod 2000) 0 1500 by omega]
 exact this

theorem slB_take17 {w : World} {a : Option Addr} {len cap : Nat} {l : List UInt8} (h : SlB w (.slice a len cap) l) (hl : l.length = len) (n : Nat) : SlB w (.slice a (l.take n).length cap) (l.take n) := by
 by_cases hn : n < l.length
 ·rw [show (l.take n).length = n by simp; omega]
  exact h.take n hn
 ·rw [List.take_of_length_le (by omega), hl]
  exact h

theorem get_one17 (h : Hd) (n : List UInt8) : (isN n h = true → getT [h] n = h.value ∧ getB [h] n = true) ∧ (isN n h = false → getT [h] n = [] ∧ getB [h] n = false) := by
 constructor
 ·intro hn
  unfold getT getB selV
  simp [hn, Lib.join]
 ·intro hn
  unfold getT getB selV
  simp [hn, Lib.join]

theorem dig17 (c : UInt8) (h : digP c = true) : [9, 10, 13, 32].contains c = false ∧ badC c = false := by
 have key : ∀ n < 256, (!digP (UInt8.ofNat n) || (!([9, 10, 13, 32].contains (UInt8.ofNat n)) && !(badC (UInt8.ofNat n)))) = true := by decide +kernel
 have := key c.toNat c.toNat_lt
 rw [show UInt8.ofNat c.toNat = c by simp, h] at this
 simp only [Bool.not_true, Bool.false_or, Bool.and_eq_true, Bool.not_eq_true'] at this
 exact this

theorem sMax_fine : ∀ c ∈ sMax, [9, 10, 13, 32].contains c = false ∧ badC c = false := by decide

theorem life17 {n : Nat} {T : List UInt8} (h : Dec n T) : ∀ c ∈ sMax ++ T, [9, 10, 13, 32].contains c = false ∧ badC c = false := by
 intro c hc
 rcases List.mem_append.1 hc with hc | hc
 ·exact sMax_fine c hc
 ·exact dig17 c (List.all_eq_true.1 h.2.1 c hc)

theorem valT17 (l : List UInt8) (h : ∀ c ∈ l, [9, 10, 13, 32].contains c = false) : valT l = l := by
 unfold valT Lib.trimS Lib.trimLeftS Lib.trimRightS
 rw [dropWhile_all16 l.reverse (fun c hc => h c (List.mem_reverse.1 hc)), List.reverse_reverse, dropWhile_all16 l h]

theorem hdE17 {n : Nat} {T : List UInt8} (h : Dec n T) : hdE CC17 (sMax ++ T) = 0 := by
 have hv := valT17 _ (fun c hc => (life17 h c hc).1)
 have hb : valB (sMax ++ T) = true := by
  unfold valB
  rw [hv]
  have : (sMax ++ T).any badC = false := by
   rw [List.any_eq_false]
   intro c hc
   rw [(life17 h c hc).2]
   decide
  rw [this]
  rfl
 have hl := h.2.2.2
 unfold hdE
 rw [hb, hv, if_neg (by
  rintro (h1 | h1)
  ·cases h1
  ·revert h1; decide), if_neg (by
  rintro (h1 | h1)
  ·revert h1; decide
  ·simp [sMax] at h1; omega)]

def kH1 : List Hd := [⟨CC17, sMax ++ [49]⟩]

theorem ren17 {n : Nat} {T : List UInt8} (h : Dec n T) : renV kH1 [⟨CC17, sMax ++ T⟩] = [⟨CC17, sMax ++ T⟩] := by
 show renS (dropV kH1 tAge) ⟨CC17, sMax ++ T⟩ = _
 rw [show dropV kH1 tAge = kH1 by decide]
 unfold renS
 rw [show ofB (Hd.mk CC17 (sMax ++ T)).name = false from (by decide : ofB CC17 = false)]
 show setH kH1 CC17 (sMax ++ T) = _
 have hf : firstV kH1 CC17 = some 0 := by decide
 have he : setE kH1 CC17 (sMax ++ T) = 0 := by
  unfold setE
  rw [hf]
  exact hdE17 h
 unfold setH
 rw [if_pos he]
 unfold setV
 rw [hf]
 dsimp only
 rw [valT17 _ (fun c hc => (life17 h c hc).1)]
 rfl

theorem ctl17 {n : Nat} {T : List UInt8} (h : Dec n T) : ctlV [⟨CC17, sMax ++ T⟩] = ⟨false, false, n⟩ := by
 have h1 := (get_one17 ⟨CC17, sMax ++ T⟩ nCC).1 (show (low CC17 == low nCC) = true by decide)
 unfold ctlV pcsV
 rw [h1.2]
 simp only [if_true]
 unfold splitV
 rw [h1.1]
 exact ctl_plain n T h

theorem age17 (v : List UInt8) (s n : Int) : ageV [⟨CC17, v⟩] s n = addV 0 (sinV s n) := by
 have h1 := (get_one17 ⟨CC17, v⟩ nAg).2 (show (low CC17 == low nAg) = false by decide)
 unfold ageV
 rw [h1.1, show intV (strip []) = 0 by decide]

theorem fre17 {n : Nat} {T : List UInt8} (h : Dec n T) (o : Nat) (ho : o ≤ 1500) : freV [⟨CC17, sMax ++ T⟩] 50 (50 + o) = decide (o < n) ∧ ageV [⟨CC17, sMax ++ T⟩] 50 (50 + o) = o := by
 have h1 : ageV [⟨CC17, sMax ++ T⟩] 50 (50 + o) = o := by
  rw [age17]
  unfold addV sinV
  repeat' split <;> omega
 refine ⟨?_, h1⟩
 unfold freV
 rw [h1, ctl17 h]
 simp

theorem take_one17 (r : RowC) (t : Int) (u : List UInt8) (h1 : r.url = u) (h2 : r.ch = []) : takeV ⟨[r], t⟩ u [] = some (r, []) := by
 have hm : meantV u [] r = true := by unfold meantV; rw [h1, h2]; simp
 unfold takeV
 rw [show (ctlV []).ns = false by decide]
 have hb : bestV (meantV u []) [r] 1 = some 0 := by
  unfold bestV
  simp [bestV, hm]
 show (if false = true then none else match bestV (meantV u []) [r] 1 with
  | none => none
  | some a => (([r] : List RowC)[a]?).map fun x => (x, ([r] : List RowC).eraseIdx a)) = _
 rw [hb]
 rfl

theorem take_no17 (r : RowC) (t : Int) (u : List UInt8) (h1 : r.url ≠ u) : takeV ⟨[r], t⟩ u [] = none := by
 have hm : meantV u [] r = false := by unfold meantV; simp [h1]
 unfold takeV
 rw [show (ctlV []).ns = false by decide]
 have hb : bestV (meantV u []) [r] 1 = none := by
  unfold bestV
  simp [bestV, hm]
 show (if false = true then none else match bestV (meantV u []) [r] 1 with
  | none => none
  | some a => (([r] : List RowC)[a]?).map fun x => (x, ([r] : List RowC).eraseIdx a)) = _
 rw [hb]
 rfl

def kP0 (bd : List UInt8) : CaS := ⟨[⟨uU, [], ⟨200, kH1, bd⟩, 0, 1⟩], 1⟩

def kP1 (bd T : List UInt8) : CaS := ⟨[⟨uU, [], ⟨200, [⟨CC17, sMax ++ T⟩], bd⟩, 50, 2⟩], 2⟩

theorem ren_ok17 (bd : List UInt8) : putOk [] ⟨200, kH1, bd⟩ = true := by
 exact (by decide +kernel : (vrOk (pcsV kH1 nVy) && decide ((200 : Int) = 200) && !(ctlV kH1).ns && !(ctlV []).ns) = true)

theorem ren_put17 (bd : List UInt8) : putV ⟨[], 0⟩ uU [] ⟨200, kH1, bd⟩ 0 = kP0 bd := by
 unfold putV
 rw [if_pos (ren_ok17 bd)]
 dsimp only
 rw [show varV (pcsV kH1 nVy) = [] by decide +kernel]
 rfl

theorem ren_cag0 (bd : List UInt8) (hb : bd.length ≤ 1000000) : CaG (kP0 bd) := by
 refine ⟨by simp [kP0], by simp [kP0], fun r hr => ?_⟩
 rw [List.mem_singleton.1 hr]
 exact ⟨(hkB_ok (by decide +kernel) : Hk kH1), by simp, fun c hc => by simp at hc, hb, by simp⟩

theorem ren_cag1 (bd T : List UInt8) {n : Nat} (hT : Dec n T) (hb : bd.length ≤ 1000000) : CaG (kP1 bd T) := by
 refine ⟨by simp [kP1], by simp [kP1], fun r hr => ?_⟩
 rw [List.mem_singleton.1 hr]
 refine ⟨⟨by simp, fun x hx => ?_⟩, by simp, fun c hc => by simp at hc, hb, by simp⟩
 rw [List.mem_singleton.1 hx]
 have := hT.2.2.2
 exact ⟨(by decide : CC17.length ≤ 4096), by simp [sMax]; omega⟩

theorem ren_szo (T : List UInt8) {n : Nat} (hT : Dec n T) : Szo [⟨CC17, sMax ++ T⟩] := by
 refine Hk.szo ⟨by simp, fun x hx => ?_⟩
 rw [List.mem_singleton.1 hx]
 have := hT.2.2.2
 exact ⟨(by decide : CC17.length ≤ 4096), by simp [sMax]; omega⟩

theorem ren_rep17 (bd T : List UInt8) {n : Nat} (hT : Dec n T) : reRep (kP0 bd) uU [] [⟨CC17, sMax ++ T⟩] = (⟨200, [⟨CC17, sMax ++ T⟩], bd⟩, true) ∧ reV (kP0 bd) uU [] [⟨CC17, sMax ++ T⟩] 50 = kP1 bd T := by
 unfold reRep reV kP0
 rw [take_one17 _ _ _ rfl rfl]
 dsimp only
 unfold reRow
 dsimp only
 rw [ren17 hT]
 exact ⟨rfl, rfl⟩

theorem ren_no17 (bd T : List UInt8) : reRep (kP1 bd T) [118] [] [] = (⟨0, [], []⟩, false) ∧ reV (kP1 bd T) [118] [] [] 50 = kP1 bd T := by
 unfold reRep reV kP1
 rw [take_no17 _ _ _ (show uU ≠ [118] by decide)]
 exact ⟨rfl, rfl⟩

theorem ren_use17 (bd T : List UInt8) : useV (kP1 bd T) uU [] = kP1 bd T := by
 unfold useV kP1
 rw [take_one17 _ _ _ rfl rfl]
 rfl

theorem ren_find17 (bd T : List UInt8) {n : Nat} (hT : Dec n T) (o : Nat) (ho : o ≤ 1500) : ∃ L K, findV Lib.itoa (kP1 bd T) uU [] (50 + o) = ⟨if o < n then 2 else 1, ⟨200, L, bd⟩, K⟩ := by
 unfold findV kP1
 rw [take_one17 _ _ _ rfl rfl]
 dsimp only
 unfold foundV
 dsimp only
 obtain ⟨h1, h2⟩ := fre17 hT o ho
 rw [h1, h2, show (ctlV []).nc = false by decide]
 by_cases h : o < n
 ·rw [if_neg (by simp [h]), if_pos h]; exact ⟨_, _, rfl⟩
 ·rw [if_pos (by simp [h]), if_neg h]; exact ⟨_, _, rfl⟩

theorem StC.known {w0 w : World} {C : CaS} (h : StC w0 w C) : Calls Tryz.prog 17 #[] w fun e w' => e = .returned (.bool true) ∧ Below w0.heap.size w0 w' := by
 refine (known17_any w h.1.1.2.2.2 h.2.2 (by have h1 := h.1.1.2.2.1; have h2 := h.2.1.size; omega)).mono ?_
 rintro e w' ⟨h1, h2⟩
 exact ⟨h1, below2 h.2.1 h2⟩

theorem app17b (a b : List UInt8) : (⟨a.toArray⟩ : ByteArray) ++ ⟨b.toArray⟩ = ⟨(a ++ b).toArray⟩ := by
 refine xext ?_
 rw [ByteArray.data_append, Array.toList_append]

set_option maxHeartbeats 4000000 in
set_option maxRecDepth 100000 in
theorem cacheRenewed_walk (q0 : Option Addr) (len0 cap0 : Nat) (z0 : List Int) (life off : Int) (w : World) (w0 : IsRow .u8 w q0 len0 cap0 z0) (h1 : (Lit.int .i64 life).wf = true) (h2 : (Lit.int .i64 off).wf = true) (h5 : G5 w) (hgp : Gp17 w) (hg : gMax < w.heap.size) :
  Calls Tryz.prog 8 #[.slice q0 len0 cap0, .int .i64 life, .int .i64 off] w fun e w' => e = .returned (.bool true) ∧ Below w.heap.size w w' := by
 obtain ⟨l0, hl0, hS0, hc0, hm0⟩ := w0.bytes
 obtain ⟨n, hn, hWn⟩ := wit17_1000 life
 obtain ⟨o, ho, hWo⟩ := wit17_2000 off
 have hSl := slB_take17 hS0 hl0 100
 have hll : (l0.take 100).length ≤ 100 := by simp; omega
 have hlc : (l0.take 100).length ≤ cap0 := by simp; omega
 have HFb := hid (fun (Y : World) (hY : Below w.heap.size w Y) => fewBytes_any q0 len0 cap0 100 l0 Y hl0 (hS0.kept hY) hc0 hm0 (by decide))
 obtain ⟨l, hl⟩ : ∃ l, l = l0.take 100 := ⟨_, rfl⟩
 rw [← hl] at hSl hll hlc HFb
 have HSl := hid hSl
 have HBd := hid (slB_bdt (p := w.heap.size) hSl rfl hlc hm0 (Nat.le_refl _))
 have HLL := hid hll
 have HWn := hid hWn
 have HWo := hid hWo
 have HN := hid (new17_any w h5 hg)
 have HGp := hid hgp
 have HGx := hid hg
 clear hSl hll hlc hl hWn hWo w0 h1 h2 h5 hgp hg hl0 hS0 hc0 hm0
 go_enter Tryz.func8, Tryz.ntmps8
 go_wp2_with fail
 refine HN.out.mono ?_
 rintro e w1 ⟨rfl, hc1, hb1⟩
 have HS1 := hid (show StC w w1 ⟨[], 0⟩ from ⟨hc1, hb1, HGp.out.low HGx.out hb1⟩)
 clear hc1 hb1
 go_wp2_with fail
 refine (HWn.out _).mono ?_
 rintro e w2 ⟨rfl, hw2⟩
 rw [← hw2]
 clear hw2
 go_wp2_with fail
 refine (HWo.out _).mono ?_
 rintro e w2 ⟨rfl, hw2⟩
 rw [← hw2]
 clear hw2
 go_wp2_with fail
 refine (HFb.out _ HS1.out.2.1).mono ?_
 rintro e w2 ⟨len2, rfl, _, rfl, _, hw2⟩
 rw [← hw2]
 clear hw2
 go_wp2_with fail
 refine (cc17_any ⟨#[109, 97, 120, 45, 97, 103, 101, 61, 49]⟩ _).mono ?_
 rintro e w2 ⟨rfl, ho2, hb2⟩
 have HS2 := hid (HS1.out.below hb2)
 have HP := hid (put_at17 w.heap.size w2.heap.size ⟨[], 0⟩ (kP0 l) ⟨#[117]⟩ (.slice none 0 0) [] 200 (.slice (some ⟨w1.heap.size, 0, none⟩) 1 1) (.slice q0 l.length cap0) kH1 l 0 true w2 HS2.out.1 (cagB_ok (by decide +kernel)) (hdt_nil _) szo_nil (own_hdt ho2) (hkB_ok (by decide +kernel)) (HBd.out.kept HS2.out.2.1) (by have := HLL.out; omega) (ren_ok17 l) (ren_put17 l))
 clear ho2 hb2
 go_wp2_with fail
 refine HP.out.mono ?_
 rintro e w3 ⟨rfl, hc3, ht3⟩
 have HS3 := hid (HS2.out.turn hc3 ht3)
 clear hc3 ht3
 go_wp2_with fail
 refine (digits17_any n _ (by omega)).mono ?_
 rintro e w4 ⟨T, rfl, hT, hw4⟩
 rw [← hw4]
 clear hw4
 have DT := hid hT
 have lT : T.length ≤ 40 := hT.2.2.2
 have HApp := hid (show (⟨#[109, 97, 120, 45, 97, 103, 101, 61]⟩ : ByteArray) ++ ⟨T.toArray⟩ = ⟨(sMax ++ T).toArray⟩ from app17b sMax T)
 clear hT
 go_wp2_with fail
 rw [HApp.out]
 refine (cc17_any _ _).mono ?_
 rintro e w4 ⟨rfl, ho4, hb4⟩
 rw [xmk] at ho4
 have HS4 := hid (HS3.out.below hb4)
 have HR := hid (renew_at17 w.heap.size w4.heap.size (kP0 l) (kP1 l T) ⟨#[117]⟩ (.slice none 0 0) [] 304 (.slice (some ⟨w3.heap.size, 0, none⟩) 1 1) none 0 0 [⟨CC17, sMax ++ T⟩] 50 200 [⟨CC17, sMax ++ T⟩] l true w4 HS4.out.1 (ren_cag0 l (by have := HLL.out; omega)) (hdt_nil _) szo_nil (own_hdt ho4) (ren_szo T DT.out) (ren_rep17 l T DT.out).1 (ren_rep17 l T DT.out).2)
 clear ho4 hb4
 go_wp2_with fail
 refine HR.out.mono ?_
 rintro e w5 ⟨a1, c1, a2, c2, M5, rfl, hc5, _, ho5, ht5⟩
 have HS5 := hid (HS4.out.turn hc5 ht5)
 clear hc5 ht5
 obtain ⟨Wb, hWb⟩ : ∃ X, w5.alloc (.cells #[.int .i64 200, .slice a1 1 c1, .slice a2 l.length c2] 28) = X := ⟨_, rfl⟩
 have hbb : Below w5.heap.size w5 Wb := by rw [← hWb]; exact (Below.refl _ w5).alloc (Nat.le_refl _) _
 have HSb := hid (HS5.out.below hbb)
 have HXb := hid (show Wb.heap[w5.heap.size]? = some (.cells #[.int .i64 200, .slice a1 1 c1, .slice a2 l.length c2] 28 (0, 0)) by rw [← hWb]; exact heap_alloc_new w5 _)
 have HOb := hid (own_same ho5 hbb)
 clear hbb ho5
 obtain ⟨Lf, Kf, hfd⟩ := ren_find17 l T DT.out o ho
 by_cases hon : o < n
 ·rw [if_pos hon] at hfd
  have HF := hid (find_at17 w.heap.size Wb.heap.size (kP1 l T) (kP1 l T) ⟨#[117]⟩ (.slice none 0 0) [] (50 + o) 2 200 Lf Kf l Wb HSb.out.1 (ren_cag1 l T DT.out (by have := HLL.out; omega)) (hdt_nil _) szo_nil HSb.out.2.2 (by omega) hfd (ren_use17 l T))
  clear hfd
  go_wp2_with fail
  refine HF.out.mono ?_
  rintro e w6 ⟨a3, c3, a4, c4, a5, c5, M6, rfl, hc6, _, ho6, _, ht6⟩
  have HS6 := hid (HSb.out.turn hc6 ht6)
  have hx6 := (ht6.2 _ _ _ _ HXb.out (by decide) (by decide)).trans HXb.out
  have hp6 := ht6.own HOb.out (by decide) (by decide)
  clear hc6 ht6
  obtain ⟨Wc, hWc⟩ : ∃ X, w6.alloc (.cells #[.int .i64 2, .int .i64 200, .slice a3 Lf.length c3, .slice a4 l.length c4, .slice a5 Kf.length c5] 33) = X := ⟨_, rfl⟩
  have hbc : Below w6.heap.size w6 Wc := by rw [← hWc]; exact (Below.refl _ w6).alloc (Nat.le_refl _) _
  have HSc := hid (HS6.out.below hbc)
  have HXc := hid (show Wc.heap[w5.heap.size]? = some (.cells #[.int .i64 200, .slice a1 1 c1, .slice a2 l.length c2] 28 (0, 0)) from (hbc.block _ (Array.getElem?_eq_some_iff.1 hx6).1).trans hx6)
  have HYc := hid (show Wc.heap[w6.heap.size]? = some (.cells #[.int .i64 2, .int .i64 200, .slice a3 Lf.length c3, .slice a4 l.length c4, .slice a5 Kf.length c5] 33 (0, 0)) by rw [← hWc]; exact heap_alloc_new w6 _)
  have HOc := hid (own_same hp6 hbc)
  have HPc := hid (own_same ho6 hbc)
  clear hbc hx6 hp6 ho6
  have HV := hid (renew_at17 w.heap.size Wc.heap.size (kP1 l T) (kP1 l T) ⟨#[118]⟩ (.slice none 0 0) [] 304 (.slice none 0 0) none 0 0 [] 50 0 [] [] false Wc HSc.out.1 (ren_cag1 l T DT.out (by have := HLL.out; omega)) (hdt_nil _) szo_nil (hdt_nil _) szo_nil (ren_no17 l T).1 (ren_no17 l T).2)
  go_wp2_with fail
  refine HV.out.mono ?_
  clear hWc
  rintro e w7 ⟨b1, d1, b2, d2, M7, rfl, hc7, _, _, ht7⟩
  have HS7 := hid (HSc.out.turn hc7 ht7)
  have hx7 := (ht7.2 _ _ _ _ HXc.out (by decide) (by decide)).trans HXc.out
  have hy7 := (ht7.2 _ _ _ _ HYc.out (by decide) (by decide)).trans HYc.out
  have ho7 := ht7.own HOc.out (by decide) (by decide)
  have hp7 := ht7.own HPc.out (by decide) (by decide)
  clear hc7 ht7
  obtain ⟨Wd, hWd⟩ : ∃ X, w7.alloc (.cells #[.int .i64 0, .slice b1 0 d1, .slice b2 0 d2] 28) = X := ⟨_, rfl⟩
  have hbd : Below w7.heap.size w7 Wd := by rw [← hWd]; exact (Below.refl _ w7).alloc (Nat.le_refl _) _
  have HSd := hid (HS7.out.below hbd)
  have hxd := (hbd.block _ (Array.getElem?_eq_some_iff.1 hx7).1).trans hx7
  have hyd := (hbd.block _ (Array.getElem?_eq_some_iff.1 hy7).1).trans hy7
  have hod := own_same ho7 hbd
  have hpd := own_same hp7 hbd
  have f0 : Wd.cell? ⟨w5.heap.size, 0, none⟩ = some (.int .i64 200) := by rw [Lib.cell_of_heap hxd]; rfl
  have f2 : Wd.cell? ⟨w5.heap.size, 2, none⟩ = some (.slice a2 l.length c2) := by rw [Lib.cell_of_heap hxd]; rfl
  have g0 : Wd.cell? ⟨w6.heap.size, 0, none⟩ = some (.int .i64 2) := by rw [Lib.cell_of_heap hyd]; rfl
  have g3 : Wd.cell? ⟨w6.heap.size, 3, none⟩ = some (.slice a4 l.length c4) := by rw [Lib.cell_of_heap hyd]; rfl
  have e1 : (convert 26 9 (.slice a2 l.length c2)).run Tryz.prog Wd = .ok (.string ⟨l.toArray⟩) Wd := (own_slB hod).string (P := Tryz.prog) Tryz.underlying26 Tryz.underlying5 Tryz.underlying9
  have e2 : (convert 26 9 (.slice a4 l.length c4)).run Tryz.prog Wd = .ok (.string ⟨l.toArray⟩) Wd := (own_slB hpd).string (P := Tryz.prog) Tryz.underlying26 Tryz.underlying5 Tryz.underlying9
  have e3 : (convert 26 9 (.slice q0 l.length cap0)).run Tryz.prog Wd = .ok (.string ⟨l.toArray⟩) Wd := (HSl.out.kept (HSd.out.2.1)).string (P := Tryz.prog) Tryz.underlying26 Tryz.underlying5 Tryz.underlying9
  have HK := hid HSd.out.known
  clear hbd hxd hyd hod hpd hx7 hy7 ho7 hp7
  go_wp2_with fail
  refine HK.out.mono ?_
  rintro e w8 ⟨rfl, hb8⟩
  go_wp2_with fail
  go_ret
  exact ⟨rfl, hb8⟩

 ·rw [if_neg hon] at hfd
  have HF := hid (find_at17 w.heap.size Wb.heap.size (kP1 l T) (kP1 l T) ⟨#[117]⟩ (.slice none 0 0) [] (50 + o) 1 200 Lf Kf l Wb HSb.out.1 (ren_cag1 l T DT.out (by have := HLL.out; omega)) (hdt_nil _) szo_nil HSb.out.2.2 (by omega) hfd (ren_use17 l T))
  clear hfd
  have hno : n ≤ o := by omega
  go_wp2_with fail
  refine HF.out.mono ?_
  rintro e w6 ⟨a3, c3, a4, c4, a5, c5, M6, rfl, hc6, _, ho6, _, ht6⟩
  have HS6 := hid (HSb.out.turn hc6 ht6)
  have hx6 := (ht6.2 _ _ _ _ HXb.out (by decide) (by decide)).trans HXb.out
  have hp6 := ht6.own HOb.out (by decide) (by decide)
  clear hc6 ht6
  obtain ⟨Wc, hWc⟩ : ∃ X, w6.alloc (.cells #[.int .i64 1, .int .i64 200, .slice a3 Lf.length c3, .slice a4 l.length c4, .slice a5 Kf.length c5] 33) = X := ⟨_, rfl⟩
  have hbc : Below w6.heap.size w6 Wc := by rw [← hWc]; exact (Below.refl _ w6).alloc (Nat.le_refl _) _
  have HSc := hid (HS6.out.below hbc)
  have HXc := hid (show Wc.heap[w5.heap.size]? = some (.cells #[.int .i64 200, .slice a1 1 c1, .slice a2 l.length c2] 28 (0, 0)) from (hbc.block _ (Array.getElem?_eq_some_iff.1 hx6).1).trans hx6)
  have HYc := hid (show Wc.heap[w6.heap.size]? = some (.cells #[.int .i64 1, .int .i64 200, .slice a3 Lf.length c3, .slice a4 l.length c4, .slice a5 Kf.length c5] 33 (0, 0)) by rw [← hWc]; exact heap_alloc_new w6 _)
  have HOc := hid (own_same hp6 hbc)
  have HPc := hid (own_same ho6 hbc)
  clear hbc hx6 hp6 ho6
  have HV := hid (renew_at17 w.heap.size Wc.heap.size (kP1 l T) (kP1 l T) ⟨#[118]⟩ (.slice none 0 0) [] 304 (.slice none 0 0) none 0 0 [] 50 0 [] [] false Wc HSc.out.1 (ren_cag1 l T DT.out (by have := HLL.out; omega)) (hdt_nil _) szo_nil (hdt_nil _) szo_nil (ren_no17 l T).1 (ren_no17 l T).2)
  go_wp2_with fail
  refine HV.out.mono ?_
  clear hWc
  rintro e w7 ⟨b1, d1, b2, d2, M7, rfl, hc7, _, _, ht7⟩
  have HS7 := hid (HSc.out.turn hc7 ht7)
  have hx7 := (ht7.2 _ _ _ _ HXc.out (by decide) (by decide)).trans HXc.out
  have hy7 := (ht7.2 _ _ _ _ HYc.out (by decide) (by decide)).trans HYc.out
  have ho7 := ht7.own HOc.out (by decide) (by decide)
  have hp7 := ht7.own HPc.out (by decide) (by decide)
  clear hc7 ht7
  obtain ⟨Wd, hWd⟩ : ∃ X, w7.alloc (.cells #[.int .i64 0, .slice b1 0 d1, .slice b2 0 d2] 28) = X := ⟨_, rfl⟩
  have hbd : Below w7.heap.size w7 Wd := by rw [← hWd]; exact (Below.refl _ w7).alloc (Nat.le_refl _) _
  have HSd := hid (HS7.out.below hbd)
  have hxd := (hbd.block _ (Array.getElem?_eq_some_iff.1 hx7).1).trans hx7
  have hyd := (hbd.block _ (Array.getElem?_eq_some_iff.1 hy7).1).trans hy7
  have hod := own_same ho7 hbd
  have hpd := own_same hp7 hbd
  have f0 : Wd.cell? ⟨w5.heap.size, 0, none⟩ = some (.int .i64 200) := by rw [Lib.cell_of_heap hxd]; rfl
  have f2 : Wd.cell? ⟨w5.heap.size, 2, none⟩ = some (.slice a2 l.length c2) := by rw [Lib.cell_of_heap hxd]; rfl
  have g0 : Wd.cell? ⟨w6.heap.size, 0, none⟩ = some (.int .i64 1) := by rw [Lib.cell_of_heap hyd]; rfl
  have g3 : Wd.cell? ⟨w6.heap.size, 3, none⟩ = some (.slice a4 l.length c4) := by rw [Lib.cell_of_heap hyd]; rfl
  have e1 : (convert 26 9 (.slice a2 l.length c2)).run Tryz.prog Wd = .ok (.string ⟨l.toArray⟩) Wd := (own_slB hod).string (P := Tryz.prog) Tryz.underlying26 Tryz.underlying5 Tryz.underlying9
  have e2 : (convert 26 9 (.slice a4 l.length c4)).run Tryz.prog Wd = .ok (.string ⟨l.toArray⟩) Wd := (own_slB hpd).string (P := Tryz.prog) Tryz.underlying26 Tryz.underlying5 Tryz.underlying9
  have e3 : (convert 26 9 (.slice q0 l.length cap0)).run Tryz.prog Wd = .ok (.string ⟨l.toArray⟩) Wd := (HSl.out.kept (HSd.out.2.1)).string (P := Tryz.prog) Tryz.underlying26 Tryz.underlying5 Tryz.underlying9
  have HK := hid HSd.out.known
  clear hbd hxd hyd hod hpd hx7 hy7 ho7 hp7
  go_wp2_with fail
  refine HK.out.mono ?_
  rintro e w8 ⟨rfl, hb8⟩
  go_wp2_with fail
  go_ret
  exact ⟨rfl, hb8⟩

end Go.Proofs.YtfcmonjfcnfjoaaGreatDoor

namespace Go.Proofs.YtfcmonjfcnfjoaaGreatDoor
open Go.RowKit

def laid7 : List (String × DataW Unit) := [("math/bits.deBruijn32tab", Rows.laid_math_bits_deBruijn32tab), ("math/bits.deBruijn64tab", Rows.laid_math_bits_deBruijn64tab), ("internal/strconv.uint64pow10", Rows.laid_internal_strconv_uint64pow10), ("unicode/utf8.acceptRanges", Rows.laid_unicode_utf8_acceptRanges), ("unicode/utf8.first", Rows.laid_unicode_utf8_first)]

theorem g5_of_shaped {W : World} (hsh : W.ShapedOpen Tryz.prog) : G5 W := Tryz.laysM145.s1_3 W hsh

theorem gMax_of {W : World} (h : G5 W) : gMax < W.heap.size := by
 obtain ⟨m, hm⟩ := h
 exact World.block_lt_of_cell? W _ hm

theorem gp17_of_laid {W : World} (h : laidMetH Tryz.prog laid7 W) : Gp17 W := by
 have h' : laidMet Tryz.prog laid7 W := h
 exact Lib.tabIs_of_head gPow17 (by kernel_rfl) Tryz.underlying191 Tryz.underlying153 (by kernel_rfl) (by kernel_rfl) h'.tail.tail

theorem ownK : ownKnob Tryz.prog.godebug = none := by kernel_rfl

noncomputable def startW (os : Os) : World :=
 { World.doorLaid Tryz.prog 24 os with heap := (World.doorLaid Tryz.prog 24 os).heap.setIfInBounds 4 (.cells (Pinned.utf8FirstZ.map fun (n : Nat) => Value.int .u8 (n : Int)).toArray 216 (0, 0)) }

theorem door_met (os : Os) (args : Array Value) : laidMetH Tryz.prog laid7 ((startW os).forCall (fun _ _ => 0) ⟨#[], args, []⟩).memory :=
 laidMetH_of_parts3 (fuel := 8) (laidMet_of_run' 8 (by kernel_rfl) (by kernel_rfl)) (by kernel_rfl) (by kernel_rfl)

end Go.Proofs.YtfcmonjfcnfjoaaGreatDoor
