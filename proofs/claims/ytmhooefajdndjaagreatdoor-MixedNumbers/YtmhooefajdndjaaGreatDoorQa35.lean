/-
  Walks and plain facts that this claim leans on, put together out of 2 texts: Eyp, Dz.
-/
import Derived.Test.YtmhooefajdndjaaGreatDoorProg
import Derived.Test.YtmhooefajdndjaaGreatDoorTie
import Derived.Test.YtmhooefajdndjaaGreatDoorQa1
import Derived.Test.YtmhooefajdndjaaGreatDoorQa2
import Derived.Test.YtmhooefajdndjaaGreatDoorQa3
import Derived.Test.YtmhooefajdndjaaGreatDoorQa6
import Derived.Test.YtmhooefajdndjaaGreatDoorQa7
import Derived.Test.YtmhooefajdndjaaGreatDoorQa8
import Derived.Test.YtmhooefajdndjaaGreatDoorQa11
import Derived.Test.YtmhooefajdndjaaGreatDoorQa12
import Derived.Test.YtmhooefajdndjaaGreatDoorQa18
import Derived.Test.YtmhooefajdndjaaGreatDoorQa22
import Derived.Test.YtmhooefajdndjaaGreatDoorQa24
import Derived.Test.YtmhooefajdndjaaGreatDoorQa25
import Derived.Test.YtmhooefajdndjaaGreatDoorQa26
import Derived.Test.YtmhooefajdndjaaGreatDoorQa29
import Derived.Test.YtmhooefajdndjaaGreatDoorQa33
import Derived.Test.YtmhooefajdndjaaGreatDoorQa34
import Derived.Deep.Cut
import Derived.Deep.QuietTactic
import Derived.BigQuiet
import Derived.BigRegion
import Derived.Deep.RegionHeld
import Derived.Deep.CutRange
import Derived.Deep.CutBlock
import Derived.Lib.IndexMore
import Derived.Lib.Join
import Derived.Lib.LastIndexByte
import Derived.WalkKit
import Derived.Lib.Strings
import Derived.Lib.UnsafeStr
import Derived.Laws.IdiomStrings
import Derived.Laws.AppendOwn
import Derived.Laws.BitsAllLaws
import Derived.Lib.Bytealg
import Derived.Lib.BufferMore
import Derived.Lib.BufferRead
import Derived.Lib.RuneBytes
import Derived.Laws.RangeAny
import Derived.LoopN
import Derived.RegionTactic
import Derived.Deep.RegionWith
import Derived.OwnWalk
import Derived.Deep.RegionLaw
import Derived.Laws.OwnMore
import Derived.Deep.LoopGhost
import Derived.Shelf.Strings.Builder1
import Derived.Shelf.Strings.Builder2
import Derived.Shelf.Strings.OnBuilder
import Derived.Shelf.Strings.Trim
import Derived.Shelf.Small.Utf8
import Derived.Shelf.Small.Strs
import Derived.Shelf.Small.Wraps
import Derived.Shelf.Strings.BuilderF
import Derived.Shelf.Strings.BuilderK
import Derived.Shelf.Strings.BuilderRune
import Derived.Shelf.Utf8.AppendRune
import Derived.Shelf.Utf8.AppendRunePlain
import Derived.Shelf.Strings.Builder2Cap
import Derived.Shelf.Strconv.Itoa0
import Derived.Shelf.Strconv.Itoa1
import Derived.Shelf.LaysM
import Derived.Shelf.Strconv.Itoa2
import Derived.Shelf.Strconv.Itoa3
import Derived.Shelf.Strings.Search1
import Derived.Shelf.Strings.Search2
import Derived.Shelf.Strings.Search3
import Derived.Shelf.Strings.Cut
import Derived.Shelf.Strings.Count
import Derived.Shelf.Strings.Shaped
import Derived.Shelf.Strings.LastIndex
import Derived.Shelf.Strings.Prefix
import Derived.Shelf.Strings.Split
import Derived.Shelf.Strings.Replace
import Derived.Shelf.Strings.Runes
import Derived.Shelf.Strings.IndexAny
import Derived.Shelf.Strings.AsciiSet
import Derived.Shelf.Strings.IndexAnyAll
import Derived.Shelf.Unicode.DecodeSlow
import Derived.Ground.Names2Prog
import Derived.Shelf.Slices.Clone
import Derived.Ground.SlgnProg
import Derived.Shelf.SlicesE.Clone
import Derived.Laws.AppendOwnNone
import Derived.Scope
import Derived.ScopeJumps
import Derived.WalkMore
import Derived.Lib.IndexAny
import Derived.Lib.Replace
import Derived.Lib.TrimByte
import Derived.Lib.ItoaNum
import Derived.Lib.DecodeN
import Derived.Lib.OthersKept
import Derived.Laws.BytesString
import Derived.Deep.WholeRow
import Derived.Lib.AppendStr
import Derived.WalkSpells
import Derived.WalkLawsBesides
import Derived.Lib.AppendIntMem
import Derived.Lib.SmallJoins
import Derived.WalkSmall
import Derived.Laws.CopyOwn
import Derived.Laws.ResultCell
import Derived.Deep.MidRow
import Derived.Lib.FrozenHead2
import Derived.Lib.Builder
import Derived.Lib.SlTrimSet
import Derived.Below
import Derived.Shelf.Strings.SlTrimAscii
import Derived.Laws.Runes
import Derived.Stop.LaidErr
import Derived.LaidMore
set_option linter.unusedSimpArgs false
set_option linter.unusedVariables false

namespace Go.Proofs.YtmhooefajdndjaaGreatDoor
open Go.RowKit

theorem dec_dig : ∀ d < 10, decC d = digC d := by decide +kernel

set_option maxHeartbeats 2000000 in
theorem digits14_any (n : Nat) (w : World) (hn : n < 256) :
  Calls Tryz.prog 34 #[.int .u32 n] w fun e w' => e = .returned (.string ⟨(dec8 n).toArray⟩) ∧ w = w' := by
 have h40 : n < 10 ^ 40 := Nat.lt_of_lt_of_le hn (by decide)
 have H0 := hid (show DigInv 10 n 40 n [] from ⟨h40, by omega, rfl, .inl ⟨rfl, .inr rfl⟩⟩)
 have H8 := hid (dec8_digs n hn)
 have hn' : n ≤ 4294967295 := by omega
 clear h40 hn
 go_enter Tryz.func34, Tryz.ntmps34
 go_wp2
 go_loopg [0, 3, 4] 40 (fun f nv sv _ wr => ∃ (u : Nat) (T : List UInt8), nv = .int .u32 u ∧ sv = .string ⟨T.toArray⟩ ∧ u ≤ 4294967295 ∧ DigInv 10 n f u T ∧ wr = w)
 case atStart => exact ⟨n, [], rfl, rfl, hn', H0.out, rfl⟩
 case round =>
  obtain ⟨u, T, rfl, rfl, hu, hinv, rfl⟩ := hrel
  have hTl : T.length ≤ 40 := by have := hinv.2.2.1; omega
  have HI := hid hinv
  clear hinv
  have hm : u % 10 < 10 := by omega
  by_cases hp : 0 < u ∨ T = []
  ·obtain ⟨g, rfl, hnext⟩ := HI.out.step (by omega) hp
   have HN := hid hnext
   have HX := hid (xtens_app (u % 10) hm T)
   rw [dec_dig _ hm] at HX
   have hul : u / 10 ≤ 4294967295 := by omega
   clear hnext
   by_cases h0 : 0 < u
   ·have h0' : (0 : Int) < (u : Int) := by omega
    clear hp
    go_wp2
    go_roundg g
    case measure => omega
    case rel => exact ⟨_, _, by go_num, by rw [HX.out], hul, HN.out, rfl⟩
   ·have hT0 : T = [] := hp.resolve_left h0
    have hu0 : u = 0 := by omega
    subst hT0
    subst hu0
    clear hp h0
    go_wp2
    go_roundg g
    case measure => omega
    case rel => exact ⟨_, _, by go_num, by rw [HX.out], hul, HN.out, rfl⟩
  ·have hu0 : u = 0 := by omega
   have hT : T ≠ [] := fun h => hp (.inr h)
   have HD := hid (HI.out.done hu0 hT)
   have he : T.isEmpty = false := by simpa using hT
   subst hu0
   clear hp hT
   go_wp2
   go_ret
   rw [HD.out, H8.out]
   exact ⟨rfl, rfl⟩

def t1 (n : Nat) : List UInt8 := dec8 (n / 16777216 % 256)

def t2 (n : Nat) : List UInt8 := t1 n ++ 46 :: dec8 (n / 65536 % 256)

def t3 (n : Nat) : List UInt8 := t2 n ++ 46 :: dec8 (n / 256 % 256)

theorem t4_eq (n : Nat) : t3 n ++ 46 :: dec8 (n % 256) = text4 n := by rw [text4_eq]; simp [t3, t2, t1]

theorem t_len (n : Nat) : (t1 n).length ≤ 3 ∧ (t2 n).length ≤ 7 ∧ (t3 n).length ≤ 11 := by
 have h : ∀ m, (dec8 (m % 256)).length ≤ 3 := fun m => (dec8_nu _ (Nat.mod_lt _ (by decide))).2.1
 have h1 := h (n / 16777216)
 have h2 := h (n / 65536)
 have h3 := h (n / 256)
 simp only [t3, t2, t1, List.length_append, List.length_cons]
 omega

def NumR (n : Nat) (nv kv : Value) : Prop := ∃ X : ByteArray, nv = .string X ∧ X.size ≤ 15 ∧
 ((kv = .int .i64 24 ∧ X.data.toList = []) ∨ (kv = .int .i64 16 ∧ X.data.toList = t1 n) ∨ (kv = .int .i64 8 ∧ X.data.toList = t2 n) ∨ (kv = .int .i64 0 ∧ X.data.toList = t3 n) ∨ (kv = .int .i64 (-8) ∧ X.data.toList = text4 n))

def NamR (w : World) (v : Value) (wc : World) : Prop := ∃ H : ByteArray, v = .string H ∧ WrQ H.data.toList ∧ H.size ≤ 12 ∧ w = wc

theorem dot_app (X : ByteArray) (D l : List UInt8) (h : X.data.toList = l) : ((X ++ (⟨#[46]⟩ : ByteArray)) ++ (⟨D.toArray⟩ : ByteArray)).data.toList = l ++ 46 :: D := by
 rw [ByteArray.data_append, ByteArray.data_append, Array.toList_append, Array.toList_append, h]; simp

theorem nil_app (X : ByteArray) (D : List UInt8) (h : X.data.toList = []) : (X ++ (⟨D.toArray⟩ : ByteArray)).data.toList = D := by
 rw [ByteArray.data_append, Array.toList_append, h]; simp

set_option maxHeartbeats 16000000 in
set_option maxRecDepth 100000 in
theorem mixedPages_walk (s : ByteArray) (dest n0 : Int) (w : World) (hs : s.size ≤ 140737488351232) (hn0 : (Lit.int .u32 n0).wf = true) (hg : Gd w) :
  Calls Tryz.prog 9 #[.string s, .int .i64 dest, .int .u32 n0] w fun e w' => e = .returned (.bool true) ∧ Below w.heap.size w w' := by
 have HG := hid hg
 have hb0 := bounds_u32 hn0
 obtain ⟨n, rfl⟩ := Int.eq_ofNat_of_zero_le hb0.1
 have hn : n < 4294967296 := by omega
 clear hg hn0 hb0
 have hs' : (s.size : Int) ≤ 9223372036854775807 := by omega
 go_enter Tryz.func9, Tryz.ntmps9
 go_upto_block 0 with fail
 go_cut [7] from 8 to 40 (fun v wc => NamR w v wc)
 case first =>
  go_wp2_with fail
  go_loopg [7, 8] s.size (fun g nv iv wr => ∃ (k : Nat) (T : List UInt8), k + g = s.size ∧ iv = .int .i64 k ∧ nv = .string ⟨T.toArray⟩ ∧ WrQ T ∧ T.length ≤ 12 ∧ wr = w)
  case atStart => exact ⟨0, [113], by omega, rfl, rfl, WrQ.start, by decide, rfl⟩
  case round =>
   obtain ⟨k, T, hkg, rfl, rfl, hT, hTl, rfl⟩ := hrel
   have HT := hid hT
   clear hT
   by_cases hlt : k < s.size
   ·have hlt' : (k : Int) < (s.size : Int) := by omega
    have HW := hid (word_app s k hlt T)
    by_cases h12 : T.length < 12
    ·have h12' : (T.length : Int) < 12 := by omega
     obtain ⟨g, rfl⟩ : ∃ g, gk = g + 1 := ⟨gk - 1, by omega⟩
     have hb := s[k].toNat_lt
     by_cases ha : 97 ≤ s[k].toNat
     ·by_cases hz : s[k].toNat ≤ 122
      ·have hwk : k + 1 ≤ s.size := by omega
       have HN := hid (HT.out.snoc ha hz)
       go_wp2
       go_roundg g
       case measure => omega
       case rel => exact ⟨k + 1, T ++ [s[k]], by omega, by go_num, by rw [HW.out], HN.out, by simp; omega, rfl⟩
      ·go_wp2
       go_roundg g
       case measure => omega
       case rel => exact ⟨k + 1, T, by omega, by go_num, rfl, HT.out, hTl, rfl⟩
     ·have ha' : decide ((97 : Int) ≤ (s[k].toNat : Int)) = false := by rw [decide_eq_false_iff_not]; omega
      go_wp2
      go_roundg g
      case measure => omega
      case rel => exact ⟨k + 1, T, by omega, by go_num, rfl, HT.out, hTl, rfl⟩
    ·have h12' : decide ((T.length : Int) < 12) = false := decide_eq_false (by omega)
     go_wp2
     go_meet
     case rel => exact ⟨⟨T.toArray⟩, rfl, HT.out, by rw [Lib.size_eq]; exact hTl, rfl⟩
   ·have hlt' : decide ((k : Int) < (s.size : Int)) = false := by rw [decide_eq_false_iff_not]; omega
    go_wp2
    go_meet
    case rel => exact ⟨⟨T.toArray⟩, rfl, HT.out, by rw [Lib.size_eq]; exact hTl, rfl⟩
 case rest =>
  obtain ⟨H, rfl, hH, hHs, rfl⟩ := hcut
  have HH := hid hH
  have HDg := hid (fun m w (h : m < 256) => digits14_any m w h)
  have HL := hid (t_len n)
  clear hH
  go_wp2_with fail
  go_loop [9, 10] (fun nv kv => NumR n nv kv) (fun _ kv => (intOf kv + 8).toNat)
  case atStart => exact ⟨⟨#[]⟩, rfl, by decide, .inl ⟨rfl, rfl⟩⟩
  case round =>
   obtain ⟨X, rfl, hXs, hcs⟩ := hrel
   rcases hcs with ⟨rfl, hX⟩ | ⟨rfl, hX⟩ | ⟨rfl, hX⟩ | ⟨rfl, hX⟩ | ⟨rfl, hX⟩
   ·have hnd : bits .and .u32 ((n : Int) / 16777216) 255 = ((n / 16777216 % 256 : Nat) : Int) := by
     have := and255 (n / 16777216) (by omega)
     rw [show ((n / 16777216 : Nat) : Int) = (n : Int) / 16777216 by omega] at this
     exact this
    have HXl := hid hX
    obtain ⟨D, hD⟩ : ∃ D : ByteArray, (⟨(dec8 (n / 16777216 % 256)).toArray⟩ : ByteArray) = D := ⟨_, rfl⟩
    have HDd := hid (fun w => HDg.out (n / 16777216 % 256) w (Nat.mod_lt _ (by decide)))
    rw [hD, show (((n / 16777216 % 256 : Nat)) : Int) = (n : Int) / 16777216 % 256 by omega] at HDd
    have hDs : D.size ≤ 3 := by rw [← hD, Lib.size_eq]; exact (dec8_nu _ (Nat.mod_lt _ (by decide))).2.1
    have HDl := hid (show D.data.toList = dec8 (n / 16777216 % 256) by rw [← hD])
    have he : X.toList.isEmpty = true := by rw [Lib.toList_data, hX]; rfl
    obtain ⟨Y, hY⟩ : ∃ Z : ByteArray, X ++ D = Z := ⟨_, rfl⟩
    have hYl : Y.data.toList = t1 n := by rw [← hY, ByteArray.data_append, Array.toList_append, hX, HDl.out]; simp [t1]
    have HY := hid (And.intro hYl (show Y.size ≤ 15 by rw [Lib.size_eq, hYl]; have := HL.out; omega))
    have hxs0 : X.size ≤ 15 := hXs
    clear hX hD hYl
    go_wp2_with fail
    refine (HDd.out _).mono ?_
    rintro e w2 ⟨rfl, rfl⟩
    clear hnd
    go_wp2
    go_round
    case rel => exact ⟨Y, rfl, HY.out.2, .inr (.inl ⟨rfl, HY.out.1⟩)⟩
    case measure => simp [intOf]
   ·have hnd : bits .and .u32 ((n : Int) / 65536) 255 = ((n / 65536 % 256 : Nat) : Int) := by
     have := and255 (n / 65536) (by omega)
     rw [show ((n / 65536 : Nat) : Int) = (n : Int) / 65536 by omega] at this
     exact this
    have HXl := hid hX
    obtain ⟨D, hD⟩ : ∃ D : ByteArray, (⟨(dec8 (n / 65536 % 256)).toArray⟩ : ByteArray) = D := ⟨_, rfl⟩
    have HDd := hid (fun w => HDg.out (n / 65536 % 256) w (Nat.mod_lt _ (by decide)))
    rw [hD, show (((n / 65536 % 256 : Nat)) : Int) = (n : Int) / 65536 % 256 by omega] at HDd
    have hDs : D.size ≤ 3 := by rw [← hD, Lib.size_eq]; exact (dec8_nu _ (Nat.mod_lt _ (by decide))).2.1
    have HDl := hid (show D.data.toList = dec8 (n / 65536 % 256) by rw [← hD])
    have he : X.toList.isEmpty = false := by
     rw [Lib.toList_data, hX]
     cases hh : t1 n with
     | nil => exact absurd (congrArg List.length hh) (by have := dec8_ne (n / 16777216 % 256) (Nat.mod_lt _ (by decide)); simp [t3, t2, t1, this])
     | cons a r => rfl
    have hx12 : X.size ≤ 11 := by rw [Lib.size_eq, hX]; have := HL.out; omega
    obtain ⟨X1, hX1⟩ : ∃ Z : ByteArray, X ++ (⟨#[46]⟩ : ByteArray) = Z := ⟨_, rfl⟩
    have hX1l : X1.data.toList = t1 n ++ [46] := by rw [← hX1, ByteArray.data_append, Array.toList_append, hX]
    have hX1s : X1.size ≤ 12 := by rw [Lib.size_eq, hX1l, List.length_append, ← hX, ← Lib.size_eq]; simp; omega
    obtain ⟨Y, hY⟩ : ∃ Z : ByteArray, X1 ++ D = Z := ⟨_, rfl⟩
    have hYl : Y.data.toList = t2 n := by rw [← hY, ByteArray.data_append, Array.toList_append, hX1l, HDl.out]; simp [t2]
    have HY := hid (And.intro hYl (show Y.size ≤ 15 by rw [Lib.size_eq, hYl]; have := HL.out; omega))
    clear hX hD hYl hX1l
    go_wp2_with fail
    refine (HDd.out _).mono ?_
    rintro e w2 ⟨rfl, rfl⟩
    clear hnd
    go_wp2
    go_round
    case rel => exact ⟨Y, rfl, HY.out.2, .inr (.inr (.inl ⟨rfl, HY.out.1⟩))⟩
    case measure => simp [intOf]
   ·have hnd : bits .and .u32 ((n : Int) / 256) 255 = ((n / 256 % 256 : Nat) : Int) := by
     have := and255 (n / 256) (by omega)
     rw [show ((n / 256 : Nat) : Int) = (n : Int) / 256 by omega] at this
     exact this
    have HXl := hid hX
    obtain ⟨D, hD⟩ : ∃ D : ByteArray, (⟨(dec8 (n / 256 % 256)).toArray⟩ : ByteArray) = D := ⟨_, rfl⟩
    have HDd := hid (fun w => HDg.out (n / 256 % 256) w (Nat.mod_lt _ (by decide)))
    rw [hD, show (((n / 256 % 256 : Nat)) : Int) = (n : Int) / 256 % 256 by omega] at HDd
    have hDs : D.size ≤ 3 := by rw [← hD, Lib.size_eq]; exact (dec8_nu _ (Nat.mod_lt _ (by decide))).2.1
    have HDl := hid (show D.data.toList = dec8 (n / 256 % 256) by rw [← hD])
    have he : X.toList.isEmpty = false := by
     rw [Lib.toList_data, hX]
     cases hh : t2 n with
     | nil => exact absurd (congrArg List.length hh) (by have := dec8_ne (n / 16777216 % 256) (Nat.mod_lt _ (by decide)); simp [t3, t2, t1, this])
     | cons a r => rfl
    have hx12 : X.size ≤ 11 := by rw [Lib.size_eq, hX]; have := HL.out; omega
    obtain ⟨X1, hX1⟩ : ∃ Z : ByteArray, X ++ (⟨#[46]⟩ : ByteArray) = Z := ⟨_, rfl⟩
    have hX1l : X1.data.toList = t2 n ++ [46] := by rw [← hX1, ByteArray.data_append, Array.toList_append, hX]
    have hX1s : X1.size ≤ 12 := by rw [Lib.size_eq, hX1l, List.length_append, ← hX, ← Lib.size_eq]; simp; omega
    obtain ⟨Y, hY⟩ : ∃ Z : ByteArray, X1 ++ D = Z := ⟨_, rfl⟩
    have hYl : Y.data.toList = t3 n := by rw [← hY, ByteArray.data_append, Array.toList_append, hX1l, HDl.out]; simp [t3]
    have HY := hid (And.intro hYl (show Y.size ≤ 15 by rw [Lib.size_eq, hYl]; have := HL.out; omega))
    clear hX hD hYl hX1l
    go_wp2_with fail
    refine (HDd.out _).mono ?_
    rintro e w2 ⟨rfl, rfl⟩
    clear hnd
    go_wp2
    go_round
    case rel => exact ⟨Y, rfl, HY.out.2, .inr (.inr (.inr (.inl ⟨rfl, HY.out.1⟩)))⟩
    case measure => simp [intOf]
   ·have hnd : bits .and .u32 ((n : Int)) 255 = ((n % 256 : Nat) : Int) := by
     have := and255 (n) (by omega)
     
     exact this
    have HXl := hid hX
    obtain ⟨D, hD⟩ : ∃ D : ByteArray, (⟨(dec8 (n % 256)).toArray⟩ : ByteArray) = D := ⟨_, rfl⟩
    have HDd := hid (fun w => HDg.out (n % 256) w (Nat.mod_lt _ (by decide)))
    rw [hD, show (((n % 256 : Nat)) : Int) = (n : Int) % 256 by omega] at HDd
    have hDs : D.size ≤ 3 := by rw [← hD, Lib.size_eq]; exact (dec8_nu _ (Nat.mod_lt _ (by decide))).2.1
    have HDl := hid (show D.data.toList = dec8 (n % 256) by rw [← hD])
    have he : X.toList.isEmpty = false := by
     rw [Lib.toList_data, hX]
     cases hh : t3 n with
     | nil => exact absurd (congrArg List.length hh) (by have := dec8_ne (n / 16777216 % 256) (Nat.mod_lt _ (by decide)); simp [t3, t2, t1, this])
     | cons a r => rfl
    have hx12 : X.size ≤ 11 := by rw [Lib.size_eq, hX]; have := HL.out; omega
    obtain ⟨X1, hX1⟩ : ∃ Z : ByteArray, X ++ (⟨#[46]⟩ : ByteArray) = Z := ⟨_, rfl⟩
    have hX1l : X1.data.toList = t3 n ++ [46] := by rw [← hX1, ByteArray.data_append, Array.toList_append, hX]
    have hX1s : X1.size ≤ 12 := by rw [Lib.size_eq, hX1l, List.length_append, ← hX, ← Lib.size_eq]; simp; omega
    obtain ⟨Y, hY⟩ : ∃ Z : ByteArray, X1 ++ D = Z := ⟨_, rfl⟩
    have hYl : Y.data.toList = text4 n := by rw [← hY, ByteArray.data_append, Array.toList_append, hX1l, HDl.out]; rw [← t4_eq]; simp
    have HY := hid (And.intro hYl (show Y.size ≤ 15 by rw [Lib.size_eq, hYl]; exact text4_len n))
    clear hX hD hYl hX1l
    go_wp2_with fail
    refine (HDd.out _).mono ?_
    rintro e w2 ⟨rfl, rfl⟩
    clear hnd
    go_wp2
    go_round
    case rel => exact ⟨Y, rfl, HY.out.2, .inr (.inr (.inr (.inr (⟨rfl, HY.out.1⟩))))⟩
    case measure => simp [intOf]
   ·have HXl := hid hX
    have HB := hid (Below.refl w.heap.size w)
    clear hX
    by_cases h127 : n / 16777216 = 127
    ·have h127' : (n : Int) / 16777216 = 127 := by omega
     obtain ⟨Y0, hY0⟩ : ∃ Z : ByteArray, (⟨#[104, 116, 116, 112, 58, 47, 47]⟩ : ByteArray) ++ X = Z := ⟨_, rfl⟩
     obtain ⟨Z0, hZ0⟩ : ∃ Z : ByteArray, Y0 ++ (⟨#[47]⟩ : ByteArray) = Z := ⟨_, rfl⟩
     have sY0 : Y0.size ≤ 30 := by rw [Lib.size_eq, ← hY0, ByteArray.data_append, Array.toList_append, List.length_append, ← Lib.size_eq, ← Lib.size_eq]; have e : (⟨#[104, 116, 116, 112, 58, 47, 47]⟩ : ByteArray).size = 7 := rfl; omega
     have sZ0 : Z0.size ≤ 60 := by rw [Lib.size_eq, ← hZ0, ByteArray.data_append, Array.toList_append, List.length_append, ← Lib.size_eq, ← Lib.size_eq]; have e : (⟨#[47]⟩ : ByteArray).size = 1 := rfl; omega
     have lZ0 : Z0.data.toList = [104, 116, 116, 112, 58, 47, 47] ++ (X.data.toList ++ [47]) := by rw [← hZ0, ← hY0, ByteArray.data_append, ByteArray.data_append, Array.toList_append, Array.toList_append, List.append_assoc]
     have HC0 := hid (judgeL_at (⟨#[104, 116, 116, 112, 115, 58, 47, 47, 112, 47]⟩ : ByteArray) Z0 _ _ 4 1 rfl lZ0 (by rw [HXl.out]; exact (judA_num n hn 4).trans (if_pos h127)) (by decide) (by omega))
     clear lZ0
     go_wp2_with fail
     refine (HC0.out _ HG.out).mono ?_
     rintro e x0 ⟨rfl, hb0⟩
     have HB0 := hid (below2 HB.out hb0)
     have HG0 := hid (HG.out.kept hb0)
     clear hb0 hY0 hZ0 sY0 sZ0
     obtain ⟨Y1, hY1⟩ : ∃ Z : ByteArray, (⟨#[104, 116, 116, 112, 58, 47, 47]⟩ : ByteArray) ++ H = Z := ⟨_, rfl⟩
     obtain ⟨Z1, hZ1⟩ : ∃ Z : ByteArray, Y1 ++ (⟨#[47]⟩ : ByteArray) = Z := ⟨_, rfl⟩
     have sY1 : Y1.size ≤ 30 := by rw [Lib.size_eq, ← hY1, ByteArray.data_append, Array.toList_append, List.length_append, ← Lib.size_eq, ← Lib.size_eq]; have e : (⟨#[104, 116, 116, 112, 58, 47, 47]⟩ : ByteArray).size = 7 := rfl; omega
     have sZ1 : Z1.size ≤ 60 := by rw [Lib.size_eq, ← hZ1, ByteArray.data_append, Array.toList_append, List.length_append, ← Lib.size_eq, ← Lib.size_eq]; have e : (⟨#[47]⟩ : ByteArray).size = 1 := rfl; omega
     have lZ1 : Z1.data.toList = [104, 116, 116, 112, 58, 47, 47] ++ (H.data.toList ++ [47]) := by rw [← hZ1, ← hY1, ByteArray.data_append, ByteArray.data_append, Array.toList_append, Array.toList_append, List.append_assoc]
     have HC1 := hid (judgeL_at (⟨#[104, 116, 116, 112, 58, 47, 47, 112, 47]⟩ : ByteArray) Z1 _ _ dest 1 rfl lZ1 (judA_http _ dest) (by decide) (by omega))
     clear lZ1
     go_wp2_with fail
     refine (HC1.out _ HG0.out).mono ?_
     rintro e x1 ⟨rfl, hb1⟩
     have HB1 := hid (below2 HB0.out hb1)
     have HG1 := hid (HG0.out.kept hb1)
     clear hb1 hY1 hZ1 sY1 sZ1
     obtain ⟨Y2, hY2⟩ : ∃ Z : ByteArray, (⟨#[104, 116, 116, 112, 115, 58, 47, 47]⟩ : ByteArray) ++ H = Z := ⟨_, rfl⟩
     obtain ⟨Z2, hZ2⟩ : ∃ Z : ByteArray, Y2 ++ (⟨#[47]⟩ : ByteArray) = Z := ⟨_, rfl⟩
     have sY2 : Y2.size ≤ 30 := by rw [Lib.size_eq, ← hY2, ByteArray.data_append, Array.toList_append, List.length_append, ← Lib.size_eq, ← Lib.size_eq]; have e : (⟨#[104, 116, 116, 112, 115, 58, 47, 47]⟩ : ByteArray).size = 8 := rfl; omega
     have sZ2 : Z2.size ≤ 60 := by rw [Lib.size_eq, ← hZ2, ByteArray.data_append, Array.toList_append, List.length_append, ← Lib.size_eq, ← Lib.size_eq]; have e : (⟨#[47]⟩ : ByteArray).size = 1 := rfl; omega
     have lZ2 : Z2.data.toList = [104, 116, 116, 112, 115, 58, 47, 47] ++ (H.data.toList ++ [47]) := by rw [← hZ2, ← hY2, ByteArray.data_append, ByteArray.data_append, Array.toList_append, Array.toList_append, List.append_assoc]
     have HC2 := hid (judgeL_at (⟨#[104, 116, 116, 112, 115, 58, 47, 47, 112, 47]⟩ : ByteArray) Z2 _ _ dest 1 rfl lZ2 (judA_https HH.out (by rw [← Lib.size_eq]; omega) dest) (by decide) (by omega))
     clear lZ2
     go_wp2_with fail
     refine (HC2.out _ HG1.out).mono ?_
     rintro e x2 ⟨rfl, hb2⟩
     have HB2 := hid (below2 HB1.out hb2)
     have HG2 := hid (HG1.out.kept hb2)
     clear hb2 hY2 hZ2 sY2 sZ2
     obtain ⟨Y3, hY3⟩ : ∃ Z : ByteArray, (⟨#[104, 116, 116, 112, 58, 47, 47]⟩ : ByteArray) ++ H = Z := ⟨_, rfl⟩
     obtain ⟨Z3, hZ3⟩ : ∃ Z : ByteArray, Y3 ++ (⟨#[46, 99, 111, 109, 47]⟩ : ByteArray) = Z := ⟨_, rfl⟩
     have sY3 : Y3.size ≤ 30 := by rw [Lib.size_eq, ← hY3, ByteArray.data_append, Array.toList_append, List.length_append, ← Lib.size_eq, ← Lib.size_eq]; have e : (⟨#[104, 116, 116, 112, 58, 47, 47]⟩ : ByteArray).size = 7 := rfl; omega
     have sZ3 : Z3.size ≤ 60 := by rw [Lib.size_eq, ← hZ3, ByteArray.data_append, Array.toList_append, List.length_append, ← Lib.size_eq, ← Lib.size_eq]; have e : (⟨#[46, 99, 111, 109, 47]⟩ : ByteArray).size = 5 := rfl; omega
     have lZ3 : Z3.data.toList = [104, 116, 116, 112, 58, 47, 47] ++ (H.data.toList ++ [46, 99, 111, 109, 47]) := by rw [← hZ3, ← hY3, ByteArray.data_append, ByteArray.data_append, Array.toList_append, Array.toList_append, List.append_assoc]
     have HC3 := hid (judgeL_at (⟨#[104, 116, 116, 112, 115, 58, 47, 47, 112, 47]⟩ : ByteArray) Z3 _ _ 4 2 rfl lZ3 ((congrArg (fun l => judA tPs l 4) (show _ = sHttp ++ 58 :: 47 :: 47 :: ((H.data.toList ++ 46 :: com) ++ [47]) by simp [sHttp, com])).trans (judA_com HH.out (by rw [← Lib.size_eq]; omega) 4)) (by decide) (by omega))
     clear lZ3
     go_wp2_with fail
     refine (HC3.out _ HG2.out).mono ?_
     rintro e x3 ⟨rfl, hb3⟩
     have HB3 := hid (below2 HB2.out hb3)
     have HG3 := hid (HG2.out.kept hb3)
     clear hb3 hY3 hZ3 sY3 sZ3
     obtain ⟨Y4, hY4⟩ : ∃ Z : ByteArray, (⟨#[104, 116, 116, 112, 58, 47, 47]⟩ : ByteArray) ++ H = Z := ⟨_, rfl⟩
     obtain ⟨Z4, hZ4⟩ : ∃ Z : ByteArray, Y4 ++ (⟨#[46, 99, 111, 109, 47]⟩ : ByteArray) = Z := ⟨_, rfl⟩
     have sY4 : Y4.size ≤ 30 := by rw [Lib.size_eq, ← hY4, ByteArray.data_append, Array.toList_append, List.length_append, ← Lib.size_eq, ← Lib.size_eq]; have e : (⟨#[104, 116, 116, 112, 58, 47, 47]⟩ : ByteArray).size = 7 := rfl; omega
     have sZ4 : Z4.size ≤ 60 := by rw [Lib.size_eq, ← hZ4, ByteArray.data_append, Array.toList_append, List.length_append, ← Lib.size_eq, ← Lib.size_eq]; have e : (⟨#[46, 99, 111, 109, 47]⟩ : ByteArray).size = 5 := rfl; omega
     have lZ4 : Z4.data.toList = [104, 116, 116, 112, 58, 47, 47] ++ (H.data.toList ++ [46, 99, 111, 109, 47]) := by rw [← hZ4, ← hY4, ByteArray.data_append, ByteArray.data_append, Array.toList_append, Array.toList_append, List.append_assoc]
     have HC4 := hid (judgeL_at (⟨#[104, 116, 116, 112, 115, 58, 47, 47, 112, 47]⟩ : ByteArray) Z4 _ _ 5 3 rfl lZ4 ((congrArg (fun l => judA tPs l 5) (show _ = sHttp ++ 58 :: 47 :: 47 :: ((H.data.toList ++ 46 :: com) ++ [47]) by simp [sHttp, com])).trans (judA_com HH.out (by rw [← Lib.size_eq]; omega) 5)) (by decide) (by omega))
     clear lZ4
     go_wp2_with fail
     refine (HC4.out _ HG3.out).mono ?_
     rintro e x4 ⟨rfl, hb4⟩
     have HB4 := hid (below2 HB3.out hb4)
     have HG4 := hid (HG3.out.kept hb4)
     clear hb4 hY4 hZ4 sY4 sZ4
     obtain ⟨Y5, hY5⟩ : ∃ Z : ByteArray, (⟨#[104, 116, 116, 112, 58, 47, 47]⟩ : ByteArray) ++ H = Z := ⟨_, rfl⟩
     obtain ⟨Z5, hZ5⟩ : ∃ Z : ByteArray, Y5 ++ (⟨#[46, 108, 111, 99, 97, 108, 104, 111, 115, 116, 47]⟩ : ByteArray) = Z := ⟨_, rfl⟩
     have sY5 : Y5.size ≤ 30 := by rw [Lib.size_eq, ← hY5, ByteArray.data_append, Array.toList_append, List.length_append, ← Lib.size_eq, ← Lib.size_eq]; have e : (⟨#[104, 116, 116, 112, 58, 47, 47]⟩ : ByteArray).size = 7 := rfl; omega
     have sZ5 : Z5.size ≤ 60 := by rw [Lib.size_eq, ← hZ5, ByteArray.data_append, Array.toList_append, List.length_append, ← Lib.size_eq, ← Lib.size_eq]; have e : (⟨#[46, 108, 111, 99, 97, 108, 104, 111, 115, 116, 47]⟩ : ByteArray).size = 11 := rfl; omega
     have lZ5 : Z5.data.toList = [104, 116, 116, 112, 58, 47, 47] ++ (H.data.toList ++ [46, 108, 111, 99, 97, 108, 104, 111, 115, 116, 47]) := by rw [← hZ5, ← hY5, ByteArray.data_append, ByteArray.data_append, Array.toList_append, Array.toList_append, List.append_assoc]
     have HC5 := hid (judgeL_at (⟨#[104, 116, 116, 112, 115, 58, 47, 47, 112, 47]⟩ : ByteArray) Z5 _ _ dest 1 rfl lZ5 ((congrArg (fun l => judA tPs l dest) (show _ = sHttp ++ 58 :: 47 :: 47 :: ((H.data.toList ++ 46 :: loc) ++ [47]) by simp [sHttp, loc])).trans (judA_loc HH.out (by rw [← Lib.size_eq]; omega) dest)) (by decide) (by omega))
     clear lZ5
     go_wp2_with fail
     refine (HC5.out _ HG4.out).mono ?_
     rintro e x5 ⟨rfl, hb5⟩
     have HB5 := hid (below2 HB4.out hb5)
     have HG5 := hid (HG4.out.kept hb5)
     clear hb5 hY5 hZ5 sY5 sZ5
     go_wp2_with fail
     refine (known14_any _ HG5.out).mono ?_
     rintro e x6 ⟨rfl, hb6⟩
     go_wp2
     go_ret
     exact ⟨rfl, below2 HB5.out hb6⟩
    ·have h127' : ((n : Int) / 16777216 == 127) = false := by rw [beq_eq_false_iff_ne]; omega
     have h127'' : ¬ (n : Int) / 16777216 = 127 := by omega
     obtain ⟨Y0, hY0⟩ : ∃ Z : ByteArray, (⟨#[104, 116, 116, 112, 58, 47, 47]⟩ : ByteArray) ++ X = Z := ⟨_, rfl⟩
     obtain ⟨Z0, hZ0⟩ : ∃ Z : ByteArray, Y0 ++ (⟨#[47]⟩ : ByteArray) = Z := ⟨_, rfl⟩
     have sY0 : Y0.size ≤ 30 := by rw [Lib.size_eq, ← hY0, ByteArray.data_append, Array.toList_append, List.length_append, ← Lib.size_eq, ← Lib.size_eq]; have e : (⟨#[104, 116, 116, 112, 58, 47, 47]⟩ : ByteArray).size = 7 := rfl; omega
     have sZ0 : Z0.size ≤ 60 := by rw [Lib.size_eq, ← hZ0, ByteArray.data_append, Array.toList_append, List.length_append, ← Lib.size_eq, ← Lib.size_eq]; have e : (⟨#[47]⟩ : ByteArray).size = 1 := rfl; omega
     have lZ0 : Z0.data.toList = [104, 116, 116, 112, 58, 47, 47] ++ (X.data.toList ++ [47]) := by rw [← hZ0, ← hY0, ByteArray.data_append, ByteArray.data_append, Array.toList_append, Array.toList_append, List.append_assoc]
     have HC0 := hid (judgeL_at (⟨#[104, 116, 116, 112, 115, 58, 47, 47, 112, 47]⟩ : ByteArray) Z0 _ _ 4 3 rfl lZ0 (by rw [HXl.out]; exact (judA_num n hn 4).trans (if_neg h127)) (by decide) (by omega))
     clear lZ0
     go_wp2_with fail
     refine (HC0.out _ HG.out).mono ?_
     rintro e x0 ⟨rfl, hb0⟩
     have HB0 := hid (below2 HB.out hb0)
     have HG0 := hid (HG.out.kept hb0)
     clear hb0 hY0 hZ0 sY0 sZ0
     obtain ⟨Y1, hY1⟩ : ∃ Z : ByteArray, (⟨#[104, 116, 116, 112, 58, 47, 47]⟩ : ByteArray) ++ H = Z := ⟨_, rfl⟩
     obtain ⟨Z1, hZ1⟩ : ∃ Z : ByteArray, Y1 ++ (⟨#[47]⟩ : ByteArray) = Z := ⟨_, rfl⟩
     have sY1 : Y1.size ≤ 30 := by rw [Lib.size_eq, ← hY1, ByteArray.data_append, Array.toList_append, List.length_append, ← Lib.size_eq, ← Lib.size_eq]; have e : (⟨#[104, 116, 116, 112, 58, 47, 47]⟩ : ByteArray).size = 7 := rfl; omega
     have sZ1 : Z1.size ≤ 60 := by rw [Lib.size_eq, ← hZ1, ByteArray.data_append, Array.toList_append, List.length_append, ← Lib.size_eq, ← Lib.size_eq]; have e : (⟨#[47]⟩ : ByteArray).size = 1 := rfl; omega
     have lZ1 : Z1.data.toList = [104, 116, 116, 112, 58, 47, 47] ++ (H.data.toList ++ [47]) := by rw [← hZ1, ← hY1, ByteArray.data_append, ByteArray.data_append, Array.toList_append, Array.toList_append, List.append_assoc]
     have HC1 := hid (judgeL_at (⟨#[104, 116, 116, 112, 58, 47, 47, 112, 47]⟩ : ByteArray) Z1 _ _ dest 1 rfl lZ1 (judA_http _ dest) (by decide) (by omega))
     clear lZ1
     go_wp2_with fail
     refine (HC1.out _ HG0.out).mono ?_
     rintro e x1 ⟨rfl, hb1⟩
     have HB1 := hid (below2 HB0.out hb1)
     have HG1 := hid (HG0.out.kept hb1)
     clear hb1 hY1 hZ1 sY1 sZ1
     obtain ⟨Y2, hY2⟩ : ∃ Z : ByteArray, (⟨#[104, 116, 116, 112, 115, 58, 47, 47]⟩ : ByteArray) ++ H = Z := ⟨_, rfl⟩
     obtain ⟨Z2, hZ2⟩ : ∃ Z : ByteArray, Y2 ++ (⟨#[47]⟩ : ByteArray) = Z := ⟨_, rfl⟩
     have sY2 : Y2.size ≤ 30 := by rw [Lib.size_eq, ← hY2, ByteArray.data_append, Array.toList_append, List.length_append, ← Lib.size_eq, ← Lib.size_eq]; have e : (⟨#[104, 116, 116, 112, 115, 58, 47, 47]⟩ : ByteArray).size = 8 := rfl; omega
     have sZ2 : Z2.size ≤ 60 := by rw [Lib.size_eq, ← hZ2, ByteArray.data_append, Array.toList_append, List.length_append, ← Lib.size_eq, ← Lib.size_eq]; have e : (⟨#[47]⟩ : ByteArray).size = 1 := rfl; omega
     have lZ2 : Z2.data.toList = [104, 116, 116, 112, 115, 58, 47, 47] ++ (H.data.toList ++ [47]) := by rw [← hZ2, ← hY2, ByteArray.data_append, ByteArray.data_append, Array.toList_append, Array.toList_append, List.append_assoc]
     have HC2 := hid (judgeL_at (⟨#[104, 116, 116, 112, 115, 58, 47, 47, 112, 47]⟩ : ByteArray) Z2 _ _ dest 1 rfl lZ2 (judA_https HH.out (by rw [← Lib.size_eq]; omega) dest) (by decide) (by omega))
     clear lZ2
     go_wp2_with fail
     refine (HC2.out _ HG1.out).mono ?_
     rintro e x2 ⟨rfl, hb2⟩
     have HB2 := hid (below2 HB1.out hb2)
     have HG2 := hid (HG1.out.kept hb2)
     clear hb2 hY2 hZ2 sY2 sZ2
     obtain ⟨Y3, hY3⟩ : ∃ Z : ByteArray, (⟨#[104, 116, 116, 112, 58, 47, 47]⟩ : ByteArray) ++ H = Z := ⟨_, rfl⟩
     obtain ⟨Z3, hZ3⟩ : ∃ Z : ByteArray, Y3 ++ (⟨#[46, 99, 111, 109, 47]⟩ : ByteArray) = Z := ⟨_, rfl⟩
     have sY3 : Y3.size ≤ 30 := by rw [Lib.size_eq, ← hY3, ByteArray.data_append, Array.toList_append, List.length_append, ← Lib.size_eq, ← Lib.size_eq]; have e : (⟨#[104, 116, 116, 112, 58, 47, 47]⟩ : ByteArray).size = 7 := rfl; omega
     have sZ3 : Z3.size ≤ 60 := by rw [Lib.size_eq, ← hZ3, ByteArray.data_append, Array.toList_append, List.length_append, ← Lib.size_eq, ← Lib.size_eq]; have e : (⟨#[46, 99, 111, 109, 47]⟩ : ByteArray).size = 5 := rfl; omega
     have lZ3 : Z3.data.toList = [104, 116, 116, 112, 58, 47, 47] ++ (H.data.toList ++ [46, 99, 111, 109, 47]) := by rw [← hZ3, ← hY3, ByteArray.data_append, ByteArray.data_append, Array.toList_append, Array.toList_append, List.append_assoc]
     have HC3 := hid (judgeL_at (⟨#[104, 116, 116, 112, 115, 58, 47, 47, 112, 47]⟩ : ByteArray) Z3 _ _ 4 2 rfl lZ3 ((congrArg (fun l => judA tPs l 4) (show _ = sHttp ++ 58 :: 47 :: 47 :: ((H.data.toList ++ 46 :: com) ++ [47]) by simp [sHttp, com])).trans (judA_com HH.out (by rw [← Lib.size_eq]; omega) 4)) (by decide) (by omega))
     clear lZ3
     go_wp2_with fail
     refine (HC3.out _ HG2.out).mono ?_
     rintro e x3 ⟨rfl, hb3⟩
     have HB3 := hid (below2 HB2.out hb3)
     have HG3 := hid (HG2.out.kept hb3)
     clear hb3 hY3 hZ3 sY3 sZ3
     obtain ⟨Y4, hY4⟩ : ∃ Z : ByteArray, (⟨#[104, 116, 116, 112, 58, 47, 47]⟩ : ByteArray) ++ H = Z := ⟨_, rfl⟩
     obtain ⟨Z4, hZ4⟩ : ∃ Z : ByteArray, Y4 ++ (⟨#[46, 99, 111, 109, 47]⟩ : ByteArray) = Z := ⟨_, rfl⟩
     have sY4 : Y4.size ≤ 30 := by rw [Lib.size_eq, ← hY4, ByteArray.data_append, Array.toList_append, List.length_append, ← Lib.size_eq, ← Lib.size_eq]; have e : (⟨#[104, 116, 116, 112, 58, 47, 47]⟩ : ByteArray).size = 7 := rfl; omega
     have sZ4 : Z4.size ≤ 60 := by rw [Lib.size_eq, ← hZ4, ByteArray.data_append, Array.toList_append, List.length_append, ← Lib.size_eq, ← Lib.size_eq]; have e : (⟨#[46, 99, 111, 109, 47]⟩ : ByteArray).size = 5 := rfl; omega
     have lZ4 : Z4.data.toList = [104, 116, 116, 112, 58, 47, 47] ++ (H.data.toList ++ [46, 99, 111, 109, 47]) := by rw [← hZ4, ← hY4, ByteArray.data_append, ByteArray.data_append, Array.toList_append, Array.toList_append, List.append_assoc]
     have HC4 := hid (judgeL_at (⟨#[104, 116, 116, 112, 115, 58, 47, 47, 112, 47]⟩ : ByteArray) Z4 _ _ 5 3 rfl lZ4 ((congrArg (fun l => judA tPs l 5) (show _ = sHttp ++ 58 :: 47 :: 47 :: ((H.data.toList ++ 46 :: com) ++ [47]) by simp [sHttp, com])).trans (judA_com HH.out (by rw [← Lib.size_eq]; omega) 5)) (by decide) (by omega))
     clear lZ4
     go_wp2_with fail
     refine (HC4.out _ HG3.out).mono ?_
     rintro e x4 ⟨rfl, hb4⟩
     have HB4 := hid (below2 HB3.out hb4)
     have HG4 := hid (HG3.out.kept hb4)
     clear hb4 hY4 hZ4 sY4 sZ4
     obtain ⟨Y5, hY5⟩ : ∃ Z : ByteArray, (⟨#[104, 116, 116, 112, 58, 47, 47]⟩ : ByteArray) ++ H = Z := ⟨_, rfl⟩
     obtain ⟨Z5, hZ5⟩ : ∃ Z : ByteArray, Y5 ++ (⟨#[46, 108, 111, 99, 97, 108, 104, 111, 115, 116, 47]⟩ : ByteArray) = Z := ⟨_, rfl⟩
     have sY5 : Y5.size ≤ 30 := by rw [Lib.size_eq, ← hY5, ByteArray.data_append, Array.toList_append, List.length_append, ← Lib.size_eq, ← Lib.size_eq]; have e : (⟨#[104, 116, 116, 112, 58, 47, 47]⟩ : ByteArray).size = 7 := rfl; omega
     have sZ5 : Z5.size ≤ 60 := by rw [Lib.size_eq, ← hZ5, ByteArray.data_append, Array.toList_append, List.length_append, ← Lib.size_eq, ← Lib.size_eq]; have e : (⟨#[46, 108, 111, 99, 97, 108, 104, 111, 115, 116, 47]⟩ : ByteArray).size = 11 := rfl; omega
     have lZ5 : Z5.data.toList = [104, 116, 116, 112, 58, 47, 47] ++ (H.data.toList ++ [46, 108, 111, 99, 97, 108, 104, 111, 115, 116, 47]) := by rw [← hZ5, ← hY5, ByteArray.data_append, ByteArray.data_append, Array.toList_append, Array.toList_append, List.append_assoc]
     have HC5 := hid (judgeL_at (⟨#[104, 116, 116, 112, 115, 58, 47, 47, 112, 47]⟩ : ByteArray) Z5 _ _ dest 1 rfl lZ5 ((congrArg (fun l => judA tPs l dest) (show _ = sHttp ++ 58 :: 47 :: 47 :: ((H.data.toList ++ 46 :: loc) ++ [47]) by simp [sHttp, loc])).trans (judA_loc HH.out (by rw [← Lib.size_eq]; omega) dest)) (by decide) (by omega))
     clear lZ5
     go_wp2_with fail
     refine (HC5.out _ HG4.out).mono ?_
     rintro e x5 ⟨rfl, hb5⟩
     have HB5 := hid (below2 HB4.out hb5)
     have HG5 := hid (HG4.out.kept hb5)
     clear hb5 hY5 hZ5 sY5 sZ5
     go_wp2_with fail
     refine (known14_any _ HG5.out).mono ?_
     rintro e x6 ⟨rfl, hb6⟩
     go_wp2
     go_ret
     exact ⟨rfl, below2 HB5.out hb6⟩

end Go.Proofs.YtmhooefajdndjaaGreatDoor

namespace Go.Proofs.YtmhooefajdndjaaGreatDoor
open Go.RowKit

def laid7 : List (String × DataW Unit) := [("math/bits.deBruijn32tab", Rows.laid_math_bits_deBruijn32tab), ("math/bits.deBruijn64tab", Rows.laid_math_bits_deBruijn64tab), ("internal/strconv.uint64pow10", Rows.laid_internal_strconv_uint64pow10), ("unicode/utf8.acceptRanges", Rows.laid_unicode_utf8_acceptRanges), ("unicode/utf8.first", Rows.laid_unicode_utf8_first)]

theorem g5_of_shaped {W : World} (hsh : W.ShapedOpen Tryz.prog) : G5 W := Tryz.laysM145.s1_3 W hsh

theorem gd7_of_laid {W : World} (h : laidMetH Tryz.prog laid7 W) (hsh : W.ShapedOpen Tryz.prog) : Gd W := by
 have h' : laidMet Tryz.prog laid7 W := h
 have h2 := h'.tail
 have h3 := h2.tail
 refine ⟨Tryz.laysM145.s1_3 W hsh, ?_, ?_⟩
 ·exact Lib.tabIs_of_head gPow10 (by kernel_rfl) Tryz.underlying141 Tryz.underlying124 (by kernel_rfl) (by kernel_rfl) h3
 ·exact Lib.tabIs_of_head gDB64 (by kernel_rfl) Tryz.underlying176 Tryz.underlying5 (by kernel_rfl) (by kernel_rfl) h2

theorem ownK : ownKnob Tryz.prog.godebug = none := by kernel_rfl

noncomputable def startW (os : Os) : World :=
 { World.doorLaid Tryz.prog 24 os with heap := (World.doorLaid Tryz.prog 24 os).heap.setIfInBounds 2 (.cells (Pinned.utf8FirstZ.map fun (n : Nat) => Value.int .u8 (n : Int)).toArray 163 (0, 0)) }

theorem door_met (os : Os) (args : Array Value) : laidMetH Tryz.prog laid7 ((startW os).forCall (fun _ _ => 0) ⟨#[], args, []⟩).memory :=
 laidMetH_of_parts3 (fuel := 8) (laidMet_of_run' 8 (by kernel_rfl) (by kernel_rfl)) (by kernel_rfl) (by kernel_rfl)

end Go.Proofs.YtmhooefajdndjaaGreatDoor
