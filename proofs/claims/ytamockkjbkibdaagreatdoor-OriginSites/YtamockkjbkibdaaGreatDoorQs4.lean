/-
  Walks and plain facts that this claim leans on, put together out of 1 texts: Ews.
-/
import Derived.Test.YtamockkjbkibdaaGreatDoorProg
import Derived.Test.YtamockkjbkibdaaGreatDoorQa1
import Derived.Test.YtamockkjbkibdaaGreatDoorQa2
import Derived.Test.YtamockkjbkibdaaGreatDoorQa3
import Derived.Test.YtamockkjbkibdaaGreatDoorQa4
import Derived.Test.YtamockkjbkibdaaGreatDoorQa5
import Derived.Test.YtamockkjbkibdaaGreatDoorQa6
import Derived.Test.YtamockkjbkibdaaGreatDoorQa7
import Derived.Test.YtamockkjbkibdaaGreatDoorQa8
import Derived.Test.YtamockkjbkibdaaGreatDoorQa9
import Derived.Test.YtamockkjbkibdaaGreatDoorQa10
import Derived.Test.YtamockkjbkibdaaGreatDoorQa11
import Derived.Test.YtamockkjbkibdaaGreatDoorQa12
import Derived.Test.YtamockkjbkibdaaGreatDoorQa13
import Derived.Test.YtamockkjbkibdaaGreatDoorQa14
import Derived.Test.YtamockkjbkibdaaGreatDoorQa15
import Derived.Test.YtamockkjbkibdaaGreatDoorQa16
import Derived.Test.YtamockkjbkibdaaGreatDoorQa17
import Derived.Test.YtamockkjbkibdaaGreatDoorQa18
import Derived.Test.YtamockkjbkibdaaGreatDoorQa19
import Derived.Test.YtamockkjbkibdaaGreatDoorQa20
import Derived.Test.YtamockkjbkibdaaGreatDoorQa21
import Derived.Test.YtamockkjbkibdaaGreatDoorQa22
import Derived.Test.YtamockkjbkibdaaGreatDoorQa23
import Derived.Test.YtamockkjbkibdaaGreatDoorQa24
import Derived.Test.YtamockkjbkibdaaGreatDoorQa25
import Derived.Test.YtamockkjbkibdaaGreatDoorQa26
import Derived.Test.YtamockkjbkibdaaGreatDoorQa27
import Derived.Test.YtamockkjbkibdaaGreatDoorQa28
import Derived.Test.YtamockkjbkibdaaGreatDoorQa29
import Derived.Test.YtamockkjbkibdaaGreatDoorQa30
import Derived.Test.YtamockkjbkibdaaGreatDoorQa31
import Derived.Test.YtamockkjbkibdaaGreatDoorQa32
import Derived.Test.YtamockkjbkibdaaGreatDoorQo1
import Derived.Test.YtamockkjbkibdaaGreatDoorQo2
import Derived.Test.YtamockkjbkibdaaGreatDoorQo3
import Derived.Test.YtamockkjbkibdaaGreatDoorQs1
import Derived.Test.YtamockkjbkibdaaGreatDoorQs2
import Derived.Test.YtamockkjbkibdaaGreatDoorQs3
import Derived.Deep.Cut
import Derived.Deep.QuietTactic
import Derived.BigQuiet
import Derived.BigRegion
import Derived.Deep.RegionHeld
import Derived.Deep.CutRange
import Derived.Lib.IndexMore
import Derived.Lib.Join
import Derived.Lib.LastIndexByte
import Derived.WalkKit
import Derived.Lib.Strings
import Derived.Lib.UnsafeStr
import Derived.Laws.IdiomStrings
import Derived.Laws.AppendOwn
import Derived.Laws.BitsAllLaws
import Derived.Lib.Bytealg
import Derived.Lib.BufferMore
import Derived.Lib.BufferRead
import Derived.Lib.RuneBytes
import Derived.Laws.RangeAny
import Derived.LoopN
import Derived.RegionTactic
import Derived.Deep.RegionWith
import Derived.OwnWalk
import Derived.Deep.RegionLaw
import Derived.Laws.OwnMore
import Derived.Deep.LoopGhost
import Derived.Shelf.Strings.Builder1
import Derived.Shelf.Strings.Builder2
import Derived.Shelf.Strings.OnBuilder
import Derived.Shelf.Strings.Trim
import Derived.Shelf.Small.Utf8
import Derived.Shelf.Small.Strs
import Derived.Shelf.Small.Wraps
import Derived.Shelf.Strings.BuilderF
import Derived.Shelf.Strings.BuilderK
import Derived.Shelf.Strings.BuilderRune
import Derived.Shelf.Utf8.AppendRune
import Derived.Shelf.Utf8.AppendRunePlain
import Derived.Shelf.Strings.Builder2Cap
import Derived.Shelf.Strconv.Itoa0
import Derived.Shelf.Strconv.Itoa1
import Derived.Shelf.LaysM
import Derived.Shelf.Strconv.Itoa2
import Derived.Shelf.Strconv.Itoa3
import Derived.Shelf.Strings.Search1
import Derived.Shelf.Strings.Search2
import Derived.Shelf.Strings.Search3
import Derived.Shelf.Strings.Cut
import Derived.Shelf.Strings.Count
import Derived.Shelf.Strings.Shaped
import Derived.Shelf.Strings.LastIndex
import Derived.Shelf.Strings.Prefix
import Derived.Shelf.Strings.Split
import Derived.Shelf.Strings.Replace
import Derived.Shelf.Strings.Runes
import Derived.Shelf.Strings.IndexAny
import Derived.Shelf.Strings.AsciiSet
import Derived.Shelf.Strings.IndexAnyAll
import Derived.Shelf.Unicode.DecodeSlow
import Derived.Ground.Names2Prog
import Derived.Shelf.Slices.Clone
import Derived.Ground.SlgnProg
import Derived.Shelf.SlicesE.Clone
import Derived.Laws.AppendOwnNone
import Derived.Scope
import Derived.ScopeJumps
import Derived.WalkMore
import Derived.Lib.IndexAny
import Derived.Lib.Replace
import Derived.Lib.TrimByte
import Derived.Lib.ItoaNum
import Derived.Lib.DecodeN
import Derived.Lib.OthersKept
import Derived.Laws.BytesString
import Derived.Deep.WholeRow
import Derived.Lib.AppendStr
import Derived.WalkSpells
import Derived.WalkLawsBesides
import Derived.Lib.AppendIntMem
import Derived.Lib.SmallJoins
import Derived.WalkSmall
import Derived.Laws.CopyOwn
import Derived.Laws.ResultCell
import Derived.Deep.MidRow
import Derived.Lib.FrozenHead2
import Derived.Lib.Builder
import Derived.Lib.SlTrimSet
import Derived.Below
import Derived.Shelf.Strings.SlTrimAscii
import Derived.Laws.Runes
set_option linter.unusedSimpArgs false
set_option linter.unusedVariables false

namespace Go.Proofs.YtamockkjbkibdaaGreatDoor
open Go.RowKit

set_option maxHeartbeats 2000000 in
theorem word4_any (s : ByteArray) (w : World) (hs : s.size ≤ 9223372036854775807) :
  Calls Tryz.prog 34 #[.string s] w fun e w' => ∃ T, e = .returned (.string ⟨T.toArray⟩) ∧ WrQ T ∧ T.length ≤ 20 ∧ w = w' := by
 go_enter Tryz.func34, Tryz.ntmps34
 go_wp2
 go_loop [3, 4] (fun o i => ∃ (k : Nat) (T : List UInt8), k ≤ s.size ∧ i = .int .i64 k ∧ o = .string ⟨T.toArray⟩ ∧ WrQ T ∧ T.length ≤ 20) (fun o i => s.size - (intOf i).toNat)
 case atStart => exact ⟨0, [113], Nat.zero_le _, rfl, rfl, WrQ.start, by decide⟩
 case round =>
  obtain ⟨k, T, hk, rfl, rfl, hT, hTl⟩ := hrel
  have HT := hid hT
  clear hT
  by_cases hlt : k < s.size
  ·have hlt' : (k : Int) < (s.size : Int) := by omega
   have HW := hid (word_app s k hlt T)
   by_cases h12 : T.length < 20
   ·have h12' : (T.length : Int) < 20 := by omega
    have hb := s[k].toNat_lt
    by_cases ha : 97 ≤ s[k].toNat
    ·by_cases hz : s[k].toNat ≤ 122
     ·have hwk : k + 1 ≤ s.size := by omega
      have HN := hid (HT.out.snoc ha hz)
      go_wp2
      go_round
      case rel => exact ⟨k + 1, T ++ [s[k]], by omega, by go_num, by rw [HW.out], HN.out, by simp; omega⟩
      case measure => simp [intOf]; omega
     ·go_wp2
      go_round
      case rel => exact ⟨k + 1, T, by omega, by go_num, rfl, HT.out, hTl⟩
      case measure => simp [intOf]; omega
    ·have ha' : decide ((97 : Int) ≤ (s[k].toNat : Int)) = false := by rw [decide_eq_false_iff_not]; omega
     go_wp2
     go_round
     case rel => exact ⟨k + 1, T, by omega, by go_num, rfl, HT.out, hTl⟩
     case measure => simp [intOf]; omega
   ·go_wp2
    go_ret
    exact ⟨T, rfl, HT.out, hTl, rfl⟩
  ·have hlt' : decide ((k : Int) < (s.size : Int)) = false := by rw [decide_eq_false_iff_not]; omega
   go_wp2
   go_ret
   exact ⟨T, rfl, HT.out, hTl, rfl⟩

theorem hn_app {a b : List UInt8} (ha : ∀ c ∈ a, hnC c = true ∧ lowC c = c) (hb : ∀ c ∈ b, hnC c = true ∧ lowC c = c) : ∀ c ∈ a ++ 46 :: b, hnC c = true ∧ lowC c = c := fun c hc => by
 rcases List.mem_append.1 hc with hc | hc
 ·exact ha c hc
 ·rcases List.mem_cons.1 hc with rfl | hc
  ·decide
  ·exact hb c hc

theorem hn_cons {a : UInt8} {b : List UInt8} (ha : hnC a = true ∧ lowC a = a) (hb : ∀ c ∈ b, hnC c = true ∧ lowC c = c) : ∀ c ∈ a :: b, hnC c = true ∧ lowC c = c := fun c hc => by
 rcases List.mem_cons.1 hc with rfl | hc
 ·exact ha
 ·exact hb c hc

theorem co_hn : ∀ c ∈ co, hnC c = true ∧ lowC c = c := by decide +kernel

theorem p81 : portV (ownV sHttps) [56, 49] = some 81 := by decide +kernel

theorem site_ok (sc h : List UInt8) (p : Int) (L : List (List UInt8)) (hh : h.length ≤ 1000) (hL : (cutL 46 h).length ≤ 1000) (hj : siteV ⟨sc, h, p, false⟩ = L.flatten) (hk : L.flatten.length ≤ 1000) (hb : h.head? ≠ some 91) {c : UInt8} (hm : c ∈ h) (hc : ([48, 49, 50, 51, 52, 53, 54, 55, 56, 57, 46] : List UInt8).contains c = false) : SiteOk ⟨sc, h, p, false⟩ := by
 refine ⟨by show h.length ≤ _; omega, by show (cutL 46 h).length ≤ _; omega, ?_⟩
 have := site_of sc h p (cutL 46 h) (sufV h) rfl rfl hb hm hc
 show (Lib.join ((cutL 46 h).drop (aheadO h)) [46]).length ≤ _
 unfold aheadO
 rw [← this, hj]
 omega

theorem cut_few (c : UInt8) (h : List UInt8) : (cutL c h).length ≤ h.length + 1 := cutL_cnt c h

theorem so_base {x y : List UInt8} (hx : Lets x) (hy : Lets y) (lx : x.length ≤ 20) (ly : y.length ≤ 20) (T : ByteArray) (hT : T.data.toList = [104, 116, 116, 112, 115, 58, 47, 47] ++ x ++ [46, 99, 111, 109, 47]) : ofT T.data.toList = ⟨sHttps, x ++ 46 :: com, 443, false⟩ := by
 have h := dom_url sHttps x com [] (-1) (.inr rfl) (lets_hn hx) com_facts.1 com_facts.2.1 com_facts.2.2.1 com_facts.2.2.2.1 (.inl ⟨rfl, rfl⟩) (by simp [com]; omega)
 have e : [104, 116, 116, 112, 115, 58, 47, 47] ++ x ++ [46, 99, 111, 109, 47] = sHttps ++ 58 :: 47 :: 47 :: ((x ++ 46 :: com) ++ ([] ++ [47])) := by simp [sHttps, com]
 unfold ofT
 rw [hT, e, h]
 show orgV (wAdr sHttps (x ++ 46 :: com) (-1) [[]]) = _
 rw [dom_org _ _ _ (.inr rfl)]
 rfl

theorem so_below {x y : List UInt8} (hx : Lets x) (hy : Lets y) (lx : x.length ≤ 20) (ly : y.length ≤ 20) (T : ByteArray) (hT : T.data.toList = [104, 116, 116, 112, 115, 58, 47, 47] ++ y ++ [46] ++ x ++ [46, 99, 111, 109, 47]) : ofT T.data.toList = ⟨sHttps, (y ++ 46 :: x) ++ 46 :: com, 443, false⟩ := by
 have h := dom_url sHttps (y ++ 46 :: x) com [] (-1) (.inr rfl) (hn_app (lets_hn hy) (lets_hn hx)) com_facts.1 com_facts.2.1 com_facts.2.2.1 com_facts.2.2.2.1 (.inl ⟨rfl, rfl⟩) (by simp [com]; omega)
 have e : [104, 116, 116, 112, 115, 58, 47, 47] ++ y ++ [46] ++ x ++ [46, 99, 111, 109, 47] = sHttps ++ 58 :: 47 :: 47 :: (((y ++ 46 :: x) ++ 46 :: com) ++ ([] ++ [47])) := by simp [sHttps, com]
 unfold ofT
 rw [hT, e, h]
 show orgV (wAdr sHttps ((y ++ 46 :: x) ++ 46 :: com) (-1) [[]]) = _
 rw [dom_org _ _ _ (.inr rfl)]
 rfl

theorem so_deep {x y : List UInt8} (hx : Lets x) (hy : Lets y) (lx : x.length ≤ 20) (ly : y.length ≤ 20) (T : ByteArray) (hT : T.data.toList = [104, 116, 116, 112, 115, 58, 47, 47, 119, 46] ++ y ++ [46] ++ x ++ [46, 99, 111, 109, 58, 56, 49, 47]) : ofT T.data.toList = ⟨sHttps, (119 :: 46 :: (y ++ 46 :: x)) ++ 46 :: com, 81, false⟩ := by
 have h := dom_url sHttps (119 :: 46 :: (y ++ 46 :: x)) com [58, 56, 49] (81) (.inr rfl) (hn_cons (by decide) (hn_cons (by decide) (hn_app (lets_hn hy) (lets_hn hx)))) com_facts.1 com_facts.2.1 com_facts.2.2.1 com_facts.2.2.2.1 (.inr ⟨[56, 49], rfl, by decide, p81⟩) (by simp [com]; omega)
 have e : [104, 116, 116, 112, 115, 58, 47, 47, 119, 46] ++ y ++ [46] ++ x ++ [46, 99, 111, 109, 58, 56, 49, 47] = sHttps ++ 58 :: 47 :: 47 :: (((119 :: 46 :: (y ++ 46 :: x)) ++ 46 :: com) ++ ([58, 56, 49] ++ [47])) := by simp [sHttps, com]
 unfold ofT
 rw [hT, e, h]
 show orgV (wAdr sHttps ((119 :: 46 :: (y ++ 46 :: x)) ++ 46 :: com) (81) [[]]) = _
 rw [dom_org _ _ _ (.inr rfl)]
 rfl

theorem so_plain {x y : List UInt8} (hx : Lets x) (hy : Lets y) (lx : x.length ≤ 20) (ly : y.length ≤ 20) (T : ByteArray) (hT : T.data.toList = [104, 116, 116, 112, 58, 47, 47] ++ x ++ [46, 99, 111, 109, 47]) : ofT T.data.toList = ⟨sHttp, x ++ 46 :: com, 80, false⟩ := by
 have h := dom_url sHttp x com [] (-1) (.inl rfl) (lets_hn hx) com_facts.1 com_facts.2.1 com_facts.2.2.1 com_facts.2.2.2.1 (.inl ⟨rfl, rfl⟩) (by simp [com]; omega)
 have e : [104, 116, 116, 112, 58, 47, 47] ++ x ++ [46, 99, 111, 109, 47] = sHttp ++ 58 :: 47 :: 47 :: ((x ++ 46 :: com) ++ ([] ++ [47])) := by simp [sHttp, com]
 unfold ofT
 rw [hT, e, h]
 show orgV (wAdr sHttp (x ++ 46 :: com) (-1) [[]]) = _
 rw [dom_org _ _ _ (.inl rfl)]
 rfl

theorem so_uk {x y : List UInt8} (hx : Lets x) (hy : Lets y) (lx : x.length ≤ 20) (ly : y.length ≤ 20) (T : ByteArray) (hT : T.data.toList = [104, 116, 116, 112, 115, 58, 47, 47] ++ y ++ [46, 99, 111, 46, 117, 107, 47]) : ofT T.data.toList = ⟨sHttps, (y ++ 46 :: co) ++ 46 :: uk, 443, false⟩ := by
 have h := dom_url sHttps (y ++ 46 :: co) uk [] (-1) (.inr rfl) (hn_app (lets_hn hy) co_hn) uk_facts.1 uk_facts.2.1 uk_facts.2.2.1 uk_facts.2.2.2.1 (.inl ⟨rfl, rfl⟩) (by simp [uk, co]; omega)
 have e : [104, 116, 116, 112, 115, 58, 47, 47] ++ y ++ [46, 99, 111, 46, 117, 107, 47] = sHttps ++ 58 :: 47 :: 47 :: (((y ++ 46 :: co) ++ 46 :: uk) ++ ([] ++ [47])) := by simp [sHttps, uk, co]
 unfold ofT
 rw [hT, e, h]
 show orgV (wAdr sHttps ((y ++ 46 :: co) ++ 46 :: uk) (-1) [[]]) = _
 rw [dom_org _ _ _ (.inr rfl)]
 rfl

theorem so_other {x y : List UInt8} (hx : Lets x) (hy : Lets y) (lx : x.length ≤ 20) (ly : y.length ≤ 20) (T : ByteArray) (hT : T.data.toList = [104, 116, 116, 112, 115, 58, 47, 47, 122] ++ y ++ [46, 99, 111, 46, 117, 107, 47]) : ofT T.data.toList = ⟨sHttps, ((122 :: y) ++ 46 :: co) ++ 46 :: uk, 443, false⟩ := by
 have h := dom_url sHttps ((122 :: y) ++ 46 :: co) uk [] (-1) (.inr rfl) (hn_app (hn_cons (by decide) (lets_hn hy)) co_hn) uk_facts.1 uk_facts.2.1 uk_facts.2.2.1 uk_facts.2.2.2.1 (.inl ⟨rfl, rfl⟩) (by simp [uk, co]; omega)
 have e : [104, 116, 116, 112, 115, 58, 47, 47, 122] ++ y ++ [46, 99, 111, 46, 117, 107, 47] = sHttps ++ 58 :: 47 :: 47 :: ((((122 :: y) ++ 46 :: co) ++ 46 :: uk) ++ ([] ++ [47])) := by simp [sHttps, uk, co]
 unfold ofT
 rw [hT, e, h]
 show orgV (wAdr sHttps (((122 :: y) ++ 46 :: co) ++ 46 :: uk) (-1) [[]]) = _
 rw [dom_org _ _ _ (.inr rfl)]
 rfl

theorem sk_base {x y : List UInt8} (hx : Lets x) (hy : Lets y) (lx : x.length ≤ 20) (ly : y.length ≤ 20) (hz : Lets (122 :: y)) : SiteOk ⟨sHttps, x ++ 46 :: com, 443, false⟩ := by
 have hl : (x ++ 46 :: com).length ≤ 100 := by simp [com]; omega
 have hs := site_base hx sHttps 443
 refine site_ok sHttps (x ++ 46 :: com) 443 [x ++ 46 :: com] (by omega) (by have := cut_few 46 (x ++ 46 :: com); omega) (by rw [hs]; simp) ?_ (head_let hx) (c := 109) (by simp [com]) (by decide)
 simp [com, uk, co]
 omega

theorem sk_below {x y : List UInt8} (hx : Lets x) (hy : Lets y) (lx : x.length ≤ 20) (ly : y.length ≤ 20) (hz : Lets (122 :: y)) : SiteOk ⟨sHttps, (y ++ 46 :: x) ++ 46 :: com, 443, false⟩ := by
 have hl : ((y ++ 46 :: x) ++ 46 :: com).length ≤ 100 := by simp [com]; omega
 have hs := site_below hx hy sHttps 443
 refine site_ok sHttps ((y ++ 46 :: x) ++ 46 :: com) 443 [x ++ 46 :: com] (by omega) (by have := cut_few 46 ((y ++ 46 :: x) ++ 46 :: com); omega) (by rw [hs]; simp) ?_ (by simp only [List.append_assoc]; exact head_let hy) (c := 109) (by simp [com]) (by decide)
 simp [com, uk, co]
 omega

theorem sk_deep {x y : List UInt8} (hx : Lets x) (hy : Lets y) (lx : x.length ≤ 20) (ly : y.length ≤ 20) (hz : Lets (122 :: y)) : SiteOk ⟨sHttps, (119 :: 46 :: (y ++ 46 :: x)) ++ 46 :: com, 81, false⟩ := by
 have hl : ((119 :: 46 :: (y ++ 46 :: x)) ++ 46 :: com).length ≤ 100 := by simp [com]; omega
 have hs := site_deep hx hy sHttps 81
 refine site_ok sHttps ((119 :: 46 :: (y ++ 46 :: x)) ++ 46 :: com) 81 [x ++ 46 :: com] (by omega) (by have := cut_few 46 ((119 :: 46 :: (y ++ 46 :: x)) ++ 46 :: com); omega) (by rw [hs]; simp) ?_ (by simp) (c := 109) (by simp [com]) (by decide)
 simp [com, uk, co]
 omega

theorem sk_plain {x y : List UInt8} (hx : Lets x) (hy : Lets y) (lx : x.length ≤ 20) (ly : y.length ≤ 20) (hz : Lets (122 :: y)) : SiteOk ⟨sHttp, x ++ 46 :: com, 80, false⟩ := by
 have hl : (x ++ 46 :: com).length ≤ 100 := by simp [com]; omega
 have hs := site_base hx sHttp 80
 refine site_ok sHttp (x ++ 46 :: com) 80 [x ++ 46 :: com] (by omega) (by have := cut_few 46 (x ++ 46 :: com); omega) (by rw [hs]; simp) ?_ (head_let hx) (c := 109) (by simp [com]) (by decide)
 simp [com, uk, co]
 omega

theorem sk_uk {x y : List UInt8} (hx : Lets x) (hy : Lets y) (lx : x.length ≤ 20) (ly : y.length ≤ 20) (hz : Lets (122 :: y)) : SiteOk ⟨sHttps, (y ++ 46 :: co) ++ 46 :: uk, 443, false⟩ := by
 have hl : ((y ++ 46 :: co) ++ 46 :: uk).length ≤ 100 := by simp [uk, co]; omega
 have hs := site_uk hy sHttps 443
 refine site_ok sHttps ((y ++ 46 :: co) ++ 46 :: uk) 443 [(y ++ 46 :: co) ++ 46 :: uk] (by omega) (by have := cut_few 46 ((y ++ 46 :: co) ++ 46 :: uk); omega) (by rw [hs]; simp) ?_ (by simp only [List.append_assoc]; exact head_let hy) (c := 107) (by simp [uk]) (by decide)
 simp [com, uk, co]
 omega

theorem sk_other {x y : List UInt8} (hx : Lets x) (hy : Lets y) (lx : x.length ≤ 20) (ly : y.length ≤ 20) (hz : Lets (122 :: y)) : SiteOk ⟨sHttps, ((122 :: y) ++ 46 :: co) ++ 46 :: uk, 443, false⟩ := by
 have hl : (((122 :: y) ++ 46 :: co) ++ 46 :: uk).length ≤ 100 := by simp [uk, co]; omega
 have hs := site_uk (y := 122 :: y) hz sHttps 443
 refine site_ok sHttps (((122 :: y) ++ 46 :: co) ++ 46 :: uk) 443 [((122 :: y) ++ 46 :: co) ++ 46 :: uk] (by omega) (by have := cut_few 46 (((122 :: y) ++ 46 :: co) ++ 46 :: uk); omega) (by rw [hs]; simp) ?_ (by simp) (c := 107) (by simp [uk]) (by decide)
 simp [com, uk, co]
 omega

theorem lets_z {y : List UInt8} (hy : Lets y) : Lets (122 :: y) := ⟨by simp, fun c hc => by
 rcases List.mem_cons.1 hc with rfl | hc
 ·decide
 ·exact hy.2 c hc⟩

set_option maxHeartbeats 32000000 in
set_option maxRecDepth 100000 in
theorem originSites_walk (a b : ByteArray) (w : World) (ha : a.size ≤ 140737488351232) (hb : b.size ≤ 140737488351232) (hg : Gd w) :
  Calls Tryz.prog 8 #[.string a, .string b] w fun e w' => e = .returned (.bool true) ∧ Below w.heap.size w w' := by
 have HWa := hid (fun w => word4_any a w (by omega))
 have HWb := hid (fun w => word4_any b w (by omega))
 have HG0 := hid hg
 have HB0 := hid (Below.refl w.heap.size w)
 clear hg
 go_enter Tryz.func8, Tryz.ntmps8
 go_wp2_with fail
 refine (HWa.out _).mono ?_
 rintro e wz ⟨x, rfl, hwx, lx, hwz⟩
 rw [← hwz]
 clear hwz
 have hx := hwx.lets
 obtain ⟨X, hX⟩ : ∃ X : ByteArray, (⟨x.toArray⟩ : ByteArray) = X := ⟨_, rfl⟩
 have hXl : X.data.toList = x := by rw [← hX]
 have hXs : X.size ≤ 20 := by rw [Lib.size_eq, hXl]; exact lx
 rw [hX]
 clear hX
 go_wp2_with fail
 refine (HWb.out _).mono ?_
 rintro e wz ⟨y, rfl, hwy, ly, hwz⟩
 rw [← hwz]
 clear hwz
 have hy := hwy.lets
 obtain ⟨Y, hY⟩ : ∃ X : ByteArray, (⟨y.toArray⟩ : ByteArray) = X := ⟨_, rfl⟩
 have hYl : Y.data.toList = y := by rw [← hY]
 have hYs : Y.size ≤ 20 := by rw [Lib.size_eq, hYl]; exact ly
 rw [hY]
 clear hY
 have hz := lets_z hy
 have HX := hid (And.intro hXl hYl)
 have HL := hid (And.intro hx (And.intro hy (And.intro hz (And.intro lx ly))))
 clear hXl hYl hx hy hz lx ly hwx hwy
 obtain ⟨hXl, hYl⟩ := HX.out
 obtain ⟨hx, hy, hz, lx, ly⟩ := HL.out
 obtain ⟨Tbase1, hTbase1⟩ : ∃ Z : ByteArray, (⟨#[104, 116, 116, 112, 115, 58, 47, 47]⟩ : ByteArray) ++ X = Z := ⟨_, rfl⟩
 have zTbase1 : Tbase1.size ≤ 28 := by rw [Lib.size_eq, ← hTbase1, ByteArray.data_append, Array.toList_append, List.length_append, ← Lib.size_eq, ← Lib.size_eq]; have e : (⟨#[104, 116, 116, 112, 115, 58, 47, 47]⟩ : ByteArray).size = 8 := rfl; omega
 obtain ⟨Tbase2, hTbase2⟩ : ∃ Z : ByteArray, Tbase1 ++ (⟨#[46, 99, 111, 109, 47]⟩ : ByteArray) = Z := ⟨_, rfl⟩
 have zTbase2 : Tbase2.size ≤ 33 := by rw [Lib.size_eq, ← hTbase2, ByteArray.data_append, Array.toList_append, List.length_append, ← Lib.size_eq, ← Lib.size_eq]; have e2 : (⟨#[46, 99, 111, 109, 47]⟩ : ByteArray).size = 5 := rfl; omega
 have lTbase2 : Tbase2.data.toList = [104, 116, 116, 112, 115, 58, 47, 47] ++ x ++ [46, 99, 111, 109, 47] := by
  rw [← hTbase2, ← hTbase1, ByteArray.data_append, ByteArray.data_append, Array.toList_append, Array.toList_append, hXl]
 have Ho_base := hid (fun (w : World) (hg : Gd w) => of4_any Tbase2 w hg (by omega))
 rw [so_base hx hy lx ly Tbase2 lTbase2] at Ho_base
 obtain ⟨S_base, hS_base⟩ : ∃ Z : ByteArray, (⟨(sHttps).toArray⟩ : ByteArray) = Z := ⟨_, rfl⟩
 obtain ⟨H_base, hH_base⟩ : ∃ Z : ByteArray, (⟨(x ++ 46 :: com).toArray⟩ : ByteArray) = Z := ⟨_, rfl⟩
 have v_base : orgVal ⟨sHttps, x ++ 46 :: com, 443, false⟩ = .agg #[.string S_base, .string H_base, .int .i64 443, .bool false] := by rw [← hS_base, ← hH_base]; rfl
 have HV_base := hid v_base
 rw [v_base] at Ho_base
 clear lTbase2 hS_base hH_base v_base hXl hYl hx hy hz lx ly
 go_wp2_with fail
 refine (Ho_base.out _ HG0.out).mono ?_
 rintro e w1 ⟨rfl, hbw1⟩
 clear hTbase1 zTbase1 hTbase2 zTbase2
 go_upto_region 4 with fail
 obtain ⟨W2, hW2⟩ : ∃ Z, (w1.alloc (.cells #[.string S_base, .string H_base, .int .i64 443, .bool false] 39)) = Z := ⟨_, rfl⟩
 rw [hW2]
 have hbW2 : Below w1.heap.size w1 W2 := by rw [← hW2]; exact (Below.refl _ w1).alloc (Nat.le_refl _) _
 have r_base : W2.heap[w1.heap.size]? = some (.cells #[.string S_base, .string H_base, .int .i64 443, .bool false] 39 (0, 0)) := by rw [← hW2]; exact heap_alloc_new w1 _
 have HK_base := hid (show ∀ Z, Below W2.heap.size W2 Z → Z.cell? ⟨w1.heap.size, 0, none⟩ = some (.string S_base) ∧ Z.cell? ⟨w1.heap.size, 1, none⟩ = some (.string H_base) ∧ Z.cell? ⟨w1.heap.size, 2, none⟩ = some (.int .i64 443) ∧ Z.cell? ⟨w1.heap.size, 3, none⟩ = some (.bool false) from fun Z hZ => ⟨keptC4 (by rw [Lib.cell_of_heap r_base]; rfl) hZ, keptC4 (by rw [Lib.cell_of_heap r_base]; rfl) hZ, keptC4 (by rw [Lib.cell_of_heap r_base]; rfl) hZ, keptC4 (by rw [Lib.cell_of_heap r_base]; rfl) hZ⟩)
 have HQ_base := hid (Below.refl W2.heap.size W2)
 have HBW2 := hid (below2 HB0.out (below2 hbw1 hbW2))
 have HGW2 := hid (HG0.out.kept HBW2.out)
 clear hbw1 hbW2 r_base Ho_base hW2
 obtain ⟨hXl, hYl⟩ := HX.out
 obtain ⟨hx, hy, hz, lx, ly⟩ := HL.out
 obtain ⟨Tbelow1, hTbelow1⟩ : ∃ Z : ByteArray, (⟨#[104, 116, 116, 112, 115, 58, 47, 47]⟩ : ByteArray) ++ Y = Z := ⟨_, rfl⟩
 have zTbelow1 : Tbelow1.size ≤ 28 := by rw [Lib.size_eq, ← hTbelow1, ByteArray.data_append, Array.toList_append, List.length_append, ← Lib.size_eq, ← Lib.size_eq]; have e : (⟨#[104, 116, 116, 112, 115, 58, 47, 47]⟩ : ByteArray).size = 8 := rfl; omega
 obtain ⟨Tbelow2, hTbelow2⟩ : ∃ Z : ByteArray, Tbelow1 ++ (⟨#[46]⟩ : ByteArray) = Z := ⟨_, rfl⟩
 have zTbelow2 : Tbelow2.size ≤ 29 := by rw [Lib.size_eq, ← hTbelow2, ByteArray.data_append, Array.toList_append, List.length_append, ← Lib.size_eq, ← Lib.size_eq]; have e2 : (⟨#[46]⟩ : ByteArray).size = 1 := rfl; omega
 obtain ⟨Tbelow3, hTbelow3⟩ : ∃ Z : ByteArray, Tbelow2 ++ X = Z := ⟨_, rfl⟩
 have zTbelow3 : Tbelow3.size ≤ 49 := by rw [Lib.size_eq, ← hTbelow3, ByteArray.data_append, Array.toList_append, List.length_append, ← Lib.size_eq, ← Lib.size_eq]; omega
 obtain ⟨Tbelow4, hTbelow4⟩ : ∃ Z : ByteArray, Tbelow3 ++ (⟨#[46, 99, 111, 109, 47]⟩ : ByteArray) = Z := ⟨_, rfl⟩
 have zTbelow4 : Tbelow4.size ≤ 54 := by rw [Lib.size_eq, ← hTbelow4, ByteArray.data_append, Array.toList_append, List.length_append, ← Lib.size_eq, ← Lib.size_eq]; have e2 : (⟨#[46, 99, 111, 109, 47]⟩ : ByteArray).size = 5 := rfl; omega
 have lTbelow4 : Tbelow4.data.toList = [104, 116, 116, 112, 115, 58, 47, 47] ++ y ++ [46] ++ x ++ [46, 99, 111, 109, 47] := by
  rw [← hTbelow4, ← hTbelow3, ← hTbelow2, ← hTbelow1, ByteArray.data_append, ByteArray.data_append, ByteArray.data_append, ByteArray.data_append, Array.toList_append, Array.toList_append, Array.toList_append, Array.toList_append, hXl, hYl]
 have Ho_below := hid (fun (w : World) (hg : Gd w) => of4_any Tbelow4 w hg (by omega))
 rw [so_below hx hy lx ly Tbelow4 lTbelow4] at Ho_below
 obtain ⟨S_below, hS_below⟩ : ∃ Z : ByteArray, (⟨(sHttps).toArray⟩ : ByteArray) = Z := ⟨_, rfl⟩
 obtain ⟨H_below, hH_below⟩ : ∃ Z : ByteArray, (⟨((y ++ 46 :: x) ++ 46 :: com).toArray⟩ : ByteArray) = Z := ⟨_, rfl⟩
 have v_below : orgVal ⟨sHttps, (y ++ 46 :: x) ++ 46 :: com, 443, false⟩ = .agg #[.string S_below, .string H_below, .int .i64 443, .bool false] := by rw [← hS_below, ← hH_below]; rfl
 have HV_below := hid v_below
 rw [v_below] at Ho_below
 clear lTbelow4 hS_below hH_below v_below hXl hYl hx hy hz lx ly
 go_wp2_with fail
 refine (Ho_below.out _ HGW2.out).mono ?_
 rintro e w3 ⟨rfl, hbw3⟩
 clear hTbelow1 zTbelow1 hTbelow2 zTbelow2 hTbelow3 zTbelow3 hTbelow4 zTbelow4
 go_upto_region 5 with fail
 obtain ⟨W4, hW4⟩ : ∃ Z, (w3.alloc (.cells #[.string S_below, .string H_below, .int .i64 443, .bool false] 39)) = Z := ⟨_, rfl⟩
 rw [hW4]
 have hbW4 : Below w3.heap.size w3 W4 := by rw [← hW4]; exact (Below.refl _ w3).alloc (Nat.le_refl _) _
 have r_below : W4.heap[w3.heap.size]? = some (.cells #[.string S_below, .string H_below, .int .i64 443, .bool false] 39 (0, 0)) := by rw [← hW4]; exact heap_alloc_new w3 _
 have HK_below := hid (show ∀ Z, Below W4.heap.size W4 Z → Z.cell? ⟨w3.heap.size, 0, none⟩ = some (.string S_below) ∧ Z.cell? ⟨w3.heap.size, 1, none⟩ = some (.string H_below) ∧ Z.cell? ⟨w3.heap.size, 2, none⟩ = some (.int .i64 443) ∧ Z.cell? ⟨w3.heap.size, 3, none⟩ = some (.bool false) from fun Z hZ => ⟨keptC4 (by rw [Lib.cell_of_heap r_below]; rfl) hZ, keptC4 (by rw [Lib.cell_of_heap r_below]; rfl) hZ, keptC4 (by rw [Lib.cell_of_heap r_below]; rfl) hZ, keptC4 (by rw [Lib.cell_of_heap r_below]; rfl) hZ⟩)
 have HQ_below := hid (Below.refl W4.heap.size W4)
 have HBW4 := hid (below2 HBW2.out (below2 hbw3 hbW4))
 have HGW4 := hid (HG0.out.kept HBW4.out)
 have HQ_base := hid (below2 HQ_base.out (below2 hbw3 hbW4))
 clear hbw3 hbW4 r_below Ho_below hW4
 obtain ⟨hXl, hYl⟩ := HX.out
 obtain ⟨hx, hy, hz, lx, ly⟩ := HL.out
 obtain ⟨Tdeep1, hTdeep1⟩ : ∃ Z : ByteArray, (⟨#[104, 116, 116, 112, 115, 58, 47, 47, 119, 46]⟩ : ByteArray) ++ Y = Z := ⟨_, rfl⟩
 have zTdeep1 : Tdeep1.size ≤ 30 := by rw [Lib.size_eq, ← hTdeep1, ByteArray.data_append, Array.toList_append, List.length_append, ← Lib.size_eq, ← Lib.size_eq]; have e : (⟨#[104, 116, 116, 112, 115, 58, 47, 47, 119, 46]⟩ : ByteArray).size = 10 := rfl; omega
 obtain ⟨Tdeep2, hTdeep2⟩ : ∃ Z : ByteArray, Tdeep1 ++ (⟨#[46]⟩ : ByteArray) = Z := ⟨_, rfl⟩
 have zTdeep2 : Tdeep2.size ≤ 31 := by rw [Lib.size_eq, ← hTdeep2, ByteArray.data_append, Array.toList_append, List.length_append, ← Lib.size_eq, ← Lib.size_eq]; have e2 : (⟨#[46]⟩ : ByteArray).size = 1 := rfl; omega
 obtain ⟨Tdeep3, hTdeep3⟩ : ∃ Z : ByteArray, Tdeep2 ++ X = Z := ⟨_, rfl⟩
 have zTdeep3 : Tdeep3.size ≤ 51 := by rw [Lib.size_eq, ← hTdeep3, ByteArray.data_append, Array.toList_append, List.length_append, ← Lib.size_eq, ← Lib.size_eq]; omega
 obtain ⟨Tdeep4, hTdeep4⟩ : ∃ Z : ByteArray, Tdeep3 ++ (⟨#[46, 99, 111, 109, 58, 56, 49, 47]⟩ : ByteArray) = Z := ⟨_, rfl⟩
 have zTdeep4 : Tdeep4.size ≤ 59 := by rw [Lib.size_eq, ← hTdeep4, ByteArray.data_append, Array.toList_append, List.length_append, ← Lib.size_eq, ← Lib.size_eq]; have e2 : (⟨#[46, 99, 111, 109, 58, 56, 49, 47]⟩ : ByteArray).size = 8 := rfl; omega
 have lTdeep4 : Tdeep4.data.toList = [104, 116, 116, 112, 115, 58, 47, 47, 119, 46] ++ y ++ [46] ++ x ++ [46, 99, 111, 109, 58, 56, 49, 47] := by
  rw [← hTdeep4, ← hTdeep3, ← hTdeep2, ← hTdeep1, ByteArray.data_append, ByteArray.data_append, ByteArray.data_append, ByteArray.data_append, Array.toList_append, Array.toList_append, Array.toList_append, Array.toList_append, hXl, hYl]
 have Ho_deep := hid (fun (w : World) (hg : Gd w) => of4_any Tdeep4 w hg (by omega))
 rw [so_deep hx hy lx ly Tdeep4 lTdeep4] at Ho_deep
 obtain ⟨S_deep, hS_deep⟩ : ∃ Z : ByteArray, (⟨(sHttps).toArray⟩ : ByteArray) = Z := ⟨_, rfl⟩
 obtain ⟨H_deep, hH_deep⟩ : ∃ Z : ByteArray, (⟨((119 :: 46 :: (y ++ 46 :: x)) ++ 46 :: com).toArray⟩ : ByteArray) = Z := ⟨_, rfl⟩
 have v_deep : orgVal ⟨sHttps, (119 :: 46 :: (y ++ 46 :: x)) ++ 46 :: com, 81, false⟩ = .agg #[.string S_deep, .string H_deep, .int .i64 81, .bool false] := by rw [← hS_deep, ← hH_deep]; rfl
 have HV_deep := hid v_deep
 rw [v_deep] at Ho_deep
 clear lTdeep4 hS_deep hH_deep v_deep hXl hYl hx hy hz lx ly
 go_wp2_with fail
 refine (Ho_deep.out _ HGW4.out).mono ?_
 rintro e w5 ⟨rfl, hbw5⟩
 clear hTdeep1 zTdeep1 hTdeep2 zTdeep2 hTdeep3 zTdeep3 hTdeep4 zTdeep4
 go_upto_region 6 with fail
 obtain ⟨W6, hW6⟩ : ∃ Z, (w5.alloc (.cells #[.string S_deep, .string H_deep, .int .i64 81, .bool false] 39)) = Z := ⟨_, rfl⟩
 rw [hW6]
 have hbW6 : Below w5.heap.size w5 W6 := by rw [← hW6]; exact (Below.refl _ w5).alloc (Nat.le_refl _) _
 have r_deep : W6.heap[w5.heap.size]? = some (.cells #[.string S_deep, .string H_deep, .int .i64 81, .bool false] 39 (0, 0)) := by rw [← hW6]; exact heap_alloc_new w5 _
 have HK_deep := hid (show ∀ Z, Below W6.heap.size W6 Z → Z.cell? ⟨w5.heap.size, 0, none⟩ = some (.string S_deep) ∧ Z.cell? ⟨w5.heap.size, 1, none⟩ = some (.string H_deep) ∧ Z.cell? ⟨w5.heap.size, 2, none⟩ = some (.int .i64 81) ∧ Z.cell? ⟨w5.heap.size, 3, none⟩ = some (.bool false) from fun Z hZ => ⟨keptC4 (by rw [Lib.cell_of_heap r_deep]; rfl) hZ, keptC4 (by rw [Lib.cell_of_heap r_deep]; rfl) hZ, keptC4 (by rw [Lib.cell_of_heap r_deep]; rfl) hZ, keptC4 (by rw [Lib.cell_of_heap r_deep]; rfl) hZ⟩)
 have HQ_deep := hid (Below.refl W6.heap.size W6)
 have HBW6 := hid (below2 HBW4.out (below2 hbw5 hbW6))
 have HGW6 := hid (HG0.out.kept HBW6.out)
 have HQ_base := hid (below2 HQ_base.out (below2 hbw5 hbW6))
 have HQ_below := hid (below2 HQ_below.out (below2 hbw5 hbW6))
 clear hbw5 hbW6 r_deep Ho_deep hW6
 obtain ⟨hXl, hYl⟩ := HX.out
 obtain ⟨hx, hy, hz, lx, ly⟩ := HL.out
 obtain ⟨Tplain1, hTplain1⟩ : ∃ Z : ByteArray, (⟨#[104, 116, 116, 112, 58, 47, 47]⟩ : ByteArray) ++ X = Z := ⟨_, rfl⟩
 have zTplain1 : Tplain1.size ≤ 27 := by rw [Lib.size_eq, ← hTplain1, ByteArray.data_append, Array.toList_append, List.length_append, ← Lib.size_eq, ← Lib.size_eq]; have e : (⟨#[104, 116, 116, 112, 58, 47, 47]⟩ : ByteArray).size = 7 := rfl; omega
 obtain ⟨Tplain2, hTplain2⟩ : ∃ Z : ByteArray, Tplain1 ++ (⟨#[46, 99, 111, 109, 47]⟩ : ByteArray) = Z := ⟨_, rfl⟩
 have zTplain2 : Tplain2.size ≤ 32 := by rw [Lib.size_eq, ← hTplain2, ByteArray.data_append, Array.toList_append, List.length_append, ← Lib.size_eq, ← Lib.size_eq]; have e2 : (⟨#[46, 99, 111, 109, 47]⟩ : ByteArray).size = 5 := rfl; omega
 have lTplain2 : Tplain2.data.toList = [104, 116, 116, 112, 58, 47, 47] ++ x ++ [46, 99, 111, 109, 47] := by
  rw [← hTplain2, ← hTplain1, ByteArray.data_append, ByteArray.data_append, Array.toList_append, Array.toList_append, hXl]
 have Ho_plain := hid (fun (w : World) (hg : Gd w) => of4_any Tplain2 w hg (by omega))
 rw [so_plain hx hy lx ly Tplain2 lTplain2] at Ho_plain
 obtain ⟨S_plain, hS_plain⟩ : ∃ Z : ByteArray, (⟨(sHttp).toArray⟩ : ByteArray) = Z := ⟨_, rfl⟩
 obtain ⟨H_plain, hH_plain⟩ : ∃ Z : ByteArray, (⟨(x ++ 46 :: com).toArray⟩ : ByteArray) = Z := ⟨_, rfl⟩
 have v_plain : orgVal ⟨sHttp, x ++ 46 :: com, 80, false⟩ = .agg #[.string S_plain, .string H_plain, .int .i64 80, .bool false] := by rw [← hS_plain, ← hH_plain]; rfl
 have HV_plain := hid v_plain
 rw [v_plain] at Ho_plain
 clear lTplain2 hS_plain hH_plain v_plain hXl hYl hx hy hz lx ly
 go_wp2_with fail
 refine (Ho_plain.out _ HGW6.out).mono ?_
 rintro e w7 ⟨rfl, hbw7⟩
 clear hTplain1 zTplain1 hTplain2 zTplain2
 go_upto_region 7 with fail
 obtain ⟨W8, hW8⟩ : ∃ Z, (w7.alloc (.cells #[.string S_plain, .string H_plain, .int .i64 80, .bool false] 39)) = Z := ⟨_, rfl⟩
 rw [hW8]
 have hbW8 : Below w7.heap.size w7 W8 := by rw [← hW8]; exact (Below.refl _ w7).alloc (Nat.le_refl _) _
 have r_plain : W8.heap[w7.heap.size]? = some (.cells #[.string S_plain, .string H_plain, .int .i64 80, .bool false] 39 (0, 0)) := by rw [← hW8]; exact heap_alloc_new w7 _
 have HK_plain := hid (show ∀ Z, Below W8.heap.size W8 Z → Z.cell? ⟨w7.heap.size, 0, none⟩ = some (.string S_plain) ∧ Z.cell? ⟨w7.heap.size, 1, none⟩ = some (.string H_plain) ∧ Z.cell? ⟨w7.heap.size, 2, none⟩ = some (.int .i64 80) ∧ Z.cell? ⟨w7.heap.size, 3, none⟩ = some (.bool false) from fun Z hZ => ⟨keptC4 (by rw [Lib.cell_of_heap r_plain]; rfl) hZ, keptC4 (by rw [Lib.cell_of_heap r_plain]; rfl) hZ, keptC4 (by rw [Lib.cell_of_heap r_plain]; rfl) hZ, keptC4 (by rw [Lib.cell_of_heap r_plain]; rfl) hZ⟩)
 have HQ_plain := hid (Below.refl W8.heap.size W8)
 have HBW8 := hid (below2 HBW6.out (below2 hbw7 hbW8))
 have HGW8 := hid (HG0.out.kept HBW8.out)
 have HQ_base := hid (below2 HQ_base.out (below2 hbw7 hbW8))
 have HQ_below := hid (below2 HQ_below.out (below2 hbw7 hbW8))
 have HQ_deep := hid (below2 HQ_deep.out (below2 hbw7 hbW8))
 clear hbw7 hbW8 r_plain Ho_plain hW8
 obtain ⟨hXl, hYl⟩ := HX.out
 obtain ⟨hx, hy, hz, lx, ly⟩ := HL.out
 obtain ⟨Tuk1, hTuk1⟩ : ∃ Z : ByteArray, (⟨#[104, 116, 116, 112, 115, 58, 47, 47]⟩ : ByteArray) ++ Y = Z := ⟨_, rfl⟩
 have zTuk1 : Tuk1.size ≤ 28 := by rw [Lib.size_eq, ← hTuk1, ByteArray.data_append, Array.toList_append, List.length_append, ← Lib.size_eq, ← Lib.size_eq]; have e : (⟨#[104, 116, 116, 112, 115, 58, 47, 47]⟩ : ByteArray).size = 8 := rfl; omega
 obtain ⟨Tuk2, hTuk2⟩ : ∃ Z : ByteArray, Tuk1 ++ (⟨#[46, 99, 111, 46, 117, 107, 47]⟩ : ByteArray) = Z := ⟨_, rfl⟩
 have zTuk2 : Tuk2.size ≤ 35 := by rw [Lib.size_eq, ← hTuk2, ByteArray.data_append, Array.toList_append, List.length_append, ← Lib.size_eq, ← Lib.size_eq]; have e2 : (⟨#[46, 99, 111, 46, 117, 107, 47]⟩ : ByteArray).size = 7 := rfl; omega
 have lTuk2 : Tuk2.data.toList = [104, 116, 116, 112, 115, 58, 47, 47] ++ y ++ [46, 99, 111, 46, 117, 107, 47] := by
  rw [← hTuk2, ← hTuk1, ByteArray.data_append, ByteArray.data_append, Array.toList_append, Array.toList_append, hYl]
 have Ho_uk := hid (fun (w : World) (hg : Gd w) => of4_any Tuk2 w hg (by omega))
 rw [so_uk hx hy lx ly Tuk2 lTuk2] at Ho_uk
 obtain ⟨S_uk, hS_uk⟩ : ∃ Z : ByteArray, (⟨(sHttps).toArray⟩ : ByteArray) = Z := ⟨_, rfl⟩
 obtain ⟨H_uk, hH_uk⟩ : ∃ Z : ByteArray, (⟨((y ++ 46 :: co) ++ 46 :: uk).toArray⟩ : ByteArray) = Z := ⟨_, rfl⟩
 have v_uk : orgVal ⟨sHttps, (y ++ 46 :: co) ++ 46 :: uk, 443, false⟩ = .agg #[.string S_uk, .string H_uk, .int .i64 443, .bool false] := by rw [← hS_uk, ← hH_uk]; rfl
 have HV_uk := hid v_uk
 rw [v_uk] at Ho_uk
 clear lTuk2 hS_uk hH_uk v_uk hXl hYl hx hy hz lx ly
 go_wp2_with fail
 refine (Ho_uk.out _ HGW8.out).mono ?_
 rintro e w9 ⟨rfl, hbw9⟩
 clear hTuk1 zTuk1 hTuk2 zTuk2
 go_upto_region 8 with fail
 obtain ⟨W10, hW10⟩ : ∃ Z, (w9.alloc (.cells #[.string S_uk, .string H_uk, .int .i64 443, .bool false] 39)) = Z := ⟨_, rfl⟩
 rw [hW10]
 have hbW10 : Below w9.heap.size w9 W10 := by rw [← hW10]; exact (Below.refl _ w9).alloc (Nat.le_refl _) _
 have r_uk : W10.heap[w9.heap.size]? = some (.cells #[.string S_uk, .string H_uk, .int .i64 443, .bool false] 39 (0, 0)) := by rw [← hW10]; exact heap_alloc_new w9 _
 have HK_uk := hid (show ∀ Z, Below W10.heap.size W10 Z → Z.cell? ⟨w9.heap.size, 0, none⟩ = some (.string S_uk) ∧ Z.cell? ⟨w9.heap.size, 1, none⟩ = some (.string H_uk) ∧ Z.cell? ⟨w9.heap.size, 2, none⟩ = some (.int .i64 443) ∧ Z.cell? ⟨w9.heap.size, 3, none⟩ = some (.bool false) from fun Z hZ => ⟨keptC4 (by rw [Lib.cell_of_heap r_uk]; rfl) hZ, keptC4 (by rw [Lib.cell_of_heap r_uk]; rfl) hZ, keptC4 (by rw [Lib.cell_of_heap r_uk]; rfl) hZ, keptC4 (by rw [Lib.cell_of_heap r_uk]; rfl) hZ⟩)
 have HQ_uk := hid (Below.refl W10.heap.size W10)
 have HBW10 := hid (below2 HBW8.out (below2 hbw9 hbW10))
 have HGW10 := hid (HG0.out.kept HBW10.out)
 have HQ_base := hid (below2 HQ_base.out (below2 hbw9 hbW10))
 have HQ_below := hid (below2 HQ_below.out (below2 hbw9 hbW10))
 have HQ_deep := hid (below2 HQ_deep.out (below2 hbw9 hbW10))
 have HQ_plain := hid (below2 HQ_plain.out (below2 hbw9 hbW10))
 clear hbw9 hbW10 r_uk Ho_uk hW10
 obtain ⟨hXl, hYl⟩ := HX.out
 obtain ⟨hx, hy, hz, lx, ly⟩ := HL.out
 obtain ⟨Tother1, hTother1⟩ : ∃ Z : ByteArray, (⟨#[104, 116, 116, 112, 115, 58, 47, 47, 122]⟩ : ByteArray) ++ Y = Z := ⟨_, rfl⟩
 have zTother1 : Tother1.size ≤ 29 := by rw [Lib.size_eq, ← hTother1, ByteArray.data_append, Array.toList_append, List.length_append, ← Lib.size_eq, ← Lib.size_eq]; have e : (⟨#[104, 116, 116, 112, 115, 58, 47, 47, 122]⟩ : ByteArray).size = 9 := rfl; omega
 obtain ⟨Tother2, hTother2⟩ : ∃ Z : ByteArray, Tother1 ++ (⟨#[46, 99, 111, 46, 117, 107, 47]⟩ : ByteArray) = Z := ⟨_, rfl⟩
 have zTother2 : Tother2.size ≤ 36 := by rw [Lib.size_eq, ← hTother2, ByteArray.data_append, Array.toList_append, List.length_append, ← Lib.size_eq, ← Lib.size_eq]; have e2 : (⟨#[46, 99, 111, 46, 117, 107, 47]⟩ : ByteArray).size = 7 := rfl; omega
 have lTother2 : Tother2.data.toList = [104, 116, 116, 112, 115, 58, 47, 47, 122] ++ y ++ [46, 99, 111, 46, 117, 107, 47] := by
  rw [← hTother2, ← hTother1, ByteArray.data_append, ByteArray.data_append, Array.toList_append, Array.toList_append, hYl]
 have Ho_other := hid (fun (w : World) (hg : Gd w) => of4_any Tother2 w hg (by omega))
 rw [so_other hx hy lx ly Tother2 lTother2] at Ho_other
 obtain ⟨S_other, hS_other⟩ : ∃ Z : ByteArray, (⟨(sHttps).toArray⟩ : ByteArray) = Z := ⟨_, rfl⟩
 obtain ⟨H_other, hH_other⟩ : ∃ Z : ByteArray, (⟨(((122 :: y) ++ 46 :: co) ++ 46 :: uk).toArray⟩ : ByteArray) = Z := ⟨_, rfl⟩
 have v_other : orgVal ⟨sHttps, ((122 :: y) ++ 46 :: co) ++ 46 :: uk, 443, false⟩ = .agg #[.string S_other, .string H_other, .int .i64 443, .bool false] := by rw [← hS_other, ← hH_other]; rfl
 have HV_other := hid v_other
 rw [v_other] at Ho_other
 clear lTother2 hS_other hH_other v_other hXl hYl hx hy hz lx ly
 go_wp2_with fail
 refine (Ho_other.out _ HGW10.out).mono ?_
 rintro e w11 ⟨rfl, hbw11⟩
 clear hTother1 zTother1 hTother2 zTother2
 go_upto_region 9 with fail
 obtain ⟨W12, hW12⟩ : ∃ Z, (w11.alloc (.cells #[.string S_other, .string H_other, .int .i64 443, .bool false] 39)) = Z := ⟨_, rfl⟩
 rw [hW12]
 have hbW12 : Below w11.heap.size w11 W12 := by rw [← hW12]; exact (Below.refl _ w11).alloc (Nat.le_refl _) _
 have r_other : W12.heap[w11.heap.size]? = some (.cells #[.string S_other, .string H_other, .int .i64 443, .bool false] 39 (0, 0)) := by rw [← hW12]; exact heap_alloc_new w11 _
 have HK_other := hid (show ∀ Z, Below W12.heap.size W12 Z → Z.cell? ⟨w11.heap.size, 0, none⟩ = some (.string S_other) ∧ Z.cell? ⟨w11.heap.size, 1, none⟩ = some (.string H_other) ∧ Z.cell? ⟨w11.heap.size, 2, none⟩ = some (.int .i64 443) ∧ Z.cell? ⟨w11.heap.size, 3, none⟩ = some (.bool false) from fun Z hZ => ⟨keptC4 (by rw [Lib.cell_of_heap r_other]; rfl) hZ, keptC4 (by rw [Lib.cell_of_heap r_other]; rfl) hZ, keptC4 (by rw [Lib.cell_of_heap r_other]; rfl) hZ, keptC4 (by rw [Lib.cell_of_heap r_other]; rfl) hZ⟩)
 have HQ_other := hid (Below.refl W12.heap.size W12)
 have HBW12 := hid (below2 HBW10.out (below2 hbw11 hbW12))
 have HGW12 := hid (HG0.out.kept HBW12.out)
 have HQ_base := hid (below2 HQ_base.out (below2 hbw11 hbW12))
 have HQ_below := hid (below2 HQ_below.out (below2 hbw11 hbW12))
 have HQ_deep := hid (below2 HQ_deep.out (below2 hbw11 hbW12))
 have HQ_plain := hid (below2 HQ_plain.out (below2 hbw11 hbW12))
 have HQ_uk := hid (below2 HQ_uk.out (below2 hbw11 hbW12))
 clear hbw11 hbW12 r_other Ho_other hW12
 obtain ⟨hx, hy, hz, lx, ly⟩ := HL.out
 have Q1 := hid (fun (w : World) (hg : Gd w) => ss_any ⟨sHttps, x ++ 46 :: com, 443, false⟩ ⟨sHttps, (y ++ 46 :: x) ++ 46 :: com, 443, false⟩ w hg (sk_base hx hy lx ly hz) (sk_below hx hy lx ly hz))
 rw [show ssV ⟨sHttps, x ++ 46 :: com, 443, false⟩ ⟨sHttps, (y ++ 46 :: x) ++ 46 :: com, 443, false⟩ = true from ss_yes _ _ rfl rfl rfl (by rw [site_base hx, site_below hx hy]), HV_base.out, HV_below.out] at Q1
 have Q2 := hid (fun (w : World) (hg : Gd w) => ss_any ⟨sHttps, (y ++ 46 :: x) ++ 46 :: com, 443, false⟩ ⟨sHttps, (119 :: 46 :: (y ++ 46 :: x)) ++ 46 :: com, 81, false⟩ w hg (sk_below hx hy lx ly hz) (sk_deep hx hy lx ly hz))
 rw [show ssV ⟨sHttps, (y ++ 46 :: x) ++ 46 :: com, 443, false⟩ ⟨sHttps, (119 :: 46 :: (y ++ 46 :: x)) ++ 46 :: com, 81, false⟩ = true from ss_yes _ _ rfl rfl rfl (by rw [site_below hx hy, site_deep hx hy]), HV_below.out, HV_deep.out] at Q2
 have Q3 := hid (fun (w : World) (hg : Gd w) => ss_any ⟨sHttps, x ++ 46 :: com, 443, false⟩ ⟨sHttp, x ++ 46 :: com, 80, false⟩ w hg (sk_base hx hy lx ly hz) (sk_plain hx hy lx ly hz))
 rw [show ssV ⟨sHttps, x ++ 46 :: com, 443, false⟩ ⟨sHttp, x ++ 46 :: com, 80, false⟩ = false from ss_sch _ _ (by show sHttps ≠ sHttp; decide), HV_base.out, HV_plain.out] at Q3
 have Q4 := hid (fun (w : World) (hg : Gd w) => ss_any ⟨sHttps, x ++ 46 :: com, 443, false⟩ ⟨sHttps, (y ++ 46 :: co) ++ 46 :: uk, 443, false⟩ w hg (sk_base hx hy lx ly hz) (sk_uk hx hy lx ly hz))
 rw [show ssV ⟨sHttps, x ++ 46 :: com, 443, false⟩ ⟨sHttps, (y ++ 46 :: co) ++ 46 :: uk, 443, false⟩ = false from ss_site _ _ (by rw [site_base hx, site_uk hy]; exact last_ne (c := 109) (d := 107) (by rw [List.getLast?_append]; rfl) (by rw [List.getLast?_append]; rfl) (by decide)), HV_base.out, HV_uk.out] at Q4
 have Q5 := hid (fun (w : World) (hg : Gd w) => ss_any ⟨sHttps, (y ++ 46 :: co) ++ 46 :: uk, 443, false⟩ ⟨sHttps, ((122 :: y) ++ 46 :: co) ++ 46 :: uk, 443, false⟩ w hg (sk_uk hx hy lx ly hz) (sk_other hx hy lx ly hz))
 rw [show ssV ⟨sHttps, (y ++ 46 :: co) ++ 46 :: uk, 443, false⟩ ⟨sHttps, ((122 :: y) ++ 46 :: co) ++ 46 :: uk, 443, false⟩ = false from ss_site _ _ (by rw [site_uk hy, site_uk (y := 122 :: y) hz]; intro e; have := congrArg List.length e; simp at this), HV_uk.out, HV_other.out] at Q5
 obtain ⟨SD, hSD⟩ : ∃ Z : ByteArray, (⟨(siteV ⟨sHttps, (119 :: 46 :: (y ++ 46 :: x)) ++ 46 :: com, 81, false⟩).toArray⟩ : ByteArray) = Z := ⟨_, rfl⟩
 obtain ⟨SU, hSU⟩ : ∃ Z : ByteArray, (⟨(siteV ⟨sHttps, (y ++ 46 :: co) ++ 46 :: uk, 443, false⟩).toArray⟩ : ByteArray) = Z := ⟨_, rfl⟩
 have Q6 := hid (fun (w : World) (hg : Gd w) => site_any ⟨sHttps, (119 :: 46 :: (y ++ 46 :: x)) ++ 46 :: com, 81, false⟩ w hg (sk_deep hx hy lx ly hz).1 (sk_deep hx hy lx ly hz).2)
 have Q7 := hid (fun (w : World) (hg : Gd w) => site_any ⟨sHttps, (y ++ 46 :: co) ++ 46 :: uk, 443, false⟩ w hg (sk_uk hx hy lx ly hz).1 (sk_uk hx hy lx ly hz).2)
 rw [hSD, HV_deep.out] at Q6
 rw [hSU, HV_uk.out] at Q7
 obtain ⟨XC, hXC⟩ : ∃ Z : ByteArray, X ++ (⟨#[46, 99, 111, 109]⟩ : ByteArray) = Z := ⟨_, rfl⟩
 obtain ⟨YC, hYC⟩ : ∃ Z : ByteArray, Y ++ (⟨#[46, 99, 111, 46, 117, 107]⟩ : ByteArray) = Z := ⟨_, rfl⟩
 have bD : (SD.toList == XC.toList) = true := by
  rw [Lib.toList_data, Lib.toList_data, ← hXC, ← hSD, ByteArray.data_append, Array.toList_append, HX.out.1]
  show (siteV ⟨sHttps, (119 :: 46 :: (y ++ 46 :: x)) ++ 46 :: com, 81, false⟩ == x ++ [46, 99, 111, 109]) = true
  rw [site_deep hx hy]
  exact beq_self_eq_true _
 have bU : (SU.toList == YC.toList) = true := by
  rw [Lib.toList_data, Lib.toList_data, ← hYC, ← hSU, ByteArray.data_append, Array.toList_append, HX.out.2]
  show (siteV ⟨sHttps, (y ++ 46 :: co) ++ 46 :: uk, 443, false⟩ == y ++ [46, 99, 111, 46, 117, 107]) = true
  rw [site_uk hy]
  rw [show (y ++ 46 :: co) ++ 46 :: uk = y ++ [46, 99, 111, 46, 117, 107] by simp [co, uk]]
  exact beq_self_eq_true _
 have HKn := hid (fun (w : World) (hg : Gd w) => known4_any w hg)
 clear hx hy hz lx ly HL HX hSD hSU
 have HEW12 := hid (Below.refl W12.heap.size W12)
 obtain ⟨k00, k01, k02, k03⟩ := HK_base.out _ (below2 HQ_base.out HEW12.out)
 obtain ⟨k10, k11, k12, k13⟩ := HK_below.out _ (below2 HQ_below.out HEW12.out)
 go_wp2_with fail
 refine (Q1.out _ HGW12.out).mono ?_
 rintro e u20 ⟨rfl, hb20⟩
 have HEu20 := hid (below2 HEW12.out hb20)
 have HGu20 := hid (HGW12.out.kept hb20)
 have HBu20 := hid (below2 HBW12.out hb20)
 clear hb20 k00 k01 k02 k03 k10 k11 k12 k13
 obtain ⟨k00, k01, k02, k03⟩ := HK_below.out _ (below2 HQ_below.out HEu20.out)
 obtain ⟨k10, k11, k12, k13⟩ := HK_deep.out _ (below2 HQ_deep.out HEu20.out)
 go_wp2_with fail
 refine (Q2.out _ HGu20.out).mono ?_
 rintro e u21 ⟨rfl, hb21⟩
 have HEu21 := hid (below2 HEu20.out hb21)
 have HGu21 := hid (HGu20.out.kept hb21)
 have HBu21 := hid (below2 HBu20.out hb21)
 clear hb21 k00 k01 k02 k03 k10 k11 k12 k13
 obtain ⟨k00, k01, k02, k03⟩ := HK_base.out _ (below2 HQ_base.out HEu21.out)
 obtain ⟨k10, k11, k12, k13⟩ := HK_plain.out _ (below2 HQ_plain.out HEu21.out)
 go_wp2_with fail
 refine (Q3.out _ HGu21.out).mono ?_
 rintro e u22 ⟨rfl, hb22⟩
 have HEu22 := hid (below2 HEu21.out hb22)
 have HGu22 := hid (HGu21.out.kept hb22)
 have HBu22 := hid (below2 HBu21.out hb22)
 clear hb22 k00 k01 k02 k03 k10 k11 k12 k13
 obtain ⟨k00, k01, k02, k03⟩ := HK_base.out _ (below2 HQ_base.out HEu22.out)
 obtain ⟨k10, k11, k12, k13⟩ := HK_uk.out _ (below2 HQ_uk.out HEu22.out)
 go_wp2_with fail
 refine (Q4.out _ HGu22.out).mono ?_
 rintro e u23 ⟨rfl, hb23⟩
 have HEu23 := hid (below2 HEu22.out hb23)
 have HGu23 := hid (HGu22.out.kept hb23)
 have HBu23 := hid (below2 HBu22.out hb23)
 clear hb23 k00 k01 k02 k03 k10 k11 k12 k13
 obtain ⟨k00, k01, k02, k03⟩ := HK_uk.out _ (below2 HQ_uk.out HEu23.out)
 obtain ⟨k10, k11, k12, k13⟩ := HK_other.out _ (below2 HQ_other.out HEu23.out)
 go_wp2_with fail
 refine (Q5.out _ HGu23.out).mono ?_
 rintro e u24 ⟨rfl, hb24⟩
 have HEu24 := hid (below2 HEu23.out hb24)
 have HGu24 := hid (HGu23.out.kept hb24)
 have HBu24 := hid (below2 HBu23.out hb24)
 clear hb24 k00 k01 k02 k03 k10 k11 k12 k13
 obtain ⟨k00, k01, k02, k03⟩ := HK_deep.out _ (below2 HQ_deep.out HEu24.out)
 go_wp2_with fail
 refine (Q6.out _ HGu24.out).mono ?_
 rintro e u25 ⟨rfl, hb25⟩
 have HEu25 := hid (below2 HEu24.out hb25)
 have HGu25 := hid (HGu24.out.kept hb25)
 have HBu25 := hid (below2 HBu24.out hb25)
 clear hb25 k00 k01 k02 k03
 obtain ⟨k00, k01, k02, k03⟩ := HK_uk.out _ (below2 HQ_uk.out HEu25.out)
 go_wp2_with fail
 refine (Q7.out _ HGu25.out).mono ?_
 rintro e u26 ⟨rfl, hb26⟩
 have HEu26 := hid (below2 HEu25.out hb26)
 have HGu26 := hid (HGu25.out.kept hb26)
 have HBu26 := hid (below2 HBu25.out hb26)
 clear hb26 k00 k01 k02 k03
 go_wp2_with fail
 refine (HKn.out _ HGu26.out).mono ?_
 rintro e u27 ⟨rfl, hb27⟩
 go_wp2
 go_ret
 exact ⟨rfl, below2 HBu26.out hb27⟩

end Go.Proofs.YtamockkjbkibdaaGreatDoor
