/-
  Walks and plain facts that this claim leans on, put together out of 6 texts: Eyo, Eya, Yrg, Erc, Erd, Ewd.
-/
import Derived.Test.YtmhooefajdndjaaGreatDoorProg
import Derived.Test.YtmhooefajdndjaaGreatDoorQa1
import Derived.Test.YtmhooefajdndjaaGreatDoorQa3
import Derived.Test.YtmhooefajdndjaaGreatDoorQa6
import Derived.Test.YtmhooefajdndjaaGreatDoorQa8
import Derived.Test.YtmhooefajdndjaaGreatDoorQa11
import Derived.Test.YtmhooefajdndjaaGreatDoorQa12
import Derived.Test.YtmhooefajdndjaaGreatDoorQa18
import Derived.Test.YtmhooefajdndjaaGreatDoorQa22
import Derived.Test.YtmhooefajdndjaaGreatDoorQa24
import Derived.Test.YtmhooefajdndjaaGreatDoorQa25
import Derived.Test.YtmhooefajdndjaaGreatDoorQa26
import Derived.Deep.Cut
import Derived.WalkKit
import Derived.Lib.IndexMore
import Derived.Lib.Join
import Derived.Lib.LastIndexByte
import Derived.Lib.Strings
import Derived.Lib.UnsafeStr
import Derived.Laws.IdiomStrings
import Derived.Laws.AppendOwn
import Derived.Laws.BitsAllLaws
import Derived.Lib.Bytealg
import Derived.Lib.BufferMore
import Derived.Lib.BufferRead
import Derived.Lib.RuneBytes
import Derived.Laws.RangeAny
import Derived.LoopN
import Derived.RegionTactic
import Derived.Deep.RegionWith
import Derived.Deep.QuietTactic
import Derived.BigQuiet
import Derived.OwnWalk
import Derived.Deep.RegionLaw
import Derived.Laws.OwnMore
import Derived.Deep.LoopGhost
import Derived.Shelf.Strings.Builder1
import Derived.Shelf.Strings.Builder2
import Derived.Shelf.Strings.OnBuilder
import Derived.Shelf.Strings.Trim
import Derived.Shelf.Small.Utf8
import Derived.Shelf.Small.Strs
import Derived.Shelf.Small.Wraps
import Derived.Shelf.Strings.BuilderF
import Derived.Shelf.Strings.BuilderK
import Derived.Shelf.Strings.BuilderRune
import Derived.Shelf.Utf8.AppendRune
import Derived.Shelf.Utf8.AppendRunePlain
import Derived.Shelf.Strings.Builder2Cap
import Derived.Shelf.Strconv.Itoa0
import Derived.Shelf.Strconv.Itoa1
import Derived.Shelf.LaysM
import Derived.Shelf.Strconv.Itoa2
import Derived.Shelf.Strconv.Itoa3
import Derived.Shelf.Strings.Search1
import Derived.Shelf.Strings.Search2
import Derived.Shelf.Strings.Search3
import Derived.Shelf.Strings.Cut
import Derived.Shelf.Strings.Count
import Derived.Shelf.Strings.Shaped
import Derived.Shelf.Strings.LastIndex
import Derived.Shelf.Strings.Prefix
import Derived.Shelf.Strings.Split
import Derived.Shelf.Strings.Replace
import Derived.Shelf.Strings.Runes
import Derived.Shelf.Strings.IndexAny
import Derived.Shelf.Strings.AsciiSet
import Derived.Shelf.Strings.IndexAnyAll
import Derived.Shelf.Unicode.DecodeSlow
import Derived.Ground.Names2Prog
import Derived.Shelf.Slices.Clone
import Derived.Ground.SlgnProg
import Derived.Shelf.SlicesE.Clone
import Derived.BigRegion
import Derived.Laws.AppendOwnNone
import Derived.Scope
import Derived.ScopeJumps
import Derived.WalkMore
import Derived.Lib.IndexAny
import Derived.Lib.Replace
import Derived.Lib.TrimByte
import Derived.Lib.ItoaNum
import Derived.Lib.DecodeN
import Derived.Lib.OthersKept
import Derived.Laws.BytesString
import Derived.Deep.WholeRow
import Derived.Lib.AppendStr
import Derived.Deep.RegionHeld
import Derived.WalkSpells
import Derived.WalkLawsBesides
import Derived.Lib.AppendIntMem
import Derived.Lib.SmallJoins
import Derived.WalkSmall
import Derived.Laws.CopyOwn
import Derived.Laws.ResultCell
import Derived.Deep.MidRow
import Derived.Lib.FrozenHead2
import Derived.Lib.Builder
import Derived.Lib.SlTrimSet
import Derived.Below
import Derived.Shelf.Strings.SlTrimAscii
import Derived.Laws.Runes
set_option linter.unusedSimpArgs false
set_option linter.unusedVariables false

namespace Go.Proofs.YtmhooefajdndjaaGreatDoor
open Go.RowKit

def badL : List Int := [0, 1, 7, 9, 11, 13, 15, 17, 19, 20, 21, 22, 23, 25, 37, 42, 43, 53, 69, 77, 79, 87, 95, 101, 102, 103, 104, 109, 110, 111, 113, 115, 117, 119, 123, 135, 137, 139, 143, 161, 179, 389, 427, 465, 512, 513, 514, 515, 526, 530, 531, 532, 540, 548, 554, 556, 563, 587, 601, 636, 989, 990, 993, 995, 1719, 1720, 1723, 2049, 3659, 4045, 4190, 5060, 5061, 6000, 6566, 6665, 6666, 6667, 6668, 6669, 6679, 6697, 10080]

def badP (p : Int) : Bool := badL.contains p

theorem badP_yes {p : Int} (h : p ∈ badL) : badP p = true := by unfold badP; simpa using h

theorem badP_no {p : Int} (h : ¬ p ∈ badL) : badP p = false := by unfold badP; simpa using h

set_option maxHeartbeats 32000000 in
set_option maxRecDepth 100000 in
theorem badPort_any (p : Int) (w : World) :
  Calls Tryz.prog 55 #[.int .i64 p] w fun e w' => e = .returned (.bool (badP p)) ∧ w = w' := by
 have HV := hid (@badP_yes p)
 by_cases hm : p ∈ badL
 ·rw [badP_yes hm]
  unfold badL at hm
  simp only [List.mem_cons, List.not_mem_nil, or_false] at hm
  have HM := hid hm
  clear hm HV
  go_enter Tryz.func55, Tryz.ntmps55
  by_cases h0 : p = 0
  ·subst h0
   clear HM
   go_wp2
   go_ret
   exact ⟨rfl, rfl⟩
  have hm := HM.out.resolve_left h0
  replace HM := hid hm
  clear hm
  go_upto_region 3 with fail
  clear h0
  by_cases h1 : p = 1
  ·subst h1
   clear HM
   go_wp2
   go_ret
   exact ⟨rfl, rfl⟩
  have hm := HM.out.resolve_left h1
  replace HM := hid hm
  clear hm
  go_upto_region 4 with fail
  clear h1
  by_cases h2 : p = 7
  ·subst h2
   clear HM
   go_wp2
   go_ret
   exact ⟨rfl, rfl⟩
  have hm := HM.out.resolve_left h2
  replace HM := hid hm
  clear hm
  go_upto_region 5 with fail
  clear h2
  by_cases h3 : p = 9
  ·subst h3
   clear HM
   go_wp2
   go_ret
   exact ⟨rfl, rfl⟩
  have hm := HM.out.resolve_left h3
  replace HM := hid hm
  clear hm
  go_upto_region 6 with fail
  clear h3
  by_cases h4 : p = 11
  ·subst h4
   clear HM
   go_wp2
   go_ret
   exact ⟨rfl, rfl⟩
  have hm := HM.out.resolve_left h4
  replace HM := hid hm
  clear hm
  go_upto_region 7 with fail
  clear h4
  by_cases h5 : p = 13
  ·subst h5
   clear HM
   go_wp2
   go_ret
   exact ⟨rfl, rfl⟩
  have hm := HM.out.resolve_left h5
  replace HM := hid hm
  clear hm
  go_upto_region 8 with fail
  clear h5
  by_cases h6 : p = 15
  ·subst h6
   clear HM
   go_wp2
   go_ret
   exact ⟨rfl, rfl⟩
  have hm := HM.out.resolve_left h6
  replace HM := hid hm
  clear hm
  go_upto_region 9 with fail
  clear h6
  by_cases h7 : p = 17
  ·subst h7
   clear HM
   go_wp2
   go_ret
   exact ⟨rfl, rfl⟩
  have hm := HM.out.resolve_left h7
  replace HM := hid hm
  clear hm
  go_upto_region 10 with fail
  clear h7
  by_cases h8 : p = 19
  ·subst h8
   clear HM
   go_wp2
   go_ret
   exact ⟨rfl, rfl⟩
  have hm := HM.out.resolve_left h8
  replace HM := hid hm
  clear hm
  go_upto_region 11 with fail
  clear h8
  by_cases h9 : p = 20
  ·subst h9
   clear HM
   go_wp2
   go_ret
   exact ⟨rfl, rfl⟩
  have hm := HM.out.resolve_left h9
  replace HM := hid hm
  clear hm
  go_upto_region 12 with fail
  clear h9
  by_cases h10 : p = 21
  ·subst h10
   clear HM
   go_wp2
   go_ret
   exact ⟨rfl, rfl⟩
  have hm := HM.out.resolve_left h10
  replace HM := hid hm
  clear hm
  go_upto_region 13 with fail
  clear h10
  by_cases h11 : p = 22
  ·subst h11
   clear HM
   go_wp2
   go_ret
   exact ⟨rfl, rfl⟩
  have hm := HM.out.resolve_left h11
  replace HM := hid hm
  clear hm
  go_upto_region 14 with fail
  clear h11
  by_cases h12 : p = 23
  ·subst h12
   clear HM
   go_wp2
   go_ret
   exact ⟨rfl, rfl⟩
  have hm := HM.out.resolve_left h12
  replace HM := hid hm
  clear hm
  go_upto_region 15 with fail
  clear h12
  by_cases h13 : p = 25
  ·subst h13
   clear HM
   go_wp2
   go_ret
   exact ⟨rfl, rfl⟩
  have hm := HM.out.resolve_left h13
  replace HM := hid hm
  clear hm
  go_upto_region 16 with fail
  clear h13
  by_cases h14 : p = 37
  ·subst h14
   clear HM
   go_wp2
   go_ret
   exact ⟨rfl, rfl⟩
  have hm := HM.out.resolve_left h14
  replace HM := hid hm
  clear hm
  go_upto_region 17 with fail
  clear h14
  by_cases h15 : p = 42
  ·subst h15
   clear HM
   go_wp2
   go_ret
   exact ⟨rfl, rfl⟩
  have hm := HM.out.resolve_left h15
  replace HM := hid hm
  clear hm
  go_upto_region 18 with fail
  clear h15
  by_cases h16 : p = 43
  ·subst h16
   clear HM
   go_wp2
   go_ret
   exact ⟨rfl, rfl⟩
  have hm := HM.out.resolve_left h16
  replace HM := hid hm
  clear hm
  go_upto_region 19 with fail
  clear h16
  by_cases h17 : p = 53
  ·subst h17
   clear HM
   go_wp2
   go_ret
   exact ⟨rfl, rfl⟩
  have hm := HM.out.resolve_left h17
  replace HM := hid hm
  clear hm
  go_upto_region 20 with fail
  clear h17
  by_cases h18 : p = 69
  ·subst h18
   clear HM
   go_wp2
   go_ret
   exact ⟨rfl, rfl⟩
  have hm := HM.out.resolve_left h18
  replace HM := hid hm
  clear hm
  go_upto_region 21 with fail
  clear h18
  by_cases h19 : p = 77
  ·subst h19
   clear HM
   go_wp2
   go_ret
   exact ⟨rfl, rfl⟩
  have hm := HM.out.resolve_left h19
  replace HM := hid hm
  clear hm
  go_upto_region 22 with fail
  clear h19
  by_cases h20 : p = 79
  ·subst h20
   clear HM
   go_wp2
   go_ret
   exact ⟨rfl, rfl⟩
  have hm := HM.out.resolve_left h20
  replace HM := hid hm
  clear hm
  go_upto_region 23 with fail
  clear h20
  by_cases h21 : p = 87
  ·subst h21
   clear HM
   go_wp2
   go_ret
   exact ⟨rfl, rfl⟩
  have hm := HM.out.resolve_left h21
  replace HM := hid hm
  clear hm
  go_upto_region 24 with fail
  clear h21
  by_cases h22 : p = 95
  ·subst h22
   clear HM
   go_wp2
   go_ret
   exact ⟨rfl, rfl⟩
  have hm := HM.out.resolve_left h22
  replace HM := hid hm
  clear hm
  go_upto_region 25 with fail
  clear h22
  by_cases h23 : p = 101
  ·subst h23
   clear HM
   go_wp2
   go_ret
   exact ⟨rfl, rfl⟩
  have hm := HM.out.resolve_left h23
  replace HM := hid hm
  clear hm
  go_upto_region 26 with fail
  clear h23
  by_cases h24 : p = 102
  ·subst h24
   clear HM
   go_wp2
   go_ret
   exact ⟨rfl, rfl⟩
  have hm := HM.out.resolve_left h24
  replace HM := hid hm
  clear hm
  go_upto_region 27 with fail
  clear h24
  by_cases h25 : p = 103
  ·subst h25
   clear HM
   go_wp2
   go_ret
   exact ⟨rfl, rfl⟩
  have hm := HM.out.resolve_left h25
  replace HM := hid hm
  clear hm
  go_upto_region 28 with fail
  clear h25
  by_cases h26 : p = 104
  ·subst h26
   clear HM
   go_wp2
   go_ret
   exact ⟨rfl, rfl⟩
  have hm := HM.out.resolve_left h26
  replace HM := hid hm
  clear hm
  go_upto_region 29 with fail
  clear h26
  by_cases h27 : p = 109
  ·subst h27
   clear HM
   go_wp2
   go_ret
   exact ⟨rfl, rfl⟩
  have hm := HM.out.resolve_left h27
  replace HM := hid hm
  clear hm
  go_upto_region 30 with fail
  clear h27
  by_cases h28 : p = 110
  ·subst h28
   clear HM
   go_wp2
   go_ret
   exact ⟨rfl, rfl⟩
  have hm := HM.out.resolve_left h28
  replace HM := hid hm
  clear hm
  go_upto_region 31 with fail
  clear h28
  by_cases h29 : p = 111
  ·subst h29
   clear HM
   go_wp2
   go_ret
   exact ⟨rfl, rfl⟩
  have hm := HM.out.resolve_left h29
  replace HM := hid hm
  clear hm
  go_upto_region 32 with fail
  clear h29
  by_cases h30 : p = 113
  ·subst h30
   clear HM
   go_wp2
   go_ret
   exact ⟨rfl, rfl⟩
  have hm := HM.out.resolve_left h30
  replace HM := hid hm
  clear hm
  go_upto_region 33 with fail
  clear h30
  by_cases h31 : p = 115
  ·subst h31
   clear HM
   go_wp2
   go_ret
   exact ⟨rfl, rfl⟩
  have hm := HM.out.resolve_left h31
  replace HM := hid hm
  clear hm
  go_upto_region 34 with fail
  clear h31
  by_cases h32 : p = 117
  ·subst h32
   clear HM
   go_wp2
   go_ret
   exact ⟨rfl, rfl⟩
  have hm := HM.out.resolve_left h32
  replace HM := hid hm
  clear hm
  go_upto_region 35 with fail
  clear h32
  by_cases h33 : p = 119
  ·subst h33
   clear HM
   go_wp2
   go_ret
   exact ⟨rfl, rfl⟩
  have hm := HM.out.resolve_left h33
  replace HM := hid hm
  clear hm
  go_upto_region 36 with fail
  clear h33
  by_cases h34 : p = 123
  ·subst h34
   clear HM
   go_wp2
   go_ret
   exact ⟨rfl, rfl⟩
  have hm := HM.out.resolve_left h34
  replace HM := hid hm
  clear hm
  go_upto_region 37 with fail
  clear h34
  by_cases h35 : p = 135
  ·subst h35
   clear HM
   go_wp2
   go_ret
   exact ⟨rfl, rfl⟩
  have hm := HM.out.resolve_left h35
  replace HM := hid hm
  clear hm
  go_upto_region 38 with fail
  clear h35
  by_cases h36 : p = 137
  ·subst h36
   clear HM
   go_wp2
   go_ret
   exact ⟨rfl, rfl⟩
  have hm := HM.out.resolve_left h36
  replace HM := hid hm
  clear hm
  go_upto_region 39 with fail
  clear h36
  by_cases h37 : p = 139
  ·subst h37
   clear HM
   go_wp2
   go_ret
   exact ⟨rfl, rfl⟩
  have hm := HM.out.resolve_left h37
  replace HM := hid hm
  clear hm
  go_upto_region 40 with fail
  clear h37
  by_cases h38 : p = 143
  ·subst h38
   clear HM
   go_wp2
   go_ret
   exact ⟨rfl, rfl⟩
  have hm := HM.out.resolve_left h38
  replace HM := hid hm
  clear hm
  go_upto_region 41 with fail
  clear h38
  by_cases h39 : p = 161
  ·subst h39
   clear HM
   go_wp2
   go_ret
   exact ⟨rfl, rfl⟩
  have hm := HM.out.resolve_left h39
  replace HM := hid hm
  clear hm
  go_upto_region 42 with fail
  clear h39
  by_cases h40 : p = 179
  ·subst h40
   clear HM
   go_wp2
   go_ret
   exact ⟨rfl, rfl⟩
  have hm := HM.out.resolve_left h40
  replace HM := hid hm
  clear hm
  go_upto_region 43 with fail
  clear h40
  by_cases h41 : p = 389
  ·subst h41
   clear HM
   go_wp2
   go_ret
   exact ⟨rfl, rfl⟩
  have hm := HM.out.resolve_left h41
  replace HM := hid hm
  clear hm
  go_upto_region 44 with fail
  clear h41
  by_cases h42 : p = 427
  ·subst h42
   clear HM
   go_wp2
   go_ret
   exact ⟨rfl, rfl⟩
  have hm := HM.out.resolve_left h42
  replace HM := hid hm
  clear hm
  go_upto_region 45 with fail
  clear h42
  by_cases h43 : p = 465
  ·subst h43
   clear HM
   go_wp2
   go_ret
   exact ⟨rfl, rfl⟩
  have hm := HM.out.resolve_left h43
  replace HM := hid hm
  clear hm
  go_upto_region 46 with fail
  clear h43
  by_cases h44 : p = 512
  ·subst h44
   clear HM
   go_wp2
   go_ret
   exact ⟨rfl, rfl⟩
  have hm := HM.out.resolve_left h44
  replace HM := hid hm
  clear hm
  go_upto_region 47 with fail
  clear h44
  by_cases h45 : p = 513
  ·subst h45
   clear HM
   go_wp2
   go_ret
   exact ⟨rfl, rfl⟩
  have hm := HM.out.resolve_left h45
  replace HM := hid hm
  clear hm
  go_upto_region 48 with fail
  clear h45
  by_cases h46 : p = 514
  ·subst h46
   clear HM
   go_wp2
   go_ret
   exact ⟨rfl, rfl⟩
  have hm := HM.out.resolve_left h46
  replace HM := hid hm
  clear hm
  go_upto_region 49 with fail
  clear h46
  by_cases h47 : p = 515
  ·subst h47
   clear HM
   go_wp2
   go_ret
   exact ⟨rfl, rfl⟩
  have hm := HM.out.resolve_left h47
  replace HM := hid hm
  clear hm
  go_upto_region 50 with fail
  clear h47
  by_cases h48 : p = 526
  ·subst h48
   clear HM
   go_wp2
   go_ret
   exact ⟨rfl, rfl⟩
  have hm := HM.out.resolve_left h48
  replace HM := hid hm
  clear hm
  go_upto_region 51 with fail
  clear h48
  by_cases h49 : p = 530
  ·subst h49
   clear HM
   go_wp2
   go_ret
   exact ⟨rfl, rfl⟩
  have hm := HM.out.resolve_left h49
  replace HM := hid hm
  clear hm
  go_upto_region 52 with fail
  clear h49
  by_cases h50 : p = 531
  ·subst h50
   clear HM
   go_wp2
   go_ret
   exact ⟨rfl, rfl⟩
  have hm := HM.out.resolve_left h50
  replace HM := hid hm
  clear hm
  go_upto_region 53 with fail
  clear h50
  by_cases h51 : p = 532
  ·subst h51
   clear HM
   go_wp2
   go_ret
   exact ⟨rfl, rfl⟩
  have hm := HM.out.resolve_left h51
  replace HM := hid hm
  clear hm
  go_upto_region 54 with fail
  clear h51
  by_cases h52 : p = 540
  ·subst h52
   clear HM
   go_wp2
   go_ret
   exact ⟨rfl, rfl⟩
  have hm := HM.out.resolve_left h52
  replace HM := hid hm
  clear hm
  go_upto_region 55 with fail
  clear h52
  by_cases h53 : p = 548
  ·subst h53
   clear HM
   go_wp2
   go_ret
   exact ⟨rfl, rfl⟩
  have hm := HM.out.resolve_left h53
  replace HM := hid hm
  clear hm
  go_upto_region 56 with fail
  clear h53
  by_cases h54 : p = 554
  ·subst h54
   clear HM
   go_wp2
   go_ret
   exact ⟨rfl, rfl⟩
  have hm := HM.out.resolve_left h54
  replace HM := hid hm
  clear hm
  go_upto_region 57 with fail
  clear h54
  by_cases h55 : p = 556
  ·subst h55
   clear HM
   go_wp2
   go_ret
   exact ⟨rfl, rfl⟩
  have hm := HM.out.resolve_left h55
  replace HM := hid hm
  clear hm
  go_upto_region 58 with fail
  clear h55
  by_cases h56 : p = 563
  ·subst h56
   clear HM
   go_wp2
   go_ret
   exact ⟨rfl, rfl⟩
  have hm := HM.out.resolve_left h56
  replace HM := hid hm
  clear hm
  go_upto_region 59 with fail
  clear h56
  by_cases h57 : p = 587
  ·subst h57
   clear HM
   go_wp2
   go_ret
   exact ⟨rfl, rfl⟩
  have hm := HM.out.resolve_left h57
  replace HM := hid hm
  clear hm
  go_upto_region 60 with fail
  clear h57
  by_cases h58 : p = 601
  ·subst h58
   clear HM
   go_wp2
   go_ret
   exact ⟨rfl, rfl⟩
  have hm := HM.out.resolve_left h58
  replace HM := hid hm
  clear hm
  go_upto_region 61 with fail
  clear h58
  by_cases h59 : p = 636
  ·subst h59
   clear HM
   go_wp2
   go_ret
   exact ⟨rfl, rfl⟩
  have hm := HM.out.resolve_left h59
  replace HM := hid hm
  clear hm
  go_upto_region 62 with fail
  clear h59
  by_cases h60 : p = 989
  ·subst h60
   clear HM
   go_wp2
   go_ret
   exact ⟨rfl, rfl⟩
  have hm := HM.out.resolve_left h60
  replace HM := hid hm
  clear hm
  go_upto_region 63 with fail
  clear h60
  by_cases h61 : p = 990
  ·subst h61
   clear HM
   go_wp2
   go_ret
   exact ⟨rfl, rfl⟩
  have hm := HM.out.resolve_left h61
  replace HM := hid hm
  clear hm
  go_upto_region 64 with fail
  clear h61
  by_cases h62 : p = 993
  ·subst h62
   clear HM
   go_wp2
   go_ret
   exact ⟨rfl, rfl⟩
  have hm := HM.out.resolve_left h62
  replace HM := hid hm
  clear hm
  go_upto_region 65 with fail
  clear h62
  by_cases h63 : p = 995
  ·subst h63
   clear HM
   go_wp2
   go_ret
   exact ⟨rfl, rfl⟩
  have hm := HM.out.resolve_left h63
  replace HM := hid hm
  clear hm
  go_upto_region 66 with fail
  clear h63
  by_cases h64 : p = 1719
  ·subst h64
   clear HM
   go_wp2
   go_ret
   exact ⟨rfl, rfl⟩
  have hm := HM.out.resolve_left h64
  replace HM := hid hm
  clear hm
  go_upto_region 67 with fail
  clear h64
  by_cases h65 : p = 1720
  ·subst h65
   clear HM
   go_wp2
   go_ret
   exact ⟨rfl, rfl⟩
  have hm := HM.out.resolve_left h65
  replace HM := hid hm
  clear hm
  go_upto_region 68 with fail
  clear h65
  by_cases h66 : p = 1723
  ·subst h66
   clear HM
   go_wp2
   go_ret
   exact ⟨rfl, rfl⟩
  have hm := HM.out.resolve_left h66
  replace HM := hid hm
  clear hm
  go_upto_region 69 with fail
  clear h66
  by_cases h67 : p = 2049
  ·subst h67
   clear HM
   go_wp2
   go_ret
   exact ⟨rfl, rfl⟩
  have hm := HM.out.resolve_left h67
  replace HM := hid hm
  clear hm
  go_upto_region 70 with fail
  clear h67
  by_cases h68 : p = 3659
  ·subst h68
   clear HM
   go_wp2
   go_ret
   exact ⟨rfl, rfl⟩
  have hm := HM.out.resolve_left h68
  replace HM := hid hm
  clear hm
  go_upto_region 71 with fail
  clear h68
  by_cases h69 : p = 4045
  ·subst h69
   clear HM
   go_wp2
   go_ret
   exact ⟨rfl, rfl⟩
  have hm := HM.out.resolve_left h69
  replace HM := hid hm
  clear hm
  go_upto_region 72 with fail
  clear h69
  by_cases h70 : p = 4190
  ·subst h70
   clear HM
   go_wp2
   go_ret
   exact ⟨rfl, rfl⟩
  have hm := HM.out.resolve_left h70
  replace HM := hid hm
  clear hm
  go_upto_region 73 with fail
  clear h70
  by_cases h71 : p = 5060
  ·subst h71
   clear HM
   go_wp2
   go_ret
   exact ⟨rfl, rfl⟩
  have hm := HM.out.resolve_left h71
  replace HM := hid hm
  clear hm
  go_upto_region 74 with fail
  clear h71
  by_cases h72 : p = 5061
  ·subst h72
   clear HM
   go_wp2
   go_ret
   exact ⟨rfl, rfl⟩
  have hm := HM.out.resolve_left h72
  replace HM := hid hm
  clear hm
  go_upto_region 75 with fail
  clear h72
  by_cases h73 : p = 6000
  ·subst h73
   clear HM
   go_wp2
   go_ret
   exact ⟨rfl, rfl⟩
  have hm := HM.out.resolve_left h73
  replace HM := hid hm
  clear hm
  go_upto_region 76 with fail
  clear h73
  by_cases h74 : p = 6566
  ·subst h74
   clear HM
   go_wp2
   go_ret
   exact ⟨rfl, rfl⟩
  have hm := HM.out.resolve_left h74
  replace HM := hid hm
  clear hm
  go_upto_region 77 with fail
  clear h74
  by_cases h75 : p = 6665
  ·subst h75
   clear HM
   go_wp2
   go_ret
   exact ⟨rfl, rfl⟩
  have hm := HM.out.resolve_left h75
  replace HM := hid hm
  clear hm
  go_upto_region 78 with fail
  clear h75
  by_cases h76 : p = 6666
  ·subst h76
   clear HM
   go_wp2
   go_ret
   exact ⟨rfl, rfl⟩
  have hm := HM.out.resolve_left h76
  replace HM := hid hm
  clear hm
  go_upto_region 79 with fail
  clear h76
  by_cases h77 : p = 6667
  ·subst h77
   clear HM
   go_wp2
   go_ret
   exact ⟨rfl, rfl⟩
  have hm := HM.out.resolve_left h77
  replace HM := hid hm
  clear hm
  go_upto_region 80 with fail
  clear h77
  by_cases h78 : p = 6668
  ·subst h78
   clear HM
   go_wp2
   go_ret
   exact ⟨rfl, rfl⟩
  have hm := HM.out.resolve_left h78
  replace HM := hid hm
  clear hm
  go_upto_region 81 with fail
  clear h78
  by_cases h79 : p = 6669
  ·subst h79
   clear HM
   go_wp2
   go_ret
   exact ⟨rfl, rfl⟩
  have hm := HM.out.resolve_left h79
  replace HM := hid hm
  clear hm
  go_upto_region 82 with fail
  clear h79
  by_cases h80 : p = 6679
  ·subst h80
   clear HM
   go_wp2
   go_ret
   exact ⟨rfl, rfl⟩
  have hm := HM.out.resolve_left h80
  replace HM := hid hm
  clear hm
  go_upto_region 83 with fail
  clear h80
  by_cases h81 : p = 6697
  ·subst h81
   clear HM
   go_wp2
   go_ret
   exact ⟨rfl, rfl⟩
  have hm := HM.out.resolve_left h81
  replace HM := hid hm
  clear hm
  go_upto_region 84 with fail
  clear h81
  have h := HM.out
  subst h
  clear HM
  go_wp2
  go_ret
  exact ⟨rfl, rfl⟩
 ·rw [badP_no hm]
  unfold badL at hm
  simp only [List.mem_cons, List.not_mem_nil, or_false, not_or] at hm
  obtain ⟨h0, h1, h2, h3, h4, h5, h6, h7, h8, h9, h10, h11, h12, h13, h14, h15, h16, h17, h18, h19, h20, h21, h22, h23, h24, h25, h26, h27, h28, h29, h30, h31, h32, h33, h34, h35, h36, h37, h38, h39, h40, h41, h42, h43, h44, h45, h46, h47, h48, h49, h50, h51, h52, h53, h54, h55, h56, h57, h58, h59, h60, h61, h62, h63, h64, h65, h66, h67, h68, h69, h70, h71, h72, h73, h74, h75, h76, h77, h78, h79, h80, h81, h82⟩ := hm
  clear HV
  go_enter Tryz.func55, Tryz.ntmps55
  go_wp2
  go_ret
  exact ⟨rfl, rfl⟩

end Go.Proofs.YtmhooefajdndjaaGreatDoor

namespace Go.Proofs.YtmhooefajdndjaaGreatDoor
def badU (u : Adr) : Bool := specV u.scheme && badP u.port

def rbadU (u : Adr) : Bool := if specV u.scheme = false ∨ (u.scheme = sFtp ∧ u.port = -1) then false else badP (hasP u)

theorem rbad_eq (u : Adr) : rbadU u = badU u := by
 unfold rbadU badU
 cases hs : specV u.scheme with
 | false => rw [if_pos (.inl rfl)]; rfl
 | true =>
  by_cases hp : u.port = -1
  ·have h1 : badP u.port = false := by rw [hp]; decide
   rw [h1]
   by_cases hf : u.scheme = sFtp
   ·rw [if_pos (.inr ⟨hf, hp⟩)]; rfl
   ·rw [if_neg (by rintro (h | h); cases h; exact hf h.1)]
    unfold hasP
    rw [if_pos hp]
    unfold specV at hs
    have hs := of_decide_eq_true hs
    unfold ownV at hs ⊢
    split
    ·decide
    ·split
     ·decide
     ·rename_i h2 h3
      rw [if_neg h2, if_neg h3, if_neg hf] at hs
      exact absurd hs (by decide)
  ·rw [if_neg (by rintro (h | h); cases h; exact hp h.2)]
   unfold hasP
   rw [if_neg hp]
   rfl

def nameM (h : List UInt8) : Bool := !(Lib.hasPrefix h [91]) && !(numO h)

def judT (https tr http ws img nm : Bool) : Int := if https then (if tr then 1 else if http then (if img && nm then 2 else 3) else if ws then 3 else 1) else 1

def judV (p u : Adr) (d : Int) : Int := judT (p.scheme == sHttps) (trustV u) (u.scheme == sHttp) (u.scheme == sWs) (d == 4) (nameM u.host)

def raiS (s : List UInt8) : List UInt8 := if s = sHttp then sHttps else if s = sWs then sWss else s

def raiP (s : List UInt8) (p : Int) : Int := if s = sHttp ∨ s = sWs then (if p = 443 then -1 else p) else p

def raiV (u : Adr) : Adr := { u with scheme := raiS u.scheme, port := raiP u.scheme u.port }

theorem raiS_cases (s : List UInt8) : (s = sHttp ∧ raiS s = sHttps) ∨ (s = sWs ∧ raiS s = sWss) ∨ (s ≠ sHttp ∧ s ≠ sWs ∧ raiS s = s) := by
 unfold raiS
 by_cases h : s = sHttp
 ·rw [if_pos h]; exact .inl ⟨h, rfl⟩
 ·rw [if_neg h]
  by_cases h2 : s = sWs
  ·rw [if_pos h2]; exact .inr (.inl ⟨h2, rfl⟩)
  ·rw [if_neg h2]; exact .inr (.inr ⟨h, h2, rfl⟩)

theorem raiS_ne (s : List UInt8) : raiS s ≠ sHttp ∧ raiS s ≠ sWs := by
 rcases raiS_cases s with ⟨_, e⟩ | ⟨_, e⟩ | ⟨h1, h2, e⟩
 ·rw [e]; decide
 ·rw [e]; decide
 ·rw [e]; exact ⟨h1, h2⟩

theorem rai_same (u : Adr) (h1 : u.scheme ≠ sHttp) (h2 : u.scheme ≠ sWs) : raiV u = u := by
 unfold raiV raiS raiP
 rw [if_neg h1, if_neg h2, if_neg (by rintro (h | h); exact h1 h; exact h2 h)]

theorem rai_http (u : Adr) (h : u.scheme = sHttp) : raiV u = { u with scheme := sHttps, port := if u.port = 443 then -1 else u.port } := by
 unfold raiV raiS raiP
 rw [if_pos h, if_pos (.inl h)]

theorem rai_ws (u : Adr) (h : u.scheme = sWs) : raiV u = { u with scheme := sWss, port := if u.port = 443 then -1 else u.port } := by
 unfold raiV raiS raiP
 rw [if_neg (by rw [h]; decide), if_pos h, if_pos (.inr h)]

theorem rai_again (u : Adr) : raiV (raiV u) = raiV u := rai_same _ (raiS_ne u.scheme).1 (raiS_ne u.scheme).2

theorem judT_fine (a b i n : Bool) : judT a b false false i n = 1 := by
 cases a <;> cases b <;> rfl

theorem jud_raised (p u : Adr) (d : Int) : judV p (raiV u) d = 1 := by
 unfold judV
 rw [show ((raiV u).scheme == sHttp) = false from beq_eq_false_iff_ne.2 (raiS_ne u.scheme).1, show ((raiV u).scheme == sWs) = false from beq_eq_false_iff_ne.2 (raiS_ne u.scheme).2]
 exact judT_fine _ _ _ _

def nuC (c : UInt8) : Bool := ([48, 49, 50, 51, 52, 53, 54, 55, 56, 57, 46] : List UInt8).contains c

theorem num_all (h : List UInt8) : numO h = h.all nuC := by
 cases e : h.all nuC with
 | true =>
  have e := List.all_eq_true.1 e
  unfold numO Lib.trimS Lib.trimLeftS Lib.trimRightS
  have key : ∀ l : List UInt8, (∀ c ∈ l, nuC c = true) → l.dropWhile (fun x => ([48, 49, 50, 51, 52, 53, 54, 55, 56, 57, 46] : List UInt8).contains x) = [] := by
   intro l
   induction l with
   | nil => intro _; rfl
   | cons c l ih =>
    intro hl
    rw [List.dropWhile_cons]
    have : ([48, 49, 50, 51, 52, 53, 54, 55, 56, 57, 46] : List UInt8).contains c = true := hl c (by simp)
    rw [if_pos this]
    exact ih fun d hd => hl d (by simp [hd])
  rw [key h.reverse (fun c hc => e c (List.mem_reverse.1 hc))]
  rfl
 | false =>
  have : ∃ c ∈ h, nuC c = false := by
   rcases List.all_eq_false.1 e with ⟨c, hc, hn⟩
   exact ⟨c, hc, by simpa using hn⟩
  obtain ⟨c, hc, hn⟩ := this
  have mem_dropW : ∀ l : List UInt8, c ∈ l → c ∈ l.dropWhile (fun x => ([48, 49, 50, 51, 52, 53, 54, 55, 56, 57, 46] : List UInt8).contains x) := by
   intro l
   induction l with
   | nil => intro h; simp at h
   | cons x l ih =>
    intro h
    rw [List.dropWhile_cons]
    split
    ·rename_i hx
     rcases List.mem_cons.1 h with rfl | h
     ·exact absurd hx (by show ¬ (nuC c = true); rw [hn]; decide)
     ·exact ih h
    ·exact h
  unfold numO Lib.trimS Lib.trimLeftS Lib.trimRightS
  have h1 := mem_dropW h.reverse (List.mem_reverse.2 hc)
  have h2 := mem_dropW _ (List.mem_reverse.2 h1)
  cases hd : List.dropWhile (fun x => ([48, 49, 50, 51, 52, 53, 54, 55, 56, 57, 46] : List UInt8).contains x) ((List.dropWhile (fun x => ([48, 49, 50, 51, 52, 53, 54, 55, 56, 57, 46] : List UInt8).contains x) h.reverse).reverse) with
  | nil => rw [hd] at h2; simp at h2
  | cons x r => rfl

end Go.Proofs.YtmhooefajdndjaaGreatDoor

namespace Go.Proofs.YtmhooefajdndjaaGreatDoor
open Go.RowKit

theorem wpAnyH_to {P : Program} {md : Region.Mode} {ops : Array Oper} {Q : Exit → Act → World → Prop} {S : World → Prop} {fuel fuel' : Nat} {listed listed' : Array Bool} {a : Act} {w : World} (hf : fuel = fuel') (hl : listed = listed') (h : wpAnyH P md ops Q S fuel' listed' a w) : wpAnyH P md ops Q S fuel listed a w := by
 subst hf; subst hl; exact h

end Go.Proofs.YtmhooefajdndjaaGreatDoor

namespace Go.Proofs.YtmhooefajdndjaaGreatDoor
open Go.RowKit

theorem path_sl {w : World} {v : Value} {L : List (List UInt8)} (h : PathAt w v L) : IsSl v := by
 rcases h with ⟨rfl, _⟩ | ⟨b, cap, rfl, _⟩
 ·exact ⟨_, _, _, rfl⟩
 ·exact ⟨_, _, _, rfl⟩

theorem adr_cells (A : Adr) (a : Option Addr) (n c : Nat) : ∃ s0 s1 s2 s3 b4 i5 b6 s8 s9 b10 b11, adrCells A (.slice a n c) = [.string s0, .string s1, .string s2, .string s3, .bool b4, .int .i64 i5, .bool b6, .slice a n c, .string s8, .string s9, .bool b10, .bool b11] := ⟨_, _, _, _, _, _, _, _, _, _, _, rfl⟩

end Go.Proofs.YtmhooefajdndjaaGreatDoor

namespace Go.Proofs.YtmhooefajdndjaaGreatDoor
open Go.RowKit

theorem adr_twelve {W : World} {b : Nat} {A : Adr} {ua : Option Addr} {un uc : Nat} {u0 u1 u2 u3 : ByteArray} {u4 : Bool} {u5 : Int} {u6 : Bool} {u8 u9 : ByteArray} {u10 u11 : Bool} (hx : adrCells A (.slice ua un uc) = [.string u0, .string u1, .string u2, .string u3, .bool u4, .int .i64 u5, .bool u6, .slice ua un uc, .string u8, .string u9, .bool u10, .bool u11]) (h : AdrIn W b A (.slice ua un uc)) :
  W.cell? ⟨b, 0, none⟩ = some (.string u0) ∧ W.cell? ⟨b, 1, none⟩ = some (.string u1) ∧ W.cell? ⟨b, 2, none⟩ = some (.string u2) ∧ W.cell? ⟨b, 3, none⟩ = some (.string u3) ∧ W.cell? ⟨b, 4, none⟩ = some (.bool u4) ∧ W.cell? ⟨b, 5, none⟩ = some (.int .i64 u5) ∧ W.cell? ⟨b, 6, none⟩ = some (.bool u6) ∧ W.cell? ⟨b, 7, none⟩ = some (.slice ua un uc) ∧ W.cell? ⟨b, 8, none⟩ = some (.string u8) ∧ W.cell? ⟨b, 9, none⟩ = some (.string u9) ∧ W.cell? ⟨b, 10, none⟩ = some (.bool u10) ∧ W.cell? ⟨b, 11, none⟩ = some (.bool u11) := by
 have f : ∀ j v, [.string u0, .string u1, .string u2, .string u3, .bool u4, .int .i64 u5, .bool u6, .slice ua un uc, .string u8, .string u9, .bool u10, .bool u11][j]? = some v → W.cell? ⟨b, j, none⟩ = some v := fun j v hj => h.cell j v (by rw [hx]; exact hj)
 exact ⟨f 0 _ rfl, f 1 _ rfl, f 2 _ rfl, f 3 _ rfl, f 4 _ rfl, f 5 _ rfl, f 6 _ rfl, f 7 _ rfl, f 8 _ rfl, f 9 _ rfl, f 10 _ rfl, f 11 _ rfl⟩

theorem read_err {s : List UInt8} {e : Int} (h : readV s none = .error e) : e = 3 ∨ e = 10 ∨ e = 11 ∨ e = 12 := by
 unfold readV at h
 split at h
 ·injection h with h; exact .inl h.symm
 ·simp only at h
  split at h
  ·injection h with h; exact .inr (.inr (.inr h.symm))
  ·rcases startV_err h with h | h
   ·exact .inr (.inl h)
   ·exact .inr (.inr (.inl h))

theorem err_ne {e : Int} (h : e = 3 ∨ e = 10 ∨ e = 11 ∨ e = 12) : (e == 0) = false := by
 rcases h with rfl | rfl | rfl | rfl <;> rfl

end Go.Proofs.YtmhooefajdndjaaGreatDoor

namespace Go.Proofs.YtmhooefajdndjaaGreatDoor
open Go.RowKit

def trS (u : Adr) (t : Bool) : Bool := if safeS u.scheme then true else if u.scheme = sBlob then t else nearV u.host

set_option maxHeartbeats 4000000 in
set_option maxRecDepth 100000 in
theorem trusted_step (u : Adr) (pv : Value) (w : World) (t : Bool) (hg : Gd w) (hp : PathAt w pv u.path) (hl : u.path.length ≤ 1000000) (hf : u.path.flatten.length ≤ 100000) (hh : u.host.length ≤ 1000000)
  (hb : u.scheme = sBlob → ∀ (qv : Value) (X : World), Gd X → PathAt X qv (innV u).path → Calls Tryz.prog 43 #[adrVal (innV u) qv] X fun e w' => e = .returned (.bool t) ∧ Below X.heap.size X w') :
  Calls Tryz.prog 43 #[adrVal u pv] w fun e w' => e = .returned (.bool (trS u t)) ∧ Below w.heap.size w w' := by
 have HIn := hid (fun (X : World) (hX : Gd X) (h : PathAt X pv u.path) => inner_own u pv X hX h hl hf)
 obtain ⟨da, dn, dc, rfl⟩ := path_sl hp
 obtain ⟨d0, d1, d2, d3, d4, d5, d6, d8, d9, d10, d11, hxd, hx0, hx3, -, -⟩ := adr_named u da dn dc
 have hvd : adrVal u (.slice da dn dc) = .agg #[.string d0, .string d1, .string d2, .string d3, .bool d4, .int .i64 d5, .bool d6, .slice da dn dc, .string d8, .string d9, .bool d10, .bool d11] := by unfold adrVal; rw [hxd]
 rw [hvd] at HIn ⊢
 obtain ⟨W1, hW1⟩ : ∃ X, (w.alloc (.cells #[.string d0, .string d1, .string d2, .string d3, .bool d4, .int .i64 d5, .bool d6, .slice da dn dc, .string d8, .string d9, .bool d10, .bool d11] 45)) = X := ⟨_, rfl⟩
 have hbW1 : Below w.heap.size w W1 := by rw [← hW1]; exact (Below.refl _ w).alloc (Nat.le_refl _) _
 have hsW1 : W1.heap.size = w.heap.size + 1 := by rw [← hW1]; simp
 have hAW1 : AdrIn W1 w.heap.size u (.slice da dn dc) := by
  unfold AdrIn
  rw [hxd, ← hW1]
  exact heap_alloc_new w _
 have HB1 := hid hbW1
 have HG1 := hid (hg.kept hbW1)
 have HP1 := hid (hp.kept hbW1)
 obtain ⟨y0, y1, y2, y3, y4, y5, y6, y7, y8, y9, y10, y11⟩ := adr_twelve hxd hAW1
 have HNe := hid (fun w => near_any d3 w (by rw [Lib.size_eq, hx3]; omega))
 rw [hx3] at HNe
 obtain ⟨q1, eq1⟩ : ∃ q, (d0.toList == [104, 116, 116, 112, 115]) = q := ⟨_, rfl⟩
 obtain ⟨q2, eq2⟩ : ∃ q, (d0.toList == [119, 115, 115]) = q := ⟨_, rfl⟩
 obtain ⟨q3, eq3⟩ : ∃ q, (d0.toList == [100, 97, 116, 97]) = q := ⟨_, rfl⟩
 obtain ⟨q4, eq4⟩ : ∃ q, (d0.toList == [97, 98, 111, 117, 116]) = q := ⟨_, rfl⟩
 obtain ⟨q5, eq5⟩ : ∃ q, (d0.toList == [98, 108, 111, 98]) = q := ⟨_, rfl⟩
 have HV := hid (show trS u t = if (q1 || (q2 || (q3 || q4))) then true else if q5 then t else nearV u.host by
  unfold trS safeS
  rw [← eq1, ← eq2, ← eq3, ← eq4, ← eq5, Lib.toList_data, hx0]
  by_cases h : u.scheme = sBlob
  ·simp [h, sHttps, sWss, sData, sAbout, sBlob]
  ·have : (u.scheme == [98, 108, 111, 98]) = false := beq_eq_false_iff_ne.2 h
   simp [h, this, sHttps, sWss, sData, sAbout])
 have HBl := hid (fun (h : q5 = true) => hb (by rw [h] at eq5; rw [← hx0, ← Lib.toList_data]; exact beq_iff_eq.1 eq5))
 clear hb hx0 hx3 hxd hvd hg hp hl hf hh hbW1 hAW1 hsW1
 cases q1 with
 | true =>
  go_enter Tryz.func43, Tryz.ntmps43
  go_wp2
  go_ret
  exact ⟨ret_bool (by rw [HV.out]; rfl), HB1.out⟩
 | false =>
  cases q2 with
  | true =>
   go_enter Tryz.func43, Tryz.ntmps43
   go_wp2
   go_ret
   exact ⟨ret_bool (by rw [HV.out]; rfl), HB1.out⟩
  | false =>
   cases q3 with
   | true =>
    go_enter Tryz.func43, Tryz.ntmps43
    go_wp2
    go_ret
    exact ⟨ret_bool (by rw [HV.out]; rfl), HB1.out⟩
   | false =>
    cases q4 with
    | true =>
     go_enter Tryz.func43, Tryz.ntmps43
     go_wp2
     go_ret
     exact ⟨ret_bool (by rw [HV.out]; rfl), HB1.out⟩
    | false =>
     cases q5 with
     | true =>
      go_enter Tryz.func43, Tryz.ntmps43
      go_wp2_with fail
      refine (HIn.out _ HG1.out HP1.out).mono ?_
      rintro e w2 ⟨qv, rfl, -, hb2, hp2⟩
      have HG2 := hid (HG1.out.kept hb2)
      have HB2 := hid (below2 HB1.out hb2)
      have HP2 := hid hp2
      clear hb2 hp2
      generalize innV u = V at HBl HP2 ⊢
      go_wp2_with fail
      refine (HBl.out trivial _ _ HG2.out HP2.out).mono ?_
      rintro e w3 ⟨rfl, hb3⟩
      go_wp2
      go_ret
      exact ⟨ret_bool (by rw [HV.out]; rfl), below2 HB2.out hb3⟩
     | false =>
      go_enter Tryz.func43, Tryz.ntmps43
      go_wp2_with fail
      refine (HNe.out _).mono ?_
      rintro e w2 ⟨rfl, hb2⟩
      go_wp2
      go_ret
      exact ⟨ret_bool (by rw [HV.out]; rfl), below2 HB1.out hb2⟩

def TrOk (u : Adr) : Prop := u.path.length ≤ 1000000 ∧ u.path.flatten.length ≤ 100000 ∧ u.host.length ≤ 1000000

theorem slim_tr {u : Adr} (h : Slim 20000 u) : TrOk u := by
 obtain ⟨h1, h2, h3, h4, h5, h6, h7, h8⟩ := h
 have a := slL_len u.path
 have b := slL_flat u.path
 exact ⟨by omega, by omega, by omega⟩

theorem inn_tr (u : Adr) : TrOk (innV u) := by
 unfold innV
 split
 ·cases hr : readV u.path.flatten none with
  | ok v => exact slim_tr (parse_slim hr)
  | error e => exact ⟨by simp [adrOf, Adr.zero], by simp [adrOf, Adr.zero], by simp [adrOf, Adr.zero]⟩
 ·exact ⟨by simp [Adr.zero], by simp [Adr.zero], by simp [Adr.zero]⟩

theorem trusted_n : ∀ (n : Nat) (u : Adr) (pv : Value) (w : World), mT u ≤ n → Gd w → PathAt w pv u.path → TrOk u →
  Calls Tryz.prog 43 #[adrVal u pv] w fun e w' => e = .returned (.bool (trN n u)) ∧ Below w.heap.size w w' := by
 intro n
 induction n with
 | zero =>
  intro u pv w hn hg hp ht
  have hne : u.scheme ≠ sBlob := fun h => by have := mT_inn h; omega
  have := trusted_step u pv w false hg hp ht.1 ht.2.1 ht.2.2 (fun h => absurd h hne)
  have e : trS u false = trN 0 u := by
   unfold trS trN
   cases safeS u.scheme with
   | true => rfl
   | false => rw [if_neg (by decide), if_neg hne]; rfl
  rw [e] at this
  exact this
 | succ n ih =>
  intro u pv w hn hg hp ht
  have := trusted_step u pv w (trN n (innV u)) hg hp ht.1 ht.2.1 ht.2.2 (fun h qv X hX hP => ih (innV u) qv X (by have := mT_inn h; omega) hX hP (inn_tr u))
  exact this

theorem trusted_any (u : Adr) (pv : Value) (w : World) (hg : Gd w) (hp : PathAt w pv u.path) (ht : TrOk u) :
  Calls Tryz.prog 43 #[adrVal u pv] w fun e w' => e = .returned (.bool (trustV u)) ∧ Below w.heap.size w w' := trusted_n _ u pv w (Nat.le_refl _) hg hp ht

end Go.Proofs.YtmhooefajdndjaaGreatDoor
