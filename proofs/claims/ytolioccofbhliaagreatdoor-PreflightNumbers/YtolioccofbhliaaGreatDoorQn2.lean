/-
  Walks and plain facts that this claim leans on, put together out of 1 texts: Ejy.
-/
import Derived.Test.YtolioccofbhliaaGreatDoorProg
import Derived.Test.YtolioccofbhliaaGreatDoorQp1
import Derived.Test.YtolioccofbhliaaGreatDoorQp2
import Derived.Test.YtolioccofbhliaaGreatDoorQp3
import Derived.Test.YtolioccofbhliaaGreatDoorQp4
import Derived.Test.YtolioccofbhliaaGreatDoorQp5
import Derived.Test.YtolioccofbhliaaGreatDoorQp6
import Derived.Test.YtolioccofbhliaaGreatDoorQp7
import Derived.Test.YtolioccofbhliaaGreatDoorQp8
import Derived.Test.YtolioccofbhliaaGreatDoorQp9
import Derived.Test.YtolioccofbhliaaGreatDoorQp10
import Derived.Test.YtolioccofbhliaaGreatDoorQp11
import Derived.Test.YtolioccofbhliaaGreatDoorQp12
import Derived.Test.YtolioccofbhliaaGreatDoorQp13
import Derived.Test.YtolioccofbhliaaGreatDoorQp14
import Derived.Test.YtolioccofbhliaaGreatDoorQp15
import Derived.Test.YtolioccofbhliaaGreatDoorQp16
import Derived.Test.YtolioccofbhliaaGreatDoorQp17
import Derived.Test.YtolioccofbhliaaGreatDoorQp18
import Derived.Test.YtolioccofbhliaaGreatDoorQp19
import Derived.Test.YtolioccofbhliaaGreatDoorQp20
import Derived.Test.YtolioccofbhliaaGreatDoorQp21
import Derived.Test.YtolioccofbhliaaGreatDoorQp22
import Derived.Test.YtolioccofbhliaaGreatDoorQp23
import Derived.Test.YtolioccofbhliaaGreatDoorQp24
import Derived.Test.YtolioccofbhliaaGreatDoorQp25
import Derived.Test.YtolioccofbhliaaGreatDoorQp26
import Derived.Test.YtolioccofbhliaaGreatDoorQp27
import Derived.Test.YtolioccofbhliaaGreatDoorQp28
import Derived.Test.YtolioccofbhliaaGreatDoorQn1
import Derived.BigRegion
import Derived.Deep.RegionHeld
import Derived.Deep.RegionHeldLaw
import Derived.Deep.RegionLaw
import Derived.Deep.QuietTactic
import Derived.BigQuiet
import Derived.Laws.IdiomStrings
import Derived.Lib.IndexAny
import Derived.WalkKit
import Derived.Lib.UnsafeStr
import Derived.Lib.BufferRead
import Derived.Lib.RuneBytes
import Derived.Laws.RangeAny
import Derived.Deep.LoopGhost
import Derived.Maps.OwnSet
import Derived.Maps.OwnOps
import Derived.Maps.AppendAt
import Derived.StringKeys
import Derived.LoopN
import Derived.RegionTactic
import Derived.Deep.RegionWith
import Derived.WalkSpells
import Derived.WalkLawsBesides
import Derived.Lib.FieldsP
import Derived.Lib.DecodeN
import Derived.Lib.IndexMore
import Derived.Lib.Join
import Derived.Lib.SmallJoins
import Derived.Laws.CopyOwn
import Derived.Laws.ResultCell
import Derived.Deep.MidRow
import Derived.Laws.OwnMore
import Derived.Below
import Derived.WalkSmall
import Derived.Lib.LaidTab
import Derived.Lib.AppendIntMem
import Derived.Laws.AppendOwn
import Derived.Laws.Runes
import Derived.Lib.OthersKept
import Derived.Lib.FrozenHead2
import Derived.Lib.Builder
import Derived.Lib.AppendStr
import Derived.Lib.Replace
import Derived.Shelf.GgClosure.GivesRunes
import Derived.Laws.BitsAll
import Derived.Laws.Shifts
import Derived.Deep.DeepAppendRoom
import Derived.Laws.BytesString
import Derived.Laws.CopyRow
import Derived.Sort.OwnSorted
import Derived.Lib.SlicesCompact
import Derived.Shelf.Slices.In.SortNone
import Derived.Shelf.Slices.CompactS
import Derived.Lib.SliceRun
import Derived.Sort.KeysCollected
import Derived.Lib.Case
import Derived.Deep.Cut
import Derived.Lib.LastIndexByte
import Derived.Lib.Strings
import Derived.Laws.BitsAllLaws
import Derived.Lib.Bytealg
import Derived.Lib.BufferMore
import Derived.OwnWalk
import Derived.Shelf.Strings.Builder1
import Derived.Shelf.Strings.Builder2
import Derived.Shelf.Strings.OnBuilder
import Derived.Shelf.Strings.Trim
import Derived.Shelf.Small.Utf8
import Derived.Shelf.Small.Bits
import Derived.Shelf.Small.Strs
import Derived.Shelf.Small.Wraps
import Derived.Shelf.Strings.BuilderF
import Derived.Shelf.Strings.BuilderK
import Derived.Shelf.Strings.Builder2Cap
import Derived.Shelf.Strconv.Itoa0
import Derived.Shelf.Strconv.Itoa1
import Derived.Shelf.LaysM
import Derived.Shelf.Strconv.Itoa2
import Derived.Shelf.Strconv.Itoa3
import Derived.Shelf.Strings.Search1
import Derived.Shelf.Strings.Search2
import Derived.Shelf.Strings.Cut
import Derived.Shelf.Strings.Shaped
import Derived.Shelf.Sort.Plain
import Derived.Shelf.Strings.Prefix
import Derived.Shelf.Strings.Runes
import Derived.Shelf.Strings.IndexAny
import Derived.Shelf.Strings.AsciiSet
import Derived.Shelf.Strings.IndexAnyAll
import Derived.Shelf.Unicode.DecodeSlow
import Derived.Shelf.Unicode.DecodeAny
import Derived.Shelf.Unicode.DecodeLast
import Derived.Ground.SlgnProg
import Derived.Shelf.SlicesE.Compact
import Derived.Ground.SlgfProg
import Derived.Shelf.SlicesE.IndexFunc
import Derived.Shelf.SlicesE.DeleteFunc
import Derived.Laws.AppendOwnNone
import Derived.Scope
import Derived.ScopeJumps
import Derived.WalkMore
import Derived.Lib.TrimByte
import Derived.Lib.ItoaNum
import Derived.Deep.WholeRow
import Derived.Lib.SlTrimSet
import Derived.Shelf.Strings.SlTrimAscii
import Derived.Deep.CutRange
import Derived.Laws.Rows
import Derived.Laws.MakeOwn
import Derived.Shelf.Spec.SearchS
import Derived.Sort.Walk0
set_option linter.unusedSimpArgs false
set_option linter.unusedVariables false

namespace Go.Proofs.YtolioccofbhliaaGreatDoor
open Go.RowKit

theorem pn19_b0:rdB (textO (ofT [104,116,116,112,115,58,47,47,97])) false [80,85,84] [] 301 [⟨[97,99,99,101,115,115,45,99,111,110,116,114,111,108,45,97,108,108,111,119,45,111,114,105,103,105,110],[104,116,116,112,115,58,47,47,97]⟩,⟨[97,99,99,101,115,115,45,99,111,110,116,114,111,108,45,97,108,108,111,119,45,99,114,101,100,101,110,116,105,97,108,115],[116,114,117,101]⟩,⟨[97,99,99,101,115,115,45,99,111,110,116,114,111,108,45,97,108,108,111,119,45,109,101,116,104,111,100,115],[42]⟩,⟨[97,99,99,101,115,115,45,99,111,110,116,114,111,108,45,97,108,108,111,119,45,104,101,97,100,101,114,115],[42,44,32,88,45,97]⟩]=false:=by decide +kernel

theorem pn19_g0:rdG (textO (ofT [104,116,116,112,115,58,47,47,97])) false [80,85,84] [] 301 [⟨[97,99,99,101,115,115,45,99,111,110,116,114,111,108,45,97,108,108,111,119,45,111,114,105,103,105,110],[104,116,116,112,115,58,47,47,97]⟩,⟨[97,99,99,101,115,115,45,99,111,110,116,114,111,108,45,97,108,108,111,119,45,99,114,101,100,101,110,116,105,97,108,115],[116,114,117,101]⟩,⟨[97,99,99,101,115,115,45,99,111,110,116,114,111,108,45,97,108,108,111,119,45,109,101,116,104,111,100,115],[42]⟩,⟨[97,99,99,101,115,115,45,99,111,110,116,114,111,108,45,97,108,108,111,119,45,104,101,97,100,101,114,115],[42,44,32,88,45,97]⟩]=Grn.nil:=rd_no pn19_b0

theorem pn19_b1:rdB (textO (ofT [104,116,116,112,115,58,47,47,97])) false [80,85,84] [[120,45,98]] 200 [⟨[97,99,99,101,115,115,45,99,111,110,116,114,111,108,45,97,108,108,111,119,45,111,114,105,103,105,110],[104,116,116,112,115,58,47,47,97]⟩,⟨[97,99,99,101,115,115,45,99,111,110,116,114,111,108,45,97,108,108,111,119,45,99,114,101,100,101,110,116,105,97,108,115],[116,114,117,101]⟩,⟨[97,99,99,101,115,115,45,99,111,110,116,114,111,108,45,97,108,108,111,119,45,109,101,116,104,111,100,115],[42]⟩,⟨[97,99,99,101,115,115,45,99,111,110,116,114,111,108,45,97,108,108,111,119,45,104,101,97,100,101,114,115],[42,44,32,88,45,97]⟩]=true:=by decide +kernel

theorem pn19_g1:rdG (textO (ofT [104,116,116,112,115,58,47,47,97])) false [80,85,84] [[120,45,98]] 200 [⟨[97,99,99,101,115,115,45,99,111,110,116,114,111,108,45,97,108,108,111,119,45,111,114,105,103,105,110],[104,116,116,112,115,58,47,47,97]⟩,⟨[97,99,99,101,115,115,45,99,111,110,116,114,111,108,45,97,108,108,111,119,45,99,114,101,100,101,110,116,105,97,108,115],[116,114,117,101]⟩,⟨[97,99,99,101,115,115,45,99,111,110,116,114,111,108,45,97,108,108,111,119,45,109,101,116,104,111,100,115],[42]⟩,⟨[97,99,99,101,115,115,45,99,111,110,116,114,111,108,45,97,108,108,111,119,45,104,101,97,100,101,114,115],[42,44,32,88,45,97]⟩]=⟨[[42]],[[42],[120,45,97]],true,5⟩:=by
 rw [rd_yes pn19_b1,show grM [⟨[97,99,99,101,115,115,45,99,111,110,116,114,111,108,45,97,108,108,111,119,45,111,114,105,103,105,110],[104,116,116,112,115,58,47,47,97]⟩,⟨[97,99,99,101,115,115,45,99,111,110,116,114,111,108,45,97,108,108,111,119,45,99,114,101,100,101,110,116,105,97,108,115],[116,114,117,101]⟩,⟨[97,99,99,101,115,115,45,99,111,110,116,114,111,108,45,97,108,108,111,119,45,109,101,116,104,111,100,115],[42]⟩,⟨[97,99,99,101,115,115,45,99,111,110,116,114,111,108,45,97,108,108,111,119,45,104,101,97,100,101,114,115],[42,44,32,88,45,97]⟩]=[[42]] by decide +kernel,show grN [⟨[97,99,99,101,115,115,45,99,111,110,116,114,111,108,45,97,108,108,111,119,45,111,114,105,103,105,110],[104,116,116,112,115,58,47,47,97]⟩,⟨[97,99,99,101,115,115,45,99,111,110,116,114,111,108,45,97,108,108,111,119,45,99,114,101,100,101,110,116,105,97,108,115],[116,114,117,101]⟩,⟨[97,99,99,101,115,115,45,99,111,110,116,114,111,108,45,97,108,108,111,119,45,109,101,116,104,111,100,115],[42]⟩,⟨[97,99,99,101,115,115,45,99,111,110,116,114,111,108,45,97,108,108,111,119,45,104,101,97,100,101,114,115],[42,44,32,88,45,97]⟩]=[[42],[120,45,97]] by decide +kernel,show allG false [⟨[97,99,99,101,115,115,45,99,111,110,116,114,111,108,45,97,108,108,111,119,45,111,114,105,103,105,110],[104,116,116,112,115,58,47,47,97]⟩,⟨[97,99,99,101,115,115,45,99,111,110,116,114,111,108,45,97,108,108,111,119,45,99,114,101,100,101,110,116,105,97,108,115],[116,114,117,101]⟩,⟨[97,99,99,101,115,115,45,99,111,110,116,114,111,108,45,97,108,108,111,119,45,109,101,116,104,111,100,115],[42]⟩,⟨[97,99,99,101,115,115,45,99,111,110,116,114,111,108,45,97,108,108,111,119,45,104,101,97,100,101,114,115],[42,44,32,88,45,97]⟩]=true by decide +kernel,show grA [⟨[97,99,99,101,115,115,45,99,111,110,116,114,111,108,45,97,108,108,111,119,45,111,114,105,103,105,110],[104,116,116,112,115,58,47,47,97]⟩,⟨[97,99,99,101,115,115,45,99,111,110,116,114,111,108,45,97,108,108,111,119,45,99,114,101,100,101,110,116,105,97,108,115],[116,114,117,101]⟩,⟨[97,99,99,101,115,115,45,99,111,110,116,114,111,108,45,97,108,108,111,119,45,109,101,116,104,111,100,115],[42]⟩,⟨[97,99,99,101,115,115,45,99,111,110,116,114,111,108,45,97,108,108,111,119,45,104,101,97,100,101,114,115],[42,44,32,88,45,97]⟩]=5 by decide +kernel]

theorem pn19_b2:rdB (textO (ofT [104,116,116,112,115,58,47,47,97])) true [80,85,84] [] 200 [⟨[97,99,99,101,115,115,45,99,111,110,116,114,111,108,45,97,108,108,111,119,45,111,114,105,103,105,110],[104,116,116,112,115,58,47,47,97]⟩,⟨[97,99,99,101,115,115,45,99,111,110,116,114,111,108,45,97,108,108,111,119,45,99,114,101,100,101,110,116,105,97,108,115],[116,114,117,101]⟩,⟨[97,99,99,101,115,115,45,99,111,110,116,114,111,108,45,97,108,108,111,119,45,109,101,116,104,111,100,115],[42]⟩,⟨[97,99,99,101,115,115,45,99,111,110,116,114,111,108,45,97,108,108,111,119,45,104,101,97,100,101,114,115],[42,44,32,88,45,97]⟩]=false:=by decide +kernel

theorem pn19_g2:rdG (textO (ofT [104,116,116,112,115,58,47,47,97])) true [80,85,84] [] 200 [⟨[97,99,99,101,115,115,45,99,111,110,116,114,111,108,45,97,108,108,111,119,45,111,114,105,103,105,110],[104,116,116,112,115,58,47,47,97]⟩,⟨[97,99,99,101,115,115,45,99,111,110,116,114,111,108,45,97,108,108,111,119,45,99,114,101,100,101,110,116,105,97,108,115],[116,114,117,101]⟩,⟨[97,99,99,101,115,115,45,99,111,110,116,114,111,108,45,97,108,108,111,119,45,109,101,116,104,111,100,115],[42]⟩,⟨[97,99,99,101,115,115,45,99,111,110,116,114,111,108,45,97,108,108,111,119,45,104,101,97,100,101,114,115],[42,44,32,88,45,97]⟩]=Grn.nil:=rd_no pn19_b2

theorem pn19_b3:rdB (textO (ofT [104,116,116,112,115,58,47,47,97])) true [71,69,84] [[120,45,98]] 200 [⟨[97,99,99,101,115,115,45,99,111,110,116,114,111,108,45,97,108,108,111,119,45,111,114,105,103,105,110],[104,116,116,112,115,58,47,47,97]⟩,⟨[97,99,99,101,115,115,45,99,111,110,116,114,111,108,45,97,108,108,111,119,45,99,114,101,100,101,110,116,105,97,108,115],[116,114,117,101]⟩,⟨[97,99,99,101,115,115,45,99,111,110,116,114,111,108,45,97,108,108,111,119,45,109,101,116,104,111,100,115],[42]⟩,⟨[97,99,99,101,115,115,45,99,111,110,116,114,111,108,45,97,108,108,111,119,45,104,101,97,100,101,114,115],[42,44,32,88,45,97]⟩]=false:=by decide +kernel

theorem pn19_g3:rdG (textO (ofT [104,116,116,112,115,58,47,47,97])) true [71,69,84] [[120,45,98]] 200 [⟨[97,99,99,101,115,115,45,99,111,110,116,114,111,108,45,97,108,108,111,119,45,111,114,105,103,105,110],[104,116,116,112,115,58,47,47,97]⟩,⟨[97,99,99,101,115,115,45,99,111,110,116,114,111,108,45,97,108,108,111,119,45,99,114,101,100,101,110,116,105,97,108,115],[116,114,117,101]⟩,⟨[97,99,99,101,115,115,45,99,111,110,116,114,111,108,45,97,108,108,111,119,45,109,101,116,104,111,100,115],[42]⟩,⟨[97,99,99,101,115,115,45,99,111,110,116,114,111,108,45,97,108,108,111,119,45,104,101,97,100,101,114,115],[42,44,32,88,45,97]⟩]=Grn.nil:=rd_no pn19_b3

theorem pn19_b4:rdB (textO (ofT [104,116,116,112,115,58,47,47,97])) true [71,69,84] [[120,45,97]] 200 [⟨[97,99,99,101,115,115,45,99,111,110,116,114,111,108,45,97,108,108,111,119,45,111,114,105,103,105,110],[104,116,116,112,115,58,47,47,97]⟩,⟨[97,99,99,101,115,115,45,99,111,110,116,114,111,108,45,97,108,108,111,119,45,99,114,101,100,101,110,116,105,97,108,115],[116,114,117,101]⟩,⟨[97,99,99,101,115,115,45,99,111,110,116,114,111,108,45,97,108,108,111,119,45,109,101,116,104,111,100,115],[42]⟩,⟨[97,99,99,101,115,115,45,99,111,110,116,114,111,108,45,97,108,108,111,119,45,104,101,97,100,101,114,115],[42,44,32,88,45,97]⟩]=true:=by decide +kernel

theorem pn19_g4:rdG (textO (ofT [104,116,116,112,115,58,47,47,97])) true [71,69,84] [[120,45,97]] 200 [⟨[97,99,99,101,115,115,45,99,111,110,116,114,111,108,45,97,108,108,111,119,45,111,114,105,103,105,110],[104,116,116,112,115,58,47,47,97]⟩,⟨[97,99,99,101,115,115,45,99,111,110,116,114,111,108,45,97,108,108,111,119,45,99,114,101,100,101,110,116,105,97,108,115],[116,114,117,101]⟩,⟨[97,99,99,101,115,115,45,99,111,110,116,114,111,108,45,97,108,108,111,119,45,109,101,116,104,111,100,115],[42]⟩,⟨[97,99,99,101,115,115,45,99,111,110,116,114,111,108,45,97,108,108,111,119,45,104,101,97,100,101,114,115],[42,44,32,88,45,97]⟩]=⟨[[42]],[[42],[120,45,97]],false,5⟩:=by
 rw [rd_yes pn19_b4,show grM [⟨[97,99,99,101,115,115,45,99,111,110,116,114,111,108,45,97,108,108,111,119,45,111,114,105,103,105,110],[104,116,116,112,115,58,47,47,97]⟩,⟨[97,99,99,101,115,115,45,99,111,110,116,114,111,108,45,97,108,108,111,119,45,99,114,101,100,101,110,116,105,97,108,115],[116,114,117,101]⟩,⟨[97,99,99,101,115,115,45,99,111,110,116,114,111,108,45,97,108,108,111,119,45,109,101,116,104,111,100,115],[42]⟩,⟨[97,99,99,101,115,115,45,99,111,110,116,114,111,108,45,97,108,108,111,119,45,104,101,97,100,101,114,115],[42,44,32,88,45,97]⟩]=[[42]] by decide +kernel,show grN [⟨[97,99,99,101,115,115,45,99,111,110,116,114,111,108,45,97,108,108,111,119,45,111,114,105,103,105,110],[104,116,116,112,115,58,47,47,97]⟩,⟨[97,99,99,101,115,115,45,99,111,110,116,114,111,108,45,97,108,108,111,119,45,99,114,101,100,101,110,116,105,97,108,115],[116,114,117,101]⟩,⟨[97,99,99,101,115,115,45,99,111,110,116,114,111,108,45,97,108,108,111,119,45,109,101,116,104,111,100,115],[42]⟩,⟨[97,99,99,101,115,115,45,99,111,110,116,114,111,108,45,97,108,108,111,119,45,104,101,97,100,101,114,115],[42,44,32,88,45,97]⟩]=[[42],[120,45,97]] by decide +kernel,show allG true [⟨[97,99,99,101,115,115,45,99,111,110,116,114,111,108,45,97,108,108,111,119,45,111,114,105,103,105,110],[104,116,116,112,115,58,47,47,97]⟩,⟨[97,99,99,101,115,115,45,99,111,110,116,114,111,108,45,97,108,108,111,119,45,99,114,101,100,101,110,116,105,97,108,115],[116,114,117,101]⟩,⟨[97,99,99,101,115,115,45,99,111,110,116,114,111,108,45,97,108,108,111,119,45,109,101,116,104,111,100,115],[42]⟩,⟨[97,99,99,101,115,115,45,99,111,110,116,114,111,108,45,97,108,108,111,119,45,104,101,97,100,101,114,115],[42,44,32,88,45,97]⟩]=false by decide +kernel,show grA [⟨[97,99,99,101,115,115,45,99,111,110,116,114,111,108,45,97,108,108,111,119,45,111,114,105,103,105,110],[104,116,116,112,115,58,47,47,97]⟩,⟨[97,99,99,101,115,115,45,99,111,110,116,114,111,108,45,97,108,108,111,119,45,99,114,101,100,101,110,116,105,97,108,115],[116,114,117,101]⟩,⟨[97,99,99,101,115,115,45,99,111,110,116,114,111,108,45,97,108,108,111,119,45,109,101,116,104,111,100,115],[42]⟩,⟨[97,99,99,101,115,115,45,99,111,110,116,114,111,108,45,97,108,108,111,119,45,104,101,97,100,101,114,115],[42,44,32,88,45,97]⟩]=5 by decide +kernel]

theorem pn19_b5:rdB (textO (ofT [104,116,116,112,115,58,47,47,97])) false [71,69,84] [[97,117,116,104,111,114,105,122,97,116,105,111,110]] 200 [⟨[97,99,99,101,115,115,45,99,111,110,116,114,111,108,45,97,108,108,111,119,45,111,114,105,103,105,110],[104,116,116,112,115,58,47,47,97]⟩,⟨[97,99,99,101,115,115,45,99,111,110,116,114,111,108,45,97,108,108,111,119,45,99,114,101,100,101,110,116,105,97,108,115],[116,114,117,101]⟩,⟨[97,99,99,101,115,115,45,99,111,110,116,114,111,108,45,97,108,108,111,119,45,109,101,116,104,111,100,115],[42]⟩,⟨[97,99,99,101,115,115,45,99,111,110,116,114,111,108,45,97,108,108,111,119,45,104,101,97,100,101,114,115],[42,44,32,88,45,97]⟩]=false:=by decide +kernel

theorem pn19_g5:rdG (textO (ofT [104,116,116,112,115,58,47,47,97])) false [71,69,84] [[97,117,116,104,111,114,105,122,97,116,105,111,110]] 200 [⟨[97,99,99,101,115,115,45,99,111,110,116,114,111,108,45,97,108,108,111,119,45,111,114,105,103,105,110],[104,116,116,112,115,58,47,47,97]⟩,⟨[97,99,99,101,115,115,45,99,111,110,116,114,111,108,45,97,108,108,111,119,45,99,114,101,100,101,110,116,105,97,108,115],[116,114,117,101]⟩,⟨[97,99,99,101,115,115,45,99,111,110,116,114,111,108,45,97,108,108,111,119,45,109,101,116,104,111,100,115],[42]⟩,⟨[97,99,99,101,115,115,45,99,111,110,116,114,111,108,45,97,108,108,111,119,45,104,101,97,100,101,114,115],[42,44,32,88,45,97]⟩]=Grn.nil:=rd_no pn19_b5

theorem pn19_o:OrgOk (ofT [104,116,116,112,115,58,47,47,97]):=orgOk_of (by decide +kernel)

theorem pn19_t:textO (ofT [104,116,116,112,115,58,47,47,97])=[104,116,116,112,115,58,47,47,97]:=by decide +kernel

theorem pn19_a0:alwT [120] [121] true [71,69,84] [] 0 (putsT 0 0 (rtsV [115] [118] false [] [[120]] false) (putsT 9 0 (rtsV [115] [117] true [] [[42]] true) []))=true:=by decide +kernel

theorem pn19_a1:alwT [115] [117] true [71,69,84] [[113]] 0 (putsT 0 0 (rtsV [115] [118] false [] [[120]] false) (putsT 9 0 (rtsV [115] [117] true [] [[42]] true) []))=false:=by decide +kernel

theorem pn19_a2:alwT [115] [118] false [71,69,84] [[120]] 0 (putsT 0 0 (rtsV [115] [118] false [] [[120]] false) (putsT 9 0 (rtsV [115] [117] true [] [[42]] true) []))=false:=by decide +kernel

theorem pn19_l0:lenT 0 (putsT 0 0 (rtsV [115] [118] false [] [[120]] false) (putsT 9 0 (rtsV [115] [117] true [] [[42]] true) []))=1:=by decide +kernel

theorem pn19_l9:lenT 9 (putsT 0 0 (rtsV [115] [118] false [] [[120]] false) (putsT 9 0 (rtsV [115] [117] true [] [[42]] true) []))=0:=by decide +kernel

theorem len19_at (p:Nat) (T:List RwP) (now:Int) (n:Nat) (hn:lenT now T=n) (hl:T.length≤1000): ∀ w:World,TbI w p T→Calls Tryz.prog 37 #[.pointer (some ⟨p,0,none⟩),.int .i64 now] w fun e w'=>e = .returned (.int .i64 (n:Int))∧Below w.heap.size w w':=fun w hI=>by
 have:=len19_any p T now w hI hl;rw [hn] at this;exact this

set_option maxHeartbeats 64000000 in
set_option maxRecDepth 100000 in
theorem preflightNumbers_walk (w:World) (hg:Gd w):Calls Tryz.prog 4 #[] w fun e w'=>e = .returned (.bool true)∧Below w.heap.size w w':=by
 have HO:=hid (of19_at (⟨#[104,116,116,112,115,58,47,47,97]⟩:ByteArray) _ rfl (by decide));have g0:=pn19_g0;have b0:=pn19_b0;have g1:=pn19_g1;have b1:=pn19_b1;have g2:=pn19_g2;have b2:=pn19_b2;have g3:=pn19_g3;have b3:=pn19_b3;have g4:=pn19_g4;have b4:=pn19_b4;have g5:=pn19_g5;have b5:=pn19_b5;have ho:=pn19_o;have ht:=pn19_t;generalize hO:ofT (⟨#[104,116,116,112,115,58,47,47,97]⟩:ByteArray).data.toList=O at HO
 have hO2:(ofT [104,116,116,112,115,58,47,47,97])=O:=hO;rw [hO2] at ho ht g0 b0 g1 b1 g2 b2 g3 b3 g4 b4 g5 b5;clear hO hO2
 have HR0:=hid (read19_at O false (⟨#[80,85,84]⟩:ByteArray) [] 301 [⟨[97,99,99,101,115,115,45,99,111,110,116,114,111,108,45,97,108,108,111,119,45,111,114,105,103,105,110],[104,116,116,112,115,58,47,47,97]⟩,⟨[97,99,99,101,115,115,45,99,111,110,116,114,111,108,45,97,108,108,111,119,45,99,114,101,100,101,110,116,105,97,108,115],[116,114,117,101]⟩,⟨[97,99,99,101,115,115,45,99,111,110,116,114,111,108,45,97,108,108,111,119,45,109,101,116,104,111,100,115],[42]⟩,⟨[97,99,99,101,115,115,45,99,111,110,116,114,111,108,45,97,108,108,111,119,45,104,101,97,100,101,114,115],[42,44,32,88,45,97]⟩] _ _ g0 b0 ho (by decide) (by decide) (by decide) (by decide) (by decide))
 clear g0 b0
 have HR1:=hid (read19_at O false (⟨#[80,85,84]⟩:ByteArray) [[120,45,98]] 200 [⟨[97,99,99,101,115,115,45,99,111,110,116,114,111,108,45,97,108,108,111,119,45,111,114,105,103,105,110],[104,116,116,112,115,58,47,47,97]⟩,⟨[97,99,99,101,115,115,45,99,111,110,116,114,111,108,45,97,108,108,111,119,45,99,114,101,100,101,110,116,105,97,108,115],[116,114,117,101]⟩,⟨[97,99,99,101,115,115,45,99,111,110,116,114,111,108,45,97,108,108,111,119,45,109,101,116,104,111,100,115],[42]⟩,⟨[97,99,99,101,115,115,45,99,111,110,116,114,111,108,45,97,108,108,111,119,45,104,101,97,100,101,114,115],[42,44,32,88,45,97]⟩] _ _ g1 b1 ho (by decide) (by decide) (by decide) (by decide) (by decide))
 clear g1 b1
 have HR2:=hid (read19_at O true (⟨#[80,85,84]⟩:ByteArray) [] 200 [⟨[97,99,99,101,115,115,45,99,111,110,116,114,111,108,45,97,108,108,111,119,45,111,114,105,103,105,110],[104,116,116,112,115,58,47,47,97]⟩,⟨[97,99,99,101,115,115,45,99,111,110,116,114,111,108,45,97,108,108,111,119,45,99,114,101,100,101,110,116,105,97,108,115],[116,114,117,101]⟩,⟨[97,99,99,101,115,115,45,99,111,110,116,114,111,108,45,97,108,108,111,119,45,109,101,116,104,111,100,115],[42]⟩,⟨[97,99,99,101,115,115,45,99,111,110,116,114,111,108,45,97,108,108,111,119,45,104,101,97,100,101,114,115],[42,44,32,88,45,97]⟩] _ _ g2 b2 ho (by decide) (by decide) (by decide) (by decide) (by decide))
 clear g2 b2
 have HR3:=hid (read19_at O true (⟨#[71,69,84]⟩:ByteArray) [[120,45,98]] 200 [⟨[97,99,99,101,115,115,45,99,111,110,116,114,111,108,45,97,108,108,111,119,45,111,114,105,103,105,110],[104,116,116,112,115,58,47,47,97]⟩,⟨[97,99,99,101,115,115,45,99,111,110,116,114,111,108,45,97,108,108,111,119,45,99,114,101,100,101,110,116,105,97,108,115],[116,114,117,101]⟩,⟨[97,99,99,101,115,115,45,99,111,110,116,114,111,108,45,97,108,108,111,119,45,109,101,116,104,111,100,115],[42]⟩,⟨[97,99,99,101,115,115,45,99,111,110,116,114,111,108,45,97,108,108,111,119,45,104,101,97,100,101,114,115],[42,44,32,88,45,97]⟩] _ _ g3 b3 ho (by decide) (by decide) (by decide) (by decide) (by decide))
 clear g3 b3
 have HR4:=hid (read19_at O true (⟨#[71,69,84]⟩:ByteArray) [[120,45,97]] 200 [⟨[97,99,99,101,115,115,45,99,111,110,116,114,111,108,45,97,108,108,111,119,45,111,114,105,103,105,110],[104,116,116,112,115,58,47,47,97]⟩,⟨[97,99,99,101,115,115,45,99,111,110,116,114,111,108,45,97,108,108,111,119,45,99,114,101,100,101,110,116,105,97,108,115],[116,114,117,101]⟩,⟨[97,99,99,101,115,115,45,99,111,110,116,114,111,108,45,97,108,108,111,119,45,109,101,116,104,111,100,115],[42]⟩,⟨[97,99,99,101,115,115,45,99,111,110,116,114,111,108,45,97,108,108,111,119,45,104,101,97,100,101,114,115],[42,44,32,88,45,97]⟩] _ _ g4 b4 ho (by decide) (by decide) (by decide) (by decide) (by decide))
 clear g4 b4
 have HR5:=hid (read19_at O false (⟨#[71,69,84]⟩:ByteArray) [[97,117,116,104,111,114,105,122,97,116,105,111,110]] 200 [⟨[97,99,99,101,115,115,45,99,111,110,116,114,111,108,45,97,108,108,111,119,45,111,114,105,103,105,110],[104,116,116,112,115,58,47,47,97]⟩,⟨[97,99,99,101,115,115,45,99,111,110,116,114,111,108,45,97,108,108,111,119,45,99,114,101,100,101,110,116,105,97,108,115],[116,114,117,101]⟩,⟨[97,99,99,101,115,115,45,99,111,110,116,114,111,108,45,97,108,108,111,119,45,109,101,116,104,111,100,115],[42]⟩,⟨[97,99,99,101,115,115,45,99,111,110,116,114,111,108,45,97,108,108,111,119,45,104,101,97,100,101,114,115],[42,44,32,88,45,97]⟩] _ _ g5 b5 ho (by decide) (by decide) (by decide) (by decide) (by decide))
 clear g5 b5;have HOk:=hid ho;have HTx:=hid (show textO O=[104,116,116,112,115,58,47,47,97] from ht);have HG:=hid hg;have HA4:=hid (fun (q:Nat) (Y:World) (hY:Gd Y) (hq:Y.heap[q]? = some (.cells #[.string ⟨#[97]⟩,.string ⟨#[98]⟩] 9 (0,0)))=>ask19_two O q Y hY HOk.out hq);have HA3:=hid (fun (Y:World) (hY:Gd Y)=>ask19_none O Y hY HOk.out);rw [HTx.out] at HA4 HA3;clear hg ho ht HOk HTx;obtain ⟨sa,ah,ap,ao⟩:=O
 obtain ⟨AS,rfl⟩: ∃ X:ByteArray,sa=X.data.toList:=⟨⟨sa.toArray⟩,rfl⟩
 obtain ⟨AH,rfl⟩: ∃ X:ByteArray,ah=X.data.toList:=⟨⟨ah.toArray⟩,rfl⟩
 rw [show orgVal ⟨AS.data.toList,AH.data.toList,ap,ao⟩ = .agg #[.string AS,.string AH,.int .i64 ap,.bool ao] from rfl] at HO HA4 HA3 HR0 HR1 HR2 HR3 HR4 HR5
 go_enter Tryz.func4,Tryz.ntmps4
 go_wp2_with fail
 refine (HO.out _).mono ?_;rintro e w1 ⟨rfl,hb1⟩
 have FB1:=hid hb1;clear hb1;obtain ⟨w2,hW2⟩: ∃ X,w1.alloc (.cells #[.string AS,.string AH,.int .i64 ap,.bool ao] 56)=X:=⟨_,rfl⟩
 have hb2:Below w1.heap.size w1 w2:=by rw [← hW2];exact (Below.refl _ w1).alloc (Nat.le_refl _) _
 have hx2:w2.heap[w1.heap.size]? = some (.cells #[.string AS,.string AH,.int .i64 ap,.bool ao] 56 (0,0)):=by rw [← hW2];exact heap_alloc_new w1 _
 have FB2:=hid (below2 FB1.out hb2);have HW2:=hid hW2;have HX2:=hid hx2;clear hW2 hb2 hx2
 go_wp2_with fail
 rw [HW2.out];refine (h19_any _ _ _).mono ?_;rintro e w3 ⟨rfl,hb3⟩
 have FB3:=hid (below2 FB2.out hb3);have FO3:=hid (kept_at19 hb3 HX2.out);clear HX2;clear hb3
 go_wp2_with fail
 refine (h19_any _ _ _).mono ?_;rintro e w4 ⟨rfl,hb4⟩
 have FB4:=hid (below2 FB3.out hb4);have FO4:=hid (kept_at19 hb4 FO3.out);clear FO3;clear hb4
 go_wp2_with fail
 refine (h19_any _ _ _).mono ?_;rintro e w5 ⟨rfl,hb5⟩
 have FB5:=hid (below2 FB4.out hb5);have FO5:=hid (kept_at19 hb5 FO4.out);clear FO4;clear hb5
 go_wp2_with fail
 refine (h19_any _ _ _).mono ?_;rintro e w6 ⟨rfl,hb6⟩
 have FB6:=hid (below2 FB5.out hb6);have FO6:=hid (kept_at19 hb6 FO5.out);clear FO5;clear hb6
 obtain ⟨w7,hW7⟩: ∃ X,w6.alloc (.cells #[.string ⟨#[97,99,99,101,115,115,45,99,111,110,116,114,111,108,45,97,108,108,111,119,45,111,114,105,103,105,110]⟩,.string ⟨#[104,116,116,112,115,58,47,47,97]⟩,.string ⟨#[97,99,99,101,115,115,45,99,111,110,116,114,111,108,45,97,108,108,111,119,45,99,114,101,100,101,110,116,105,97,108,115]⟩,.string ⟨#[116,114,117,101]⟩,.string ⟨#[97,99,99,101,115,115,45,99,111,110,116,114,111,108,45,97,108,108,111,119,45,109,101,116,104,111,100,115]⟩,.string ⟨#[42]⟩,.string ⟨#[97,99,99,101,115,115,45,99,111,110,116,114,111,108,45,97,108,108,111,119,45,104,101,97,100,101,114,115]⟩,.string ⟨#[42,44,32,88,45,97]⟩] 45)=X:=⟨_,rfl⟩
 have hb7:Below w6.heap.size w6 w7:=by rw [← hW7];exact (Below.refl _ w6).alloc (Nat.le_refl _) _
 have hx7:w7.heap[w6.heap.size]? = some (.cells #[.string ⟨#[97,99,99,101,115,115,45,99,111,110,116,114,111,108,45,97,108,108,111,119,45,111,114,105,103,105,110]⟩,.string ⟨#[104,116,116,112,115,58,47,47,97]⟩,.string ⟨#[97,99,99,101,115,115,45,99,111,110,116,114,111,108,45,97,108,108,111,119,45,99,114,101,100,101,110,116,105,97,108,115]⟩,.string ⟨#[116,114,117,101]⟩,.string ⟨#[97,99,99,101,115,115,45,99,111,110,116,114,111,108,45,97,108,108,111,119,45,109,101,116,104,111,100,115]⟩,.string ⟨#[42]⟩,.string ⟨#[97,99,99,101,115,115,45,99,111,110,116,114,111,108,45,97,108,108,111,119,45,104,101,97,100,101,114,115]⟩,.string ⟨#[42,44,32,88,45,97]⟩] 45 (0,0)):=by rw [← hW7];exact heap_alloc_new w6 _
 have FB7:=hid (below2 FB6.out hb7);have FO7:=hid (kept_at19 hb7 FO6.out);clear FO6;have HW7:=hid hW7;have HX7:=hid hx7;clear hW7 hb7 hx7
 have k00:((w6.alloc (.cells #[.string ⟨#[97,99,99,101,115,115,45,99,111,110,116,114,111,108,45,97,108,108,111,119,45,111,114,105,103,105,110]⟩,.string ⟨#[104,116,116,112,115,58,47,47,97]⟩,.string ⟨#[97,99,99,101,115,115,45,99,111,110,116,114,111,108,45,97,108,108,111,119,45,99,114,101,100,101,110,116,105,97,108,115]⟩,.string ⟨#[116,114,117,101]⟩,.string ⟨#[97,99,99,101,115,115,45,99,111,110,116,114,111,108,45,97,108,108,111,119,45,109,101,116,104,111,100,115]⟩,.string ⟨#[42]⟩,.string ⟨#[97,99,99,101,115,115,45,99,111,110,116,114,111,108,45,97,108,108,111,119,45,104,101,97,100,101,114,115]⟩,.string ⟨#[42,44,32,88,45,97]⟩] 45))).cell? ⟨w1.heap.size,0,none⟩=some (.string AS):=by rw [HW7.out];rw [Lib.cell_of_heap FO7.out];rfl
 have k01:((w6.alloc (.cells #[.string ⟨#[97,99,99,101,115,115,45,99,111,110,116,114,111,108,45,97,108,108,111,119,45,111,114,105,103,105,110]⟩,.string ⟨#[104,116,116,112,115,58,47,47,97]⟩,.string ⟨#[97,99,99,101,115,115,45,99,111,110,116,114,111,108,45,97,108,108,111,119,45,99,114,101,100,101,110,116,105,97,108,115]⟩,.string ⟨#[116,114,117,101]⟩,.string ⟨#[97,99,99,101,115,115,45,99,111,110,116,114,111,108,45,97,108,108,111,119,45,109,101,116,104,111,100,115]⟩,.string ⟨#[42]⟩,.string ⟨#[97,99,99,101,115,115,45,99,111,110,116,114,111,108,45,97,108,108,111,119,45,104,101,97,100,101,114,115]⟩,.string ⟨#[42,44,32,88,45,97]⟩] 45))).cell? ⟨w1.heap.size,1,none⟩=some (.string AH):=by rw [HW7.out];rw [Lib.cell_of_heap FO7.out];rfl
 have k02:((w6.alloc (.cells #[.string ⟨#[97,99,99,101,115,115,45,99,111,110,116,114,111,108,45,97,108,108,111,119,45,111,114,105,103,105,110]⟩,.string ⟨#[104,116,116,112,115,58,47,47,97]⟩,.string ⟨#[97,99,99,101,115,115,45,99,111,110,116,114,111,108,45,97,108,108,111,119,45,99,114,101,100,101,110,116,105,97,108,115]⟩,.string ⟨#[116,114,117,101]⟩,.string ⟨#[97,99,99,101,115,115,45,99,111,110,116,114,111,108,45,97,108,108,111,119,45,109,101,116,104,111,100,115]⟩,.string ⟨#[42]⟩,.string ⟨#[97,99,99,101,115,115,45,99,111,110,116,114,111,108,45,97,108,108,111,119,45,104,101,97,100,101,114,115]⟩,.string ⟨#[42,44,32,88,45,97]⟩] 45))).cell? ⟨w1.heap.size,2,none⟩=some (.int .i64 ap):=by rw [HW7.out];rw [Lib.cell_of_heap FO7.out];rfl
 have k03:((w6.alloc (.cells #[.string ⟨#[97,99,99,101,115,115,45,99,111,110,116,114,111,108,45,97,108,108,111,119,45,111,114,105,103,105,110]⟩,.string ⟨#[104,116,116,112,115,58,47,47,97]⟩,.string ⟨#[97,99,99,101,115,115,45,99,111,110,116,114,111,108,45,97,108,108,111,119,45,99,114,101,100,101,110,116,105,97,108,115]⟩,.string ⟨#[116,114,117,101]⟩,.string ⟨#[97,99,99,101,115,115,45,99,111,110,116,114,111,108,45,97,108,108,111,119,45,109,101,116,104,111,100,115]⟩,.string ⟨#[42]⟩,.string ⟨#[97,99,99,101,115,115,45,99,111,110,116,114,111,108,45,97,108,108,111,119,45,104,101,97,100,101,114,115]⟩,.string ⟨#[42,44,32,88,45,97]⟩] 45))).cell? ⟨w1.heap.size,3,none⟩=some (.bool ao):=by rw [HW7.out];rw [Lib.cell_of_heap FO7.out];rfl
 go_wp2_with fail
 rw [HW7.out];clear k00 k01 k02 k03;refine (HR0.out (.slice none 0 0) (.slice (some ⟨w6.heap.size,0,none⟩) 4 4) none 0 0 _ (HG.out.kept FB7.out) (tx_nil _) (hd_blk19 HX7.out rfl (by decide))).mono ?_;rintro e w8 ⟨aM8,cM8,aN8,cN8,rfl,hoM8,hoN8,_,hb8⟩
 have FB8:=hid (below2 FB7.out hb8);have FO8:=hid (kept_at19 hb8 FO7.out);clear FO7;have FH8:=hid (kept_at19 hb8 HX7.out);clear HX7;clear hoM8 hoN8 hb8;dsimp only [Grn.nil,List.length_cons,List.length_nil]
 obtain ⟨w9,hW9⟩: ∃ X,w8.alloc (.cells #[.slice aM8 0 cM8,.slice aN8 0 cN8,.bool false,.int .i64 0] 60)=X:=⟨_,rfl⟩
 have hb9:Below w8.heap.size w8 w9:=by rw [← hW9];exact (Below.refl _ w8).alloc (Nat.le_refl _) _
 have hx9:w9.heap[w8.heap.size]? = some (.cells #[.slice aM8 0 cM8,.slice aN8 0 cN8,.bool false,.int .i64 0] 60 (0,0)):=by rw [← hW9];exact heap_alloc_new w8 _
 have FB9:=hid (below2 FB8.out hb9);have FO9:=hid (kept_at19 hb9 FO8.out);clear FO8;have FH9:=hid (kept_at19 hb9 FH8.out);clear FH8;have HW9:=hid hW9;have HX9:=hid hx9;clear hW9 hb9 hx9;have k10:((w8.alloc (.cells #[.slice aM8 0 cM8,.slice aN8 0 cN8,.bool false,.int .i64 0] 60))).cell? ⟨w1.heap.size,0,none⟩=some (.string AS):=by rw [HW9.out];rw [Lib.cell_of_heap FO9.out];rfl
 have k11:((w8.alloc (.cells #[.slice aM8 0 cM8,.slice aN8 0 cN8,.bool false,.int .i64 0] 60))).cell? ⟨w1.heap.size,1,none⟩=some (.string AH):=by rw [HW9.out];rw [Lib.cell_of_heap FO9.out];rfl
 have k12:((w8.alloc (.cells #[.slice aM8 0 cM8,.slice aN8 0 cN8,.bool false,.int .i64 0] 60))).cell? ⟨w1.heap.size,2,none⟩=some (.int .i64 ap):=by rw [HW9.out];rw [Lib.cell_of_heap FO9.out];rfl
 have k13:((w8.alloc (.cells #[.slice aM8 0 cM8,.slice aN8 0 cN8,.bool false,.int .i64 0] 60))).cell? ⟨w1.heap.size,3,none⟩=some (.bool ao):=by rw [HW9.out];rw [Lib.cell_of_heap FO9.out];rfl
 obtain ⟨w10,hW10⟩: ∃ X,w9.alloc (.cells #[.string ⟨#[120,45,98]⟩] 9)=X:=⟨_,rfl⟩
 have hb10:Below w9.heap.size w9 w10:=by rw [← hW10];exact (Below.refl _ w9).alloc (Nat.le_refl _) _
 have hx10:w10.heap[w9.heap.size]? = some (.cells #[.string ⟨#[120,45,98]⟩] 9 (0,0)):=by rw [← hW10];exact heap_alloc_new w9 _
 have FB10:=hid (below2 FB9.out hb10);have FO10:=hid (kept_at19 hb10 FO9.out);clear FO9;have FH10:=hid (kept_at19 hb10 FH9.out);clear FH9;have HW10:=hid hW10;have HX10:=hid hx10;clear hW10 hb10 hx10;have HZ10:=hid (show w8.heap.size+1=w9.heap.size by rw [← HW9.out];simp)
 go_wp2_with fail
 rw [HW9.out];rw [HW10.out];rw [HZ10.out];clear k10 k11 k12 k13;refine (HR1.out (.slice (some ⟨w9.heap.size,0,none⟩) 1 1) (.slice (some ⟨w6.heap.size,0,none⟩) 4 4) none 0 0 _ (HG.out.kept FB10.out) (by rw [← HW10.out];exact txl_lit19 w9 [[120,45,98]] 1 rfl (by decide)) (hd_blk19 FH10.out rfl (by decide))).mono ?_;rintro e w11 ⟨aM11,cM11,aN11,cN11,rfl,hoM11,hoN11,_,hb11⟩
 have FB11:=hid (below2 FB10.out hb11);have FO11:=hid (kept_at19 hb11 FO10.out);clear FO10;have FH11:=hid (kept_at19 hb11 FH10.out);clear FH10;have HM11:=hid hoM11;have HN11:=hid hoN11;clear hoM11 hoN11 hb11;dsimp only [Grn.nil,List.length_cons,List.length_nil]
 dsimp only [List.length_cons,List.length_nil] at HM11 HN11
 obtain ⟨w12,hW12⟩: ∃ X,w11.alloc (.cells #[.slice aM11 1 cM11,.slice aN11 2 cN11,.bool true,.int .i64 5] 60)=X:=⟨_,rfl⟩
 have hb12:Below w11.heap.size w11 w12:=by rw [← hW12];exact (Below.refl _ w11).alloc (Nat.le_refl _) _
 have hx12:w12.heap[w11.heap.size]? = some (.cells #[.slice aM11 1 cM11,.slice aN11 2 cN11,.bool true,.int .i64 5] 60 (0,0)):=by rw [← hW12];exact heap_alloc_new w11 _
 have FB12:=hid (below2 FB11.out hb12);have FO12:=hid (kept_at19 hb12 FO11.out);clear FO11;have FH12:=hid (kept_at19 hb12 FH11.out);clear FH11;have FM12:=hid (own_same HM11.out hb12);clear HM11;have FN12:=hid (own_same HN11.out hb12);clear HN11;have HW12:=hid hW12;have HX12:=hid hx12;clear hW12 hb12 hx12;have k20:((w11.alloc (.cells #[.slice aM11 1 cM11,.slice aN11 2 cN11,.bool true,.int .i64 5] 60))).cell? ⟨w1.heap.size,0,none⟩=some (.string AS):=by rw [HW12.out];rw [Lib.cell_of_heap FO12.out];rfl
 have k21:((w11.alloc (.cells #[.slice aM11 1 cM11,.slice aN11 2 cN11,.bool true,.int .i64 5] 60))).cell? ⟨w1.heap.size,1,none⟩=some (.string AH):=by rw [HW12.out];rw [Lib.cell_of_heap FO12.out];rfl
 have k22:((w11.alloc (.cells #[.slice aM11 1 cM11,.slice aN11 2 cN11,.bool true,.int .i64 5] 60))).cell? ⟨w1.heap.size,2,none⟩=some (.int .i64 ap):=by rw [HW12.out];rw [Lib.cell_of_heap FO12.out];rfl
 have k23:((w11.alloc (.cells #[.slice aM11 1 cM11,.slice aN11 2 cN11,.bool true,.int .i64 5] 60))).cell? ⟨w1.heap.size,3,none⟩=some (.bool ao):=by rw [HW12.out];rw [Lib.cell_of_heap FO12.out];rfl
 go_wp2_with fail
 rw [HW12.out];clear k20 k21 k22 k23;refine (HR2.out (.slice none 0 0) (.slice (some ⟨w6.heap.size,0,none⟩) 4 4) none 0 0 _ (HG.out.kept FB12.out) (tx_nil _) (hd_blk19 FH12.out rfl (by decide))).mono ?_;rintro e w13 ⟨aM13,cM13,aN13,cN13,rfl,hoM13,hoN13,_,hb13⟩
 have FB13:=hid (below2 FB12.out hb13);have FO13:=hid (kept_at19 hb13 FO12.out);clear FO12;have FH13:=hid (kept_at19 hb13 FH12.out);clear FH12;have FM13:=hid (own_same FM12.out hb13);clear FM12;have FN13:=hid (own_same FN12.out hb13);clear FN12;have FG13:=hid (kept_at19 hb13 HX12.out);clear HX12;clear hoM13 hoN13 hb13;dsimp only [Grn.nil,List.length_cons,List.length_nil]
 obtain ⟨w14,hW14⟩: ∃ X,w13.alloc (.cells #[.slice aM13 0 cM13,.slice aN13 0 cN13,.bool false,.int .i64 0] 60)=X:=⟨_,rfl⟩
 have hb14:Below w13.heap.size w13 w14:=by rw [← hW14];exact (Below.refl _ w13).alloc (Nat.le_refl _) _
 have hx14:w14.heap[w13.heap.size]? = some (.cells #[.slice aM13 0 cM13,.slice aN13 0 cN13,.bool false,.int .i64 0] 60 (0,0)):=by rw [← hW14];exact heap_alloc_new w13 _
 have FB14:=hid (below2 FB13.out hb14);have FO14:=hid (kept_at19 hb14 FO13.out);clear FO13;have FH14:=hid (kept_at19 hb14 FH13.out);clear FH13;have FM14:=hid (own_same FM13.out hb14);clear FM13;have FN14:=hid (own_same FN13.out hb14);clear FN13;have FG14:=hid (kept_at19 hb14 FG13.out);clear FG13;have HW14:=hid hW14;have HX14:=hid hx14;clear hW14 hb14 hx14;have k30:((w13.alloc (.cells #[.slice aM13 0 cM13,.slice aN13 0 cN13,.bool false,.int .i64 0] 60))).cell? ⟨w1.heap.size,0,none⟩=some (.string AS):=by rw [HW14.out];rw [Lib.cell_of_heap FO14.out];rfl
 have k31:((w13.alloc (.cells #[.slice aM13 0 cM13,.slice aN13 0 cN13,.bool false,.int .i64 0] 60))).cell? ⟨w1.heap.size,1,none⟩=some (.string AH):=by rw [HW14.out];rw [Lib.cell_of_heap FO14.out];rfl
 have k32:((w13.alloc (.cells #[.slice aM13 0 cM13,.slice aN13 0 cN13,.bool false,.int .i64 0] 60))).cell? ⟨w1.heap.size,2,none⟩=some (.int .i64 ap):=by rw [HW14.out];rw [Lib.cell_of_heap FO14.out];rfl
 have k33:((w13.alloc (.cells #[.slice aM13 0 cM13,.slice aN13 0 cN13,.bool false,.int .i64 0] 60))).cell? ⟨w1.heap.size,3,none⟩=some (.bool ao):=by rw [HW14.out];rw [Lib.cell_of_heap FO14.out];rfl
 obtain ⟨w15,hW15⟩: ∃ X,w14.alloc (.cells #[.string ⟨#[120,45,98]⟩] 9)=X:=⟨_,rfl⟩
 have hb15:Below w14.heap.size w14 w15:=by rw [← hW15];exact (Below.refl _ w14).alloc (Nat.le_refl _) _
 have hx15:w15.heap[w14.heap.size]? = some (.cells #[.string ⟨#[120,45,98]⟩] 9 (0,0)):=by rw [← hW15];exact heap_alloc_new w14 _
 have FB15:=hid (below2 FB14.out hb15);have FO15:=hid (kept_at19 hb15 FO14.out);clear FO14;have FH15:=hid (kept_at19 hb15 FH14.out);clear FH14;have FM15:=hid (own_same FM14.out hb15);clear FM14;have FN15:=hid (own_same FN14.out hb15);clear FN14;have FG15:=hid (kept_at19 hb15 FG14.out);clear FG14;have HW15:=hid hW15;have HX15:=hid hx15;clear hW15 hb15 hx15;have HZ15:=hid (show w13.heap.size+1=w14.heap.size by rw [← HW14.out];simp)
 go_wp2_with fail
 rw [HW14.out];rw [HW15.out];rw [HZ15.out];clear k30 k31 k32 k33;refine (HR3.out (.slice (some ⟨w14.heap.size,0,none⟩) 1 1) (.slice (some ⟨w6.heap.size,0,none⟩) 4 4) none 0 0 _ (HG.out.kept FB15.out) (by rw [← HW15.out];exact txl_lit19 w14 [[120,45,98]] 1 rfl (by decide)) (hd_blk19 FH15.out rfl (by decide))).mono ?_;rintro e w16 ⟨aM16,cM16,aN16,cN16,rfl,hoM16,hoN16,_,hb16⟩
 have FB16:=hid (below2 FB15.out hb16);have FO16:=hid (kept_at19 hb16 FO15.out);clear FO15;have FH16:=hid (kept_at19 hb16 FH15.out);clear FH15;have FM16:=hid (own_same FM15.out hb16);clear FM15;have FN16:=hid (own_same FN15.out hb16);clear FN15;have FG16:=hid (kept_at19 hb16 FG15.out);clear FG15;clear hoM16 hoN16 hb16;dsimp only [Grn.nil,List.length_cons,List.length_nil]
 obtain ⟨w17,hW17⟩: ∃ X,w16.alloc (.cells #[.slice aM16 0 cM16,.slice aN16 0 cN16,.bool false,.int .i64 0] 60)=X:=⟨_,rfl⟩
 have hb17:Below w16.heap.size w16 w17:=by rw [← hW17];exact (Below.refl _ w16).alloc (Nat.le_refl _) _
 have hx17:w17.heap[w16.heap.size]? = some (.cells #[.slice aM16 0 cM16,.slice aN16 0 cN16,.bool false,.int .i64 0] 60 (0,0)):=by rw [← hW17];exact heap_alloc_new w16 _
 have FB17:=hid (below2 FB16.out hb17);have FO17:=hid (kept_at19 hb17 FO16.out);clear FO16;have FH17:=hid (kept_at19 hb17 FH16.out);clear FH16;have FM17:=hid (own_same FM16.out hb17);clear FM16;have FN17:=hid (own_same FN16.out hb17);clear FN16;have FG17:=hid (kept_at19 hb17 FG16.out);clear FG16;have HW17:=hid hW17;have HX17:=hid hx17;clear hW17 hb17 hx17;have k40:((w16.alloc (.cells #[.slice aM16 0 cM16,.slice aN16 0 cN16,.bool false,.int .i64 0] 60))).cell? ⟨w1.heap.size,0,none⟩=some (.string AS):=by rw [HW17.out];rw [Lib.cell_of_heap FO17.out];rfl
 have k41:((w16.alloc (.cells #[.slice aM16 0 cM16,.slice aN16 0 cN16,.bool false,.int .i64 0] 60))).cell? ⟨w1.heap.size,1,none⟩=some (.string AH):=by rw [HW17.out];rw [Lib.cell_of_heap FO17.out];rfl
 have k42:((w16.alloc (.cells #[.slice aM16 0 cM16,.slice aN16 0 cN16,.bool false,.int .i64 0] 60))).cell? ⟨w1.heap.size,2,none⟩=some (.int .i64 ap):=by rw [HW17.out];rw [Lib.cell_of_heap FO17.out];rfl
 have k43:((w16.alloc (.cells #[.slice aM16 0 cM16,.slice aN16 0 cN16,.bool false,.int .i64 0] 60))).cell? ⟨w1.heap.size,3,none⟩=some (.bool ao):=by rw [HW17.out];rw [Lib.cell_of_heap FO17.out];rfl
 obtain ⟨w18,hW18⟩: ∃ X,w17.alloc (.cells #[.string ⟨#[120,45,97]⟩] 9)=X:=⟨_,rfl⟩
 have hb18:Below w17.heap.size w17 w18:=by rw [← hW18];exact (Below.refl _ w17).alloc (Nat.le_refl _) _
 have hx18:w18.heap[w17.heap.size]? = some (.cells #[.string ⟨#[120,45,97]⟩] 9 (0,0)):=by rw [← hW18];exact heap_alloc_new w17 _
 have FB18:=hid (below2 FB17.out hb18);have FO18:=hid (kept_at19 hb18 FO17.out);clear FO17;have FH18:=hid (kept_at19 hb18 FH17.out);clear FH17;have FM18:=hid (own_same FM17.out hb18);clear FM17;have FN18:=hid (own_same FN17.out hb18);clear FN17;have FG18:=hid (kept_at19 hb18 FG17.out);clear FG17;have HW18:=hid hW18;have HX18:=hid hx18;clear hW18 hb18 hx18;have HZ18:=hid (show w16.heap.size+1=w17.heap.size by rw [← HW17.out];simp)
 go_wp2_with fail
 rw [HW17.out];rw [HW18.out];rw [HZ18.out];clear k40 k41 k42 k43;refine (HR4.out (.slice (some ⟨w17.heap.size,0,none⟩) 1 1) (.slice (some ⟨w6.heap.size,0,none⟩) 4 4) none 0 0 _ (HG.out.kept FB18.out) (by rw [← HW18.out];exact txl_lit19 w17 [[120,45,97]] 1 rfl (by decide)) (hd_blk19 FH18.out rfl (by decide))).mono ?_;rintro e w19 ⟨aM19,cM19,aN19,cN19,rfl,hoM19,hoN19,_,hb19⟩
 have FB19:=hid (below2 FB18.out hb19);have FO19:=hid (kept_at19 hb19 FO18.out);clear FO18;have FH19:=hid (kept_at19 hb19 FH18.out);clear FH18;have FM19:=hid (own_same FM18.out hb19);clear FM18;have FN19:=hid (own_same FN18.out hb19);clear FN18;have FG19:=hid (kept_at19 hb19 FG18.out);clear FG18;clear hoM19 hoN19 hb19;dsimp only [Grn.nil,List.length_cons,List.length_nil]
 obtain ⟨w20,hW20⟩: ∃ X,w19.alloc (.cells #[.slice aM19 1 cM19,.slice aN19 2 cN19,.bool false,.int .i64 5] 60)=X:=⟨_,rfl⟩
 have hb20:Below w19.heap.size w19 w20:=by rw [← hW20];exact (Below.refl _ w19).alloc (Nat.le_refl _) _
 have hx20:w20.heap[w19.heap.size]? = some (.cells #[.slice aM19 1 cM19,.slice aN19 2 cN19,.bool false,.int .i64 5] 60 (0,0)):=by rw [← hW20];exact heap_alloc_new w19 _
 have FB20:=hid (below2 FB19.out hb20);have FO20:=hid (kept_at19 hb20 FO19.out);clear FO19;have FH20:=hid (kept_at19 hb20 FH19.out);clear FH19;have FM20:=hid (own_same FM19.out hb20);clear FM19;have FN20:=hid (own_same FN19.out hb20);clear FN19;have FG20:=hid (kept_at19 hb20 FG19.out);clear FG19;have HW20:=hid hW20;have HX20:=hid hx20;clear hW20 hb20 hx20;have k50:((w19.alloc (.cells #[.slice aM19 1 cM19,.slice aN19 2 cN19,.bool false,.int .i64 5] 60))).cell? ⟨w1.heap.size,0,none⟩=some (.string AS):=by rw [HW20.out];rw [Lib.cell_of_heap FO20.out];rfl
 have k51:((w19.alloc (.cells #[.slice aM19 1 cM19,.slice aN19 2 cN19,.bool false,.int .i64 5] 60))).cell? ⟨w1.heap.size,1,none⟩=some (.string AH):=by rw [HW20.out];rw [Lib.cell_of_heap FO20.out];rfl
 have k52:((w19.alloc (.cells #[.slice aM19 1 cM19,.slice aN19 2 cN19,.bool false,.int .i64 5] 60))).cell? ⟨w1.heap.size,2,none⟩=some (.int .i64 ap):=by rw [HW20.out];rw [Lib.cell_of_heap FO20.out];rfl
 have k53:((w19.alloc (.cells #[.slice aM19 1 cM19,.slice aN19 2 cN19,.bool false,.int .i64 5] 60))).cell? ⟨w1.heap.size,3,none⟩=some (.bool ao):=by rw [HW20.out];rw [Lib.cell_of_heap FO20.out];rfl
 obtain ⟨w21,hW21⟩: ∃ X,w20.alloc (.cells #[.string ⟨#[97,117,116,104,111,114,105,122,97,116,105,111,110]⟩] 9)=X:=⟨_,rfl⟩
 have hb21:Below w20.heap.size w20 w21:=by rw [← hW21];exact (Below.refl _ w20).alloc (Nat.le_refl _) _
 have hx21:w21.heap[w20.heap.size]? = some (.cells #[.string ⟨#[97,117,116,104,111,114,105,122,97,116,105,111,110]⟩] 9 (0,0)):=by rw [← hW21];exact heap_alloc_new w20 _
 have FB21:=hid (below2 FB20.out hb21);have FO21:=hid (kept_at19 hb21 FO20.out);clear FO20;have FH21:=hid (kept_at19 hb21 FH20.out);clear FH20;have FM21:=hid (own_same FM20.out hb21);clear FM20;have FN21:=hid (own_same FN20.out hb21);clear FN20;have FG21:=hid (kept_at19 hb21 FG20.out);clear FG20;have HW21:=hid hW21;have HX21:=hid hx21;clear hW21 hb21 hx21;have HZ21:=hid (show w19.heap.size+1=w20.heap.size by rw [← HW20.out];simp)
 go_wp2_with fail
 rw [HW20.out];rw [HW21.out];rw [HZ21.out];clear k50 k51 k52 k53;refine (HR5.out (.slice (some ⟨w20.heap.size,0,none⟩) 1 1) (.slice (some ⟨w6.heap.size,0,none⟩) 4 4) none 0 0 _ (HG.out.kept FB21.out) (by rw [← HW21.out];exact txl_lit19 w20 [[97,117,116,104,111,114,105,122,97,116,105,111,110]] 1 rfl (by decide)) (hd_blk19 FH21.out rfl (by decide))).mono ?_;rintro e w22 ⟨aM22,cM22,aN22,cN22,rfl,hoM22,hoN22,_,hb22⟩
 have FB22:=hid (below2 FB21.out hb22);have FO22:=hid (kept_at19 hb22 FO21.out);clear FO21;have FH22:=hid (kept_at19 hb22 FH21.out);clear FH21;have FM22:=hid (own_same FM21.out hb22);clear FM21;have FN22:=hid (own_same FN21.out hb22);clear FN21;have FG22:=hid (kept_at19 hb22 FG21.out);clear FG21;clear hoM22 hoN22 hb22;dsimp only [Grn.nil,List.length_cons,List.length_nil]
 obtain ⟨w23,hW23⟩: ∃ X,w22.alloc (.cells #[.slice aM22 0 cM22,.slice aN22 0 cN22,.bool false,.int .i64 0] 60)=X:=⟨_,rfl⟩
 have hb23:Below w22.heap.size w22 w23:=by rw [← hW23];exact (Below.refl _ w22).alloc (Nat.le_refl _) _
 have hx23:w23.heap[w22.heap.size]? = some (.cells #[.slice aM22 0 cM22,.slice aN22 0 cN22,.bool false,.int .i64 0] 60 (0,0)):=by rw [← hW23];exact heap_alloc_new w22 _
 have FB23:=hid (below2 FB22.out hb23);have FO23:=hid (kept_at19 hb23 FO22.out);clear FO22;have FH23:=hid (kept_at19 hb23 FH22.out);clear FH22;have FM23:=hid (own_same FM22.out hb23);clear FM22;have FN23:=hid (own_same FN22.out hb23);clear FN22;have FG23:=hid (kept_at19 hb23 FG22.out);clear FG22;have HW23:=hid hW23;have HX23:=hid hx23;clear hW23 hb23 hx23;have ka0:((w22.alloc (.cells #[.slice aM22 0 cM22,.slice aN22 0 cN22,.bool false,.int .i64 0] 60))).cell? ⟨w1.heap.size,0,none⟩=some (.string AS):=by rw [HW23.out];rw [Lib.cell_of_heap FO23.out];rfl
 have ka1:((w22.alloc (.cells #[.slice aM22 0 cM22,.slice aN22 0 cN22,.bool false,.int .i64 0] 60))).cell? ⟨w1.heap.size,1,none⟩=some (.string AH):=by rw [HW23.out];rw [Lib.cell_of_heap FO23.out];rfl
 have ka2:((w22.alloc (.cells #[.slice aM22 0 cM22,.slice aN22 0 cN22,.bool false,.int .i64 0] 60))).cell? ⟨w1.heap.size,2,none⟩=some (.int .i64 ap):=by rw [HW23.out];rw [Lib.cell_of_heap FO23.out];rfl
 have ka3:((w22.alloc (.cells #[.slice aM22 0 cM22,.slice aN22 0 cN22,.bool false,.int .i64 0] 60))).cell? ⟨w1.heap.size,3,none⟩=some (.bool ao):=by rw [HW23.out];rw [Lib.cell_of_heap FO23.out];rfl
 obtain ⟨w24,hW24⟩: ∃ X,w23.alloc (.cells #[.string ⟨#[97]⟩,.string ⟨#[98]⟩] 9)=X:=⟨_,rfl⟩
 have hb24:Below w23.heap.size w23 w24:=by rw [← hW24];exact (Below.refl _ w23).alloc (Nat.le_refl _) _
 have hx24:w24.heap[w23.heap.size]? = some (.cells #[.string ⟨#[97]⟩,.string ⟨#[98]⟩] 9 (0,0)):=by rw [← hW24];exact heap_alloc_new w23 _
 have FB24:=hid (below2 FB23.out hb24);have FO24:=hid (kept_at19 hb24 FO23.out);clear FO23;have FH24:=hid (kept_at19 hb24 FH23.out);clear FH23;have FM24:=hid (own_same FM23.out hb24);clear FM23;have FN24:=hid (own_same FN23.out hb24);clear FN23;have FG24:=hid (kept_at19 hb24 FG23.out);clear FG23;have HW24:=hid hW24;have HX24:=hid hx24;clear hW24 hb24 hx24;have HZ24:=hid (show w22.heap.size+1=w23.heap.size by rw [← HW23.out];simp)
 go_wp2_with fail
 rw [HW23.out];rw [HW24.out];rw [HZ24.out];clear ka0 ka1 ka2 ka3;refine (HA4.out w23.heap.size _ (HG.out.kept FB24.out) HX24.out).mono ?_;rintro e w25 ⟨aL,cL,rfl,hoL,hb25⟩
 have FB25:=hid (below2 FB24.out hb25);have FO25:=hid (kept_at19 hb25 FO24.out);clear FO24;have FH25:=hid (kept_at19 hb25 FH24.out);clear FH24;have FM25:=hid (own_same FM24.out hb25);clear FM24;have FN25:=hid (own_same FN24.out hb25);clear FN24;have FG25:=hid (kept_at19 hb25 FG24.out);clear FG24;have HLk:=hid hoL;clear hoL hb25;dsimp only [List.length_cons,List.length_nil]
 dsimp only [List.length_cons,List.length_nil] at HLk
 go_wp2_with fail
 refine (new19_any _).mono ?_;rintro e w26 ⟨rfl,hI26,hb26⟩
 have HTp:=hid (FB25.out.size);have FB26:=hid (below2 FB25.out hb26);have FO26:=hid (kept_at19 hb26 FO25.out);clear FO25;have FH26:=hid (kept_at19 hb26 FH25.out);clear FH25;have FM26:=hid (own_same FM25.out hb26);clear FM25;have FN26:=hid (own_same FN25.out hb26);clear FN25;have FG26:=hid (kept_at19 hb26 FG25.out);clear FG25;have FL26:=hid (own_same HLk.out hb26);clear HLk;have HTb26:=hid hI26;clear hI26 hb26;obtain ⟨w27,hW27⟩: ∃ X,w26.alloc (.cells #[.string ⟨#[42]⟩] 9)=X:=⟨_,rfl⟩
 have hb27:Below w26.heap.size w26 w27:=by rw [← hW27];exact (Below.refl _ w26).alloc (Nat.le_refl _) _
 have hx27:w27.heap[w26.heap.size]? = some (.cells #[.string ⟨#[42]⟩] 9 (0,0)):=by rw [← hW27];exact heap_alloc_new w26 _
 have FB27:=hid (below2 FB26.out hb27);have FO27:=hid (kept_at19 hb27 FO26.out);clear FO26;have FH27:=hid (kept_at19 hb27 FH26.out);clear FH26;have FM27:=hid (own_same FM26.out hb27);clear FM26;have FN27:=hid (own_same FN26.out hb27);clear FN26;have FG27:=hid (kept_at19 hb27 FG26.out);clear FG26;have FL27:=hid (own_same FL26.out hb27);clear FL26;have FT27:=hid (HTb26.out.kept hb27);clear HTb26;have HW27:=hid hW27;have HX27:=hid hx27;clear hW27 hb27 hx27
 have HP28:=hid (put19_at (w25.heap.size) [] (putsT 9 0 (rtsV [115] [117] true [] [[42]] true) []) (⟨#[115]⟩:ByteArray) (⟨#[117]⟩:ByteArray) true [] [[42]] true 9 0 rfl (by decide) (by decide) (by decide) (by decide) (by decide) (.slice none 0 0) (.slice (some ⟨w26.heap.size,0,none⟩) 1 1) w27 FT27.out (txT_nil _) (by rw [← HW27.out];exact txl_T19 w26 [[42]] 1 rfl (by decide)))
 go_wp2_with fail
 rw [HW27.out];refine HP28.out.mono ?_;rintro e w28 ⟨rfl,hI28,hq28⟩
 have FB28:=hid (FB27.out.trans (hq28.1.mono HTp.out));have FO28:=hid (tq_kept hq28 FO27.out (by decide) (by decide));clear FO27;have FH28:=hid (tq_kept hq28 FH27.out (by decide) (by decide));clear FH27;have FM28:=hid (hq28.own FM27.out (by decide) (by decide));clear FM27;have FN28:=hid (hq28.own FN27.out (by decide) (by decide));clear FN27;have FG28:=hid (tq_kept hq28 FG27.out (by decide) (by decide));clear FG27;have FL28:=hid (hq28.own FL27.out (by decide) (by decide));clear FL27;have HTb28:=hid hI28;clear hI28 hq28;obtain ⟨w29,hW29⟩: ∃ X,w28.alloc (.cells #[.string ⟨#[120]⟩] 9)=X:=⟨_,rfl⟩
 have hb29:Below w28.heap.size w28 w29:=by rw [← hW29];exact (Below.refl _ w28).alloc (Nat.le_refl _) _
 have hx29:w29.heap[w28.heap.size]? = some (.cells #[.string ⟨#[120]⟩] 9 (0,0)):=by rw [← hW29];exact heap_alloc_new w28 _
 have FB29:=hid (below2 FB28.out hb29);have FO29:=hid (kept_at19 hb29 FO28.out);clear FO28;have FH29:=hid (kept_at19 hb29 FH28.out);clear FH28;have FM29:=hid (own_same FM28.out hb29);clear FM28;have FN29:=hid (own_same FN28.out hb29);clear FN28;have FG29:=hid (kept_at19 hb29 FG28.out);clear FG28;have FL29:=hid (own_same FL28.out hb29);clear FL28;have FT29:=hid (HTb28.out.kept hb29);clear HTb28;have HW29:=hid hW29;have HX29:=hid hx29;clear hW29 hb29 hx29
 have HP30:=hid (put19_at (w25.heap.size) (putsT 9 0 (rtsV [115] [117] true [] [[42]] true) []) (putsT 0 0 (rtsV [115] [118] false [] [[120]] false) (putsT 9 0 (rtsV [115] [117] true [] [[42]] true) [])) (⟨#[115]⟩:ByteArray) (⟨#[118]⟩:ByteArray) false [] [[120]] false 0 0 rfl (by decide) (by decide) (by decide) (by decide) (by decide) (.slice none 0 0) (.slice (some ⟨w28.heap.size,0,none⟩) 1 1) w29 FT29.out (txT_nil _) (by rw [← HW29.out];exact txl_T19 w28 [[120]] 1 rfl (by decide)))
 go_wp2_with fail
 rw [HW29.out];refine HP30.out.mono ?_;rintro e w30 ⟨rfl,hI30,hq30⟩
 have FB30:=hid (FB29.out.trans (hq30.1.mono HTp.out));have FO30:=hid (tq_kept hq30 FO29.out (by decide) (by decide));clear FO29;have FH30:=hid (tq_kept hq30 FH29.out (by decide) (by decide));clear FH29;have FM30:=hid (hq30.own FM29.out (by decide) (by decide));clear FM29;have FN30:=hid (hq30.own FN29.out (by decide) (by decide));clear FN29;have FG30:=hid (tq_kept hq30 FG29.out (by decide) (by decide));clear FG29;have FL30:=hid (hq30.own FL29.out (by decide) (by decide));clear FL29;have HTb30:=hid hI30;clear hI30 hq30
 have g0:(w30).cell? ⟨w11.heap.size,0,none⟩=some (.slice aM11 1 cM11):=by rw [Lib.cell_of_heap FG30.out];rfl
 have g1:(w30).cell? ⟨w11.heap.size,1,none⟩=some (.slice aN11 2 cN11):=by rw [Lib.cell_of_heap FG30.out];rfl
 have g2:(w30).cell? ⟨w11.heap.size,2,none⟩=some (.bool true):=by rw [Lib.cell_of_heap FG30.out];rfl
 have g3:(w30).cell? ⟨w11.heap.size,3,none⟩=some (.int .i64 5):=by rw [Lib.cell_of_heap FG30.out];rfl
 obtain ⟨w31,hW31⟩: ∃ X,w30.alloc (.cells #[.string ⟨#[42]⟩] 9)=X:=⟨_,rfl⟩
 have hb31:Below w30.heap.size w30 w31:=by rw [← hW31];exact (Below.refl _ w30).alloc (Nat.le_refl _) _
 have hx31:w31.heap[w30.heap.size]? = some (.cells #[.string ⟨#[42]⟩] 9 (0,0)):=by rw [← hW31];exact heap_alloc_new w30 _
 have FB31:=hid (below2 FB30.out hb31);have FO31:=hid (kept_at19 hb31 FO30.out);clear FO30;have FH31:=hid (kept_at19 hb31 FH30.out);clear FH30;have FM31:=hid (own_same FM30.out hb31);clear FM30;have FN31:=hid (own_same FN30.out hb31);clear FN30;have FG31:=hid (kept_at19 hb31 FG30.out);clear FG30;have FL31:=hid (own_same FL30.out hb31);clear FL30;have FT31:=hid (HTb30.out.kept hb31);clear HTb30;have HW31:=hid hW31;have HX31:=hid hx31;clear hW31 hb31 hx31
 have HS1:=hid (show TxAt w31 (.slice (some ⟨w30.heap.size,0,none⟩) 1 1) [[42]] by rw [← HW31.out];exact txl_lit19 w30 [[42]] 1 rfl (by decide));obtain ⟨w32,hW32⟩: ∃ X,w31.alloc (.cells #[.string ⟨#[42]⟩,.string ⟨#[120,45,97]⟩] 9)=X:=⟨_,rfl⟩
 have hb32:Below w31.heap.size w31 w32:=by rw [← hW32];exact (Below.refl _ w31).alloc (Nat.le_refl _) _
 have hx32:w32.heap[w31.heap.size]? = some (.cells #[.string ⟨#[42]⟩,.string ⟨#[120,45,97]⟩] 9 (0,0)):=by rw [← hW32];exact heap_alloc_new w31 _
 have FB32:=hid (below2 FB31.out hb32);have FO32:=hid (kept_at19 hb32 FO31.out);clear FO31;have FH32:=hid (kept_at19 hb32 FH31.out);clear FH31;have FM32:=hid (own_same FM31.out hb32);clear FM31;have FN32:=hid (own_same FN31.out hb32);clear FN31;have FG32:=hid (kept_at19 hb32 FG31.out);clear FG31;have FL32:=hid (own_same FL31.out hb32);clear FL31;have FT32:=hid (FT31.out.kept hb32);clear FT31;have HW32:=hid hW32;have HX32:=hid hx32;clear hW32 hb32 hx32;have HZs:=hid (show w30.heap.size+1=w31.heap.size by rw [← HW31.out];simp)
 have HSm:=hid (same19_any (.slice aM11 1 cM11) (.slice aN11 2 cN11) (.slice (some ⟨w30.heap.size,0,none⟩) 1 1) (.slice (some ⟨w31.heap.size,0,none⟩) 2 2) [[42]] [[42],[120,45,97]] true 5 w32 (own_txt' FM32.out) (own_txt' FN32.out) (HS1.out.kept (by rw [← HW32.out];exact (Below.refl _ w31).alloc (Nat.le_refl _) _)) (by rw [← HW32.out];exact txl_lit19 w31 [[42],[120,45,97]] 2 rfl (by decide)) (by decide))
 go_wp2_with fail
 rw [HW31.out,HW32.out,HZs.out]
 refine HSm.out.mono ?_;rintro e w33 ⟨rfl,hb33⟩
 clear g0 g1 g2 g3;have FB33:=hid (below2 FB32.out hb33);have FO33:=hid (kept_at19 hb33 FO32.out);clear FO32;have FH33:=hid (kept_at19 hb33 FH32.out);clear FH32;have FM33:=hid (own_same FM32.out hb33);clear FM32;have FN33:=hid (own_same FN32.out hb33);clear FN32;have FG33:=hid (kept_at19 hb33 FG32.out);clear FG32;have FL33:=hid (own_same FL32.out hb33);clear FL32;have FT33:=hid (FT32.out.kept hb33);clear FT32;clear hb33
 go_wp2_with fail
 refine (h19_any _ _ _).mono ?_;rintro e w34 ⟨rfl,hb34⟩
 have FB34:=hid (below2 FB33.out hb34);have FO34:=hid (kept_at19 hb34 FO33.out);clear FO33;have FH34:=hid (kept_at19 hb34 FH33.out);clear FH33;have FM34:=hid (own_same FM33.out hb34);clear FM33;have FN34:=hid (own_same FN33.out hb34);clear FN33;have FG34:=hid (kept_at19 hb34 FG33.out);clear FG33;have FL34:=hid (own_same FL33.out hb34);clear FL33;have FT34:=hid (FT33.out.kept hb34);clear FT33;clear hb34
 go_wp2_with fail
 refine (h19_any _ _ _).mono ?_;rintro e w35 ⟨rfl,hb35⟩
 have FB35:=hid (below2 FB34.out hb35);have FO35:=hid (kept_at19 hb35 FO34.out);clear FO34;have FH35:=hid (kept_at19 hb35 FH34.out);clear FH34;have FM35:=hid (own_same FM34.out hb35);clear FM34;have FN35:=hid (own_same FN34.out hb35);clear FN34;have FG35:=hid (kept_at19 hb35 FG34.out);clear FG34;have FL35:=hid (own_same FL34.out hb35);clear FL34;have FT35:=hid (FT34.out.kept hb35);clear FT34;clear hb35
 go_wp2_with fail
 refine (h19_any _ _ _).mono ?_;rintro e w36 ⟨rfl,hb36⟩
 have FB36:=hid (below2 FB35.out hb36);have FO36:=hid (kept_at19 hb36 FO35.out);clear FO35;have FH36:=hid (kept_at19 hb36 FH35.out);clear FH35;have FM36:=hid (own_same FM35.out hb36);clear FM35;have FN36:=hid (own_same FN35.out hb36);clear FN35;have FG36:=hid (kept_at19 hb36 FG35.out);clear FG35;have FL36:=hid (own_same FL35.out hb36);clear FL35;have FT36:=hid (FT35.out.kept hb36);clear FT35;clear hb36
 go_wp2_with fail
 refine (h19_any _ _ _).mono ?_;rintro e w37 ⟨rfl,hb37⟩
 have FB37:=hid (below2 FB36.out hb37);have FO37:=hid (kept_at19 hb37 FO36.out);clear FO36;have FH37:=hid (kept_at19 hb37 FH36.out);clear FH36;have FM37:=hid (own_same FM36.out hb37);clear FM36;have FN37:=hid (own_same FN36.out hb37);clear FN36;have FG37:=hid (kept_at19 hb37 FG36.out);clear FG36;have FL37:=hid (own_same FL36.out hb37);clear FL36;have FT37:=hid (FT36.out.kept hb37);clear FT36;clear hb37
 obtain ⟨w38,hW38⟩: ∃ X,w37.alloc (.cells #[.string ⟨#[97,99,99,101,112,116]⟩,.string ⟨#[42,47,42]⟩,.string ⟨#[97,99,99,101,115,115,45,99,111,110,116,114,111,108,45,114,101,113,117,101,115,116,45,109,101,116,104,111,100]⟩,.string ⟨#[80,85,84]⟩,.string ⟨#[97,99,99,101,115,115,45,99,111,110,116,114,111,108,45,114,101,113,117,101,115,116,45,104,101,97,100,101,114,115]⟩,.string ⟨#[97,44,98]⟩,.string ⟨#[111,114,105,103,105,110]⟩,.string ⟨#[104,116,116,112,115,58,47,47,97]⟩] 45)=X:=⟨_,rfl⟩
 have hb38:Below w37.heap.size w37 w38:=by rw [← hW38];exact (Below.refl _ w37).alloc (Nat.le_refl _) _
 have hx38:w38.heap[w37.heap.size]? = some (.cells #[.string ⟨#[97,99,99,101,112,116]⟩,.string ⟨#[42,47,42]⟩,.string ⟨#[97,99,99,101,115,115,45,99,111,110,116,114,111,108,45,114,101,113,117,101,115,116,45,109,101,116,104,111,100]⟩,.string ⟨#[80,85,84]⟩,.string ⟨#[97,99,99,101,115,115,45,99,111,110,116,114,111,108,45,114,101,113,117,101,115,116,45,104,101,97,100,101,114,115]⟩,.string ⟨#[97,44,98]⟩,.string ⟨#[111,114,105,103,105,110]⟩,.string ⟨#[104,116,116,112,115,58,47,47,97]⟩] 45 (0,0)):=by rw [← hW38];exact heap_alloc_new w37 _
 have FB38:=hid (below2 FB37.out hb38);have FO38:=hid (kept_at19 hb38 FO37.out);clear FO37;have FH38:=hid (kept_at19 hb38 FH37.out);clear FH37;have FM38:=hid (own_same FM37.out hb38);clear FM37;have FN38:=hid (own_same FN37.out hb38);clear FN37;have FG38:=hid (kept_at19 hb38 FG37.out);clear FG37;have FL38:=hid (own_same FL37.out hb38);clear FL37;have FT38:=hid (FT37.out.kept hb38);clear FT37;have HW38:=hid hW38;have HX38:=hid hx38;clear hW38 hb38 hx38
 have HSh:=hid (show Calls Tryz.prog 19 #[.slice aL 4 cL,.slice (some ⟨w37.heap.size,0,none⟩) 4 4] w38 (fun e w'=>e = .returned (.bool true)∧Below w38.heap.size w38 w') by
  have h:=sameH_any (.slice aL 4 cL) (.slice (some ⟨w37.heap.size,0,none⟩) 4 4) [⟨[97,99,99,101,112,116],[42,47,42]⟩,⟨[97,99,99,101,115,115,45,99,111,110,116,114,111,108,45,114,101,113,117,101,115,116,45,109,101,116,104,111,100],[80,85,84]⟩,⟨[97,99,99,101,115,115,45,99,111,110,116,114,111,108,45,114,101,113,117,101,115,116,45,104,101,97,100,101,114,115],[97,44,98]⟩,⟨[111,114,105,103,105,110],[104,116,116,112,115,58,47,47,97]⟩] [⟨[97,99,99,101,112,116],[42,47,42]⟩,⟨[97,99,99,101,115,115,45,99,111,110,116,114,111,108,45,114,101,113,117,101,115,116,45,109,101,116,104,111,100],[80,85,84]⟩,⟨[97,99,99,101,115,115,45,99,111,110,116,114,111,108,45,114,101,113,117,101,115,116,45,104,101,97,100,101,114,115],[97,44,98]⟩,⟨[111,114,105,103,105,110],[104,116,116,112,115,58,47,47,97]⟩] w38 (own_hd FL38.out) (hd_blk19 (L:=[⟨[97,99,99,101,112,116],[42,47,42]⟩,⟨[97,99,99,101,115,115,45,99,111,110,116,114,111,108,45,114,101,113,117,101,115,116,45,109,101,116,104,111,100],[80,85,84]⟩,⟨[97,99,99,101,115,115,45,99,111,110,116,114,111,108,45,114,101,113,117,101,115,116,45,104,101,97,100,101,114,115],[97,44,98]⟩,⟨[111,114,105,103,105,110],[104,116,116,112,115,58,47,47,97]⟩]) HX38.out rfl (by decide)) (by decide) (by decide)
  rw [show decide (([⟨[97,99,99,101,112,116],[42,47,42]⟩,⟨[97,99,99,101,115,115,45,99,111,110,116,114,111,108,45,114,101,113,117,101,115,116,45,109,101,116,104,111,100],[80,85,84]⟩,⟨[97,99,99,101,115,115,45,99,111,110,116,114,111,108,45,114,101,113,117,101,115,116,45,104,101,97,100,101,114,115],[97,44,98]⟩,⟨[111,114,105,103,105,110],[104,116,116,112,115,58,47,47,97]⟩]:List Hd)=[⟨[97,99,99,101,112,116],[42,47,42]⟩,⟨[97,99,99,101,115,115,45,99,111,110,116,114,111,108,45,114,101,113,117,101,115,116,45,109,101,116,104,111,100],[80,85,84]⟩,⟨[97,99,99,101,115,115,45,99,111,110,116,114,111,108,45,114,101,113,117,101,115,116,45,104,101,97,100,101,114,115],[97,44,98]⟩,⟨[111,114,105,103,105,110],[104,116,116,112,115,58,47,47,97]⟩])=true from decide_eq_true rfl] at h
  exact h)
 go_wp2_with fail
 rw [HW38.out];refine HSh.out.mono ?_;rintro e w39 ⟨rfl,hb39⟩
 have FB39:=hid (below2 FB38.out hb39);have FO39:=hid (kept_at19 hb39 FO38.out);clear FO38;have FH39:=hid (kept_at19 hb39 FH38.out);clear FH38;have FM39:=hid (own_same FM38.out hb39);clear FM38;have FN39:=hid (own_same FN38.out hb39);clear FN38;have FG39:=hid (kept_at19 hb39 FG38.out);clear FG38;have FL39:=hid (own_same FL38.out hb39);clear FL38;have FT39:=hid (FT38.out.kept hb39);clear FT38;clear hb39;have kb0:(w39).cell? ⟨w1.heap.size,0,none⟩=some (.string AS):=by rw [Lib.cell_of_heap FO39.out];rfl
 have kb1:(w39).cell? ⟨w1.heap.size,1,none⟩=some (.string AH):=by rw [Lib.cell_of_heap FO39.out];rfl
 have kb2:(w39).cell? ⟨w1.heap.size,2,none⟩=some (.int .i64 ap):=by rw [Lib.cell_of_heap FO39.out];rfl
 have kb3:(w39).cell? ⟨w1.heap.size,3,none⟩=some (.bool ao):=by rw [Lib.cell_of_heap FO39.out];rfl
 go_wp2_with fail
 refine (HA3.out _ (HG.out.kept FB39.out)).mono ?_;rintro e w40 ⟨aK,cK,rfl,_,hb40⟩
 clear kb0 kb1 kb2 kb3;have FB40:=hid (below2 FB39.out hb40);have FO40:=hid (kept_at19 hb40 FO39.out);clear FO39;have FH40:=hid (kept_at19 hb40 FH39.out);clear FH39;have FM40:=hid (own_same FM39.out hb40);clear FM39;have FN40:=hid (own_same FN39.out hb40);clear FN39;have FG40:=hid (kept_at19 hb40 FG39.out);clear FG39;have FL40:=hid (own_same FL39.out hb40);clear FL39;have FT40:=hid (FT39.out.kept hb40);clear FT39;clear hb40;dsimp only [List.length_cons,List.length_nil]
 have HAl0:=hid (allows19_at (w25.heap.size) (putsT 0 0 (rtsV [115] [118] false [] [[120]] false) (putsT 9 0 (rtsV [115] [117] true [] [[42]] true) [])) (⟨#[120]⟩:ByteArray) (⟨#[121]⟩:ByteArray) (⟨#[71,69,84]⟩:ByteArray) true [] 0 _ pn19_a0 (by decide) (by decide) (by decide) (by decide) (.slice none 0 0) w40 FT40.out (tx_nil _))
 go_wp2_with fail
 refine HAl0.out.mono ?_;rintro e w41 ⟨rfl,hb41⟩
 have FB41:=hid (below2 FB40.out hb41);have FO41:=hid (kept_at19 hb41 FO40.out);clear FO40;have FH41:=hid (kept_at19 hb41 FH40.out);clear FH40;have FM41:=hid (own_same FM40.out hb41);clear FM40;have FN41:=hid (own_same FN40.out hb41);clear FN40;have FG41:=hid (kept_at19 hb41 FG40.out);clear FG40;have FL41:=hid (own_same FL40.out hb41);clear FL40;have FT41:=hid (FT40.out.kept hb41);clear FT40;clear hb41;obtain ⟨w42,hW42⟩: ∃ X,w41.alloc (.cells #[.string ⟨#[113]⟩] 9)=X:=⟨_,rfl⟩
 have hb42:Below w41.heap.size w41 w42:=by rw [← hW42];exact (Below.refl _ w41).alloc (Nat.le_refl _) _
 have hx42:w42.heap[w41.heap.size]? = some (.cells #[.string ⟨#[113]⟩] 9 (0,0)):=by rw [← hW42];exact heap_alloc_new w41 _
 have FB42:=hid (below2 FB41.out hb42);have FO42:=hid (kept_at19 hb42 FO41.out);clear FO41;have FH42:=hid (kept_at19 hb42 FH41.out);clear FH41;have FM42:=hid (own_same FM41.out hb42);clear FM41;have FN42:=hid (own_same FN41.out hb42);clear FN41;have FG42:=hid (kept_at19 hb42 FG41.out);clear FG41;have FL42:=hid (own_same FL41.out hb42);clear FL41;have FT42:=hid (FT41.out.kept hb42);clear FT41;have HW42:=hid hW42;have HX42:=hid hx42;clear hW42 hb42 hx42
 have HAl1:=hid (allows19_at (w25.heap.size) (putsT 0 0 (rtsV [115] [118] false [] [[120]] false) (putsT 9 0 (rtsV [115] [117] true [] [[42]] true) [])) (⟨#[115]⟩:ByteArray) (⟨#[117]⟩:ByteArray) (⟨#[71,69,84]⟩:ByteArray) true [[113]] 0 _ pn19_a1 (by decide) (by decide) (by decide) (by decide) (.slice (some ⟨w41.heap.size,0,none⟩) 1 1) w42 FT42.out (by rw [← HW42.out];exact txl_lit19 w41 [[113]] 1 rfl (by decide)))
 go_wp2_with fail
 rw [HW42.out];refine HAl1.out.mono ?_;rintro e w43 ⟨rfl,hb43⟩
 have FB43:=hid (below2 FB42.out hb43);have FO43:=hid (kept_at19 hb43 FO42.out);clear FO42;have FH43:=hid (kept_at19 hb43 FH42.out);clear FH42;have FM43:=hid (own_same FM42.out hb43);clear FM42;have FN43:=hid (own_same FN42.out hb43);clear FN42;have FG43:=hid (kept_at19 hb43 FG42.out);clear FG42;have FL43:=hid (own_same FL42.out hb43);clear FL42;have FT43:=hid (FT42.out.kept hb43);clear FT42;clear hb43;obtain ⟨w44,hW44⟩: ∃ X,w43.alloc (.cells #[.string ⟨#[120]⟩] 9)=X:=⟨_,rfl⟩
 have hb44:Below w43.heap.size w43 w44:=by rw [← hW44];exact (Below.refl _ w43).alloc (Nat.le_refl _) _
 have hx44:w44.heap[w43.heap.size]? = some (.cells #[.string ⟨#[120]⟩] 9 (0,0)):=by rw [← hW44];exact heap_alloc_new w43 _
 have FB44:=hid (below2 FB43.out hb44);have FO44:=hid (kept_at19 hb44 FO43.out);clear FO43;have FH44:=hid (kept_at19 hb44 FH43.out);clear FH43;have FM44:=hid (own_same FM43.out hb44);clear FM43;have FN44:=hid (own_same FN43.out hb44);clear FN43;have FG44:=hid (kept_at19 hb44 FG43.out);clear FG43;have FL44:=hid (own_same FL43.out hb44);clear FL43;have FT44:=hid (FT43.out.kept hb44);clear FT43;have HW44:=hid hW44;have HX44:=hid hx44;clear hW44 hb44 hx44
 have HAl2:=hid (allows19_at (w25.heap.size) (putsT 0 0 (rtsV [115] [118] false [] [[120]] false) (putsT 9 0 (rtsV [115] [117] true [] [[42]] true) [])) (⟨#[115]⟩:ByteArray) (⟨#[118]⟩:ByteArray) (⟨#[71,69,84]⟩:ByteArray) false [[120]] 0 _ pn19_a2 (by decide) (by decide) (by decide) (by decide) (.slice (some ⟨w43.heap.size,0,none⟩) 1 1) w44 FT44.out (by rw [← HW44.out];exact txl_lit19 w43 [[120]] 1 rfl (by decide)))
 go_wp2_with fail
 rw [HW44.out];refine HAl2.out.mono ?_;rintro e w45 ⟨rfl,hb45⟩
 have FB45:=hid (below2 FB44.out hb45);have FO45:=hid (kept_at19 hb45 FO44.out);clear FO44;have FH45:=hid (kept_at19 hb45 FH44.out);clear FH44;have FM45:=hid (own_same FM44.out hb45);clear FM44;have FN45:=hid (own_same FN44.out hb45);clear FN44;have FG45:=hid (kept_at19 hb45 FG44.out);clear FG44;have FL45:=hid (own_same FL44.out hb45);clear FL44;have FT45:=hid (FT44.out.kept hb45);clear FT44;clear hb45;have HLe0:=hid (len19_at (w25.heap.size) (putsT 0 0 (rtsV [115] [118] false [] [[120]] false) (putsT 9 0 (rtsV [115] [117] true [] [[42]] true) [])) 0 _ pn19_l0 (by decide) w45 FT45.out)
 go_wp2_with fail
 refine HLe0.out.mono ?_;rintro e w46 ⟨rfl,hb46⟩
 have FB46:=hid (below2 FB45.out hb46);have FO46:=hid (kept_at19 hb46 FO45.out);clear FO45;have FH46:=hid (kept_at19 hb46 FH45.out);clear FH45;have FM46:=hid (own_same FM45.out hb46);clear FM45;have FN46:=hid (own_same FN45.out hb46);clear FN45;have FG46:=hid (kept_at19 hb46 FG45.out);clear FG45;have FL46:=hid (own_same FL45.out hb46);clear FL45;have FT46:=hid (FT45.out.kept hb46);clear FT45;clear hb46;have HLe9:=hid (len19_at (w25.heap.size) (putsT 0 0 (rtsV [115] [118] false [] [[120]] false) (putsT 9 0 (rtsV [115] [117] true [] [[42]] true) [])) 9 _ pn19_l9 (by decide) w46 FT46.out)
 go_wp2_with fail
 refine HLe9.out.mono ?_;rintro e w47 ⟨rfl,hb47⟩
 have FB47:=hid (below2 FB46.out hb47);have FO47:=hid (kept_at19 hb47 FO46.out);clear FO46;have FH47:=hid (kept_at19 hb47 FH46.out);clear FH46;have FM47:=hid (own_same FM46.out hb47);clear FM46;have FN47:=hid (own_same FN46.out hb47);clear FN46;have FG47:=hid (kept_at19 hb47 FG46.out);clear FG46;have FL47:=hid (own_same FL46.out hb47);clear FL46;have FT47:=hid (FT46.out.kept hb47);clear FT46;clear hb47;have HKn:=hid (known19_any w47 (HG.out.kept FB47.out))
 go_wp2_with fail
 refine HKn.out.mono ?_;rintro e w48 ⟨rfl,hb48⟩
 have HFin:=hid (below2 FB47.out hb48);clear hb48
 go_wp2_with fail
 go_ret
 exact ⟨rfl,HFin.out⟩

end Go.Proofs.YtolioccofbhliaaGreatDoor
