/-
  Walks and plain facts that this claim leans on, put together out of 3 texts: Sh, Xj, Dz.
-/
import Derived.Test.YtamockkjbkibdaaGreatDoorProg
import Derived.Test.YtamockkjbkibdaaGreatDoorTie
import Derived.Test.YtamockkjbkibdaaGreatDoorQa1
import Derived.Test.YtamockkjbkibdaaGreatDoorQa2
import Derived.Test.YtamockkjbkibdaaGreatDoorQa3
import Derived.Test.YtamockkjbkibdaaGreatDoorQa4
import Derived.Test.YtamockkjbkibdaaGreatDoorQa5
import Derived.Test.YtamockkjbkibdaaGreatDoorQa6
import Derived.Test.YtamockkjbkibdaaGreatDoorQa7
import Derived.Test.YtamockkjbkibdaaGreatDoorQa8
import Derived.Test.YtamockkjbkibdaaGreatDoorQa9
import Derived.Test.YtamockkjbkibdaaGreatDoorQa10
import Derived.Test.YtamockkjbkibdaaGreatDoorQa11
import Derived.Test.YtamockkjbkibdaaGreatDoorQa12
import Derived.Test.YtamockkjbkibdaaGreatDoorQa13
import Derived.Test.YtamockkjbkibdaaGreatDoorQa14
import Derived.Test.YtamockkjbkibdaaGreatDoorQa15
import Derived.Test.YtamockkjbkibdaaGreatDoorQa16
import Derived.Test.YtamockkjbkibdaaGreatDoorQa17
import Derived.Test.YtamockkjbkibdaaGreatDoorQa18
import Derived.Test.YtamockkjbkibdaaGreatDoorQa19
import Derived.Test.YtamockkjbkibdaaGreatDoorQa20
import Derived.Test.YtamockkjbkibdaaGreatDoorQa21
import Derived.Test.YtamockkjbkibdaaGreatDoorQa22
import Derived.Test.YtamockkjbkibdaaGreatDoorQa23
import Derived.Test.YtamockkjbkibdaaGreatDoorQa24
import Derived.Test.YtamockkjbkibdaaGreatDoorQa25
import Derived.Test.YtamockkjbkibdaaGreatDoorQa26
import Derived.Test.YtamockkjbkibdaaGreatDoorQa27
import Derived.Test.YtamockkjbkibdaaGreatDoorQa28
import Derived.Test.YtamockkjbkibdaaGreatDoorQj1
import Derived.Test.YtamockkjbkibdaaGreatDoorQj2
import Derived.Test.YtamockkjbkibdaaGreatDoorQj3
import Derived.Test.YtamockkjbkibdaaGreatDoorQj4
import Derived.Test.YtamockkjbkibdaaGreatDoorQj5
import Derived.Test.YtamockkjbkibdaaGreatDoorQj6
import Derived.Test.YtamockkjbkibdaaGreatDoorQj7
import Derived.Shelf.Strings.Builder1
import Derived.Shelf.Strings.Builder2
import Derived.Shelf.Strings.OnBuilder
import Derived.Shelf.Strings.Trim
import Derived.Shelf.Small.Utf8
import Derived.Shelf.Small.Strs
import Derived.Shelf.Small.Wraps
import Derived.Shelf.Strings.BuilderF
import Derived.Shelf.Strings.BuilderK
import Derived.Shelf.Strings.BuilderRune
import Derived.Shelf.Utf8.AppendRune
import Derived.Shelf.Utf8.AppendRunePlain
import Derived.Shelf.Strings.Builder2Cap
import Derived.Shelf.Strconv.Itoa0
import Derived.Shelf.Strconv.Itoa1
import Derived.Shelf.LaysM
import Derived.Shelf.Strconv.Itoa2
import Derived.Shelf.Strconv.Itoa3
import Derived.Shelf.Strings.Search1
import Derived.Shelf.Strings.Search2
import Derived.Shelf.Strings.Search3
import Derived.Shelf.Strings.Cut
import Derived.Shelf.Strings.Count
import Derived.Shelf.Strings.Shaped
import Derived.Shelf.Strings.LastIndex
import Derived.Shelf.Strings.Prefix
import Derived.Shelf.Strings.Split
import Derived.Shelf.Strings.Replace
import Derived.Shelf.Strings.Runes
import Derived.Shelf.Strings.IndexAny
import Derived.Shelf.Strings.AsciiSet
import Derived.Shelf.Strings.IndexAnyAll
import Derived.Shelf.Unicode.DecodeSlow
import Derived.Ground.Names2Prog
import Derived.Shelf.Slices.Clone
import Derived.Ground.SlgnProg
import Derived.Shelf.SlicesE.Clone
import Derived.WalkKit
import Derived.Lib.Strings
import Derived.Lib.UnsafeStr
import Derived.Laws.IdiomStrings
import Derived.Laws.AppendOwn
import Derived.Laws.BitsAllLaws
import Derived.Lib.Bytealg
import Derived.Lib.BufferMore
import Derived.WalkSpells
import Derived.WalkLawsBesides
import Derived.Lib.SlTrimSet
import Derived.Lib.Join
import Derived.Lib.IndexMore
import Derived.Laws.OwnMore
import Derived.Below
import Derived.WalkSmall
import Derived.Lib.SmallJoins
import Derived.Deep.QuietTactic
import Derived.BigQuiet
import Derived.Deep.LoopGhost
import Derived.Deep.MidRow
import Derived.Shelf.Strings.SlTrimAscii
import Derived.Stop.LaidErr
import Derived.LaidMore
import Derived.Lib.LastIndexByte
import Derived.Lib.AppendIntMem
set_option linter.unusedSimpArgs false
set_option linter.unusedVariables false

namespace Go.Proofs
open Go.Shelf

def Tryz.laysM145_ren : Go.Shelf.Ren := ⟨fun | 145 => 67 | 220 => 113 | 219 => 149 | 217 => 178 | 225 => 179 | 224 => 180 | 267 => 181 | 266 => 210 | 314 => 211 | n => n, fun | 9 => 9 | 4 => 4 | 59 => 71 | 3 => 3 | 5 => 5 | 46 => 115 | 146 => 185 | 51 => 173 | n => n, fun | 1 => 0 | n => n⟩

theorem Tryz.laysM145 : Go.Proofs.LaysM.n145 Tryz.prog Tryz.laysM145_ren := {
 mixed := by kernel_rfl
 f145 := Tryz.func67.trans (congrArg some (by kernel_rfl))
 f217 := Tryz.func178.trans (congrArg some (by kernel_rfl))
 f219 := Tryz.func149.trans (congrArg some (by kernel_rfl))
 f220 := Tryz.func113.trans (congrArg some (by kernel_rfl))
 f224 := Tryz.func180.trans (congrArg some (by kernel_rfl))
 f225 := Tryz.func179.trans (congrArg some (by kernel_rfl))
 f266 := Tryz.func210.trans (congrArg some (by kernel_rfl))
 f267 := Tryz.func181.trans (congrArg some (by kernel_rfl))
 f314 := Tryz.func211.trans (congrArg some (by kernel_rfl))
 t3 := Tryz.underlying3
 a3 := Tryz.isAgg3
 z3 := Tryz.sizeOf3
 v3 := Tryz.zeroValue3
 t4 := Tryz.underlying4
 a4 := Tryz.isAgg4
 z4 := Tryz.sizeOf4
 v4 := Tryz.zeroValue4
 t5 := Tryz.underlying5
 a5 := Tryz.isAgg5
 z5 := Tryz.sizeOf5
 v5 := Tryz.zeroValue5
 t9 := Tryz.underlying9
 a9 := Tryz.isAgg9
 z9 := Tryz.sizeOf9
 v9 := Tryz.zeroValue9
 t46 := Tryz.underlying115
 a46 := Tryz.isAgg115
 z46 := Tryz.sizeOf115
 v46 := Tryz.zeroValue115
 t51 := Tryz.underlying173
 a51 := Tryz.isAgg173
 z51 := Tryz.sizeOf173
 v51 := Tryz.zeroValue173
 t59 := Tryz.underlying71
 a59 := Tryz.isAgg71
 z59 := Tryz.sizeOf71
 v59 := Tryz.zeroValue71
 t146 := Tryz.underlying185
 a146 := Tryz.isAgg185
 z146 := Tryz.sizeOf185
 v146 := Tryz.zeroValue185
 g1 := by kernel_rfl
 i3 := by kernel_rfl
 i4 := by kernel_rfl
 i5 := by kernel_rfl
 i9 := by kernel_rfl
 i46 := by kernel_rfl
 i51 := by kernel_rfl
 i59 := by kernel_rfl
 i146 := by kernel_rfl
 m1 := by kernel_rfl
 s1_3 := fun w h => Go.Proofs.cell_of_shapedOpen_int (zero := #[.int .i64 0]) (t := 3) h (of_decide_eq_true (by kernel_rfl)) (by kernel_rfl) rfl (by kernel_rfl) (by kernel_rfl) Tryz.underlying3 }

end Go.Proofs

namespace Go.Proofs.YtamockkjbkibdaaGreatDoor
open Go.RowKit

def G5 (w : World) : Prop := ∃ m, w.cell? ⟨0, 0, none⟩ = some (.int .i64 m)

end Go.Proofs.YtamockkjbkibdaaGreatDoor

namespace Go.Proofs.YtamockkjbkibdaaGreatDoor
open Go.RowKit

def laid7 : List (String × DataW Unit) := [("math/bits.deBruijn32tab", Rows.laid_math_bits_deBruijn32tab), ("math/bits.deBruijn64tab", Rows.laid_math_bits_deBruijn64tab), ("internal/strconv.uint64pow10", Rows.laid_internal_strconv_uint64pow10), ("unicode/utf8.acceptRanges", Rows.laid_unicode_utf8_acceptRanges), ("unicode/utf8.first", Rows.laid_unicode_utf8_first)]

theorem g5_of_shaped {W : World} (hsh : W.ShapedOpen Tryz.prog) : G5 W := Tryz.laysM145.s1_3 W hsh

theorem gd7_of_laid {W : World} (h : laidMetH Tryz.prog laid7 W) (hsh : W.ShapedOpen Tryz.prog) : Gd W := by
 have h' : laidMet Tryz.prog laid7 W := h
 have h2 := h'.tail
 have h3 := h2.tail
 refine ⟨Tryz.laysM145.s1_3 W hsh, ?_, ?_⟩
 ·exact Lib.tabIs_of_head gPow10 (by kernel_rfl) Tryz.underlying182 Tryz.underlying156 (by kernel_rfl) (by kernel_rfl) h3
 ·exact Lib.tabIs_of_head gDB64 (by kernel_rfl) Tryz.underlying213 Tryz.underlying5 (by kernel_rfl) (by kernel_rfl) h2

theorem ownK : ownKnob Tryz.prog.godebug = none := by kernel_rfl

noncomputable def startW (os : Os) : World :=
 { World.doorLaid Tryz.prog 24 os with heap := (World.doorLaid Tryz.prog 24 os).heap.setIfInBounds 2 (.cells (Pinned.utf8FirstZ.map fun (n : Nat) => Value.int .u8 (n : Int)).toArray 187 (0, 0)) }

theorem door_met (os : Os) (args : Array Value) : laidMetH Tryz.prog laid7 ((startW os).forCall (fun _ _ => 0) ⟨#[], args, []⟩).memory :=
 laidMetH_of_parts3 (fuel := 8) (laidMet_of_run' 8 (by kernel_rfl) (by kernel_rfl)) (by kernel_rfl) (by kernel_rfl)

end Go.Proofs.YtamockkjbkibdaaGreatDoor
