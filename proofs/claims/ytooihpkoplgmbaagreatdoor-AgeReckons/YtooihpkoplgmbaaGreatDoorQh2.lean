/-
  Walks and plain facts that this claim leans on, put together out of 6 texts: Xi, Sh, Wj, Xj, Xk, Xm.
-/
import Derived.Test.YtooihpkoplgmbaaGreatDoorProg
import Derived.Test.YtooihpkoplgmbaaGreatDoorQh1
import Derived.WalkKit
import Derived.Lib.Strings
import Derived.Lib.UnsafeStr
import Derived.Laws.IdiomStrings
import Derived.Laws.AppendOwn
import Derived.Laws.BitsAllLaws
import Derived.Lib.Bytealg
import Derived.Lib.BufferMore
import Derived.WalkSpells
import Derived.WalkLawsBesides
import Derived.Lib.SlTrimSet
import Derived.Lib.Join
import Derived.Lib.IndexMore
import Derived.Laws.OwnMore
import Derived.Below
import Derived.WalkSmall
import Derived.Lib.SmallJoins
import Derived.Deep.QuietTactic
import Derived.BigQuiet
import Derived.Deep.LoopGhost
import Derived.Deep.MidRow
import Derived.Shelf.Strings.Builder1
import Derived.Shelf.Strings.Builder2
import Derived.Shelf.Strings.OnBuilder
import Derived.Shelf.Strings.Trim
import Derived.Shelf.Small.Utf8
import Derived.Shelf.Small.Bits
import Derived.Shelf.Small.Strs
import Derived.Shelf.Small.Wraps
import Derived.Shelf.Strings.BuilderF
import Derived.Shelf.Strings.BuilderK
import Derived.Shelf.Utf8.RuneCount
import Derived.Shelf.Strings.Builder2Cap
import Derived.Shelf.Strconv.Itoa0
import Derived.Shelf.Strconv.Itoa1
import Derived.Shelf.LaysM
import Derived.Shelf.Strconv.Itoa2
import Derived.Shelf.Strconv.Itoa3
import Derived.Shelf.Strings.Search1
import Derived.Shelf.Strings.Search2
import Derived.Shelf.Strings.Search3
import Derived.Shelf.Strings.Cut
import Derived.Shelf.Strings.Count
import Derived.Shelf.Strings.Shaped
import Derived.Shelf.Sort.Plain
import Derived.Shelf.Strings.LastIndex
import Derived.Shelf.Strings.Prefix
import Derived.Shelf.Strings.Split
import Derived.Shelf.Strings.Replace
import Derived.Shelf.Strings.SplitShaped
import Derived.Shelf.Unicode.Decode
import Derived.Shelf.Strings.Runes
import Derived.Shelf.Strings.RuneCount
import Derived.Shelf.Strings.IndexAny
import Derived.Shelf.Strings.AsciiSet
import Derived.Shelf.Strings.IndexAnyAll
import Derived.Shelf.Strings.Explode
import Derived.Shelf.Unicode.DecodeSlow
import Derived.Shelf.Unicode.DecodeAny
import Derived.Shelf.Unicode.DecodeLast
import Derived.Shelf.Strings.FieldsFuncAny
import Derived.Shelf.Strings.FieldsFuncGrows
import Derived.Shelf.Slices.Equal
import Derived.Ground.Names2Prog
import Derived.Shelf.Slices.Clone
import Derived.Shelf.Slices.CompactS
import Derived.Shelf.Slices.Cells
import Derived.Shelf.Slices.In.SortNone
import Derived.Ground.SlgnProg
import Derived.Shelf.SlicesE.Equal
import Derived.Shelf.SlicesE.Clone
import Derived.Shelf.Strings.SlTrimAscii
import Derived.Deep.CutRange
import Derived.Laws.Rows
set_option linter.unusedSimpArgs false
set_option linter.unusedVariables false

namespace Go.Proofs.YtooihpkoplgmbaaGreatDoor
open Go.RowKit

def hdVal (n v : ByteArray) : Value := .agg #[.string n, .string v]

theorem infoHd : (Tryz.prog.info? 85).map (fun i => (i.zero, i.size, i.bytes)) = some (some (.agg #[.string ByteArray.empty, .string ByteArray.empty]), 2, 32) := by kernel_rfl

theorem infoTx : (Tryz.prog.info? 9).map (fun i => (i.zero, i.size, i.bytes)) = some (some (.string ByteArray.empty), 1, 16) := by kernel_rfl

theorem info3 {i : Option TypeInfo} {z : Value} {a b : Nat} (h : i.map (fun i => (i.zero, i.size, i.bytes)) = some (some z, a, b)) : ∃ j, i = some j ∧ j.zero = some z ∧ j.size = a ∧ j.bytes = b := by
 cases i with
 | none => cases h
 | some j =>
  simp at h
  exact ⟨j, rfl, h.1, h.2.1, h.2.2⟩

end Go.Proofs.YtooihpkoplgmbaaGreatDoor

namespace Go.Proofs
open Go.Shelf

def Tryz.lays156_ren : Go.Shelf.Ren := ⟨fun | 156 => 83 | 165 => 127 | 166 => 128 | 169 => 129 | 240 => 162 | 241 => 163 | 276 => 188 | 277 => 189 | n => n, fun | 31 => 29 | 9 => 9 | 3 => 3 | 4 => 4 | 0 => 0 | 20 => 20 | 72 => 165 | 76 => 169 | 70 => 163 | 37 => 116 | 75 => 168 | 127 => 192 | 164 => 213 | 5 => 5 | 80 => 171 | n => n, fun | n => n⟩

theorem Tryz.lays156 : Go.Proofs.Lays.n156 Tryz.prog Tryz.lays156_ren := {
 mixed := by kernel_rfl
 f156 := Tryz.func83.trans (congrArg some (by kernel_rfl))
 f165 := Tryz.func127.trans (congrArg some (by kernel_rfl))
 f166 := Tryz.func128.trans (congrArg some (by kernel_rfl))
 f169 := Tryz.func129.trans (congrArg some (by kernel_rfl))
 f240 := Tryz.func162.trans (congrArg some (by kernel_rfl))
 f241 := Tryz.func163.trans (congrArg some (by kernel_rfl))
 f276 := Tryz.func188.trans (congrArg some (by kernel_rfl))
 f277 := Tryz.func189.trans (congrArg some (by kernel_rfl))
 t0 := Tryz.underlying0
 a0 := Tryz.isAgg0
 z0 := Tryz.sizeOf0
 v0 := Tryz.zeroValue0
 t3 := Tryz.underlying3
 a3 := Tryz.isAgg3
 z3 := Tryz.sizeOf3
 v3 := Tryz.zeroValue3
 t4 := Tryz.underlying4
 a4 := Tryz.isAgg4
 z4 := Tryz.sizeOf4
 v4 := Tryz.zeroValue4
 t9 := Tryz.underlying9
 a9 := Tryz.isAgg9
 z9 := Tryz.sizeOf9
 v9 := Tryz.zeroValue9
 t20 := Tryz.underlying20
 a20 := Tryz.isAgg20
 z20 := Tryz.sizeOf20
 v20 := Tryz.zeroValue20
 t31 := Tryz.underlying29
 a31 := Tryz.isAgg29
 z31 := Tryz.sizeOf29
 v31 := Tryz.zeroValue29
 t37 := Tryz.underlying116
 a37 := Tryz.isAgg116
 z37 := Tryz.sizeOf116
 v37 := Tryz.zeroValue116
 t70 := Tryz.underlying163
 a70 := Tryz.isAgg163
 z70 := Tryz.sizeOf163
 v70 := Tryz.zeroValue163
 t72 := Tryz.underlying165
 a72 := Tryz.isAgg165
 z72 := Tryz.sizeOf165
 v72 := Tryz.zeroValue165
 t75 := Tryz.underlying168
 a75 := Tryz.isAgg168
 z75 := Tryz.sizeOf168
 v75 := Tryz.zeroValue168
 t76 := Tryz.underlying169
 a76 := Tryz.isAgg169
 z76 := Tryz.sizeOf169
 v76 := Tryz.zeroValue169
 t127 := Tryz.underlying192
 a127 := Tryz.isAgg192
 z127 := Tryz.sizeOf192
 v127 := Tryz.zeroValue192
 t164 := Tryz.underlying213
 a164 := Tryz.isAgg213
 z164 := Tryz.sizeOf213
 v164 := Tryz.zeroValue213 }

theorem Tryz.Builder_Extra_156 : Builder.Extra Tryz.prog Tryz.lays156_ren := {
 sizeBuilder := by kernel_rfl
 liesBuilder := by kernel_rfl
 t5 := Tryz.underlying5
 a5 := Tryz.isAgg5
 z5 := Tryz.sizeOf5
 v5 := Tryz.zeroValue5
 infoByte := by kernel_rfl
 cellsByte := by kernel_rfl
 sizeByte := by kernel_rfl
 neB5 := by decide }

open Go.RowKit in
theorem Tryz.strings_Join_none (a : Option Addr) (c : Nat) (sep : ByteArray) (w : World) :
  Calls Tryz.prog 83 #[.slice a 0 c, .string sep] w fun e w' => e = .returned (.string ⟨#[]⟩) ∧ w' = w := Any.strings_Join_none Tryz.lays156 Tryz.Builder_Extra_156 a c sep w

open Go.RowKit in
theorem Tryz.strings_Join (bk o c : Nat) (xs : List ByteArray) (sep : ByteArray) (w : World) (hcells : ∀ (j : Nat) x, xs[j]? = some x → w.cell? ⟨bk, o + j, none⟩ = some (.string x)) (hbk : bk < w.heap.size) (hN : xs.length ≤ 140737488355328) (hcap : xs.length ≤ c) (hlen : (Lib.join (xs.map (·.data.toList)) sep.data.toList).length ≤ 140737488355328) :
  Calls Tryz.prog 83 #[.slice (some ⟨bk, o, none⟩) xs.length c, .string sep] w fun e w' => e = .returned (.string ⟨(Lib.join (xs.map (·.data.toList)) sep.data.toList).toArray⟩) ∧ Below w.heap.size w w' := Any.strings_Join Tryz.lays156 Tryz.Builder_Extra_156 bk o c xs sep w hcells hbk hN hcap hlen

def Tryz.lays160_ren : Go.Shelf.Ren := ⟨fun | 160 => 74 | 232 => 107 | 231 => 106 | 227 => 108 | 234 => 110 | 233 => 109 | 236 => 112 | 235 => 111 | 228 => 151 | 271 => 153 | 151 => 87 | 197 => 152 | 120 => 184 | 152 => 134 | 260 => 183 | 137 => 166 | 119 => 167 | 224 => 132 | 225 => 131 | 217 => 130 | 266 => 164 | n => n, fun | 9 => 9 | 4 => 4 | 3 => 3 | 5 => 5 | 117 => 145 | 116 => 144 | 0 => 0 | 124 => 148 | 21 => 21 | 105 => 184 | 46 => 119 | 119 => 234 | 139 => 237 | 138 => 236 | n => n, fun | 3 => 1 | 4 => 2 | n => n⟩

theorem Tryz.lays160 : Go.Proofs.Lays.n160 Tryz.prog Tryz.lays160_ren := {
 mixed := by kernel_rfl
 f119 := Tryz.func167.trans (congrArg some (by kernel_rfl))
 f120 := Tryz.func184.trans (congrArg some (by kernel_rfl))
 f137 := Tryz.func166.trans (congrArg some (by kernel_rfl))
 f151 := Tryz.func87.trans (congrArg some (by kernel_rfl))
 f152 := Tryz.func134.trans (congrArg some (by kernel_rfl))
 f160 := Tryz.func74.trans (congrArg some (by kernel_rfl))
 f197 := Tryz.func152.trans (congrArg some (by kernel_rfl))
 f217 := Tryz.func130.trans (congrArg some (by kernel_rfl))
 f224 := Tryz.func132.trans (congrArg some (by kernel_rfl))
 f225 := Tryz.func131.trans (congrArg some (by kernel_rfl))
 f227 := Tryz.func108.trans (congrArg some (by kernel_rfl))
 f228 := Tryz.func151.trans (congrArg some (by kernel_rfl))
 f231 := Tryz.func106.trans (congrArg some (by kernel_rfl))
 f232 := Tryz.func107.trans (congrArg some (by kernel_rfl))
 f233 := Tryz.func109.trans (congrArg some (by kernel_rfl))
 f234 := Tryz.func110.trans (congrArg some (by kernel_rfl))
 f235 := Tryz.func111.trans (congrArg some (by kernel_rfl))
 f236 := Tryz.func112.trans (congrArg some (by kernel_rfl))
 f260 := Tryz.func183.trans (congrArg some (by kernel_rfl))
 f266 := Tryz.func164.trans (congrArg some (by kernel_rfl))
 f271 := Tryz.func153.trans (congrArg some (by kernel_rfl))
 t0 := Tryz.underlying0
 a0 := Tryz.isAgg0
 z0 := Tryz.sizeOf0
 v0 := Tryz.zeroValue0
 t3 := Tryz.underlying3
 a3 := Tryz.isAgg3
 z3 := Tryz.sizeOf3
 v3 := Tryz.zeroValue3
 t4 := Tryz.underlying4
 a4 := Tryz.isAgg4
 z4 := Tryz.sizeOf4
 v4 := Tryz.zeroValue4
 t5 := Tryz.underlying5
 a5 := Tryz.isAgg5
 z5 := Tryz.sizeOf5
 v5 := Tryz.zeroValue5
 t9 := Tryz.underlying9
 a9 := Tryz.isAgg9
 z9 := Tryz.sizeOf9
 v9 := Tryz.zeroValue9
 t21 := Tryz.underlying21
 a21 := Tryz.isAgg21
 z21 := Tryz.sizeOf21
 v21 := Tryz.zeroValue21
 t46 := Tryz.underlying119
 a46 := Tryz.isAgg119
 z46 := Tryz.sizeOf119
 v46 := Tryz.zeroValue119
 t105 := Tryz.underlying184
 a105 := Tryz.isAgg184
 z105 := Tryz.sizeOf184
 v105 := Tryz.zeroValue184
 t116 := Tryz.underlying144
 a116 := Tryz.isAgg144
 z116 := Tryz.sizeOf144
 t117 := Tryz.underlying145
 a117 := Tryz.isAgg145
 z117 := Tryz.sizeOf145
 v117 := Tryz.zeroValue145
 t119 := Tryz.underlying234
 a119 := Tryz.isAgg234
 z119 := Tryz.sizeOf234
 t124 := Tryz.underlying148
 a124 := Tryz.isAgg148
 z124 := Tryz.sizeOf148
 v124 := Tryz.zeroValue148
 t138 := Tryz.underlying236
 a138 := Tryz.isAgg236
 z138 := Tryz.sizeOf236
 v138 := Tryz.zeroValue236
 t139 := Tryz.underlying237
 a139 := Tryz.isAgg237
 z139 := Tryz.sizeOf237
 v139 := Tryz.zeroValue237
 g3 := by kernel_rfl
 g4 := by kernel_rfl }

def Tryz.lays103_ren : Go.Shelf.Ren := ⟨fun | 103 => 113 | 210 => 154 | 206 => 185 | n => n, fun | 9 => 9 | 4 => 4 | 24 => 95 | 3 => 3 | n => n, fun | n => n⟩

theorem Tryz.lays103 : Go.Proofs.Lays.n103 Tryz.prog Tryz.lays103_ren := {
 mixed := by kernel_rfl
 f103 := Tryz.func113.trans (congrArg some (by kernel_rfl))
 f206 := Tryz.func185.trans (congrArg some (by kernel_rfl))
 f210 := Tryz.func154.trans (congrArg some (by kernel_rfl))
 t3 := Tryz.underlying3
 a3 := Tryz.isAgg3
 z3 := Tryz.sizeOf3
 v3 := Tryz.zeroValue3
 t4 := Tryz.underlying4
 a4 := Tryz.isAgg4
 z4 := Tryz.sizeOf4
 v4 := Tryz.zeroValue4
 t9 := Tryz.underlying9
 a9 := Tryz.isAgg9
 z9 := Tryz.sizeOf9
 v9 := Tryz.zeroValue9
 t24 := Tryz.underlying95
 a24 := Tryz.isAgg95
 z24 := Tryz.sizeOf95
 v24 := Tryz.zeroValue95 }

open Go.RowKit in
theorem Tryz.strings_CutPrefix (s p : ByteArray) (w : World) :
  Calls Tryz.prog 113 #[.string s, .string p] w fun e w' => e = .returned (.tuple #[.string ⟨(Lib.trimPrefix s.data.toList p.data.toList).toArray⟩, .bool (Lib.hasPrefix s.data.toList p.data.toList)]) ∧ w' = w := Any.strings_CutPrefix Tryz.lays103 s p w

def Tryz.lays104_ren : Go.Shelf.Ren := ⟨fun | 104 => 114 | 211 => 155 | 207 => 186 | n => n, fun | 9 => 9 | 4 => 4 | 24 => 95 | 3 => 3 | n => n, fun | n => n⟩

theorem Tryz.lays104 : Go.Proofs.Lays.n104 Tryz.prog Tryz.lays104_ren := {
 mixed := by kernel_rfl
 f104 := Tryz.func114.trans (congrArg some (by kernel_rfl))
 f207 := Tryz.func186.trans (congrArg some (by kernel_rfl))
 f211 := Tryz.func155.trans (congrArg some (by kernel_rfl))
 t3 := Tryz.underlying3
 a3 := Tryz.isAgg3
 z3 := Tryz.sizeOf3
 v3 := Tryz.zeroValue3
 t4 := Tryz.underlying4
 a4 := Tryz.isAgg4
 z4 := Tryz.sizeOf4
 v4 := Tryz.zeroValue4
 t9 := Tryz.underlying9
 a9 := Tryz.isAgg9
 z9 := Tryz.sizeOf9
 v9 := Tryz.zeroValue9
 t24 := Tryz.underlying95
 a24 := Tryz.isAgg95
 z24 := Tryz.sizeOf95
 v24 := Tryz.zeroValue95 }

open Go.RowKit in
theorem Tryz.strings_CutSuffix (s p : ByteArray) (w : World) (hs : s.size ≤ 9223372036854775807) :
  Calls Tryz.prog 114 #[.string s, .string p] w fun e w' => e = .returned (.tuple #[.string ⟨(Lib.trimSuffix s.data.toList p.data.toList).toArray⟩, .bool (Lib.hasSuffix s.data.toList p.data.toList)]) ∧ w' = w := Any.strings_CutSuffix Tryz.lays104 s p w hs

def Tryz.lays145_ren : Go.Shelf.Ren := ⟨fun | 145 => 32 | 220 => 58 | 219 => 86 | 217 => 130 | 225 => 131 | 224 => 132 | 267 => 133 | 266 => 164 | 314 => 165 | n => n, fun | 9 => 9 | 4 => 4 | 59 => 64 | 3 => 3 | 5 => 5 | 46 => 119 | 146 => 193 | 51 => 160 | n => n, fun | 1 => 0 | n => n⟩

theorem Tryz.lays145 : Go.Proofs.Lays.n145 Tryz.prog Tryz.lays145_ren := {
 mixed := by kernel_rfl
 f145 := Tryz.func32.trans (congrArg some (by kernel_rfl))
 f217 := Tryz.func130.trans (congrArg some (by kernel_rfl))
 f219 := Tryz.func86.trans (congrArg some (by kernel_rfl))
 f220 := Tryz.func58.trans (congrArg some (by kernel_rfl))
 f224 := Tryz.func132.trans (congrArg some (by kernel_rfl))
 f225 := Tryz.func131.trans (congrArg some (by kernel_rfl))
 f266 := Tryz.func164.trans (congrArg some (by kernel_rfl))
 f267 := Tryz.func133.trans (congrArg some (by kernel_rfl))
 f314 := Tryz.func165.trans (congrArg some (by kernel_rfl))
 t3 := Tryz.underlying3
 a3 := Tryz.isAgg3
 z3 := Tryz.sizeOf3
 v3 := Tryz.zeroValue3
 t4 := Tryz.underlying4
 a4 := Tryz.isAgg4
 z4 := Tryz.sizeOf4
 v4 := Tryz.zeroValue4
 t5 := Tryz.underlying5
 a5 := Tryz.isAgg5
 z5 := Tryz.sizeOf5
 v5 := Tryz.zeroValue5
 t9 := Tryz.underlying9
 a9 := Tryz.isAgg9
 z9 := Tryz.sizeOf9
 v9 := Tryz.zeroValue9
 t46 := Tryz.underlying119
 a46 := Tryz.isAgg119
 z46 := Tryz.sizeOf119
 v46 := Tryz.zeroValue119
 t51 := Tryz.underlying160
 a51 := Tryz.isAgg160
 z51 := Tryz.sizeOf160
 v51 := Tryz.zeroValue160
 t59 := Tryz.underlying64
 a59 := Tryz.isAgg64
 z59 := Tryz.sizeOf64
 v59 := Tryz.zeroValue64
 t146 := Tryz.underlying193
 a146 := Tryz.isAgg193
 z146 := Tryz.sizeOf193
 v146 := Tryz.zeroValue193
 g1 := by kernel_rfl }

open Go.RowKit Go.Lib in
theorem Tryz.strings_Cut (s sep : ByteArray) (m : Int) (w : World) (hs : s.size < 4294967281) (hm : w.cell? ⟨0, 0, none⟩ = some (.int .i64 m)) :
  Calls Tryz.prog 32 #[.string s, .string sep] w fun e w' => e = .returned (.tuple #[.string ⟨(Lib.cut s.data.toList sep.data.toList).1.toArray⟩, .string ⟨(Lib.cut s.data.toList sep.data.toList).2.1.toArray⟩, .bool (Lib.cut s.data.toList sep.data.toList).2.2]) ∧ ∃ n, w' = w.drewN n := Any.strings_Cut Tryz.lays145 s sep m w hs hm

def Tryz.laysM145_ren : Go.Shelf.Ren := ⟨fun | 145 => 32 | 220 => 58 | 219 => 86 | 217 => 130 | 225 => 131 | 224 => 132 | 267 => 133 | 266 => 164 | 314 => 165 | n => n, fun | 9 => 9 | 4 => 4 | 59 => 64 | 3 => 3 | 5 => 5 | 46 => 119 | 146 => 193 | 51 => 160 | n => n, fun | 1 => 0 | n => n⟩

theorem Tryz.laysM145 : Go.Proofs.LaysM.n145 Tryz.prog Tryz.laysM145_ren := {
 mixed := by kernel_rfl
 f145 := Tryz.func32.trans (congrArg some (by kernel_rfl))
 f217 := Tryz.func130.trans (congrArg some (by kernel_rfl))
 f219 := Tryz.func86.trans (congrArg some (by kernel_rfl))
 f220 := Tryz.func58.trans (congrArg some (by kernel_rfl))
 f224 := Tryz.func132.trans (congrArg some (by kernel_rfl))
 f225 := Tryz.func131.trans (congrArg some (by kernel_rfl))
 f266 := Tryz.func164.trans (congrArg some (by kernel_rfl))
 f267 := Tryz.func133.trans (congrArg some (by kernel_rfl))
 f314 := Tryz.func165.trans (congrArg some (by kernel_rfl))
 t3 := Tryz.underlying3
 a3 := Tryz.isAgg3
 z3 := Tryz.sizeOf3
 v3 := Tryz.zeroValue3
 t4 := Tryz.underlying4
 a4 := Tryz.isAgg4
 z4 := Tryz.sizeOf4
 v4 := Tryz.zeroValue4
 t5 := Tryz.underlying5
 a5 := Tryz.isAgg5
 z5 := Tryz.sizeOf5
 v5 := Tryz.zeroValue5
 t9 := Tryz.underlying9
 a9 := Tryz.isAgg9
 z9 := Tryz.sizeOf9
 v9 := Tryz.zeroValue9
 t46 := Tryz.underlying119
 a46 := Tryz.isAgg119
 z46 := Tryz.sizeOf119
 v46 := Tryz.zeroValue119
 t51 := Tryz.underlying160
 a51 := Tryz.isAgg160
 z51 := Tryz.sizeOf160
 v51 := Tryz.zeroValue160
 t59 := Tryz.underlying64
 a59 := Tryz.isAgg64
 z59 := Tryz.sizeOf64
 v59 := Tryz.zeroValue64
 t146 := Tryz.underlying193
 a146 := Tryz.isAgg193
 z146 := Tryz.sizeOf193
 v146 := Tryz.zeroValue193
 g1 := by kernel_rfl
 i3 := by kernel_rfl
 i4 := by kernel_rfl
 i5 := by kernel_rfl
 i9 := by kernel_rfl
 i46 := by kernel_rfl
 i51 := by kernel_rfl
 i59 := by kernel_rfl
 i146 := by kernel_rfl
 m1 := by kernel_rfl
 s1_3 := fun w h => Go.Proofs.cell_of_shapedOpen_int (zero := #[.int .i64 0]) (t := 3) h (of_decide_eq_true (by kernel_rfl)) (by kernel_rfl) rfl (by kernel_rfl) (by kernel_rfl) Tryz.underlying3 }

def Tryz.lays190_ren : Go.Shelf.Ren := ⟨fun | 190 => 50 | 125 => 82 | 258 => 81 | 128 => 125 | 129 => 126 | 302 => 116 | 303 => 117 | 304 => 118 | 305 => 119 | 306 => 120 | 307 => 121 | 308 => 122 | 309 => 123 | 310 => 124 | 333 => 156 | 329 => 157 | 330 => 158 | 334 => 159 | 335 => 160 | 336 => 161 | 344 => 187 | n => n, fun | 31 => 29 | 9 => 9 | 3 => 3 | 46 => 119 | 0 => 0 | 51 => 160 | 53 => 162 | 4 => 4 | 183 => 153 | 182 => 152 | 131 => 157 | 5 => 5 | 218 => 186 | 222 => 190 | 228 => 210 | 229 => 211 | n => n, fun | n => n⟩

theorem Tryz.lays190 : Go.Proofs.Lays.n190 Tryz.prog Tryz.lays190_ren := {
 mixed := by kernel_rfl
 f125 := Tryz.func82.trans (congrArg some (by kernel_rfl))
 f128 := Tryz.func125.trans (congrArg some (by kernel_rfl))
 f129 := Tryz.func126.trans (congrArg some (by kernel_rfl))
 f190 := Tryz.func50.trans (congrArg some (by kernel_rfl))
 f258 := Tryz.func81.trans (congrArg some (by kernel_rfl))
 f302 := Tryz.func116.trans (congrArg some (by kernel_rfl))
 f303 := Tryz.func117.trans (congrArg some (by kernel_rfl))
 f304 := Tryz.func118.trans (congrArg some (by kernel_rfl))
 f305 := Tryz.func119.trans (congrArg some (by kernel_rfl))
 f306 := Tryz.func120.trans (congrArg some (by kernel_rfl))
 f307 := Tryz.func121.trans (congrArg some (by kernel_rfl))
 f308 := Tryz.func122.trans (congrArg some (by kernel_rfl))
 f309 := Tryz.func123.trans (congrArg some (by kernel_rfl))
 f310 := Tryz.func124.trans (congrArg some (by kernel_rfl))
 f329 := Tryz.func157.trans (congrArg some (by kernel_rfl))
 f330 := Tryz.func158.trans (congrArg some (by kernel_rfl))
 f333 := Tryz.func156.trans (congrArg some (by kernel_rfl))
 f334 := Tryz.func159.trans (congrArg some (by kernel_rfl))
 f335 := Tryz.func160.trans (congrArg some (by kernel_rfl))
 f336 := Tryz.func161.trans (congrArg some (by kernel_rfl))
 f344 := Tryz.func187.trans (congrArg some (by kernel_rfl))
 t0 := Tryz.underlying0
 a0 := Tryz.isAgg0
 z0 := Tryz.sizeOf0
 v0 := Tryz.zeroValue0
 t3 := Tryz.underlying3
 a3 := Tryz.isAgg3
 z3 := Tryz.sizeOf3
 v3 := Tryz.zeroValue3
 t4 := Tryz.underlying4
 a4 := Tryz.isAgg4
 z4 := Tryz.sizeOf4
 v4 := Tryz.zeroValue4
 t5 := Tryz.underlying5
 a5 := Tryz.isAgg5
 z5 := Tryz.sizeOf5
 v5 := Tryz.zeroValue5
 t9 := Tryz.underlying9
 a9 := Tryz.isAgg9
 z9 := Tryz.sizeOf9
 v9 := Tryz.zeroValue9
 t31 := Tryz.underlying29
 a31 := Tryz.isAgg29
 z31 := Tryz.sizeOf29
 v31 := Tryz.zeroValue29
 t46 := Tryz.underlying119
 a46 := Tryz.isAgg119
 z46 := Tryz.sizeOf119
 v46 := Tryz.zeroValue119
 t51 := Tryz.underlying160
 a51 := Tryz.isAgg160
 z51 := Tryz.sizeOf160
 v51 := Tryz.zeroValue160
 t53 := Tryz.underlying162
 a53 := Tryz.isAgg162
 z53 := Tryz.sizeOf162
 v53 := Tryz.zeroValue162
 t131 := Tryz.underlying157
 a131 := Tryz.isAgg157
 z131 := Tryz.sizeOf157
 v131 := Tryz.zeroValue157
 t182 := Tryz.underlying152
 a182 := Tryz.isAgg152
 z182 := Tryz.sizeOf152
 v182 := Tryz.zeroValue152
 t183 := Tryz.underlying153
 a183 := Tryz.isAgg153
 z183 := Tryz.sizeOf153
 v183 := Tryz.zeroValue153
 t218 := Tryz.underlying186
 a218 := Tryz.isAgg186
 z218 := Tryz.sizeOf186
 v218 := Tryz.zeroValue186
 t222 := Tryz.underlying190
 a222 := Tryz.isAgg190
 z222 := Tryz.sizeOf190
 v222 := Tryz.zeroValue190
 t228 := Tryz.underlying210
 a228 := Tryz.isAgg210
 z228 := Tryz.sizeOf210
 v228 := Tryz.zeroValue210
 t229 := Tryz.underlying211
 a229 := Tryz.isAgg211
 z229 := Tryz.sizeOf211
 v229 := Tryz.zeroValue211 }

open Go.Sort Go.RowKit in
theorem Tryz.slices_Sort_string (blk off cap : Nat) (ss : List (List UInt8)) (w : World) (hH : Holds encStr w blk off ss.toArray) (hblk : blk < w.heap.size) (hsz : ss.length < 4611686018427387904) :
  Calls Tryz.prog 50 #[.slice (some ⟨blk, off, none⟩) ss.length cap] w fun e w' =>
   e = .returned (.tuple #[]) ∧ ∃ n os, w' = grow (putRow encStr (Sort.ahead w n) blk off (ss.mergeSort fun x y => decide (x ≤ y)).toArray) os := Any.slices_Sort_string Tryz.lays190 blk off cap ss w hH hblk hsz

def Tryz.lays194_ren : Go.Shelf.Ren := ⟨fun | 194 => 51 | n => n, fun | 31 => 29 | 9 => 9 | 3 => 3 | 4 => 4 | 0 => 0 | n => n, fun | n => n⟩

theorem Tryz.lays194 : Go.Proofs.Lays.n194 Tryz.prog Tryz.lays194_ren := {
 mixed := by kernel_rfl
 f194 := Tryz.func51.trans (congrArg some (by kernel_rfl))
 t0 := Tryz.underlying0
 a0 := Tryz.isAgg0
 z0 := Tryz.sizeOf0
 v0 := Tryz.zeroValue0
 t3 := Tryz.underlying3
 a3 := Tryz.isAgg3
 z3 := Tryz.sizeOf3
 v3 := Tryz.zeroValue3
 t4 := Tryz.underlying4
 a4 := Tryz.isAgg4
 z4 := Tryz.sizeOf4
 v4 := Tryz.zeroValue4
 t9 := Tryz.underlying9
 a9 := Tryz.isAgg9
 z9 := Tryz.sizeOf9
 v9 := Tryz.zeroValue9
 t31 := Tryz.underlying29
 a31 := Tryz.isAgg29
 z31 := Tryz.sizeOf29
 v31 := Tryz.zeroValue29 }

open Go.RowKit Go.Lib Go.Sort in
theorem Tryz.slices_Compact_string (blk off cap : Nat) (zs : List (List UInt8)) (w : World) (hH : Holds encStr w blk off zs.toArray) (hsz : zs.length ≤ 9223372036854775807) (hcap : zs.length ≤ cap) :
  Calls Tryz.prog 51 #[.slice (some ⟨blk, off, none⟩) zs.length cap] w fun e w' => e = .returned (.slice (some ⟨blk, off, none⟩) (Lib.compact zs).length cap) ∧ ∃ q, w' = putRow encStr (Sort.ahead w q) blk off (Lib.compact zs ++ List.replicate (zs.length - (Lib.compact zs).length) []).toArray := Any.slices_Compact_string Tryz.lays194 blk off cap zs w hH hsz hcap

open Go.RowKit Go.Lib Go.Sort in
theorem Tryz.slices_Compact_string_empty (a : Option Addr) (cap : Nat) (w : World) :
  Calls Tryz.prog 51 #[.slice a 0 cap] w fun e w' => e = .returned (.slice a 0 cap) ∧ w' = w := Any.slices_Compact_string_empty Tryz.lays194 a cap w

open Go.RowKit Go.Sort in
theorem Tryz.slices_Sort_string_none (p : Option Addr) (cap : Nat) (w : World) :
  Calls Tryz.prog 50 #[.slice p 0 cap] w fun e w' => e = .returned (.tuple #[]) ∧ w' = w := Any.slices_Sort_string_none Tryz.lays190 p cap w

end Go.Proofs

namespace Go.Proofs.YtooihpkoplgmbaaGreatDoor
open Go.RowKit

theorem ret_str {l : List UInt8} {t : ByteArray} (h : t.data.toList = l) : Ending.returned (.string t) = .returned (.string ⟨l.toArray⟩) := by
 rw [← h]

theorem strip_extract (s : ByteArray) (k m : Nat) (hkm : k ≤ m) (hm : m ≤ s.size) (hA : (s.data.toList.take k).all blC = true) (hB : (s.data.toList.drop m).all blC = true)
  (h : k = m ∨ ∃ h1 : k < s.size, ∃ h2 : m - 1 < s.size, k < m ∧ blankI (s[k].toNat : Int) = false ∧ blankI (s[m - 1].toNat : Int) = false) : (s.extract k m).data.toList = strip s.data.toList := by
 rw [Lib.extract_data, strip_between s.data.toList k m hkm (by simpa using hm) hA hB ?_, List.drop_take]
 rcases h with h | ⟨h1, h2, h3, c1, c2⟩
 ·exact .inl h
 ·exact .inr ⟨by simpa using h1, by simpa using h2, h3, c1, c2⟩

set_option maxHeartbeats 1000000 in
theorem strip_any (s : ByteArray) (w : World) (hs : s.size ≤ 140737488351232) :
  Calls Tryz.prog 54 #[.string s] w fun e w' => e = .returned (.string ⟨(strip s.data.toList).toArray⟩) ∧ w = w' := by
 go_enter Tryz.func54, Tryz.ntmps54
 go_wp2
 go_loop [3] (fun f => ∃ k : Nat, k ≤ s.size ∧ f = .int .i64 k ∧ (s.data.toList.take k).all blC = true) (fun f => s.size - (intOf f).toNat)
 case atStart => exact ⟨0, Nat.zero_le _, rfl, rfl⟩
 case round =>
  obtain ⟨k, hk, rfl, hall⟩ := hrel
  have HA := hid hall
  clear hall
  by_cases hc : ∃ hlt : k < s.size, blankI (s[k].toNat : Int) = true
  ·obtain ⟨hlt, hbl⟩ := hc
   have HT := hid (take_snoc s k hlt)
   go_wp2_with (go_at_call 84; refine (blank_any _ _).mono ?_; rintro e w' ⟨rfl, rfl⟩)
   go_round
   case rel => exact ⟨k + 1, by omega, by go_num, by rw [HT.out, List.all_append, HA.out]; simp [blC, hbl]⟩
   case measure => simp [intOf]; omega
  ·have hkN : k = s.size ∨ ∃ hlt : k < s.size, blankI (s[k].toNat : Int) = false := by
    by_cases hlt : k < s.size
    ·right; exact ⟨hlt, by
      have := fun h => hc ⟨hlt, h⟩
      simpa using this⟩
    ·left; omega
   have HK := hid hkN
   clear hc
   have hsplit : (k < s.size → False) ∨ ∃ hlt : k < s.size, blankI (s[k].toNat : Int) = false := by
    rcases hkN with h | h
    ·left; intro; omega
    ·right; exact h
   clear hkN
   rcases hsplit with hge | ⟨hlt, hbl⟩
   ·have hge : ¬ k < s.size := hge
    obtain rfl : k = s.size := by omega
    go_wp2
    go_loop [4] (fun t => ∃ m : Nat, s.size ≤ m ∧ m ≤ s.size ∧ t = .int .i64 m ∧ (s.data.toList.drop m).all blC = true) (fun t => (intOf t).toNat)
    case atStart => exact ⟨s.size, Nat.le_refl _, Nat.le_refl _, rfl, by rw [drop_none s s.size (by omega)]; rfl⟩
    case round =>
     obtain ⟨m, hkm, hm, rfl, hallB⟩ := hrel
     have HB := hid hallB
     clear hallB
     by_cases hkm2 : s.size < m
     ·exact absurd hkm2 (by omega)
     ·obtain rfl : m = s.size := by omega
      go_wp2
      go_ret
      refine ⟨ret_str (by have := strip_extract s s.size s.size (Nat.le_refl _) (by omega) HA.out HB.out (.inl rfl); simpa using this), rfl⟩
   ·go_wp2_with (go_at_call 84; refine (blank_any _ _).mono ?_; rintro e w' ⟨rfl, rfl⟩)
    go_loop [4] (fun t => ∃ m : Nat, k ≤ m ∧ m ≤ s.size ∧ t = .int .i64 m ∧ (s.data.toList.drop m).all blC = true) (fun t => (intOf t).toNat)
    case atStart => exact ⟨s.size, by omega, Nat.le_refl _, rfl, by rw [drop_none s s.size (by omega)]; rfl⟩
    case round =>
     obtain ⟨m, hkm, hm, rfl, hallB⟩ := hrel
     have HB := hid hallB
     clear hallB
     by_cases hkm2 : k < m
     ·obtain ⟨q, rfl⟩ : ∃ q, m = q + 1 := ⟨m - 1, by omega⟩
      have hq : q < s.size := by omega
      have HD := hid (drop_cons s q hq)
      by_cases hbq : blankI (s[q].toNat : Int) = true
      ·go_wp2_with (go_at_call 84; refine (blank_any _ _).mono ?_; rintro e w' ⟨rfl, rfl⟩)
       go_round
       case rel => exact ⟨q, by omega, by omega, by go_num, by rw [HD.out, List.all_cons, HB.out]; simp [blC, hbq]⟩
       case measure => simp [intOf]
      ·have hbq' : blankI (s[q].toNat : Int) = false := by simpa using hbq
       clear hbq
       go_wp2_with (go_at_call 84; refine (blank_any _ _).mono ?_; rintro e w' ⟨rfl, rfl⟩)
       go_ret
       refine ⟨ret_str (strip_extract s k (q + 1) (by omega) (by omega) HA.out HB.out (.inr ⟨hlt, hq, by omega, hbl, hbq'⟩)), rfl⟩
     ·obtain rfl : m = k := by omega
      go_wp2
      go_ret
      refine ⟨ret_str (by have := strip_extract s m m (Nat.le_refl _) (by omega) HA.out HB.out (.inl rfl); simpa using this), rfl⟩

end Go.Proofs.YtooihpkoplgmbaaGreatDoor

namespace Go.Proofs.YtooihpkoplgmbaaGreatDoor
open Go.RowKit

def G5 (w : World) : Prop := ∃ m, w.cell? ⟨0, 0, none⟩ = some (.int .i64 m)

theorem G5.kept {w w' : World} (h : G5 w) (hb : Below w.heap.size w w') : G5 w' := by
 obtain ⟨m, hm⟩ := h
 exact ⟨m, (hb.cell (World.block_lt_of_cell? w _ hm)).trans hm⟩

theorem cut5_any (s sep : ByteArray) (w : World) (hg : G5 w) (hs : s.size ≤ 4000000000) :
  Calls Tryz.prog 32 #[.string s, .string sep] w fun e w' => e = .returned (.tuple #[.string ⟨(Lib.cut s.data.toList sep.data.toList).1.toArray⟩, .string ⟨(Lib.cut s.data.toList sep.data.toList).2.1.toArray⟩, .bool (Lib.cut s.data.toList sep.data.toList).2.2]) ∧ Below w.heap.size w w' := by
 obtain ⟨m, hm⟩ := hg
 refine (Tryz.strings_Cut s sep m w (by omega) hm).mono ?_
 rintro e w' ⟨rfl, n, rfl⟩
 exact ⟨rfl, Go.below_drewN (Below.refl _ _) n⟩

theorem trim5_any (s c : ByteArray) (w : World) (hs : s.size ≤ 9223372036854775807) (hc : c.size < 4294967281) (ha : c.data.toList.all (fun b => decide (b.toNat < 128)) = true) :
  Calls Tryz.prog 74 #[.string s, .string c] w fun e w' => e = .returned (.string ⟨(Lib.trimS s.data.toList c.data.toList).toArray⟩) ∧ Below w.heap.size w w' :=
 Any.strings_Trim_laid Tryz.lays160 (by kernel_rfl) s c w hs hc (ascii_of_all ha)

theorem trimB_any (s : ByteArray) (w : World) (hs : s.size ≤ 9223372036854775807) :
  Calls Tryz.prog 74 #[.string s, .string ⟨#[9, 32]⟩] w fun e w' => e = .returned (.string ⟨(trimB s.data.toList).toArray⟩) ∧ Below w.heap.size w w' :=
 trim5_any s ⟨#[9, 32]⟩ w hs (by decide) (by decide)

theorem join5_any (v : Value) (L : List (List UInt8)) (sep : ByteArray) (w : World) (h : TxAt w v L) (hl : L.length ≤ 140737488355328) (hf : (Lib.join L sep.data.toList).length ≤ 140737488355328) :
  Calls Tryz.prog 83 #[v, .string sep] w fun e w' => e = .returned (.string ⟨(Lib.join L sep.data.toList).toArray⟩) ∧ Below w.heap.size w w' := by
 obtain ⟨a, cap, rfl, h3, h4, h5⟩ := h
 by_cases h0 : L = []
 ·subst h0
  refine (Tryz.strings_Join_none a cap sep w).mono ?_
  rintro e w' ⟨rfl, rfl⟩
  exact ⟨rfl, Below.refl _ _⟩
 ·have hl0 : 0 < L.length := List.length_pos_iff.2 h0
  obtain ⟨b, off, rfl, c0⟩ := h5 0 hl0
  have h2 : b < w.heap.size := World.block_lt_of_cell? w _ c0
  have e1 : (L.map fun x => (⟨x.toArray⟩ : ByteArray)).map (·.data.toList) = L := by
   rw [List.map_map]
   exact List.map_id L
  have hj := Tryz.strings_Join b off cap (L.map fun x => (⟨x.toArray⟩ : ByteArray)) sep w ?_ h2 (by simp; omega) (by simp; omega) ?_
  ·rw [e1, List.length_map] at hj
   exact hj
  ·intro j x hx
   rw [List.getElem?_map] at hx
   obtain ⟨y, hy, rfl⟩ := Option.map_eq_some_iff.1 hx
   obtain ⟨hj, e⟩ := List.getElem?_eq_some_iff.1 hy
   obtain ⟨b', off', e', c'⟩ := h5 j hj
   cases e'
   rw [c', e]
  ·rw [e1]; omega

def bulkV (L : List Hd) : Nat := (L.map fun h => h.value.length + 2).sum

theorem join_len (L : List (List UInt8)) (sep : List UInt8) : (Lib.join L sep).length ≤ (L.map fun x => x.length + sep.length).sum := by
 unfold Lib.join
 induction L with
 | nil => simp
 | cons x r ih =>
  cases r with
  | nil => simp [List.intercalate]
  | cons y r => simp [List.intercalate] at ih ⊢; omega

theorem selV_len (L : List Hd) (n : List UInt8) : (selV L n).length ≤ L.length := by
 unfold selV; simp [List.length_filter_le]

theorem getT_len (L : List Hd) (n : List UInt8) : (getT L n).length ≤ bulkV L := by
 refine Nat.le_trans (join_len _ _) ?_
 unfold selV bulkV
 rw [List.map_map]
 induction L with
 | nil => simp
 | cons h L ih =>
  by_cases hh : isN n h = true
  ·simp [List.filter_cons, hh] at ih ⊢; omega
  ·simp [List.filter_cons, hh] at ih ⊢; omega

def Szd (n : Nat) (L : List Hd) : Prop := ∀ h ∈ L, h.name.length ≤ n ∧ h.value.length ≤ n

theorem strNe {M N : ByteArray} (h : ¬ M = N) : (M.toList == N.toList) = false := by
 rw [Lib.toList_data, Lib.toList_data]
 rw [beq_eq_false_iff_ne]
 exact fun e => h (xba e)

theorem xret_sb {a b : ByteArray} {x y : Bool} (h : a = b) (g : x = y) : Ending.returned (.tuple #[.string a, .bool x]) = .returned (.tuple #[.string b, .bool y]) := by rw [h, g]

set_option maxHeartbeats 2000000 in
set_option maxRecDepth 100000 in
theorem get_any (v : Value) (L : List Hd) (n : ByteArray) (w : World) (h : HdAt w v L) (hs : n.size ≤ 140737488351232) (hz : Szd 140737488351232 L) (hl : L.length ≤ 1000000) (hb : bulkV L ≤ 140737488355328) :
  Calls Tryz.prog 53 #[v, .string n] w fun e w' => e = .returned (.tuple #[.string ⟨(getT L n.data.toList).toArray⟩, .bool (getB L n.data.toList)]) ∧ Below w.heap.size w w' := by
 obtain ⟨a1, c1, rfl, hc1, hm1, hv1⟩ := h.view
 have V1 := hid hv1
 clear h hv1
 obtain ⟨i0, hi, hz0, hz1, hz2⟩ := info3 infoTx
 have HZ := hid hz
 have HB := hid hb
 clear hz hb
 obtain ⟨N, hN⟩ : ∃ N : ByteArray, N = ⟨(low n.data.toList).toArray⟩ := ⟨_, rfl⟩
 have HN := hid (show N.data.toList = low n.data.toList by rw [hN])
 have HNe := hid hN
 clear hN
 go_enter Tryz.func53, Tryz.ntmps53
 go_wp2_with (go_at_call 49; refine (lower_any n _ hs).mono ?_)
 rintro e w0 ⟨rfl, hb0⟩
 rw [← HNe.out]
 go_wp2
 go_loopw [6, 8, 13] (fun vv x i wr => ∃ k : Nat, k ≤ L.length ∧ i = .int .i64 k ∧ wr.ownsRow w.heap.size 9 1 vv (selV (L.take k) n.data.toList).length (cellsT (selV (L.take k) n.data.toList)) ∧ Below w.heap.size w wr)
  (fun _ _ i _ => L.length - (intOf i).toNat)
 case atStart => exact ⟨0, Nat.zero_le _, rfl, World.ownsRow_nil _ _ _ _, hb0⟩
 case round =>
  obtain ⟨k, hk, rfl, hown, hbw⟩ := hrel
  have HO := hid hown
  have hwr := hbw.size
  clear hown
  by_cases hlt : k < L.length
  ·have hlt' : (k : Int) < (L.length : Int) := by omega
   obtain ⟨b1, o1, rfl, e1, e2⟩ := V1.out k hlt
   have f1 : wr.cell? ⟨b1, o1 + k * 2, none⟩ = some (.string ⟨L[k].name.toArray⟩) := (hbw.cell (World.block_lt_of_cell? w _ e1)).trans e1
   have f2 : wr.cell? ⟨b1, o1 + k * 2 + 1, none⟩ = some (.string ⟨L[k].value.toArray⟩) := (hbw.cell (World.block_lt_of_cell? w _ e2)).trans e2
   clear e1 e2
   obtain ⟨nm, hnm⟩ : ∃ x : ByteArray, x = ⟨L[k].name.toArray⟩ := ⟨_, rfl⟩
   obtain ⟨vl, hvl⟩ : ∃ x : ByteArray, x = ⟨L[k].value.toArray⟩ := ⟨_, rfl⟩
   rw [← hnm] at f1
   rw [← hvl] at f2
   have hsz : nm.size ≤ 140737488351232 := by rw [hnm, xsize]; exact (HZ.out _ (List.getElem_mem hlt)).1
   have HV := hid hvl
   have HM := hid hnm
   clear hnm hvl
   have HT := hid (show L.take (k + 1) = L.take k ++ [L[k]] by rw [List.take_add_one, List.getElem?_eq_getElem hlt]; rfl)
   obtain ⟨M, hM⟩ : ∃ x : ByteArray, x = ⟨(low nm.data.toList).toArray⟩ := ⟨_, rfl⟩
   have HMe := hid hM
   clear hM
   go_wp2_with fail
   refine (lower_any nm _ hsz).mono ?_
   rintro e w1 ⟨rfl, hb1⟩
   rw [← HMe.out]
   have hbw1 := (hbw.alloc hwr (.cells #[.string nm, .string vl] 85)).trans (hb1.mono (by simp; omega))
   have g2 : w1.cell? ⟨wr.heap.size, 1, none⟩ = some (.string vl) := (hb1.cell (p := ⟨wr.heap.size, 1, none⟩) (by simp)).trans (by simp [go_sem])
   have HO1 := hid (own_same (HO.out.alloc (.cells #[.string nm, .string vl] 85)) hb1)
   have hw1 := hbw1.size
   by_cases hmn : M = N
   ·subst hmn
    have HS := hid (show selV (L.take (k + 1)) n.data.toList = selV (L.take k) n.data.toList ++ [vl.data.toList] by
     rw [HT.out, selV_snoc, if_pos, HV.out]
     rw [isN, beq_iff_eq, ← HN.out, HMe.out, HM.out])
    go_wp2_with (at_builtin; go_must (refine wpList_append_own _ rfl _ _ 29 rfl w.heap.size 9 i0 (.string ByteArray.empty) 1 16 Tryz.underlying29 hi hz0 hz1 hz2 rfl (by decide) _ _ _ rfl (HO1.out.alloc _) ⟨w1.heap.size, 0, none⟩ 1 1 [.string vl] rfl rfl ?c1 ?c2 ?c3 ?c4 ?c5 ?_))
    case c1 =>
     intro q u hq
     match q, hq with
     | 0, hq => simp at hq; subst hq; simp [Addr.add]
    case c2 => intro u hu; simp at hu; subst hu; rfl
    case c3 => have := selV_len (L.take k) n.data.toList; simp at this; unfold maxLen; omega
    case c4 => have := selV_len (L.take k) n.data.toList; simp at this; omega
    case c5 => simp; omega
    intro v' w2 hown' hgrow hnil
    have HO2 := hid hown'
    have HB2 := hid (show Below w.heap.size w w2 from (hbw1.alloc hw1 _).grown hgrow (by simp; omega) (fun g hg => (HO1.out.lt g hg).1))
    clear hown' hgrow hnil
    go_wp2
    go_roundw
    case rel =>
     refine ⟨k + 1, by omega, by go_num, ?_, HB2.out⟩
     rw [HS.out, cellsT_app, cellsT_one, List.length_append]
     exact HO2.out
    case measure => simp [intOf]; omega
   ·have hne := strNe hmn
    have HS := hid (show selV (L.take (k + 1)) n.data.toList = selV (L.take k) n.data.toList by
     rw [HT.out, selV_snoc, if_neg, List.append_nil]
     rw [isN, beq_iff_eq, ← HN.out]
     intro e
     exact hmn (xba (by rw [← e, HMe.out, HM.out])))
    clear hmn
    go_wp2
    go_roundw
    case rel =>
     refine ⟨k + 1, by omega, by go_num, ?_, hbw1⟩
     rw [HS.out]
     exact HO1.out
    case measure => simp [intOf]; omega
  ·have hke : k = L.length := by omega
   subst hke
   have HT := hid (show selV (L.take L.length) n.data.toList = selV L n.data.toList by rw [List.take_length])
   have hown := HO.out
   rw [HT.out] at hown
   have hta := own_txt' hown
   obtain ⟨q, hq⟩ : ∃ q, q = selV L n.data.toList := ⟨_, rfl⟩
   have HQ := hid hq
   rw [← hq] at hown hta
   have hql : q.length ≤ L.length := by rw [hq]; exact selV_len _ _
   obtain ⟨a2, c2, rfl, _, _, _⟩ := hta.view
   have HA := hid hta
   clear hown hta hq HT HO
   have hjl : (Lib.join q [44, 32]).length ≤ 140737488355328 := by
    have h1 := getT_len L n.data.toList
    rw [getT, ← HQ.out] at h1
    exact Nat.le_trans h1 HB.out
   have HJ := hid (join5_any _ q ⟨#[44, 32]⟩ wr HA.out (by omega) hjl)
   clear hjl
   go_wp2_with fail
   refine HJ.out.mono ?_
   rintro e w3 ⟨rfl, hb3⟩
   go_wp2
   go_ret2
   refine ⟨xret_sb (xext ?_) ?_, hbw.trans (hb3.mono hwr)⟩
   ·rw [getT, ← HQ.out]
   ·rw [getB, ← HQ.out]
    cases q with
    | nil => rfl
    | cons x y => simp

end Go.Proofs.YtooihpkoplgmbaaGreatDoor

namespace Go.Proofs.YtooihpkoplgmbaaGreatDoor
open Go.RowKit

def restP (out : List (List UInt8)) (r : List UInt8) (mo : Bool) : List (List UInt8) := if mo then out ++ (pcs r).map trimB else out

theorem pcs_cut (r : List UInt8) : pcs r = if cutB r then cutA r :: pcs (cutR r) else [cutA r] := by
 unfold cutA cutR cutB
 cases h : cutQ false r with
 | none => rw [pcs_none r h]; rfl
 | some k => rw [pcs_some r k h]; rfl

theorem restP_step (out : List (List UInt8)) (r : List UInt8) : restP out r true = restP (out ++ [trimB (cutA r)]) (cutR r) (cutB r) := by
 unfold restP
 rw [if_pos rfl, pcs_cut]
 cases cutB r <;> simp

theorem cutR_len (r : List UInt8) (h : cutB r = true) : (cutR r).length + 1 ≤ r.length := by
 unfold cutB at h
 unfold cutR
 cases hc : cutQ false r with
 | none => rw [hc] at h; cases h
 | some k =>
  have := cutQ_lt r.length false r k (Nat.le_refl _) hc
  simp; omega

theorem cutA_len (r : List UInt8) : (cutA r).length ≤ r.length := by
 unfold cutA; split <;> simp <;> omega

theorem cutR_le (r : List UInt8) : (cutR r).length ≤ r.length := by
 unfold cutR; split <;> simp

def SplitPost (L : List (List UInt8)) (w : World) (e : Ending) (w' : World) : Prop :=
 ∃ v, e = .returned (.tuple #[v, .bool true]) ∧ w'.ownsRow w.heap.size 9 1 v L.length (cellsT L) ∧ Below w.heap.size w w'

set_option maxHeartbeats 2000000 in
set_option maxRecDepth 100000 in
theorem hsplit_any (v : Value) (L : List Hd) (n : ByteArray) (w : World) (h : HdAt w v L) (hs : n.size ≤ 140737488351232) (hz : Szd 140737488351232 L) (hl : L.length ≤ 1000000) (hb : bulkV L ≤ 1000000000) (hh : getB L n.data.toList = true) :
  Calls Tryz.prog 41 #[v, .string n] w (SplitPost (splitV L n.data.toList) w) := by
 obtain ⟨i0, hi, hz0, hz1, hz2⟩ := info3 infoTx
 have HG := hid (get_any v L n w h hs hz hl (by omega))
 have hgl := getT_len L n.data.toList
 obtain ⟨T, hT⟩ : ∃ T : ByteArray, T = ⟨(getT L n.data.toList).toArray⟩ := ⟨_, rfl⟩
 rw [← hT, hh] at HG
 have hTs : T.size ≤ 1000000000 := by rw [hT, xsize]; omega
 have HV := hid (show splitV L n.data.toList = restP [] T.data.toList true by rw [hT]; rfl)
 clear hT hgl h hz hb hh
 go_enter Tryz.func41, Tryz.ntmps41
 go_wp2_with fail
 refine HG.out.mono ?_
 rintro e w0 ⟨rfl, hb0⟩
 go_wp2
 go_loopw [6, 7, 8, 9] (fun r m vv x wr => ∃ (R : ByteArray) (mo : Bool) (out : List (List UInt8)), r = .string R ∧ m = .bool mo ∧ out.length + R.size ≤ 1000000001 ∧ (mo = true → out.length + R.size ≤ 1000000000) ∧ R.size ≤ 1000000000 ∧ restP out R.data.toList mo = restP [] T.data.toList true ∧ wr.ownsRow w.heap.size 9 1 vv out.length (cellsT out) ∧ Below w.heap.size w wr)
  (fun r m _ _ _ => match r, m with | .string R, .bool true => R.size + 1 | _, _ => 0)
 case atStart => exact ⟨T, true, [], rfl, rfl, by simp; omega, fun _ => by simp; omega, hTs, rfl, World.ownsRow_nil _ _ _ _, hb0⟩
 case round =>
  obtain ⟨R, mo, out, rfl, rfl, hol, holm, hRs, hrest, hown, hbw⟩ := hrel
  have HO := hid hown
  have hwr := hbw.size
  have HR := hid hrest
  clear hown hrest
  cases mo with
  | false =>
   have HE := hid (show out = splitV L n.data.toList by rw [HV.out, ← HR.out]; rfl)
   go_wp2
   go_ret2
   unfold SplitPost
   rw [← HE.out]
   exact ⟨_, rfl, HO.out, hbw⟩
  | true =>
   have hol' := holm rfl
   obtain ⟨A, hA⟩ : ∃ x : ByteArray, x = ⟨(cutA R.data.toList).toArray⟩ := ⟨_, rfl⟩
   obtain ⟨B, hB⟩ : ∃ x : ByteArray, x = ⟨(cutR R.data.toList).toArray⟩ := ⟨_, rfl⟩
   obtain ⟨mo, hmo⟩ : ∃ x, x = cutB R.data.toList := ⟨_, rfl⟩
   have HCP : Hid (∀ w : World, Calls Tryz.prog 73 #[.string R] w fun e w' => e = .returned (.tuple #[.string A, .string B, .bool mo]) ∧ Below w.heap.size w w') := fun w => by
    have := cutPiece_any R w (by omega)
    rw [← hA, ← hB, ← hmo] at this
    exact this
   have hAs : A.size ≤ 1000000000 := by have := cutA_len R.data.toList; rw [hA, xsize]; simp at this; omega
   have hBs : B.size ≤ R.size := by have := cutR_le R.data.toList; rw [hB, xsize]; simpa using this
   have hBm : mo = true → B.size + 1 ≤ R.size := fun h => by have := cutR_len R.data.toList (by rw [← hmo]; exact h); rw [hB, xsize]; simpa using this
   obtain ⟨P, hP⟩ : ∃ x : ByteArray, x = ⟨(trimB A.data.toList).toArray⟩ := ⟨_, rfl⟩
   have HTr : Hid (∀ w : World, Calls Tryz.prog 74 #[.string A, .string ⟨#[9, 32]⟩] w fun e w' => e = .returned (.string P) ∧ Below w.heap.size w w') := fun w => by
    have := trimB_any A w (by omega)
    rw [← hP] at this
    exact this
   have HS := hid (show restP (out ++ [P.data.toList]) B.data.toList mo = restP [] T.data.toList true by
    rw [← HR.out, restP_step, hP, hB, hmo, hA])
   clear hA hB hmo hP holm
   go_wp2_with fail
   refine (HCP.out _).mono ?_
   rintro e w1 ⟨rfl, hb1⟩
   have hbw1 := hbw.trans (hb1.mono hwr)
   have hw1 := hbw1.size
   have HO1 := hid (own_same HO.out hb1)
   go_wp2_with fail
   refine (HTr.out _).mono ?_
   rintro e w2 ⟨rfl, hb2⟩
   have hbw2 := hbw1.trans (hb2.mono hw1)
   have hw2 := hbw2.size
   have HO2 := hid (own_same HO1.out hb2)
   go_wp2_with (at_builtin; go_must (refine wpList_append_own _ rfl _ _ 29 rfl w.heap.size 9 i0 (.string ByteArray.empty) 1 16 Tryz.underlying29 hi hz0 hz1 hz2 rfl (by decide) _ _ _ rfl (HO2.out.alloc _) ⟨w2.heap.size, 0, none⟩ 1 1 [.string P] rfl rfl ?c1 ?c2 ?c3 ?c4 ?c5 ?_))
   case c1 =>
    intro q u hq
    match q, hq with
    | 0, hq => simp at hq; subst hq; simp [Addr.add]
   case c2 => intro u hu; simp at hu; subst hu; rfl
   case c3 => unfold maxLen; omega
   case c4 => omega
   case c5 => simp; omega
   intro v' w3 hown' hgrow hnil
   have HO3 := hid hown'
   have HB3 := hid (show Below w.heap.size w w3 from (hbw2.alloc hw2 _).grown hgrow (by simp; omega) (fun g hg => (HO2.out.lt g hg).1))
   clear hown' hgrow hnil
   go_wp2
   go_roundw
   case rel =>
    refine ⟨B, mo, out ++ [P.data.toList], rfl, rfl, by simp; omega, fun h => by have := hBm h; simp; omega, by omega, HS.out, ?_, HB3.out⟩
    rw [cellsT_app, cellsT_one, List.length_append]
    exact HO3.out
   case measure =>
    cases mo with
    | false => simp
    | true => have := hBm rfl; simp; omega

end Go.Proofs.YtooihpkoplgmbaaGreatDoor

namespace Go.Proofs.YtooihpkoplgmbaaGreatDoor
open Go.RowKit

theorem belowA {w w' : World} (h : Below w.heap.size w w') (o : Obj) : Below w.heap.size w (w'.alloc o) := h.alloc h.size o

end Go.Proofs.YtooihpkoplgmbaaGreatDoor
