/-
  Walks and plain facts that this claim leans on, put together out of 5 texts: Xh, Xi, Sh, Wj, Xj.
-/
import Derived.Test.YtooihpkoplgmbaaDoorProg
import Derived.Test.YtooihpkoplgmbaaDoorQa1
import Derived.WalkKit
import Derived.Lib.Strings
import Derived.Lib.UnsafeStr
import Derived.Laws.IdiomStrings
import Derived.Laws.AppendOwn
import Derived.Laws.BitsAllLaws
import Derived.Lib.Bytealg
import Derived.Lib.BufferMore
import Derived.WalkSpells
import Derived.WalkLawsBesides
import Derived.Lib.SlTrimSet
import Derived.Lib.Join
import Derived.Lib.IndexMore
import Derived.Laws.OwnMore
import Derived.Below
import Derived.WalkSmall
import Derived.Lib.SmallJoins
import Derived.Deep.QuietTactic
import Derived.BigQuiet
import Derived.Deep.LoopGhost
import Derived.Deep.MidRow
import Derived.Shelf.Strings.Builder1
import Derived.Shelf.Strings.Builder2
import Derived.Shelf.Strings.OnBuilder
import Derived.Shelf.Strings.Trim
import Derived.Shelf.Small.Utf8
import Derived.Shelf.Small.Bits
import Derived.Shelf.Small.Strs
import Derived.Shelf.Small.Wraps
import Derived.Shelf.Strings.BuilderF
import Derived.Shelf.Strings.BuilderK
import Derived.Shelf.Strings.Builder2Cap
import Derived.Shelf.Strconv.Itoa0
import Derived.Shelf.Strings.Search1
import Derived.Shelf.Strings.Search2
import Derived.Shelf.Strings.Cut
import Derived.Shelf.LaysM
import Derived.Shelf.Strings.Shaped
import Derived.Shelf.Sort.Plain
import Derived.Shelf.Strings.Prefix
import Derived.Shelf.Strings.Runes
import Derived.Shelf.Strings.AsciiSet
import Derived.Shelf.Unicode.DecodeSlow
import Derived.Shelf.Slices.CompactS
import Derived.Shelf.Slices.In.SortNone
import Derived.Shelf.Strings.SlTrimAscii
set_option linter.unusedSimpArgs false
set_option linter.unusedVariables false

namespace Go.Proofs.YtooihpkoplgmbaaDoor
open Go.RowKit

theorem list_eq_of {α : Type} {A B : List α} (hl : A.length = B.length) (h : ∀ j (h1 : j < A.length) (h2 : j < B.length), A[j] = B[j]) : A = B :=
 List.ext_getElem hl fun j h1 h2 => h j h1 h2

set_option maxHeartbeats 2000000 in
theorem sameT_any (v1 v2 : Value) (L1 L2 : List (List UInt8)) (w : World) (h1 : TxAt w v1 L1) (h2 : TxAt w v2 L2) (hl1 : L1.length ≤ 1000000) (hl2 : L2.length ≤ 1000000) :
  Calls Tryd.prog 7 #[v1, v2] w fun e w' => e = .returned (.bool (decide (L1 = L2))) ∧ Below w.heap.size w w' := by
 obtain ⟨a1, c1, rfl, hc1, hm1, hv1⟩ := h1.view
 obtain ⟨a2, c2, rfl, hc2, hm2, hv2⟩ := h2.view
 have H1 := hid h1
 have H2 := hid h2
 have V1 := hid hv1
 have V2 := hid hv2
 clear h1 h2 hv1 hv2
 by_cases hl : L1.length = L2.length
 ·have hl' : ((L1.length : Int) == (L2.length : Int)) = true := by rw [beq_iff_eq]; omega
  go_enter Tryd.func7, Tryd.ntmps7
  go_wp2
  go_loopw [5] (fun i wr => ∃ k : Nat, k ≤ L1.length ∧ i = .int .i64 k ∧ (∀ j (h1 : j < L1.length) (h2 : j < L2.length), j < k → L1[j] = L2[j]) ∧ Below w.heap.size w wr) (fun i _ => L1.length - (intOf i).toNat)
  case atStart => exact ⟨0, Nat.zero_le _, rfl, fun j _ _ h => absurd h (by omega), Below.refl _ _⟩
  case round =>
   obtain ⟨k, hk, rfl, hall, hb⟩ := hrel
   have HA := hid hall
   clear hall
   by_cases hlt : k < L1.length
   ·have hlt' : (k : Int) < (L1.length : Int) := by omega
    have hlt2' : (k : Int) < (L2.length : Int) := by omega
    obtain ⟨b1, o1, rfl, e1⟩ := V1.out k hlt
    obtain ⟨b2, o2, rfl, e2⟩ := V2.out k (by omega)
    have f1 : wr.cell? ⟨b1, o1 + k, none⟩ = some (.string ⟨L1[k].toArray⟩) := (hb.cell (World.block_lt_of_cell? w _ e1)).trans e1
    have f2 : wr.cell? ⟨b2, o2 + k, none⟩ = some (.string ⟨(L2[k]'(by omega)).toArray⟩) := (hb.cell (World.block_lt_of_cell? w _ e2)).trans e2
    clear e1 e2
    obtain ⟨x, hx⟩ : ∃ x, x = L1[k] := ⟨_, rfl⟩
    obtain ⟨y, hy⟩ : ∃ y, y = L2[k]'(by omega) := ⟨_, rfl⟩
    rw [← hx] at f1
    rw [← hy] at f2
    have HX := hid hx
    have HY := hid hy
    clear hx hy
    by_cases hxy : x = y
    ·subst hxy
     go_wp2
     go_quiet (fail)
     go_wp2
     go_roundw
     case rel =>
      refine ⟨k + 1, by omega, by go_num, fun j h1 h2 hj => ?_, Go.below_drewN hb _⟩
      by_cases he : j = k
      ·subst he; rw [← HX.out, ← HY.out]
      ·exact HA.out j h1 h2 (by omega)
     case measure => simp [intOf]; omega
    ·have hne : (x == y) = false := by simpa using hxy
     have HN := hid (show ¬ L1 = L2 from fun e => hxy (by rw [HX.out, HY.out]; subst e; rfl))
     go_wp2
     go_quiet (fail)
     go_wp2
     go_ret
     exact ⟨ret_bool (by simp [HN.out]), Go.below_drewN hb _⟩
   ·have HE := hid (show L1 = L2 from list_eq_of hl fun j h1 h2 => HA.out j h1 h2 (by omega))
    go_wp2
    go_ret
    exact ⟨ret_bool (by simp [HE.out]), hb⟩
 ·have hl' : ((L1.length : Int) == (L2.length : Int)) = false := by rw [beq_eq_false_iff_ne]; omega
  have HN := hid (show ¬ L1 = L2 from fun e => hl (by rw [e]))
  go_enter Tryd.func7, Tryd.ntmps7
  go_wp2
  go_ret
  exact ⟨ret_bool (by simp [HN.out]), Below.refl _ _⟩

end Go.Proofs.YtooihpkoplgmbaaDoor

namespace Go.Proofs.YtooihpkoplgmbaaDoor
open Go.RowKit

theorem infoHd : (Tryd.prog.info? 26).map (fun i => (i.zero, i.size, i.bytes)) = some (some (.agg #[.string ByteArray.empty, .string ByteArray.empty]), 2, 32) := by kernel_rfl

theorem infoTx : (Tryd.prog.info? 9).map (fun i => (i.zero, i.size, i.bytes)) = some (some (.string ByteArray.empty), 1, 16) := by kernel_rfl

theorem info3 {i : Option TypeInfo} {z : Value} {a b : Nat} (h : i.map (fun i => (i.zero, i.size, i.bytes)) = some (some z, a, b)) : ∃ j, i = some j ∧ j.zero = some z ∧ j.size = a ∧ j.bytes = b := by
 cases i with
 | none => cases h
 | some j =>
  simp at h
  exact ⟨j, rfl, h.1, h.2.1, h.2.2⟩

end Go.Proofs.YtooihpkoplgmbaaDoor

namespace Go.Proofs
open Go.Shelf

def Tryd.lays156_ren : Go.Shelf.Ren := ⟨fun | 156 => 35 | 165 => 59 | 166 => 60 | 169 => 61 | 240 => 75 | 241 => 76 | 276 => 87 | 277 => 88 | n => n, fun | 31 => 22 | 9 => 9 | 3 => 3 | 4 => 4 | 0 => 0 | 20 => 20 | 72 => 87 | 76 => 91 | 70 => 85 | 37 => 56 | 75 => 90 | 127 => 105 | 164 => 112 | 5 => 5 | 80 => 93 | n => n, fun | n => n⟩

theorem Tryd.lays156 : Go.Proofs.Lays.n156 Tryd.prog Tryd.lays156_ren := {
 mixed := by kernel_rfl
 f156 := Tryd.func35.trans (congrArg some (by kernel_rfl))
 f165 := Tryd.func59.trans (congrArg some (by kernel_rfl))
 f166 := Tryd.func60.trans (congrArg some (by kernel_rfl))
 f169 := Tryd.func61.trans (congrArg some (by kernel_rfl))
 f240 := Tryd.func75.trans (congrArg some (by kernel_rfl))
 f241 := Tryd.func76.trans (congrArg some (by kernel_rfl))
 f276 := Tryd.func87.trans (congrArg some (by kernel_rfl))
 f277 := Tryd.func88.trans (congrArg some (by kernel_rfl))
 t0 := Tryd.underlying0
 a0 := Tryd.isAgg0
 z0 := Tryd.sizeOf0
 v0 := Tryd.zeroValue0
 t3 := Tryd.underlying3
 a3 := Tryd.isAgg3
 z3 := Tryd.sizeOf3
 v3 := Tryd.zeroValue3
 t4 := Tryd.underlying4
 a4 := Tryd.isAgg4
 z4 := Tryd.sizeOf4
 v4 := Tryd.zeroValue4
 t9 := Tryd.underlying9
 a9 := Tryd.isAgg9
 z9 := Tryd.sizeOf9
 v9 := Tryd.zeroValue9
 t20 := Tryd.underlying20
 a20 := Tryd.isAgg20
 z20 := Tryd.sizeOf20
 v20 := Tryd.zeroValue20
 t31 := Tryd.underlying22
 a31 := Tryd.isAgg22
 z31 := Tryd.sizeOf22
 v31 := Tryd.zeroValue22
 t37 := Tryd.underlying56
 a37 := Tryd.isAgg56
 z37 := Tryd.sizeOf56
 v37 := Tryd.zeroValue56
 t70 := Tryd.underlying85
 a70 := Tryd.isAgg85
 z70 := Tryd.sizeOf85
 v70 := Tryd.zeroValue85
 t72 := Tryd.underlying87
 a72 := Tryd.isAgg87
 z72 := Tryd.sizeOf87
 v72 := Tryd.zeroValue87
 t75 := Tryd.underlying90
 a75 := Tryd.isAgg90
 z75 := Tryd.sizeOf90
 v75 := Tryd.zeroValue90
 t76 := Tryd.underlying91
 a76 := Tryd.isAgg91
 z76 := Tryd.sizeOf91
 v76 := Tryd.zeroValue91
 t127 := Tryd.underlying105
 a127 := Tryd.isAgg105
 z127 := Tryd.sizeOf105
 v127 := Tryd.zeroValue105
 t164 := Tryd.underlying112
 a164 := Tryd.isAgg112
 z164 := Tryd.sizeOf112
 v164 := Tryd.zeroValue112 }

theorem Tryd.Builder_Extra_156 : Builder.Extra Tryd.prog Tryd.lays156_ren := {
 sizeBuilder := by kernel_rfl
 liesBuilder := by kernel_rfl
 t5 := Tryd.underlying5
 a5 := Tryd.isAgg5
 z5 := Tryd.sizeOf5
 v5 := Tryd.zeroValue5
 infoByte := by kernel_rfl
 cellsByte := by kernel_rfl
 sizeByte := by kernel_rfl
 neB5 := by decide }

open Go.RowKit in
theorem Tryd.strings_Join_none (a : Option Addr) (c : Nat) (sep : ByteArray) (w : World) :
  Calls Tryd.prog 35 #[.slice a 0 c, .string sep] w fun e w' => e = .returned (.string ⟨#[]⟩) ∧ w' = w := Any.strings_Join_none Tryd.lays156 Tryd.Builder_Extra_156 a c sep w

open Go.RowKit in
theorem Tryd.strings_Join (bk o c : Nat) (xs : List ByteArray) (sep : ByteArray) (w : World) (hcells : ∀ (j : Nat) x, xs[j]? = some x → w.cell? ⟨bk, o + j, none⟩ = some (.string x)) (hbk : bk < w.heap.size) (hN : xs.length ≤ 140737488355328) (hcap : xs.length ≤ c) (hlen : (Lib.join (xs.map (·.data.toList)) sep.data.toList).length ≤ 140737488355328) :
  Calls Tryd.prog 35 #[.slice (some ⟨bk, o, none⟩) xs.length c, .string sep] w fun e w' => e = .returned (.string ⟨(Lib.join (xs.map (·.data.toList)) sep.data.toList).toArray⟩) ∧ Below w.heap.size w w' := Any.strings_Join Tryd.lays156 Tryd.Builder_Extra_156 bk o c xs sep w hcells hbk hN hcap hlen

def Tryd.lays160_ren : Go.Shelf.Ren := ⟨fun | 160 => 28 | 232 => 39 | 231 => 38 | 227 => 40 | 234 => 42 | 233 => 41 | 236 => 44 | 235 => 43 | 228 => 62 | 271 => 65 | 151 => 64 | 197 => 63 | 120 => 79 | 152 => 78 | 260 => 77 | 137 => 89 | 119 => 90 | 224 => 83 | 225 => 82 | 217 => 81 | 266 => 91 | n => n, fun | 9 => 9 | 4 => 4 | 3 => 3 | 5 => 5 | 117 => 67 | 116 => 66 | 0 => 0 | 124 => 70 | 21 => 21 | 105 => 94 | 46 => 59 | 119 => 115 | 139 => 118 | 138 => 117 | n => n, fun | 3 => 1 | 4 => 2 | n => n⟩

theorem Tryd.lays160 : Go.Proofs.Lays.n160 Tryd.prog Tryd.lays160_ren := {
 mixed := by kernel_rfl
 f119 := Tryd.func90.trans (congrArg some (by kernel_rfl))
 f120 := Tryd.func79.trans (congrArg some (by kernel_rfl))
 f137 := Tryd.func89.trans (congrArg some (by kernel_rfl))
 f151 := Tryd.func64.trans (congrArg some (by kernel_rfl))
 f152 := Tryd.func78.trans (congrArg some (by kernel_rfl))
 f160 := Tryd.func28.trans (congrArg some (by kernel_rfl))
 f197 := Tryd.func63.trans (congrArg some (by kernel_rfl))
 f217 := Tryd.func81.trans (congrArg some (by kernel_rfl))
 f224 := Tryd.func83.trans (congrArg some (by kernel_rfl))
 f225 := Tryd.func82.trans (congrArg some (by kernel_rfl))
 f227 := Tryd.func40.trans (congrArg some (by kernel_rfl))
 f228 := Tryd.func62.trans (congrArg some (by kernel_rfl))
 f231 := Tryd.func38.trans (congrArg some (by kernel_rfl))
 f232 := Tryd.func39.trans (congrArg some (by kernel_rfl))
 f233 := Tryd.func41.trans (congrArg some (by kernel_rfl))
 f234 := Tryd.func42.trans (congrArg some (by kernel_rfl))
 f235 := Tryd.func43.trans (congrArg some (by kernel_rfl))
 f236 := Tryd.func44.trans (congrArg some (by kernel_rfl))
 f260 := Tryd.func77.trans (congrArg some (by kernel_rfl))
 f266 := Tryd.func91.trans (congrArg some (by kernel_rfl))
 f271 := Tryd.func65.trans (congrArg some (by kernel_rfl))
 t0 := Tryd.underlying0
 a0 := Tryd.isAgg0
 z0 := Tryd.sizeOf0
 v0 := Tryd.zeroValue0
 t3 := Tryd.underlying3
 a3 := Tryd.isAgg3
 z3 := Tryd.sizeOf3
 v3 := Tryd.zeroValue3
 t4 := Tryd.underlying4
 a4 := Tryd.isAgg4
 z4 := Tryd.sizeOf4
 v4 := Tryd.zeroValue4
 t5 := Tryd.underlying5
 a5 := Tryd.isAgg5
 z5 := Tryd.sizeOf5
 v5 := Tryd.zeroValue5
 t9 := Tryd.underlying9
 a9 := Tryd.isAgg9
 z9 := Tryd.sizeOf9
 v9 := Tryd.zeroValue9
 t21 := Tryd.underlying21
 a21 := Tryd.isAgg21
 z21 := Tryd.sizeOf21
 v21 := Tryd.zeroValue21
 t46 := Tryd.underlying59
 a46 := Tryd.isAgg59
 z46 := Tryd.sizeOf59
 v46 := Tryd.zeroValue59
 t105 := Tryd.underlying94
 a105 := Tryd.isAgg94
 z105 := Tryd.sizeOf94
 v105 := Tryd.zeroValue94
 t116 := Tryd.underlying66
 a116 := Tryd.isAgg66
 z116 := Tryd.sizeOf66
 t117 := Tryd.underlying67
 a117 := Tryd.isAgg67
 z117 := Tryd.sizeOf67
 v117 := Tryd.zeroValue67
 t119 := Tryd.underlying115
 a119 := Tryd.isAgg115
 z119 := Tryd.sizeOf115
 t124 := Tryd.underlying70
 a124 := Tryd.isAgg70
 z124 := Tryd.sizeOf70
 v124 := Tryd.zeroValue70
 t138 := Tryd.underlying117
 a138 := Tryd.isAgg117
 z138 := Tryd.sizeOf117
 v138 := Tryd.zeroValue117
 t139 := Tryd.underlying118
 a139 := Tryd.isAgg118
 z139 := Tryd.sizeOf118
 v139 := Tryd.zeroValue118
 g3 := by kernel_rfl
 g4 := by kernel_rfl }

def Tryd.lays103_ren : Go.Shelf.Ren := ⟨fun | 103 => 57 | 210 => 73 | 206 => 85 | n => n, fun | 9 => 9 | 4 => 4 | 24 => 50 | 3 => 3 | n => n, fun | n => n⟩

theorem Tryd.lays103 : Go.Proofs.Lays.n103 Tryd.prog Tryd.lays103_ren := {
 mixed := by kernel_rfl
 f103 := Tryd.func57.trans (congrArg some (by kernel_rfl))
 f206 := Tryd.func85.trans (congrArg some (by kernel_rfl))
 f210 := Tryd.func73.trans (congrArg some (by kernel_rfl))
 t3 := Tryd.underlying3
 a3 := Tryd.isAgg3
 z3 := Tryd.sizeOf3
 v3 := Tryd.zeroValue3
 t4 := Tryd.underlying4
 a4 := Tryd.isAgg4
 z4 := Tryd.sizeOf4
 v4 := Tryd.zeroValue4
 t9 := Tryd.underlying9
 a9 := Tryd.isAgg9
 z9 := Tryd.sizeOf9
 v9 := Tryd.zeroValue9
 t24 := Tryd.underlying50
 a24 := Tryd.isAgg50
 z24 := Tryd.sizeOf50
 v24 := Tryd.zeroValue50 }

open Go.RowKit in
theorem Tryd.strings_CutPrefix (s p : ByteArray) (w : World) :
  Calls Tryd.prog 57 #[.string s, .string p] w fun e w' => e = .returned (.tuple #[.string ⟨(Lib.trimPrefix s.data.toList p.data.toList).toArray⟩, .bool (Lib.hasPrefix s.data.toList p.data.toList)]) ∧ w' = w := Any.strings_CutPrefix Tryd.lays103 s p w

def Tryd.lays104_ren : Go.Shelf.Ren := ⟨fun | 104 => 58 | 211 => 74 | 207 => 86 | n => n, fun | 9 => 9 | 4 => 4 | 24 => 50 | 3 => 3 | n => n, fun | n => n⟩

theorem Tryd.lays104 : Go.Proofs.Lays.n104 Tryd.prog Tryd.lays104_ren := {
 mixed := by kernel_rfl
 f104 := Tryd.func58.trans (congrArg some (by kernel_rfl))
 f207 := Tryd.func86.trans (congrArg some (by kernel_rfl))
 f211 := Tryd.func74.trans (congrArg some (by kernel_rfl))
 t3 := Tryd.underlying3
 a3 := Tryd.isAgg3
 z3 := Tryd.sizeOf3
 v3 := Tryd.zeroValue3
 t4 := Tryd.underlying4
 a4 := Tryd.isAgg4
 z4 := Tryd.sizeOf4
 v4 := Tryd.zeroValue4
 t9 := Tryd.underlying9
 a9 := Tryd.isAgg9
 z9 := Tryd.sizeOf9
 v9 := Tryd.zeroValue9
 t24 := Tryd.underlying50
 a24 := Tryd.isAgg50
 z24 := Tryd.sizeOf50
 v24 := Tryd.zeroValue50 }

open Go.RowKit in
theorem Tryd.strings_CutSuffix (s p : ByteArray) (w : World) (hs : s.size ≤ 9223372036854775807) :
  Calls Tryd.prog 58 #[.string s, .string p] w fun e w' => e = .returned (.tuple #[.string ⟨(Lib.trimSuffix s.data.toList p.data.toList).toArray⟩, .bool (Lib.hasSuffix s.data.toList p.data.toList)]) ∧ w' = w := Any.strings_CutSuffix Tryd.lays104 s p w hs

def Tryd.lays145_ren : Go.Shelf.Ren := ⟨fun | 145 => 31 | 220 => 56 | 219 => 72 | 217 => 81 | 225 => 82 | 224 => 83 | 267 => 84 | 266 => 91 | 314 => 92 | n => n, fun | 9 => 9 | 4 => 4 | 59 => 53 | 3 => 3 | 5 => 5 | 46 => 59 | 146 => 120 | 51 => 81 | n => n, fun | 1 => 0 | n => n⟩

theorem Tryd.lays145 : Go.Proofs.Lays.n145 Tryd.prog Tryd.lays145_ren := {
 mixed := by kernel_rfl
 f145 := Tryd.func31.trans (congrArg some (by kernel_rfl))
 f217 := Tryd.func81.trans (congrArg some (by kernel_rfl))
 f219 := Tryd.func72.trans (congrArg some (by kernel_rfl))
 f220 := Tryd.func56.trans (congrArg some (by kernel_rfl))
 f224 := Tryd.func83.trans (congrArg some (by kernel_rfl))
 f225 := Tryd.func82.trans (congrArg some (by kernel_rfl))
 f266 := Tryd.func91.trans (congrArg some (by kernel_rfl))
 f267 := Tryd.func84.trans (congrArg some (by kernel_rfl))
 f314 := Tryd.func92.trans (congrArg some (by kernel_rfl))
 t3 := Tryd.underlying3
 a3 := Tryd.isAgg3
 z3 := Tryd.sizeOf3
 v3 := Tryd.zeroValue3
 t4 := Tryd.underlying4
 a4 := Tryd.isAgg4
 z4 := Tryd.sizeOf4
 v4 := Tryd.zeroValue4
 t5 := Tryd.underlying5
 a5 := Tryd.isAgg5
 z5 := Tryd.sizeOf5
 v5 := Tryd.zeroValue5
 t9 := Tryd.underlying9
 a9 := Tryd.isAgg9
 z9 := Tryd.sizeOf9
 v9 := Tryd.zeroValue9
 t46 := Tryd.underlying59
 a46 := Tryd.isAgg59
 z46 := Tryd.sizeOf59
 v46 := Tryd.zeroValue59
 t51 := Tryd.underlying81
 a51 := Tryd.isAgg81
 z51 := Tryd.sizeOf81
 v51 := Tryd.zeroValue81
 t59 := Tryd.underlying53
 a59 := Tryd.isAgg53
 z59 := Tryd.sizeOf53
 v59 := Tryd.zeroValue53
 t146 := Tryd.underlying120
 a146 := Tryd.isAgg120
 z146 := Tryd.sizeOf120
 v146 := Tryd.zeroValue120
 g1 := by kernel_rfl }

open Go.RowKit Go.Lib in
theorem Tryd.strings_Cut (s sep : ByteArray) (m : Int) (w : World) (hs : s.size < 4294967281) (hm : w.cell? ⟨0, 0, none⟩ = some (.int .i64 m)) :
  Calls Tryd.prog 31 #[.string s, .string sep] w fun e w' => e = .returned (.tuple #[.string ⟨(Lib.cut s.data.toList sep.data.toList).1.toArray⟩, .string ⟨(Lib.cut s.data.toList sep.data.toList).2.1.toArray⟩, .bool (Lib.cut s.data.toList sep.data.toList).2.2]) ∧ ∃ n, w' = w.drewN n := Any.strings_Cut Tryd.lays145 s sep m w hs hm

def Tryd.laysM145_ren : Go.Shelf.Ren := ⟨fun | 145 => 31 | 220 => 56 | 219 => 72 | 217 => 81 | 225 => 82 | 224 => 83 | 267 => 84 | 266 => 91 | 314 => 92 | n => n, fun | 9 => 9 | 4 => 4 | 59 => 53 | 3 => 3 | 5 => 5 | 46 => 59 | 146 => 120 | 51 => 81 | n => n, fun | 1 => 0 | n => n⟩

theorem Tryd.laysM145 : Go.Proofs.LaysM.n145 Tryd.prog Tryd.laysM145_ren := {
 mixed := by kernel_rfl
 f145 := Tryd.func31.trans (congrArg some (by kernel_rfl))
 f217 := Tryd.func81.trans (congrArg some (by kernel_rfl))
 f219 := Tryd.func72.trans (congrArg some (by kernel_rfl))
 f220 := Tryd.func56.trans (congrArg some (by kernel_rfl))
 f224 := Tryd.func83.trans (congrArg some (by kernel_rfl))
 f225 := Tryd.func82.trans (congrArg some (by kernel_rfl))
 f266 := Tryd.func91.trans (congrArg some (by kernel_rfl))
 f267 := Tryd.func84.trans (congrArg some (by kernel_rfl))
 f314 := Tryd.func92.trans (congrArg some (by kernel_rfl))
 t3 := Tryd.underlying3
 a3 := Tryd.isAgg3
 z3 := Tryd.sizeOf3
 v3 := Tryd.zeroValue3
 t4 := Tryd.underlying4
 a4 := Tryd.isAgg4
 z4 := Tryd.sizeOf4
 v4 := Tryd.zeroValue4
 t5 := Tryd.underlying5
 a5 := Tryd.isAgg5
 z5 := Tryd.sizeOf5
 v5 := Tryd.zeroValue5
 t9 := Tryd.underlying9
 a9 := Tryd.isAgg9
 z9 := Tryd.sizeOf9
 v9 := Tryd.zeroValue9
 t46 := Tryd.underlying59
 a46 := Tryd.isAgg59
 z46 := Tryd.sizeOf59
 v46 := Tryd.zeroValue59
 t51 := Tryd.underlying81
 a51 := Tryd.isAgg81
 z51 := Tryd.sizeOf81
 v51 := Tryd.zeroValue81
 t59 := Tryd.underlying53
 a59 := Tryd.isAgg53
 z59 := Tryd.sizeOf53
 v59 := Tryd.zeroValue53
 t146 := Tryd.underlying120
 a146 := Tryd.isAgg120
 z146 := Tryd.sizeOf120
 v146 := Tryd.zeroValue120
 g1 := by kernel_rfl
 i3 := by kernel_rfl
 i4 := by kernel_rfl
 i5 := by kernel_rfl
 i9 := by kernel_rfl
 i46 := by kernel_rfl
 i51 := by kernel_rfl
 i59 := by kernel_rfl
 i146 := by kernel_rfl
 m1 := by kernel_rfl
 s1_3 := fun w h => Go.Proofs.cell_of_shapedOpen_int (zero := #[.int .i64 0]) (t := 3) h (of_decide_eq_true (by kernel_rfl)) (by kernel_rfl) rfl (by kernel_rfl) (by kernel_rfl) Tryd.underlying3 }

def Tryd.lays190_ren : Go.Shelf.Ren := ⟨fun | 190 => 19 | 125 => 30 | 258 => 29 | 128 => 54 | 129 => 55 | 302 => 45 | 303 => 46 | 304 => 47 | 305 => 48 | 306 => 49 | 307 => 50 | 308 => 51 | 309 => 52 | 310 => 53 | 333 => 66 | 329 => 67 | 330 => 68 | 334 => 69 | 335 => 70 | 336 => 71 | 344 => 80 | n => n, fun | 31 => 22 | 9 => 9 | 3 => 3 | 46 => 59 | 0 => 0 | 51 => 81 | 53 => 83 | 4 => 4 | 183 => 73 | 182 => 72 | 131 => 78 | 5 => 5 | 218 => 97 | 222 => 101 | 228 => 107 | 229 => 108 | n => n, fun | n => n⟩

theorem Tryd.lays190 : Go.Proofs.Lays.n190 Tryd.prog Tryd.lays190_ren := {
 mixed := by kernel_rfl
 f125 := Tryd.func30.trans (congrArg some (by kernel_rfl))
 f128 := Tryd.func54.trans (congrArg some (by kernel_rfl))
 f129 := Tryd.func55.trans (congrArg some (by kernel_rfl))
 f190 := Tryd.func19.trans (congrArg some (by kernel_rfl))
 f258 := Tryd.func29.trans (congrArg some (by kernel_rfl))
 f302 := Tryd.func45.trans (congrArg some (by kernel_rfl))
 f303 := Tryd.func46.trans (congrArg some (by kernel_rfl))
 f304 := Tryd.func47.trans (congrArg some (by kernel_rfl))
 f305 := Tryd.func48.trans (congrArg some (by kernel_rfl))
 f306 := Tryd.func49.trans (congrArg some (by kernel_rfl))
 f307 := Tryd.func50.trans (congrArg some (by kernel_rfl))
 f308 := Tryd.func51.trans (congrArg some (by kernel_rfl))
 f309 := Tryd.func52.trans (congrArg some (by kernel_rfl))
 f310 := Tryd.func53.trans (congrArg some (by kernel_rfl))
 f329 := Tryd.func67.trans (congrArg some (by kernel_rfl))
 f330 := Tryd.func68.trans (congrArg some (by kernel_rfl))
 f333 := Tryd.func66.trans (congrArg some (by kernel_rfl))
 f334 := Tryd.func69.trans (congrArg some (by kernel_rfl))
 f335 := Tryd.func70.trans (congrArg some (by kernel_rfl))
 f336 := Tryd.func71.trans (congrArg some (by kernel_rfl))
 f344 := Tryd.func80.trans (congrArg some (by kernel_rfl))
 t0 := Tryd.underlying0
 a0 := Tryd.isAgg0
 z0 := Tryd.sizeOf0
 v0 := Tryd.zeroValue0
 t3 := Tryd.underlying3
 a3 := Tryd.isAgg3
 z3 := Tryd.sizeOf3
 v3 := Tryd.zeroValue3
 t4 := Tryd.underlying4
 a4 := Tryd.isAgg4
 z4 := Tryd.sizeOf4
 v4 := Tryd.zeroValue4
 t5 := Tryd.underlying5
 a5 := Tryd.isAgg5
 z5 := Tryd.sizeOf5
 v5 := Tryd.zeroValue5
 t9 := Tryd.underlying9
 a9 := Tryd.isAgg9
 z9 := Tryd.sizeOf9
 v9 := Tryd.zeroValue9
 t31 := Tryd.underlying22
 a31 := Tryd.isAgg22
 z31 := Tryd.sizeOf22
 v31 := Tryd.zeroValue22
 t46 := Tryd.underlying59
 a46 := Tryd.isAgg59
 z46 := Tryd.sizeOf59
 v46 := Tryd.zeroValue59
 t51 := Tryd.underlying81
 a51 := Tryd.isAgg81
 z51 := Tryd.sizeOf81
 v51 := Tryd.zeroValue81
 t53 := Tryd.underlying83
 a53 := Tryd.isAgg83
 z53 := Tryd.sizeOf83
 v53 := Tryd.zeroValue83
 t131 := Tryd.underlying78
 a131 := Tryd.isAgg78
 z131 := Tryd.sizeOf78
 v131 := Tryd.zeroValue78
 t182 := Tryd.underlying72
 a182 := Tryd.isAgg72
 z182 := Tryd.sizeOf72
 v182 := Tryd.zeroValue72
 t183 := Tryd.underlying73
 a183 := Tryd.isAgg73
 z183 := Tryd.sizeOf73
 v183 := Tryd.zeroValue73
 t218 := Tryd.underlying97
 a218 := Tryd.isAgg97
 z218 := Tryd.sizeOf97
 v218 := Tryd.zeroValue97
 t222 := Tryd.underlying101
 a222 := Tryd.isAgg101
 z222 := Tryd.sizeOf101
 v222 := Tryd.zeroValue101
 t228 := Tryd.underlying107
 a228 := Tryd.isAgg107
 z228 := Tryd.sizeOf107
 v228 := Tryd.zeroValue107
 t229 := Tryd.underlying108
 a229 := Tryd.isAgg108
 z229 := Tryd.sizeOf108
 v229 := Tryd.zeroValue108 }

open Go.Sort Go.RowKit in
theorem Tryd.slices_Sort_string (blk off cap : Nat) (ss : List (List UInt8)) (w : World) (hH : Holds encStr w blk off ss.toArray) (hblk : blk < w.heap.size) (hsz : ss.length < 4611686018427387904) :
  Calls Tryd.prog 19 #[.slice (some ⟨blk, off, none⟩) ss.length cap] w fun e w' =>
   e = .returned (.tuple #[]) ∧ ∃ n os, w' = grow (putRow encStr (Sort.ahead w n) blk off (ss.mergeSort fun x y => decide (x ≤ y)).toArray) os := Any.slices_Sort_string Tryd.lays190 blk off cap ss w hH hblk hsz

def Tryd.lays194_ren : Go.Shelf.Ren := ⟨fun | 194 => 20 | n => n, fun | 31 => 22 | 9 => 9 | 3 => 3 | 4 => 4 | 0 => 0 | n => n, fun | n => n⟩

theorem Tryd.lays194 : Go.Proofs.Lays.n194 Tryd.prog Tryd.lays194_ren := {
 mixed := by kernel_rfl
 f194 := Tryd.func20.trans (congrArg some (by kernel_rfl))
 t0 := Tryd.underlying0
 a0 := Tryd.isAgg0
 z0 := Tryd.sizeOf0
 v0 := Tryd.zeroValue0
 t3 := Tryd.underlying3
 a3 := Tryd.isAgg3
 z3 := Tryd.sizeOf3
 v3 := Tryd.zeroValue3
 t4 := Tryd.underlying4
 a4 := Tryd.isAgg4
 z4 := Tryd.sizeOf4
 v4 := Tryd.zeroValue4
 t9 := Tryd.underlying9
 a9 := Tryd.isAgg9
 z9 := Tryd.sizeOf9
 v9 := Tryd.zeroValue9
 t31 := Tryd.underlying22
 a31 := Tryd.isAgg22
 z31 := Tryd.sizeOf22
 v31 := Tryd.zeroValue22 }

open Go.RowKit Go.Lib Go.Sort in
theorem Tryd.slices_Compact_string (blk off cap : Nat) (zs : List (List UInt8)) (w : World) (hH : Holds encStr w blk off zs.toArray) (hsz : zs.length ≤ 9223372036854775807) (hcap : zs.length ≤ cap) :
  Calls Tryd.prog 20 #[.slice (some ⟨blk, off, none⟩) zs.length cap] w fun e w' => e = .returned (.slice (some ⟨blk, off, none⟩) (Lib.compact zs).length cap) ∧ ∃ q, w' = putRow encStr (Sort.ahead w q) blk off (Lib.compact zs ++ List.replicate (zs.length - (Lib.compact zs).length) []).toArray := Any.slices_Compact_string Tryd.lays194 blk off cap zs w hH hsz hcap

open Go.RowKit Go.Lib Go.Sort in
theorem Tryd.slices_Compact_string_empty (a : Option Addr) (cap : Nat) (w : World) :
  Calls Tryd.prog 20 #[.slice a 0 cap] w fun e w' => e = .returned (.slice a 0 cap) ∧ w' = w := Any.slices_Compact_string_empty Tryd.lays194 a cap w

open Go.RowKit Go.Sort in
theorem Tryd.slices_Sort_string_none (p : Option Addr) (cap : Nat) (w : World) :
  Calls Tryd.prog 19 #[.slice p 0 cap] w fun e w' => e = .returned (.tuple #[]) ∧ w' = w := Any.slices_Sort_string_none Tryd.lays190 p cap w

end Go.Proofs

namespace Go.Proofs.YtooihpkoplgmbaaDoor
open Go.RowKit

theorem ret_str {l : List UInt8} {t : ByteArray} (h : t.data.toList = l) : Ending.returned (.string t) = .returned (.string ⟨l.toArray⟩) := by
 rw [← h]

theorem strip_extract (s : ByteArray) (k m : Nat) (hkm : k ≤ m) (hm : m ≤ s.size) (hA : (s.data.toList.take k).all blC = true) (hB : (s.data.toList.drop m).all blC = true)
  (h : k = m ∨ ∃ h1 : k < s.size, ∃ h2 : m - 1 < s.size, k < m ∧ blankI (s[k].toNat : Int) = false ∧ blankI (s[m - 1].toNat : Int) = false) : (s.extract k m).data.toList = strip s.data.toList := by
 rw [Lib.extract_data, strip_between s.data.toList k m hkm (by simpa using hm) hA hB ?_, List.drop_take]
 rcases h with h | ⟨h1, h2, h3, c1, c2⟩
 ·exact .inl h
 ·exact .inr ⟨by simpa using h1, by simpa using h2, h3, c1, c2⟩

set_option maxHeartbeats 1000000 in
theorem strip_any (s : ByteArray) (w : World) (hs : s.size ≤ 140737488351232) :
  Calls Tryd.prog 24 #[.string s] w fun e w' => e = .returned (.string ⟨(strip s.data.toList).toArray⟩) ∧ w = w' := by
 go_enter Tryd.func24, Tryd.ntmps24
 go_wp2
 go_loop [3] (fun f => ∃ k : Nat, k ≤ s.size ∧ f = .int .i64 k ∧ (s.data.toList.take k).all blC = true) (fun f => s.size - (intOf f).toNat)
 case atStart => exact ⟨0, Nat.zero_le _, rfl, rfl⟩
 case round =>
  obtain ⟨k, hk, rfl, hall⟩ := hrel
  have HA := hid hall
  clear hall
  by_cases hc : ∃ hlt : k < s.size, blankI (s[k].toNat : Int) = true
  ·obtain ⟨hlt, hbl⟩ := hc
   have HT := hid (take_snoc s k hlt)
   go_wp2_with (go_at_call 36; refine (blank_any _ _).mono ?_; rintro e w' ⟨rfl, rfl⟩)
   go_round
   case rel => exact ⟨k + 1, by omega, by go_num, by rw [HT.out, List.all_append, HA.out]; simp [blC, hbl]⟩
   case measure => simp [intOf]; omega
  ·have hkN : k = s.size ∨ ∃ hlt : k < s.size, blankI (s[k].toNat : Int) = false := by
    by_cases hlt : k < s.size
    ·right; exact ⟨hlt, by
      have := fun h => hc ⟨hlt, h⟩
      simpa using this⟩
    ·left; omega
   have HK := hid hkN
   clear hc
   have hsplit : (k < s.size → False) ∨ ∃ hlt : k < s.size, blankI (s[k].toNat : Int) = false := by
    rcases hkN with h | h
    ·left; intro; omega
    ·right; exact h
   clear hkN
   rcases hsplit with hge | ⟨hlt, hbl⟩
   ·have hge : ¬ k < s.size := hge
    obtain rfl : k = s.size := by omega
    go_wp2
    go_loop [4] (fun t => ∃ m : Nat, s.size ≤ m ∧ m ≤ s.size ∧ t = .int .i64 m ∧ (s.data.toList.drop m).all blC = true) (fun t => (intOf t).toNat)
    case atStart => exact ⟨s.size, Nat.le_refl _, Nat.le_refl _, rfl, by rw [drop_none s s.size (by omega)]; rfl⟩
    case round =>
     obtain ⟨m, hkm, hm, rfl, hallB⟩ := hrel
     have HB := hid hallB
     clear hallB
     by_cases hkm2 : s.size < m
     ·exact absurd hkm2 (by omega)
     ·obtain rfl : m = s.size := by omega
      go_wp2
      go_ret
      refine ⟨ret_str (by have := strip_extract s s.size s.size (Nat.le_refl _) (by omega) HA.out HB.out (.inl rfl); simpa using this), rfl⟩
   ·go_wp2_with (go_at_call 36; refine (blank_any _ _).mono ?_; rintro e w' ⟨rfl, rfl⟩)
    go_loop [4] (fun t => ∃ m : Nat, k ≤ m ∧ m ≤ s.size ∧ t = .int .i64 m ∧ (s.data.toList.drop m).all blC = true) (fun t => (intOf t).toNat)
    case atStart => exact ⟨s.size, by omega, Nat.le_refl _, rfl, by rw [drop_none s s.size (by omega)]; rfl⟩
    case round =>
     obtain ⟨m, hkm, hm, rfl, hallB⟩ := hrel
     have HB := hid hallB
     clear hallB
     by_cases hkm2 : k < m
     ·obtain ⟨q, rfl⟩ : ∃ q, m = q + 1 := ⟨m - 1, by omega⟩
      have hq : q < s.size := by omega
      have HD := hid (drop_cons s q hq)
      by_cases hbq : blankI (s[q].toNat : Int) = true
      ·go_wp2_with (go_at_call 36; refine (blank_any _ _).mono ?_; rintro e w' ⟨rfl, rfl⟩)
       go_round
       case rel => exact ⟨q, by omega, by omega, by go_num, by rw [HD.out, List.all_cons, HB.out]; simp [blC, hbq]⟩
       case measure => simp [intOf]
      ·have hbq' : blankI (s[q].toNat : Int) = false := by simpa using hbq
       clear hbq
       go_wp2_with (go_at_call 36; refine (blank_any _ _).mono ?_; rintro e w' ⟨rfl, rfl⟩)
       go_ret
       refine ⟨ret_str (strip_extract s k (q + 1) (by omega) (by omega) HA.out HB.out (.inr ⟨hlt, hq, by omega, hbl, hbq'⟩)), rfl⟩
     ·obtain rfl : m = k := by omega
      go_wp2
      go_ret
      refine ⟨ret_str (by have := strip_extract s m m (Nat.le_refl _) (by omega) HA.out HB.out (.inl rfl); simpa using this), rfl⟩

end Go.Proofs.YtooihpkoplgmbaaDoor

namespace Go.Proofs.YtooihpkoplgmbaaDoor
open Go.RowKit

def G5 (w : World) : Prop := ∃ m, w.cell? ⟨0, 0, none⟩ = some (.int .i64 m)

theorem G5.kept {w w' : World} (h : G5 w) (hb : Below w.heap.size w w') : G5 w' := by
 obtain ⟨m, hm⟩ := h
 exact ⟨m, (hb.cell (World.block_lt_of_cell? w _ hm)).trans hm⟩

theorem cut5_any (s sep : ByteArray) (w : World) (hg : G5 w) (hs : s.size ≤ 4000000000) :
  Calls Tryd.prog 31 #[.string s, .string sep] w fun e w' => e = .returned (.tuple #[.string ⟨(Lib.cut s.data.toList sep.data.toList).1.toArray⟩, .string ⟨(Lib.cut s.data.toList sep.data.toList).2.1.toArray⟩, .bool (Lib.cut s.data.toList sep.data.toList).2.2]) ∧ Below w.heap.size w w' := by
 obtain ⟨m, hm⟩ := hg
 refine (Tryd.strings_Cut s sep m w (by omega) hm).mono ?_
 rintro e w' ⟨rfl, n, rfl⟩
 exact ⟨rfl, Go.below_drewN (Below.refl _ _) n⟩

theorem trim5_any (s c : ByteArray) (w : World) (hs : s.size ≤ 9223372036854775807) (hc : c.size < 4294967281) (ha : c.data.toList.all (fun b => decide (b.toNat < 128)) = true) :
  Calls Tryd.prog 28 #[.string s, .string c] w fun e w' => e = .returned (.string ⟨(Lib.trimS s.data.toList c.data.toList).toArray⟩) ∧ Below w.heap.size w w' :=
 Any.strings_Trim_laid Tryd.lays160 (by kernel_rfl) s c w hs hc (ascii_of_all ha)

theorem trimB_any (s : ByteArray) (w : World) (hs : s.size ≤ 9223372036854775807) :
  Calls Tryd.prog 28 #[.string s, .string ⟨#[9, 32]⟩] w fun e w' => e = .returned (.string ⟨(trimB s.data.toList).toArray⟩) ∧ Below w.heap.size w w' :=
 trim5_any s ⟨#[9, 32]⟩ w hs (by decide) (by decide)

theorem join5_any (v : Value) (L : List (List UInt8)) (sep : ByteArray) (w : World) (h : TxAt w v L) (hl : L.length ≤ 140737488355328) (hf : (Lib.join L sep.data.toList).length ≤ 140737488355328) :
  Calls Tryd.prog 35 #[v, .string sep] w fun e w' => e = .returned (.string ⟨(Lib.join L sep.data.toList).toArray⟩) ∧ Below w.heap.size w w' := by
 obtain ⟨a, cap, rfl, h3, h4, h5⟩ := h
 by_cases h0 : L = []
 ·subst h0
  refine (Tryd.strings_Join_none a cap sep w).mono ?_
  rintro e w' ⟨rfl, rfl⟩
  exact ⟨rfl, Below.refl _ _⟩
 ·have hl0 : 0 < L.length := List.length_pos_iff.2 h0
  obtain ⟨b, off, rfl, c0⟩ := h5 0 hl0
  have h2 : b < w.heap.size := World.block_lt_of_cell? w _ c0
  have e1 : (L.map fun x => (⟨x.toArray⟩ : ByteArray)).map (·.data.toList) = L := by
   rw [List.map_map]
   exact List.map_id L
  have hj := Tryd.strings_Join b off cap (L.map fun x => (⟨x.toArray⟩ : ByteArray)) sep w ?_ h2 (by simp; omega) (by simp; omega) ?_
  ·rw [e1, List.length_map] at hj
   exact hj
  ·intro j x hx
   rw [List.getElem?_map] at hx
   obtain ⟨y, hy, rfl⟩ := Option.map_eq_some_iff.1 hx
   obtain ⟨hj, e⟩ := List.getElem?_eq_some_iff.1 hy
   obtain ⟨b', off', e', c'⟩ := h5 j hj
   cases e'
   rw [c', e]
  ·rw [e1]; omega

def bulkV (L : List Hd) : Nat := (L.map fun h => h.value.length + 2).sum

theorem join_len (L : List (List UInt8)) (sep : List UInt8) : (Lib.join L sep).length ≤ (L.map fun x => x.length + sep.length).sum := by
 unfold Lib.join
 induction L with
 | nil => simp
 | cons x r ih =>
  cases r with
  | nil => simp [List.intercalate]
  | cons y r => simp [List.intercalate] at ih ⊢; omega

theorem selV_len (L : List Hd) (n : List UInt8) : (selV L n).length ≤ L.length := by
 unfold selV; simp [List.length_filter_le]

theorem getT_len (L : List Hd) (n : List UInt8) : (getT L n).length ≤ bulkV L := by
 refine Nat.le_trans (join_len _ _) ?_
 unfold selV bulkV
 rw [List.map_map]
 induction L with
 | nil => simp
 | cons h L ih =>
  by_cases hh : isN n h = true
  ·simp [List.filter_cons, hh] at ih ⊢; omega
  ·simp [List.filter_cons, hh] at ih ⊢; omega

def Szd (n : Nat) (L : List Hd) : Prop := ∀ h ∈ L, h.name.length ≤ n ∧ h.value.length ≤ n

theorem strNe {M N : ByteArray} (h : ¬ M = N) : (M.toList == N.toList) = false := by
 rw [Lib.toList_data, Lib.toList_data]
 rw [beq_eq_false_iff_ne]
 exact fun e => h (xba e)

theorem xret_sb {a b : ByteArray} {x y : Bool} (h : a = b) (g : x = y) : Ending.returned (.tuple #[.string a, .bool x]) = .returned (.tuple #[.string b, .bool y]) := by rw [h, g]

set_option maxHeartbeats 2000000 in
set_option maxRecDepth 100000 in
theorem get_any (v : Value) (L : List Hd) (n : ByteArray) (w : World) (h : HdAt w v L) (hs : n.size ≤ 140737488351232) (hz : Szd 140737488351232 L) (hl : L.length ≤ 1000000) (hb : bulkV L ≤ 140737488355328) :
  Calls Tryd.prog 23 #[v, .string n] w fun e w' => e = .returned (.tuple #[.string ⟨(getT L n.data.toList).toArray⟩, .bool (getB L n.data.toList)]) ∧ Below w.heap.size w w' := by
 obtain ⟨a1, c1, rfl, hc1, hm1, hv1⟩ := h.view
 have V1 := hid hv1
 clear h hv1
 obtain ⟨i0, hi, hz0, hz1, hz2⟩ := info3 infoTx
 have HZ := hid hz
 have HB := hid hb
 clear hz hb
 obtain ⟨N, hN⟩ : ∃ N : ByteArray, N = ⟨(low n.data.toList).toArray⟩ := ⟨_, rfl⟩
 have HN := hid (show N.data.toList = low n.data.toList by rw [hN])
 have HNe := hid hN
 clear hN
 go_enter Tryd.func23, Tryd.ntmps23
 go_wp2_with (go_at_call 18; refine (lower_any n _ hs).mono ?_)
 rintro e w0 ⟨rfl, hb0⟩
 rw [← HNe.out]
 go_wp2
 go_loopw [6, 8, 13] (fun vv x i wr => ∃ k : Nat, k ≤ L.length ∧ i = .int .i64 k ∧ wr.ownsRow w.heap.size 9 1 vv (selV (L.take k) n.data.toList).length (cellsT (selV (L.take k) n.data.toList)) ∧ Below w.heap.size w wr)
  (fun _ _ i _ => L.length - (intOf i).toNat)
 case atStart => exact ⟨0, Nat.zero_le _, rfl, World.ownsRow_nil _ _ _ _, hb0⟩
 case round =>
  obtain ⟨k, hk, rfl, hown, hbw⟩ := hrel
  have HO := hid hown
  have hwr := hbw.size
  clear hown
  by_cases hlt : k < L.length
  ·have hlt' : (k : Int) < (L.length : Int) := by omega
   obtain ⟨b1, o1, rfl, e1, e2⟩ := V1.out k hlt
   have f1 : wr.cell? ⟨b1, o1 + k * 2, none⟩ = some (.string ⟨L[k].name.toArray⟩) := (hbw.cell (World.block_lt_of_cell? w _ e1)).trans e1
   have f2 : wr.cell? ⟨b1, o1 + k * 2 + 1, none⟩ = some (.string ⟨L[k].value.toArray⟩) := (hbw.cell (World.block_lt_of_cell? w _ e2)).trans e2
   clear e1 e2
   obtain ⟨nm, hnm⟩ : ∃ x : ByteArray, x = ⟨L[k].name.toArray⟩ := ⟨_, rfl⟩
   obtain ⟨vl, hvl⟩ : ∃ x : ByteArray, x = ⟨L[k].value.toArray⟩ := ⟨_, rfl⟩
   rw [← hnm] at f1
   rw [← hvl] at f2
   have hsz : nm.size ≤ 140737488351232 := by rw [hnm, xsize]; exact (HZ.out _ (List.getElem_mem hlt)).1
   have HV := hid hvl
   have HM := hid hnm
   clear hnm hvl
   have HT := hid (show L.take (k + 1) = L.take k ++ [L[k]] by rw [List.take_add_one, List.getElem?_eq_getElem hlt]; rfl)
   obtain ⟨M, hM⟩ : ∃ x : ByteArray, x = ⟨(low nm.data.toList).toArray⟩ := ⟨_, rfl⟩
   have HMe := hid hM
   clear hM
   go_wp2_with fail
   refine (lower_any nm _ hsz).mono ?_
   rintro e w1 ⟨rfl, hb1⟩
   rw [← HMe.out]
   have hbw1 := (hbw.alloc hwr (.cells #[.string nm, .string vl] 26)).trans (hb1.mono (by simp; omega))
   have g2 : w1.cell? ⟨wr.heap.size, 1, none⟩ = some (.string vl) := (hb1.cell (p := ⟨wr.heap.size, 1, none⟩) (by simp)).trans (by simp [go_sem])
   have HO1 := hid (own_same (HO.out.alloc (.cells #[.string nm, .string vl] 26)) hb1)
   have hw1 := hbw1.size
   by_cases hmn : M = N
   ·subst hmn
    have HS := hid (show selV (L.take (k + 1)) n.data.toList = selV (L.take k) n.data.toList ++ [vl.data.toList] by
     rw [HT.out, selV_snoc, if_pos, HV.out]
     rw [isN, beq_iff_eq, ← HN.out, HMe.out, HM.out])
    go_wp2_with (at_builtin; go_must (refine wpList_append_own _ rfl _ _ 22 rfl w.heap.size 9 i0 (.string ByteArray.empty) 1 16 Tryd.underlying22 hi hz0 hz1 hz2 rfl (by decide) _ _ _ rfl (HO1.out.alloc _) ⟨w1.heap.size, 0, none⟩ 1 1 [.string vl] rfl rfl ?c1 ?c2 ?c3 ?c4 ?c5 ?_))
    case c1 =>
     intro q u hq
     match q, hq with
     | 0, hq => simp at hq; subst hq; simp [Addr.add]
    case c2 => intro u hu; simp at hu; subst hu; rfl
    case c3 => have := selV_len (L.take k) n.data.toList; simp at this; unfold maxLen; omega
    case c4 => have := selV_len (L.take k) n.data.toList; simp at this; omega
    case c5 => simp; omega
    intro v' w2 hown' hgrow hnil
    have HO2 := hid hown'
    have HB2 := hid (show Below w.heap.size w w2 from (hbw1.alloc hw1 _).grown hgrow (by simp; omega) (fun g hg => (HO1.out.lt g hg).1))
    clear hown' hgrow hnil
    go_wp2
    go_roundw
    case rel =>
     refine ⟨k + 1, by omega, by go_num, ?_, HB2.out⟩
     rw [HS.out, cellsT_app, cellsT_one, List.length_append]
     exact HO2.out
    case measure => simp [intOf]; omega
   ·have hne := strNe hmn
    have HS := hid (show selV (L.take (k + 1)) n.data.toList = selV (L.take k) n.data.toList by
     rw [HT.out, selV_snoc, if_neg, List.append_nil]
     rw [isN, beq_iff_eq, ← HN.out]
     intro e
     exact hmn (xba (by rw [← e, HMe.out, HM.out])))
    clear hmn
    go_wp2
    go_roundw
    case rel =>
     refine ⟨k + 1, by omega, by go_num, ?_, hbw1⟩
     rw [HS.out]
     exact HO1.out
    case measure => simp [intOf]; omega
  ·have hke : k = L.length := by omega
   subst hke
   have HT := hid (show selV (L.take L.length) n.data.toList = selV L n.data.toList by rw [List.take_length])
   have hown := HO.out
   rw [HT.out] at hown
   have hta := own_txt' hown
   obtain ⟨q, hq⟩ : ∃ q, q = selV L n.data.toList := ⟨_, rfl⟩
   have HQ := hid hq
   rw [← hq] at hown hta
   have hql : q.length ≤ L.length := by rw [hq]; exact selV_len _ _
   obtain ⟨a2, c2, rfl, _, _, _⟩ := hta.view
   have HA := hid hta
   clear hown hta hq HT HO
   have hjl : (Lib.join q [44, 32]).length ≤ 140737488355328 := by
    have h1 := getT_len L n.data.toList
    rw [getT, ← HQ.out] at h1
    exact Nat.le_trans h1 HB.out
   have HJ := hid (join5_any _ q ⟨#[44, 32]⟩ wr HA.out (by omega) hjl)
   clear hjl
   go_wp2_with fail
   refine HJ.out.mono ?_
   rintro e w3 ⟨rfl, hb3⟩
   go_wp2
   go_ret2
   refine ⟨xret_sb (xext ?_) ?_, hbw.trans (hb3.mono hwr)⟩
   ·rw [getT, ← HQ.out]
   ·rw [getB, ← HQ.out]
    cases q with
    | nil => rfl
    | cons x y => simp

end Go.Proofs.YtooihpkoplgmbaaDoor
