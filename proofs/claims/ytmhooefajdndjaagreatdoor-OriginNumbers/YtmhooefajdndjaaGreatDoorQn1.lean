/-
  Walks and plain facts that this claim leans on, put together out of 11 texts: Sh, Yc, Ud, Wr, Uv, Ps, Yh, Yi, Yt, Yo, Ytx.
-/
import Derived.Test.YtmhooefajdndjaaGreatDoorProg
import Derived.Test.YtmhooefajdndjaaGreatDoorQa1
import Derived.Test.YtmhooefajdndjaaGreatDoorQa2
import Derived.Test.YtmhooefajdndjaaGreatDoorQa3
import Derived.Test.YtmhooefajdndjaaGreatDoorQa4
import Derived.Test.YtmhooefajdndjaaGreatDoorQa5
import Derived.Test.YtmhooefajdndjaaGreatDoorQa6
import Derived.Test.YtmhooefajdndjaaGreatDoorQa7
import Derived.Test.YtmhooefajdndjaaGreatDoorQa8
import Derived.Test.YtmhooefajdndjaaGreatDoorQa9
import Derived.Test.YtmhooefajdndjaaGreatDoorQa10
import Derived.Test.YtmhooefajdndjaaGreatDoorQa11
import Derived.Test.YtmhooefajdndjaaGreatDoorQa12
import Derived.Test.YtmhooefajdndjaaGreatDoorQa13
import Derived.Test.YtmhooefajdndjaaGreatDoorQa14
import Derived.Test.YtmhooefajdndjaaGreatDoorQa15
import Derived.Test.YtmhooefajdndjaaGreatDoorQa16
import Derived.Test.YtmhooefajdndjaaGreatDoorQa17
import Derived.Test.YtmhooefajdndjaaGreatDoorQa18
import Derived.Test.YtmhooefajdndjaaGreatDoorQa19
import Derived.Test.YtmhooefajdndjaaGreatDoorQa20
import Derived.Test.YtmhooefajdndjaaGreatDoorQa21
import Derived.Test.YtmhooefajdndjaaGreatDoorQa22
import Derived.Test.YtmhooefajdndjaaGreatDoorQa23
import Derived.Test.YtmhooefajdndjaaGreatDoorQa24
import Derived.Test.YtmhooefajdndjaaGreatDoorQa25
import Derived.Test.YtmhooefajdndjaaGreatDoorQa26
import Derived.Test.YtmhooefajdndjaaGreatDoorQa27
import Derived.Test.YtmhooefajdndjaaGreatDoorQa28
import Derived.Shelf.Strings.Builder1
import Derived.Shelf.Strings.Builder2
import Derived.Shelf.Strings.OnBuilder
import Derived.Shelf.Strings.Trim
import Derived.Shelf.Small.Utf8
import Derived.Shelf.Small.Strs
import Derived.Shelf.Small.Wraps
import Derived.Shelf.Strings.BuilderF
import Derived.Shelf.Strings.BuilderK
import Derived.Shelf.Strings.BuilderRune
import Derived.Shelf.Utf8.AppendRune
import Derived.Shelf.Utf8.AppendRunePlain
import Derived.Shelf.Strings.Builder2Cap
import Derived.Shelf.Strconv.Itoa0
import Derived.Shelf.Strconv.Itoa1
import Derived.Shelf.LaysM
import Derived.Shelf.Strconv.Itoa2
import Derived.Shelf.Strconv.Itoa3
import Derived.Shelf.Strings.Search1
import Derived.Shelf.Strings.Search2
import Derived.Shelf.Strings.Search3
import Derived.Shelf.Strings.Cut
import Derived.Shelf.Strings.Count
import Derived.Shelf.Strings.Shaped
import Derived.Shelf.Strings.LastIndex
import Derived.Shelf.Strings.Prefix
import Derived.Shelf.Strings.Split
import Derived.Shelf.Strings.Replace
import Derived.Shelf.Strings.Runes
import Derived.Shelf.Strings.IndexAny
import Derived.Shelf.Strings.AsciiSet
import Derived.Shelf.Strings.IndexAnyAll
import Derived.Shelf.Unicode.DecodeSlow
import Derived.Ground.Names2Prog
import Derived.Shelf.Slices.Clone
import Derived.Ground.SlgnProg
import Derived.Shelf.SlicesE.Clone
import Derived.Lib.IndexMore
import Derived.Lib.Join
import Derived.Lib.LastIndexByte
import Derived.WalkKit
import Derived.Lib.Strings
import Derived.Lib.UnsafeStr
import Derived.Laws.IdiomStrings
import Derived.Laws.AppendOwn
import Derived.Laws.BitsAllLaws
import Derived.Lib.Bytealg
import Derived.Lib.BufferMore
import Derived.WalkSpells
import Derived.WalkLawsBesides
import Derived.Lib.AppendIntMem
import Derived.Lib.SmallJoins
import Derived.WalkSmall
import Derived.WalkMore
import Derived.Deep.LoopGhost
import Derived.OwnWalk
import Derived.Laws.CopyOwn
import Derived.Laws.ResultCell
import Derived.Deep.MidRow
import Derived.Deep.RegionWith
import Derived.Lib.FrozenHead2
import Derived.Lib.OthersKept
import Derived.Lib.Builder
import Derived.Lib.IndexAny
import Derived.Lib.Replace
import Derived.Lib.TrimByte
import Derived.Lib.ItoaNum
import Derived.Deep.RegionLaw
import Derived.LoopN
import Derived.RegionTactic
import Derived.Deep.QuietTactic
import Derived.BigQuiet
import Derived.Laws.OwnMore
import Derived.Scope
import Derived.ScopeJumps
import Derived.Laws.RangeAny
import Derived.Lib.DecodeN
import Derived.Laws.BytesString
import Derived.Deep.WholeRow
import Derived.BigRegion
import Derived.Lib.BufferRead
import Derived.Lib.RuneBytes
import Derived.Laws.AppendOwnNone
import Derived.Deep.Cut
import Derived.Lib.AppendStr
import Derived.Deep.RegionHeld
import Derived.Laws.Runes
set_option linter.unusedSimpArgs false
set_option linter.unusedVariables false

namespace Go.Proofs
open Go.Shelf

open Go.RowKit in
theorem Tryz.Builder_String_any (B b : Nat) (l : List UInt8) (w : World) (h : Lib.IsBuilder 67 5 B b (Lib.byteCells l) w) (hBw : B ≤ w.heap.size) :
  Calls Tryz.prog 46 #[.pointer (some ⟨b, 0, none⟩)] w fun e w' => e = .returned (.string ⟨l.toArray⟩) ∧ Below B w w' := Any.Builder_String_any Tryz.lays169 Tryz.Builder_Extra_169 B b l w h hBw

def Tryz.lays242_ren : Go.Shelf.Ren := ⟨fun | 242 => 136 | 278 => 159 | n => n, fun | 37 => 65 | 21 => 21 | 51 => 54 | 4 => 4 | 5 => 5 | 46 => 56 | n => n, fun | n => n⟩

theorem Tryz.lays242 : Go.Proofs.Lays.n242 Tryz.prog Tryz.lays242_ren := {
 mixed := by kernel_rfl
 f242 := Tryz.func136.trans (congrArg some (by kernel_rfl))
 f278 := Tryz.func159.trans (congrArg some (by kernel_rfl))
 t4 := Tryz.underlying4
 a4 := Tryz.isAgg4
 z4 := Tryz.sizeOf4
 v4 := Tryz.zeroValue4
 t5 := Tryz.underlying5
 a5 := Tryz.isAgg5
 z5 := Tryz.sizeOf5
 v5 := Tryz.zeroValue5
 t21 := Tryz.underlying21
 a21 := Tryz.isAgg21
 z21 := Tryz.sizeOf21
 v21 := Tryz.zeroValue21
 t37 := Tryz.underlying65
 a37 := Tryz.isAgg65
 z37 := Tryz.sizeOf65
 v37 := Tryz.zeroValue65
 t46 := Tryz.underlying56
 a46 := Tryz.isAgg56
 z46 := Tryz.sizeOf56
 v46 := Tryz.zeroValue56
 t51 := Tryz.underlying54
 a51 := Tryz.isAgg54
 z51 := Tryz.sizeOf54
 v51 := Tryz.zeroValue54 }

open Go.RowKit in
theorem Tryz.utf8_AppendRune_row (B : Nat) (v : Value) (n : Nat) (xs : List Value) (r : Int) (hr0 : -2147483648 ≤ r) (hr1 : r ≤ 2147483647) (w : World) (hown : w.ownsRowF B 5 1 v n xs) (hlen : n + 4 ≤ 140737488355328) (hBw : B ≤ w.heap.size) :
  Calls Tryz.prog 136 #[v, .int .i32 r] w fun e w' => ∃ v', e = .returned v' ∧ w'.ownsRowF B 5 1 v' (n + (Lib.runeCells r).length) (xs ++ Lib.runeCells r) ∧ ∃ o, (w.alloc o).grownBy w' v.ownBlock := Any.utf8_AppendRune_row Tryz.lays242 (by kernel_rfl) B v n xs r hr0 hr1 w hown hlen hBw

def Tryz.lays146_ren : Go.Shelf.Ren := ⟨fun | 146 => 40 | 221 => 68 | 268 => 99 | 138 => 100 | 143 => 101 | 195 => 128 | 197 => 125 | 218 => 129 | 219 => 105 | 260 => 154 | 217 => 131 | 225 => 132 | 224 => 133 | 267 => 134 | 266 => 157 | 314 => 158 | n => n, fun | 9 => 9 | 31 => 43 | 3 => 3 | 4 => 4 | 0 => 0 | 105 => 130 | 21 => 21 | 5 => 5 | 46 => 56 | 119 => 163 | 139 => 166 | 138 => 165 | 146 => 151 | 51 => 54 | n => n, fun | 1 => 0 | 3 => 2 | 4 => 3 | n => n⟩

theorem Tryz.lays146 : Go.Proofs.Lays.n146 Tryz.prog Tryz.lays146_ren := {
 mixed := by kernel_rfl
 f138 := Tryz.func100.trans (congrArg some (by kernel_rfl))
 f143 := Tryz.func101.trans (congrArg some (by kernel_rfl))
 f146 := Tryz.func40.trans (congrArg some (by kernel_rfl))
 f195 := Tryz.func128.trans (congrArg some (by kernel_rfl))
 f197 := Tryz.func125.trans (congrArg some (by kernel_rfl))
 f217 := Tryz.func131.trans (congrArg some (by kernel_rfl))
 f218 := Tryz.func129.trans (congrArg some (by kernel_rfl))
 f219 := Tryz.func105.trans (congrArg some (by kernel_rfl))
 f221 := Tryz.func68.trans (congrArg some (by kernel_rfl))
 f224 := Tryz.func133.trans (congrArg some (by kernel_rfl))
 f225 := Tryz.func132.trans (congrArg some (by kernel_rfl))
 f260 := Tryz.func154.trans (congrArg some (by kernel_rfl))
 f266 := Tryz.func157.trans (congrArg some (by kernel_rfl))
 f267 := Tryz.func134.trans (congrArg some (by kernel_rfl))
 f268 := Tryz.func99.trans (congrArg some (by kernel_rfl))
 f314 := Tryz.func158.trans (congrArg some (by kernel_rfl))
 t0 := Tryz.underlying0
 a0 := Tryz.isAgg0
 z0 := Tryz.sizeOf0
 v0 := Tryz.zeroValue0
 t3 := Tryz.underlying3
 a3 := Tryz.isAgg3
 z3 := Tryz.sizeOf3
 v3 := Tryz.zeroValue3
 t4 := Tryz.underlying4
 a4 := Tryz.isAgg4
 z4 := Tryz.sizeOf4
 v4 := Tryz.zeroValue4
 t5 := Tryz.underlying5
 a5 := Tryz.isAgg5
 z5 := Tryz.sizeOf5
 v5 := Tryz.zeroValue5
 t9 := Tryz.underlying9
 a9 := Tryz.isAgg9
 z9 := Tryz.sizeOf9
 v9 := Tryz.zeroValue9
 t21 := Tryz.underlying21
 a21 := Tryz.isAgg21
 z21 := Tryz.sizeOf21
 v21 := Tryz.zeroValue21
 t31 := Tryz.underlying43
 a31 := Tryz.isAgg43
 z31 := Tryz.sizeOf43
 v31 := Tryz.zeroValue43
 t46 := Tryz.underlying56
 a46 := Tryz.isAgg56
 z46 := Tryz.sizeOf56
 v46 := Tryz.zeroValue56
 t51 := Tryz.underlying54
 a51 := Tryz.isAgg54
 z51 := Tryz.sizeOf54
 v51 := Tryz.zeroValue54
 t105 := Tryz.underlying130
 a105 := Tryz.isAgg130
 z105 := Tryz.sizeOf130
 v105 := Tryz.zeroValue130
 t119 := Tryz.underlying163
 a119 := Tryz.isAgg163
 z119 := Tryz.sizeOf163
 t138 := Tryz.underlying165
 a138 := Tryz.isAgg165
 z138 := Tryz.sizeOf165
 v138 := Tryz.zeroValue165
 t139 := Tryz.underlying166
 a139 := Tryz.isAgg166
 z139 := Tryz.sizeOf166
 v139 := Tryz.zeroValue166
 t146 := Tryz.underlying151
 a146 := Tryz.isAgg151
 z146 := Tryz.sizeOf151
 v146 := Tryz.zeroValue151
 g1 := by kernel_rfl
 g3 := by kernel_rfl
 g4 := by kernel_rfl }

open Go.RowKit Go.Lib in
theorem Tryz.strings_Split (s sep : ByteArray) (m : Int) (w : World) (hs : s.size < 4294967281) (hm : w.cell? ⟨0, 0, none⟩ = some (.int .i64 m)) (h1 : 1 ≤ sep.size) :
  Calls Tryz.prog 40 #[.string s, .string sep] w fun e w' =>
   e = .returned (.slice (some ⟨w.heap.size, 0, none⟩) (Lib.countB s sep + 1) (Lib.countB s sep + 1)) ∧ w' = w.alloc (.cells ((Lib.splitB sep 0 (Lib.countB s sep) s).map Value.string).toArray 9) := Any.strings_Split Tryz.lays146 (by kernel_rfl) s sep m w hs hm h1

end Go.Proofs

namespace Go.Proofs.YtmhooefajdndjaaGreatDoor
def webV (s : List UInt8) : Bool := s == sHttp || s == sHttps

def orgA (u : Adr) : Adr := if webV (innV u).scheme then innV u else u

def orgV (u : Adr) : Org := if specV (orgA u).scheme then ⟨(orgA u).scheme, (orgA u).host, hasP (orgA u), false⟩ else Org.none

def sameO (a b : Org) : Bool := !a.opq && decide (a = b)

end Go.Proofs.YtmhooefajdndjaaGreatDoor

namespace Go.Proofs.YtmhooefajdndjaaGreatDoor
theorem deci_gen : ∀ (f n : Nat) (acc : List UInt8), n < 10 ^ f → f ≠ 0 → deciN f n acc = Lib.decDigits n ++ acc
 | 0, n, acc, h, h0 => absurd rfl h0
 | f + 1, n, acc, h, _ => by
  rw [deciN, Lib.decDigits]
  by_cases h1 : n < 10
  ·rw [if_pos h1, dif_pos h1]; rfl
  ·rw [if_neg h1, dif_neg h1]
   have hf : f ≠ 0 := by rintro rfl; simp at h; omega
   rw [deci_gen f (n / 10) _ (by rw [Nat.pow_succ] at h; omega) hf]
   simp

theorem portT_itoa (p : Int) (h0 : 0 ≤ p) (h1 : p ≤ 65535) : Lib.itoa p = portT p := by
 unfold Lib.itoa portT
 rw [if_neg (by omega), deci_gen 6 _ _ (by omega) (by omega), List.append_nil]

end Go.Proofs.YtmhooefajdndjaaGreatDoor

namespace Go.Proofs.YtmhooefajdndjaaGreatDoor
open Go.RowKit

theorem ownsRow_kind {w : World} {B : Nat} {e : TypeId} {size : Nat} {v : Value} {n : Nat} {xs : List Value} (h : w.ownsRow B e size v n xs) (g : Nat) (hg : v.ownBlock = some g) : ∃ cur, w.heap[g]? = some (.cells cur e (0, 0)) := by
 rcases h.2 with ⟨rfl, _⟩ | ⟨g', cap, cur, rfl, hb, hgg, rest⟩
 ·simp [Value.ownBlock] at hg
 ·simp [Value.ownBlock] at hg
  subst hg
  exact ⟨cur, hgg⟩

end Go.Proofs.YtmhooefajdndjaaGreatDoor

namespace Go.Proofs.YtmhooefajdndjaaGreatDoor
open Go.RowKit

theorem itoaP_any (p : Int) (w : World) (hg : Gd w) (h0 : 0 ≤ p) (h1 : p ≤ 65535) :
  Calls Tryz.prog 36 #[.int .i64 p] w fun e w' => e = .returned (.string ⟨(portT p).toArray⟩) ∧ Below w.heap.size w w' := by
 refine (Tryz.strconv_Itoa p (by omega) (by omega) w hg.2.1).mono ?_
 rintro e w' ⟨rfl, k, os, rfl⟩
 exact ⟨by rw [portT_itoa p h0 h1], Lib.below_grow _ _ (Nat.le_refl _) _ _⟩

theorem deciN_le : ∀ (f n : Nat) (acc : List UInt8), (deciN f n acc).length ≤ f + acc.length
 | 0, n, acc => by rw [deciN]; omega
 | f + 1, n, acc => by
  rw [deciN]
  split
  ·simp; omega
  ·have := deciN_le f (n / 10) (UInt8.ofNat (48 + n % 10) :: acc)
   rw [List.length_cons] at this
   omega

theorem portT_le (p : Int) : (⟨(portT p).toArray⟩ : ByteArray).size ≤ 100 := by
 rw [Lib.size_eq]
 have := deciN_le 6 p.toNat []
 simp at this
 show (portT p).length ≤ 100
 unfold portT
 omega

end Go.Proofs.YtmhooefajdndjaaGreatDoor

namespace Go.Proofs.YtmhooefajdndjaaGreatDoor
open Go.RowKit

def recFrom (s : ByteArray) : Nat → Nat → List UInt8
 | 0, _ => []
 | fuel + 1, pos => if pos < s.size then Lib.encodeRune (Utf8.decode s pos).1 ++ recFrom s fuel (pos + (Utf8.decode s pos).2) else []

def recode (s : ByteArray) : List UInt8 := recFrom s s.size 0

def bom : List UInt8 := [239, 187, 191]

def dec (l : List UInt8) : List UInt8 := recode ⟨(Lib.trimPrefix l bom).toArray⟩

theorem width_pos (s : ByteArray) (pos : Nat) (h : pos < s.size) : 1 ≤ (Utf8.decode s pos).2 := by
 by_cases ha : (s[pos]'h).toNat < 128
 ·rw [decode_ascii s pos h ha]
  exact Nat.le_refl _
 ·exact (decode_high s pos h (by omega)).2

theorem recFrom_end (s : ByteArray) (fuel pos : Nat) (h : ¬ pos < s.size) : recFrom s fuel pos = [] := by
 cases fuel with
 | zero => rfl
 | succ f => simp [recFrom, h]

end Go.Proofs.YtmhooefajdndjaaGreatDoor

namespace Go.Proofs.YtmhooefajdndjaaGreatDoor
open Go.RowKit

def InPost (u : Adr) (w : World) (e : Ending) (w' : World) : Prop := ∃ pv, e = .returned (adrVal u pv) ∧ IsSl pv ∧ Below w.heap.size w w'

theorem inner_any (u : Adr) (pv : Value) (w : World) (hg : Gd w) (hp : PathAt w pv u.path) (hl : u.path.length ≤ 1000000) (hf : u.path.flatten.length ≤ 100000) :
  Calls Tryz.prog 65 #[adrVal u pv] w (InPost (innV u) w) := by
 refine (inner_own u pv w hg hp hl hf).mono ?_
 rintro e w' ⟨qv, he, hsl, hb, -⟩
 exact ⟨qv, he, hsl, hb⟩

end Go.Proofs.YtmhooefajdndjaaGreatDoor

namespace Go.Proofs.YtmhooefajdndjaaGreatDoor
open Go.RowKit

def orgVal (o : Org) : Value := .agg (orgCells o).toArray

theorem OrgIn.fars {b c : Nat} {o : Org} (hne : b ≠ c) : ∀ (vs : List Value) (j : Nat) (w : World), OrgIn w b o → OrgIn (w.setCells c j vs) b o
 | [], _, _, h => h
 | v :: r, j, w, h => by rw [World.setCells]; exact OrgIn.fars hne r (j + 1) _ (h.far hne)

theorem AdrIn.fars {b c : Nat} {u : Adr} {pv : Value} (hne : b ≠ c) : ∀ (vs : List Value) (j : Nat) (w : World), AdrIn w b u pv → AdrIn (w.setCells c j vs) b u pv
 | [], _, _, h => h
 | v :: r, j, w, h => by
  rw [World.setCells]
  refine AdrIn.fars hne r (j + 1) _ ?_
  unfold AdrIn
  rw [heap_setCell_other _ _ _ _ (fun e => hne (by simpa using e))]; exact h

theorem sizeO : (Tryz.prog.info? 24).map (·.size) = some 4 := by kernel_rfl

theorem results_o1 {fn : Func} {p : Tmp} (h : fn.results = #[.cell p 24]) (tmps : Array Value) (w : World) (b : Nat) (o : Org) (hp : tmps.getD p undef = .pointer (some ⟨b, 0, none⟩)) (hc : w.rangeAt b 0 (orgCells o)) : (results fn tmps).run Tryz.prog w = .ok (orgVal o) w := by
 rw [Array.getD_eq_getD_getElem?] at hp
 simp only [results, h]
 simp [Sem.run_bind, Result.andThen, hp, asAddr, run_loadVar_mid w b 0 24 (orgCells o) _ hc Tryz.underlying24 rfl sizeO, orgVal]

theorem wpList_worldO {P : Program} {ops : Array Oper} {Q : Exit → Act → World → Prop} {rest : List Oper} {a : Act} {w w' : World} (e : w = w') (h : wpList P ops Q rest a w) : wpList P ops Q rest a w' := e ▸ h

theorem orgV_no {u : Adr} (h : specV (orgA u).scheme = false) : orgV u = Org.none := by unfold orgV; rw [h]; rfl

theorem orgV_yes {u : Adr} (h : specV (orgA u).scheme = true) : orgV u = ⟨(orgA u).scheme, (orgA u).host, hasP (orgA u), false⟩ := by unfold orgV; rw [h]; rfl

theorem orgA_in {u : Adr} (h : webV (innV u).scheme = true) : orgA u = innV u := by unfold orgA; rw [h]; rfl

theorem orgA_out {u : Adr} (h : webV (innV u).scheme = false) : orgA u = u := by unfold orgA; rw [h]; rfl

def OfPost (o : Org) (w : World) (e : Ending) (w' : World) : Prop := e = .returned (orgVal o) ∧ Below w.heap.size w w'

set_option maxHeartbeats 8000000 in
set_option maxRecDepth 100000 in
theorem of_any (u : Adr) (pv : Value) (w : World) (hg : Gd w) (hp : PathAt w pv u.path) (hl : u.path.length ≤ 1000000) (hf : u.path.flatten.length ≤ 100000) :
  Calls Tryz.prog 37 #[adrVal u pv] w (OfPost (orgV u) w) := by
 have hsl : IsSl pv := by
  rcases hp with ⟨rfl, _⟩ | ⟨b, cap, rfl, _⟩
  ·exact ⟨_, _, _, rfl⟩
  ·exact ⟨_, _, _, rfl⟩
 obtain ⟨ua, un, uc, rfl⟩ := hsl
 have HIN := hid (fun (w : World) (hg : Gd w) (hp : PathAt w (.slice ua un uc) u.path) => inner_any u (.slice ua un uc) w hg hp hl hf)
 obtain ⟨u0, u1, u2, u3, u4, u5, u6, u8, u9, u10, u11, hx, hx0, hx3, hx5, hx6⟩ := adr_named u ua un uc
 have hva : adrVal u (.slice ua un uc) = .agg #[.string u0, .string u1, .string u2, .string u3, .bool u4, .int .i64 u5, .bool u6, .slice ua un uc, .string u8, .string u9, .bool u10, .bool u11] := by unfold adrVal; rw [hx]
 rw [hva] at HIN ⊢
 obtain ⟨W1, hW1⟩ : ∃ W1, (w.alloc (.cells #[.string u0, .string u1, .string u2, .string u3, .bool u4, .int .i64 u5, .bool u6, .slice ua un uc, .string u8, .string u9, .bool u10, .bool u11] 45)) = W1 := ⟨_, rfl⟩
 have hb1 : Below w.heap.size w W1 := by rw [← hW1]; exact (Below.refl _ w).alloc (Nat.le_refl _) _
 have hs1 : W1.heap.size = w.heap.size + 1 := by rw [← hW1]; simp
 have hA1 : AdrIn W1 w.heap.size u (.slice ua un uc) := by
  unfold AdrIn
  rw [hx, ← hW1]
  exact heap_alloc_new w _
 obtain ⟨W2, hW2⟩ : ∃ W2, (W1.alloc (.cells (orgCells Org.nil).toArray 24)) = W2 := ⟨_, rfl⟩
 have hb2 : Below W1.heap.size W1 W2 := by rw [← hW2]; exact (Below.refl _ W1).alloc (Nat.le_refl _) _
 have hA2 := hA1.kept hb2
 have hR2 : OrgIn W2 W1.heap.size Org.nil := by rw [← hW2]; exact heap_alloc_new W1 _
 rw [hs1] at hR2
 have hB2 := below2 hb1 hb2
 have HG2 := hid (hg.kept hB2)
 have HP2 := hid (hp.kept hB2)
 have hA2' := hA2
 unfold AdrIn at hA2'
 have hfl : ∀ j v, (adrCells u (.slice ua un uc))[j]? = some v → W2.cell? ⟨w.heap.size, j, none⟩ = some v := fun j v h => hA2.cell j v h
 rw [hx] at hfl
 have y0 := hfl 0 _ rfl
 have y1 := hfl 1 _ rfl
 have y2 := hfl 2 _ rfl
 have y3 := hfl 3 _ rfl
 have y4 := hfl 4 _ rfl
 have y5 := hfl 5 _ rfl
 have y6 := hfl 6 _ rfl
 have y7 := hfl 7 _ rfl
 have y8 := hfl 8 _ rfl
 have y9 := hfl 9 _ rfl
 have y10 := hfl 10 _ rfl
 have y11 := hfl 11 _ rfl
 have HA2 := hid hA2
 have HR2 := hid hR2
 have HB2 := hid hB2
 have hW1' : w.alloc (.cells #[.string u0, .string u1, .string u2, .string u3, .bool u4, .int .i64 u5, .bool u6, .slice ua un uc, .string u8, .string u9, .bool u10, .bool u11] 45) = W1 := hW1
 have hW2' : W1.alloc (.cells #[.string ⟨#[]⟩, .string ⟨#[]⟩, .int .i64 0, .bool false] 24) = W2 := hW2
 have HX := hid hx
 have HXA := hid (And.intro hx0 (And.intro hx3 (And.intro hx5 hx6)))
 clear hva hW1 hW2 hb1 hA1 hb2 hA2 hA2' hR2 hB2 hfl hg hx hl hf hp hx0 hx3 hx5 hx6
 go_enter Tryz.func37, Tryz.ntmps37
 go_wp2_with fail
 refine (HIN.out _ HG2.out HP2.out).mono ?_
 rintro e w3 ⟨qv, rfl, hqs, hb3⟩
 have hh0 : W2.heap.size = w.heap.size + 2 := by
  rw [← hW2']; simp [hs1]
 obtain ⟨qa, qn, qc, rfl⟩ := hqs
 obtain ⟨q0, q1, q2, q3, q4, q5, q6, q8, q9, q10, q11, hq, hq0, hq3, hq5, hq6⟩ := adr_named (innV u) qa qn qc
 have hqa : adrVal (innV u) (.slice qa qn qc) = .agg #[.string q0, .string q1, .string q2, .string q3, .bool q4, .int .i64 q5, .bool q6, .slice qa qn qc, .string q8, .string q9, .bool q10, .bool q11] := by unfold adrVal; rw [hq]
 rw [hqa]
 obtain ⟨W5, hW5⟩ : ∃ W5, (w3.alloc (.cells #[.string q0, .string q1, .string q2, .string q3, .bool q4, .int .i64 q5, .bool q6, .slice qa qn qc, .string q8, .string q9, .bool q10, .bool q11] 45)) = W5 := ⟨_, rfl⟩
 have hb5 : Below w3.heap.size w3 W5 := by rw [← hW5]; exact (Below.refl _ w3).alloc (Nat.le_refl _) _
 have hq' : AdrIn W5 w3.heap.size (innV u) (.slice qa qn qc) := by
  unfold AdrIn
  rw [hq, ← hW5]
  exact heap_alloc_new w3 _
 have HA5 := hid ((HA2.out.kept hb3).kept hb5)
 have HR5 := hid ((HR2.out.kept hb3).kept hb5)
 have HB5 := hid (below2 (below2 HB2.out hb3) hb5)
 have hfl : ∀ j v, (adrCells (innV u) (.slice qa qn qc))[j]? = some v → W5.cell? ⟨w3.heap.size, j, none⟩ = some v := fun j v h => hq'.cell j v h
 rw [hq] at hfl
 have q_y0 := hfl 0 _ rfl
 have q_y1 := hfl 1 _ rfl
 have q_y2 := hfl 2 _ rfl
 have q_y3 := hfl 3 _ rfl
 have q_y4 := hfl 4 _ rfl
 have q_y5 := hfl 5 _ rfl
 have q_y6 := hfl 6 _ rfl
 have q_y7 := hfl 7 _ rfl
 have q_y8 := hfl 8 _ rfl
 have q_y9 := hfl 9 _ rfl
 have q_y10 := hfl 10 _ rfl
 have q_y11 := hfl 11 _ rfl
 have HQ := hid hq
 have HQA := hid (And.intro hq0 (And.intro hq3 (And.intro hq5 hq6)))
 clear hfl hq' hb5 hb3 hqa hq y0 y1 y2 y3 y4 y5 y6 y7 y8 y9 y10 y11
 by_cases hweb : webV (innV u).scheme = true
 ·have HAV := hid (orgA_in hweb)
  obtain ⟨W6, hW6⟩ : ∃ W6, W6 = W5.setCells w.heap.size 0 [.string q0, .string q1, .string q2, .string q3, .bool q4, .int .i64 q5, .bool q6, .slice qa qn qc, .string q8, .string q9, .bool q10, .bool q11] := ⟨_, rfl⟩
  have HA6 := hid (show AdrIn W6 w.heap.size (innV u) (.slice qa qn qc) by
   have := HA5.out.store (v := innV u) (qv := .slice qa qn qc)
   rw [HQ.out] at this
   rw [hW6]; exact this)
  have HR6 := hid (show OrgIn W6 (w.heap.size + 1) Org.nil by rw [hW6]; exact OrgIn.fars (by omega) _ _ _ HR5.out)
  have HB6 := hid (show Below w.heap.size w W6 by rw [hW6]; exact below_setCells (Nat.le_refl _) _ _ _ HB5.out)
  have HT := hid (show W5.there w.heap.size 0 12 from HA5.out.there)
  have HW6 := hid hW6
  have hone : (#[.string q0, .string q1, .string q2, .string q3, .bool q4, .int .i64 q5, .bool q6, .slice qa qn qc, .string q8, .string q9, .bool q10, .bool q11] : Array Value).all (·.oneCell') = true := by
   have := all_oneCell_toArray (adrCells_one (innV u) (.slice qa qn qc) ⟨_, _, _, rfl⟩)
   rw [HQ.out] at this
   exact this
  have hws : (q0.toList == [104, 116, 116, 112]) = true ∨ ((q0.toList == [104, 116, 116, 112]) = false ∧ (q0.toList == [104, 116, 116, 112, 115]) = true) := by
   unfold webV at hweb
   rw [Bool.or_eq_true] at hweb
   by_cases h : q0.data.toList = [104, 116, 116, 112]
   ·left; exact beq_yes q0 _ h
   ·right
    refine ⟨beq_no q0 _ h, beq_yes q0 _ ?_⟩
    rw [hq0] at h ⊢
    rcases hweb with h2 | h2
    ·exact absurd (beq_iff_eq.1 h2) h
    ·exact (beq_iff_eq.1 h2)
  clear hW6 hweb hq0 hq3 hq5 hq6
  rcases hws with e0 | ⟨e0, e1⟩
  all_goals
   have hfl : ∀ j y, (adrCells (innV u) (.slice qa qn qc))[j]? = some y → W6.cell? ⟨w.heap.size, j, none⟩ = some y := fun j y h => HA6.out.cell j y h
   rw [HQ.out] at hfl
   have c0 := hfl 0 _ rfl
   have c3 := hfl 3 _ rfl
   have c5 := hfl 5 _ rfl
   clear hfl
   have ry0 := HR6.out.cell 0 _ rfl
   have rz0 := HR6.out.frozen 0
   have ry1 := HR6.out.cell 1 _ rfl
   have rz1 := HR6.out.frozen 1
   have ry2 := HR6.out.cell 2 _ rfl
   have rz2 := HR6.out.frozen 2
   have ry3 := HR6.out.cell 3 _ rfl
   have rz3 := HR6.out.frozen 3
   have HSp := hid (fun w => special_any q0 w)
   have HOw := hid (fun w => own_any q0 w)
   obtain ⟨sp, hsp⟩ : ∃ b, specV q0.data.toList = b := ⟨_, rfl⟩
   obtain ⟨ow, how⟩ : ∃ b, ownV q0.data.toList = b := ⟨_, rfl⟩
   rw [hsp] at HSp
   rw [how] at HOw
   have HSP := hid hsp
   have HOW := hid how
   clear hsp how
   cases sp with
   | false =>
    go_wp2_with (first | (refine wpList_store_mid rfl 45 (.tmp 1) (.tmp 15) rfl w.heap.size 0 #[.string q0, .string q1, .string q2, .string q3, .bool q4, .int .i64 q5, .bool q6, .slice qa qn qc, .string q8, .string q9, .bool q10, .bool q11] rfl rfl HT.out (sizeUa (innV u) (.slice qa qn qc)) hone ?_; refine wpList_worldO HW6.out ?_) | (go_at_call 54; refine (HSp.out _).mono ?_; rintro e wz ⟨rfl, hwz⟩; rw [← hwz]; clear hwz) | (go_at_call 35; refine (HOw.out _).mono ?_; rintro e wz ⟨rfl, hwz⟩; rw [← hwz]; clear hwz))
    have HV := hid (show orgV u = Org.none from orgV_no (by rw [HAV.out, ← HQA.out.1]; exact HSP.out))
    have hrg := range_row (HR6.out.store (p := Org.none))
    have hbl := below_setCells (B := w.heap.size) (b := w.heap.size + 1) (Nat.le_succ _) (orgCells Org.none) 0 _ HB6.out
    rw [HV.out]
    refine bodyPost_ret (results_o1 rfl _ _ (w.heap.size + 1) Org.none rfl ?_) rfl ⟨?_, ?_⟩
    ·exact hrg
    ·rfl
    ·exact hbl
   | true =>
    have HV0 := hid (orgV_yes (u := u) (by rw [HAV.out, ← HQA.out.1]; exact HSP.out))
    rw [HAV.out] at HV0
    have hbn : Below W6.heap.size W6 (W6.alloc (.cells #[.string q0, .string q3, .int .i64 q5, .bool false] 24)) := (Below.refl _ _).alloc (Nat.le_refl _) _
    have HRn := hid (HR6.out.kept hbn)
    have HBn := hid (below2 HB6.out hbn)
    have ny0 := HRn.out.cell 0 _ rfl
    have nz0 := HRn.out.frozen 0
    have ny1 := HRn.out.cell 1 _ rfl
    have nz1 := HRn.out.frozen 1
    have ny2 := HRn.out.cell 2 _ rfl
    have nz2 := HRn.out.frozen 2
    have ny3 := HRn.out.cell 3 _ rfl
    have nz3 := HRn.out.frozen 3
    have HLt := hid (HR6.out.lt)
    clear hbn
    by_cases hpo : q5 = -1
    ·subst hpo
     have HV := hid (show orgV u = ⟨(innV u).scheme, (innV u).host, ow, false⟩ by rw [HV0.out]; unfold hasP; rw [if_pos (show (innV u).port = -1 from HQA.out.2.2.1.symm), ← HQA.out.1, HOW.out])
     have hbo : Below W6.heap.size W6 (W6.alloc (.cells #[.string q0, .string q3, .int .i64 ow, .bool false] 24)) := (Below.refl _ _).alloc (Nat.le_refl _) _
     have HR8 := hid (HR6.out.kept hbo)
     have HB8 := hid (below2 HB6.out hbo)
     have k0 := (((Below.refl _ W6).alloc (Nat.le_refl _) (.cells #[.string q0, .string q3, .int .i64 (-1), .bool false] 24)).cell (World.block_lt_of_cell? W6 _ c0)).trans c0
     clear hbo ny0 nz0 ny1 nz1 ny2 nz2 ny3 nz3
     have ny0 := HR8.out.cell 0 _ rfl
     have nz0 := HR8.out.frozen 0
     have ny1 := HR8.out.cell 1 _ rfl
     have nz1 := HR8.out.frozen 1
     have ny2 := HR8.out.cell 2 _ rfl
     have nz2 := HR8.out.frozen 2
     have ny3 := HR8.out.cell 3 _ rfl
     have nz3 := HR8.out.frozen 3
     go_wp2_with (first | (refine wpList_store_mid rfl 45 (.tmp 1) (.tmp 15) rfl w.heap.size 0 #[.string q0, .string q1, .string q2, .string q3, .bool q4, .int .i64 (-1), .bool q6, .slice qa qn qc, .string q8, .string q9, .bool q10, .bool q11] rfl rfl HT.out (sizeUa (innV u) (.slice qa qn qc)) hone ?_; refine wpList_worldO HW6.out ?_) | (go_at_call 54; refine (HSp.out _).mono ?_; rintro e wz ⟨rfl, hwz⟩; rw [← hwz]; clear hwz) | (go_at_call 35; refine (HOw.out _).mono ?_; rintro e wz ⟨rfl, hwz⟩; rw [← hwz]; clear hwz))
     have hrg := range_row (HR8.out.store (p := ⟨(innV u).scheme, (innV u).host, ow, false⟩))
     have hbl := below_setCells (B := w.heap.size) (b := w.heap.size + 1) (Nat.le_succ _) (orgCells ⟨(innV u).scheme, (innV u).host, ow, false⟩) 0 _ HB8.out
     have HC := hid (show orgCells ⟨(innV u).scheme, (innV u).host, ow, false⟩ = [.string q0, .string q3, .int .i64 ow, .bool false] by unfold orgCells; rw [← HQA.out.1, ← HQA.out.2.1])
     rw [HV.out]
     refine bodyPost_ret (results_o1 rfl _ _ (w.heap.size + 1) ⟨(innV u).scheme, (innV u).host, ow, false⟩ rfl ?_) rfl ⟨?_, ?_⟩
     ·rw [HC.out] at hrg ⊢; exact hrg
     ·rfl
     ·rw [HC.out] at hbl; exact hbl
    ·have hpb : (q5 == -1) = false := beq_eq_false_iff_ne.2 hpo
     have HV := hid (show orgV u = ⟨(innV u).scheme, (innV u).host, q5, false⟩ by rw [HV0.out]; unfold hasP; rw [if_neg (show ¬ (innV u).port = -1 from fun e => hpo (HQA.out.2.2.1.trans e)), HQA.out.2.2.1])
     clear hpo
     go_wp2_with (first | (refine wpList_store_mid rfl 45 (.tmp 1) (.tmp 15) rfl w.heap.size 0 #[.string q0, .string q1, .string q2, .string q3, .bool q4, .int .i64 q5, .bool q6, .slice qa qn qc, .string q8, .string q9, .bool q10, .bool q11] rfl rfl HT.out (sizeUa (innV u) (.slice qa qn qc)) hone ?_; refine wpList_worldO HW6.out ?_) | (go_at_call 54; refine (HSp.out _).mono ?_; rintro e wz ⟨rfl, hwz⟩; rw [← hwz]; clear hwz) | (go_at_call 35; refine (HOw.out _).mono ?_; rintro e wz ⟨rfl, hwz⟩; rw [← hwz]; clear hwz))
     have hrg := range_row (HRn.out.store (p := ⟨(innV u).scheme, (innV u).host, q5, false⟩))
     have hbl := below_setCells (B := w.heap.size) (b := w.heap.size + 1) (Nat.le_succ _) (orgCells ⟨(innV u).scheme, (innV u).host, q5, false⟩) 0 _ HBn.out
     have HC := hid (show orgCells ⟨(innV u).scheme, (innV u).host, q5, false⟩ = [.string q0, .string q3, .int .i64 q5, .bool false] by unfold orgCells; rw [← HQA.out.1, ← HQA.out.2.1])
     rw [HV.out]
     refine bodyPost_ret (results_o1 rfl _ _ (w.heap.size + 1) ⟨(innV u).scheme, (innV u).host, q5, false⟩ rfl ?_) rfl ⟨?_, ?_⟩
     ·rw [HC.out] at hrg ⊢; exact hrg
     ·rfl
     ·rw [HC.out] at hbl; exact hbl
 ·have hweb' : webV (innV u).scheme = false := by simpa using hweb
  have HAV := hid (orgA_out hweb')
  have e0 : (q0.toList == [104, 116, 116, 112]) = false := beq_no q0 _ (fun h => by
   rw [hq0] at h
   unfold webV at hweb'
   rw [show (innV u).scheme = sHttp from h] at hweb'
   revert hweb'; decide)
  have e1 : (q0.toList == [104, 116, 116, 112, 115]) = false := beq_no q0 _ (fun h => by
   rw [hq0] at h
   unfold webV at hweb'
   rw [show (innV u).scheme = sHttps from h] at hweb'
   revert hweb'; decide)
  clear hweb hweb' hq0 hq3 hq5 hq6
  have hfl : ∀ j y, (adrCells u (.slice ua un uc))[j]? = some y → W5.cell? ⟨w.heap.size, j, none⟩ = some y := fun j y h => HA5.out.cell j y h
  rw [HX.out] at hfl
  have c0 := hfl 0 _ rfl
  have c3 := hfl 3 _ rfl
  have c5 := hfl 5 _ rfl
  clear hfl
  have ry0 := HR5.out.cell 0 _ rfl
  have rz0 := HR5.out.frozen 0
  have ry1 := HR5.out.cell 1 _ rfl
  have rz1 := HR5.out.frozen 1
  have ry2 := HR5.out.cell 2 _ rfl
  have rz2 := HR5.out.frozen 2
  have ry3 := HR5.out.cell 3 _ rfl
  have rz3 := HR5.out.frozen 3
  have HSp := hid (fun w => special_any u0 w)
  have HOw := hid (fun w => own_any u0 w)
  obtain ⟨sp, hsp⟩ : ∃ b, specV u0.data.toList = b := ⟨_, rfl⟩
  obtain ⟨ow, how⟩ : ∃ b, ownV u0.data.toList = b := ⟨_, rfl⟩
  rw [hsp] at HSp
  rw [how] at HOw
  have HSP := hid hsp
  have HOW := hid how
  clear hsp how
  cases sp with
  | false =>
   go_wp2_with (first | (go_at_call 54; refine (HSp.out _).mono ?_; rintro e wz ⟨rfl, hwz⟩; rw [← hwz]; clear hwz) | (go_at_call 35; refine (HOw.out _).mono ?_; rintro e wz ⟨rfl, hwz⟩; rw [← hwz]; clear hwz))
   have HV := hid (show orgV u = Org.none from orgV_no (by rw [HAV.out, ← HXA.out.1]; exact HSP.out))
   have hrg := range_row (HR5.out.store (p := Org.none))
   have hbl := below_setCells (B := w.heap.size) (b := w.heap.size + 1) (Nat.le_succ _) (orgCells Org.none) 0 _ HB5.out
   rw [HV.out]
   refine bodyPost_ret (results_o1 rfl _ _ (w.heap.size + 1) Org.none rfl ?_) rfl ⟨?_, ?_⟩
   ·exact hrg
   ·rfl
   ·exact hbl
  | true =>
   have HV0 := hid (orgV_yes (u := u) (by rw [HAV.out, ← HXA.out.1]; exact HSP.out))
   rw [HAV.out] at HV0
   have hbn : Below W5.heap.size W5 (W5.alloc (.cells #[.string u0, .string u3, .int .i64 u5, .bool false] 24)) := (Below.refl _ _).alloc (Nat.le_refl _) _
   have HRn := hid (HR5.out.kept hbn)
   have HBn := hid (below2 HB5.out hbn)
   have ny0 := HRn.out.cell 0 _ rfl
   have nz0 := HRn.out.frozen 0
   have ny1 := HRn.out.cell 1 _ rfl
   have nz1 := HRn.out.frozen 1
   have ny2 := HRn.out.cell 2 _ rfl
   have nz2 := HRn.out.frozen 2
   have ny3 := HRn.out.cell 3 _ rfl
   have nz3 := HRn.out.frozen 3
   have HLt := hid (HR5.out.lt)
   clear hbn
   by_cases hpo : u5 = -1
   ·subst hpo
    have HV := hid (show orgV u = ⟨u.scheme, u.host, ow, false⟩ by rw [HV0.out]; unfold hasP; rw [if_pos (show u.port = -1 from HXA.out.2.2.1.symm), ← HXA.out.1, HOW.out])
    have hbo : Below W5.heap.size W5 (W5.alloc (.cells #[.string u0, .string u3, .int .i64 ow, .bool false] 24)) := (Below.refl _ _).alloc (Nat.le_refl _) _
    have HR8 := hid (HR5.out.kept hbo)
    have HB8 := hid (below2 HB5.out hbo)
    have k0 := (((Below.refl _ W5).alloc (Nat.le_refl _) (.cells #[.string u0, .string u3, .int .i64 (-1), .bool false] 24)).cell (World.block_lt_of_cell? W5 _ c0)).trans c0
    clear hbo ny0 nz0 ny1 nz1 ny2 nz2 ny3 nz3
    have ny0 := HR8.out.cell 0 _ rfl
    have nz0 := HR8.out.frozen 0
    have ny1 := HR8.out.cell 1 _ rfl
    have nz1 := HR8.out.frozen 1
    have ny2 := HR8.out.cell 2 _ rfl
    have nz2 := HR8.out.frozen 2
    have ny3 := HR8.out.cell 3 _ rfl
    have nz3 := HR8.out.frozen 3
    go_wp2_with (first | (go_at_call 54; refine (HSp.out _).mono ?_; rintro e wz ⟨rfl, hwz⟩; rw [← hwz]; clear hwz) | (go_at_call 35; refine (HOw.out _).mono ?_; rintro e wz ⟨rfl, hwz⟩; rw [← hwz]; clear hwz))
    have hrg := range_row (HR8.out.store (p := ⟨u.scheme, u.host, ow, false⟩))
    have hbl := below_setCells (B := w.heap.size) (b := w.heap.size + 1) (Nat.le_succ _) (orgCells ⟨u.scheme, u.host, ow, false⟩) 0 _ HB8.out
    have HC := hid (show orgCells ⟨u.scheme, u.host, ow, false⟩ = [.string u0, .string u3, .int .i64 ow, .bool false] by unfold orgCells; rw [← HXA.out.1, ← HXA.out.2.1])
    rw [HV.out]
    refine bodyPost_ret (results_o1 rfl _ _ (w.heap.size + 1) ⟨u.scheme, u.host, ow, false⟩ rfl ?_) rfl ⟨?_, ?_⟩
    ·rw [HC.out] at hrg ⊢; exact hrg
    ·rfl
    ·rw [HC.out] at hbl; exact hbl
   ·have hpb : (u5 == -1) = false := beq_eq_false_iff_ne.2 hpo
    have HV := hid (show orgV u = ⟨u.scheme, u.host, u5, false⟩ by rw [HV0.out]; unfold hasP; rw [if_neg (show ¬ u.port = -1 from fun e => hpo (HXA.out.2.2.1.trans e)), HXA.out.2.2.1])
    clear hpo
    go_wp2_with (first | (go_at_call 54; refine (HSp.out _).mono ?_; rintro e wz ⟨rfl, hwz⟩; rw [← hwz]; clear hwz) | (go_at_call 35; refine (HOw.out _).mono ?_; rintro e wz ⟨rfl, hwz⟩; rw [← hwz]; clear hwz))
    have hrg := range_row (HRn.out.store (p := ⟨u.scheme, u.host, u5, false⟩))
    have hbl := below_setCells (B := w.heap.size) (b := w.heap.size + 1) (Nat.le_succ _) (orgCells ⟨u.scheme, u.host, u5, false⟩) 0 _ HBn.out
    have HC := hid (show orgCells ⟨u.scheme, u.host, u5, false⟩ = [.string u0, .string u3, .int .i64 u5, .bool false] by unfold orgCells; rw [← HXA.out.1, ← HXA.out.2.1])
    rw [HV.out]
    refine bodyPost_ret (results_o1 rfl _ _ (w.heap.size + 1) ⟨u.scheme, u.host, u5, false⟩ rfl ?_) rfl ⟨?_, ?_⟩
    ·rw [HC.out] at hrg ⊢; exact hrg
    ·rfl
    ·rw [HC.out] at hbl; exact hbl

end Go.Proofs.YtmhooefajdndjaaGreatDoor

namespace Go.Proofs.YtmhooefajdndjaaGreatDoor
open Go.RowKit

set_option maxHeartbeats 2000000 in
set_option maxRecDepth 100000 in
theorem same4_any (a b : Org) (w : World) :
  Calls Tryz.prog 13 #[orgVal a, orgVal b] w fun e w' => e = .returned (.bool (sameO a b)) ∧ Below w.heap.size w w' := by
 obtain ⟨sa, ah, ap, ao⟩ := a
 obtain ⟨bs, bh, bp, bo⟩ := b
 obtain ⟨AS, rfl⟩ : ∃ X : ByteArray, sa = X.data.toList := ⟨⟨sa.toArray⟩, rfl⟩
 obtain ⟨AH, rfl⟩ : ∃ X : ByteArray, ah = X.data.toList := ⟨⟨ah.toArray⟩, rfl⟩
 obtain ⟨BS, rfl⟩ : ∃ X : ByteArray, bs = X.data.toList := ⟨⟨bs.toArray⟩, rfl⟩
 obtain ⟨BH, rfl⟩ : ∃ X : ByteArray, bh = X.data.toList := ⟨⟨bh.toArray⟩, rfl⟩
 have hv : ∀ (s h : ByteArray) (p : Int) (o : Bool), orgVal ⟨s.data.toList, h.data.toList, p, o⟩ = .agg #[.string s, .string h, .int .i64 p, .bool o] := fun _ _ _ _ => rfl
 rw [hv, hv]
 have HBx := hid (show Below w.heap.size w ((w.alloc (.cells #[.string AS, .string AH, .int .i64 ap, .bool ao] 24)).alloc (.cells #[.string BS, .string BH, .int .i64 bp, .bool bo] 24)) from ((Below.refl _ w).alloc (Nat.le_refl _) _).alloc (by simp) _)
 clear hv
 cases ao with
 | true =>
  go_enter Tryz.func13, Tryz.ntmps13
  go_wp2
  go_ret
  exact ⟨rfl, HBx.out⟩
 | false =>
  clear HBx
  go_enter Tryz.func13, Tryz.ntmps13
  go_wp2
  all_goals
   go_ret
   refine ⟨ret_bool ?_, ((Below.refl _ w).alloc (Nat.le_refl _) _).alloc (by simp) _⟩
   simp only [Lib.toList_data] at *
   simp_all [sameO]

end Go.Proofs.YtmhooefajdndjaaGreatDoor

namespace Go.Proofs.YtmhooefajdndjaaGreatDoor
open Go.RowKit

theorem keptC {w w' : World} {a : Addr} {v : Value} (h : w.cell? a = some v) (hb : Below w.heap.size w w') : w'.cell? a = some v := (hb.cell (World.block_lt_of_cell? w _ h)).trans h

end Go.Proofs.YtmhooefajdndjaaGreatDoor

namespace Go.Proofs.YtmhooefajdndjaaGreatDoor
open Go.RowKit

def textO (o : Org) : List UInt8 := if o.opq then [110, 117, 108, 108] else o.scheme ++ [58, 47, 47] ++ o.host ++ (if o.port = ownV o.scheme then [] else [58] ++ portT o.port)

set_option maxHeartbeats 8000000 in
set_option maxRecDepth 100000 in
theorem textO_any (o : Org) (w : World) (hg : Gd w) (hs : o.scheme.length ≤ 1000000) (hh : o.host.length ≤ 1000000) (hp : o.opq = false → 0 ≤ o.port ∧ o.port ≤ 65535) :
  Calls Tryz.prog 10 #[orgVal o] w fun e w' => e = .returned (.string ⟨(textO o).toArray⟩) ∧ Below w.heap.size w w' := by
 obtain ⟨sa, ah, ap, ao⟩ := o
 obtain ⟨AS, rfl⟩ : ∃ X : ByteArray, sa = X.data.toList := ⟨⟨sa.toArray⟩, rfl⟩
 obtain ⟨AH, rfl⟩ : ∃ X : ByteArray, ah = X.data.toList := ⟨⟨ah.toArray⟩, rfl⟩
 rw [show orgVal ⟨AS.data.toList, AH.data.toList, ap, ao⟩ = .agg #[.string AS, .string AH, .int .i64 ap, .bool ao] from rfl]
 have hss : AS.size ≤ 1000000 := by rw [Lib.size_eq]; exact hs
 have hhs : AH.size ≤ 1000000 := by rw [Lib.size_eq]; exact hh
 obtain ⟨T1, hT1⟩ : ∃ Z : ByteArray, AS ++ (⟨#[58, 47, 47]⟩ : ByteArray) = Z := ⟨_, rfl⟩
 have hT1l : T1.data.toList = AS.data.toList ++ [58, 47, 47] := by rw [← hT1, ByteArray.data_append, Array.toList_append]
 have hT1s : T1.size ≤ 1000003 := by rw [Lib.size_eq, hT1l, List.length_append, ← Lib.size_eq]; simp; omega
 obtain ⟨T2, hT2⟩ : ∃ Z : ByteArray, T1 ++ AH = Z := ⟨_, rfl⟩
 have hT2l : T2.data.toList = AS.data.toList ++ [58, 47, 47] ++ AH.data.toList := by rw [← hT2, ByteArray.data_append, Array.toList_append, hT1l]
 have hT2s : T2.size ≤ 2000003 := by rw [Lib.size_eq, ← hT2, ByteArray.data_append, Array.toList_append, List.length_append, ← Lib.size_eq, ← Lib.size_eq]; omega
 obtain ⟨PT, hPT⟩ : ∃ X : ByteArray, X = ⟨(portT ap).toArray⟩ := ⟨_, rfl⟩
 have hPl : PT.data.toList = portT ap := by rw [hPT]
 have hPs : PT.size ≤ 100 := by rw [hPT]; exact portT_le ap
 obtain ⟨T3, hT3⟩ : ∃ Z : ByteArray, (⟨#[58]⟩ : ByteArray) ++ PT = Z := ⟨_, rfl⟩
 have hT3l : T3.data.toList = [58] ++ portT ap := by rw [← hT3, ByteArray.data_append, Array.toList_append, hPl]
 have hT3s : T3.size ≤ 101 := by rw [Lib.size_eq, hT3l, ← hPl, List.length_append, ← Lib.size_eq]; simp; omega
 obtain ⟨T4, hT4⟩ : ∃ Z : ByteArray, T2 ++ T3 = Z := ⟨_, rfl⟩
 have HT4 := hid (show T4.data.toList = AS.data.toList ++ [58, 47, 47] ++ AH.data.toList ++ ([58] ++ portT ap) by rw [← hT4, ByteArray.data_append, Array.toList_append, hT2l, hT3l])
 have HT2 := hid hT2l
 obtain ⟨W, hW⟩ : ∃ W, (w.alloc (.cells #[.string AS, .string AH, .int .i64 ap, .bool ao] 24)) = W := ⟨_, rfl⟩
 have hbW : Below w.heap.size w W := by rw [← hW]; exact (Below.refl _ w).alloc (Nat.le_refl _) _
 have hrow : W.heap[w.heap.size]? = some (.cells #[.string AS, .string AH, .int .i64 ap, .bool ao] 24 (0, 0)) := by rw [← hW]; exact heap_alloc_new w _
 have h0 : W.cell? ⟨w.heap.size, 0, none⟩ = some (.string AS) := by rw [Lib.cell_of_heap hrow]; rfl
 have h1 : W.cell? ⟨w.heap.size, 1, none⟩ = some (.string AH) := by rw [Lib.cell_of_heap hrow]; rfl
 have h2 : W.cell? ⟨w.heap.size, 2, none⟩ = some (.int .i64 ap) := by rw [Lib.cell_of_heap hrow]; rfl
 have h3 : W.cell? ⟨w.heap.size, 3, none⟩ = some (.bool ao) := by rw [Lib.cell_of_heap hrow]; rfl
 have HKF := hid (show ∀ Z, Below W.heap.size W Z → Z.cell? ⟨w.heap.size, 0, none⟩ = some (.string AS) ∧ Z.cell? ⟨w.heap.size, 1, none⟩ = some (.string AH) ∧ Z.cell? ⟨w.heap.size, 2, none⟩ = some (.int .i64 ap) ∧ Z.cell? ⟨w.heap.size, 3, none⟩ = some (.bool ao) from fun Z hZ => ⟨keptC h0 hZ, keptC h1 hZ, keptC h2 hZ, keptC h3 hZ⟩)
 have HGW := hid (fun (X : World) (hX : Below W.heap.size W X) => (hg.kept hbW).kept hX)
 have HBW := hid hbW
 have HOw := hid (fun w => own_any AS w)
 obtain ⟨ow, how⟩ : ∃ z, ownV AS.data.toList = z := ⟨_, rfl⟩
 rw [how] at HOw
 have HOwE := hid how
 have HPT := hid hPT
 clear hg hs hh hT1l hT2l hPT hPl hT3l hbW hrow how
 cases ao with
 | true =>
  clear hp
  go_enter Tryz.func10, Tryz.ntmps10
  go_wp2
  go_ret
  exact ⟨rfl, HBW.out⟩
 | false =>
  have HP := hid (hp rfl)
  have HIt : Hid (∀ (X : World), Below W.heap.size W X → Calls Tryz.prog 36 #[.int .i64 ap] X fun e w' => e = .returned (.string PT) ∧ Below X.heap.size X w') := fun X hX => by rw [HPT.out]; exact itoaP_any ap X (HGW.out _ hX) HP.out.1 HP.out.2
  clear hp
  go_enter Tryz.func10, Tryz.ntmps10
  go_wp2_with fail
  have HQ0 := hid ((Below.refl W.heap.size W).drew)
  refine wp_region_held_drew (S := (fun wx => Below W.heap.size W wx)) (by kernel_rfl) HQ0.out (fun hHeld => ?_)
  refine' wpAnyH_take (i := 0) (oi := ⟨some 12, _, _, _, _, _⟩) (v := _) rfl (by kernel_rfl) (by kernel_rfl) (by kernel_rfl) (fun _ _ _ h => h) (Or.inl ⟨by kernel_rfl, ?hy1⟩) (by assumption) ?rest1
  case hy1 => (intro wx hSw; (try dsimp only at hSw); obtain ⟨k0, k1, k2, k3⟩ := HKF.out _ hSw; go_simp; first | done | with_reducible rfl | (rw [if_neg (by omega)]; with_reducible rfl))
  (try simp only [Act.put, List.setIfInBounds_toArray, List.set_cons_zero, List.set_cons_succ])
  refine' wpAnyH_take (i := 1) (oi := ⟨some 13, _, _, _, _, _⟩) (v := _) rfl (by kernel_rfl) (by kernel_rfl) (by kernel_rfl) (fun _ _ _ h => h) (Or.inl ⟨by kernel_rfl, ?hy2⟩) (by assumption) ?rest2
  case hy2 => (intro wx hSw; (try dsimp only at hSw); obtain ⟨k0, k1, k2, k3⟩ := HKF.out _ hSw; go_simp; first | done | with_reducible rfl | (rw [if_neg (by omega)]; with_reducible rfl))
  (try simp only [Act.put, List.setIfInBounds_toArray, List.set_cons_zero, List.set_cons_succ])
  refine' wpAnyH_take (i := 2) (oi := ⟨some 14, _, _, _, _, _⟩) (v := _) rfl (by kernel_rfl) (by kernel_rfl) (by kernel_rfl) (fun _ _ _ h => h) (Or.inl ⟨by kernel_rfl, ?hy3⟩) (by assumption) ?rest3
  case hy3 => (intro wx hSw; (try dsimp only at hSw); obtain ⟨k0, k1, k2, k3⟩ := HKF.out _ hSw; go_simp; first | done | with_reducible rfl | (rw [if_neg (by omega)]; with_reducible rfl))
  (try simp only [Act.put, List.setIfInBounds_toArray, List.set_cons_zero, List.set_cons_succ])
  refine' wpAnyH_take (i := 3) (oi := ⟨some 15, _, _, _, _, _⟩) (v := _) rfl (by kernel_rfl) (by kernel_rfl) (by kernel_rfl) (fun _ _ _ h => h) (Or.inl ⟨by kernel_rfl, ?hy4⟩) (by assumption) ?rest4
  case hy4 => (intro wx hSw; (try dsimp only at hSw); obtain ⟨k0, k1, k2, k3⟩ := HKF.out _ hSw; go_simp; first | done | with_reducible rfl | (rw [if_neg (by omega)]; with_reducible rfl))
  (try simp only [Act.put, List.setIfInBounds_toArray, List.set_cons_zero, List.set_cons_succ])
  refine wpAnyH_ready (rs := [4]) (by kernel_rfl) (by simp) ?_
  refine AllReadyH.cons rfl (fun K hK => ?_) AllReadyH.nil
  rw [if_pos (by kernel_rfl)]
  go_simp
  go_wp2_with (go_at_call 35; refine (HOw.out _).mono ?_; rintro e wz ⟨rfl, hwz⟩; rw [← hwz]; clear hwz)
  refine hK.out _ _ HQ0.out (fun hHeld2 => ?_)
  clear hK K hHeld
  rename _ => hHeld
  by_cases hpo : ap = ow
  ·have hpo' : (ap != ow) = false := by rw [hpo]; exact bne_self_eq_false ow
   have HZ := hid (show textO ⟨AS.data.toList, AH.data.toList, ap, false⟩ = AS.data.toList ++ [58, 47, 47] ++ AH.data.toList by unfold textO; simp [hpo, HOwE.out])
   clear hpo
   refine' wpAnyH_take (i := 5) (oi := ⟨some 17, _, _, _, _, _⟩) (v := _) rfl (by kernel_rfl) (by kernel_rfl) (by kernel_rfl) (fun _ _ _ h => h) (Or.inl ⟨by kernel_rfl, ?hy5⟩) (by assumption) ?rest5
   case hy5 => (intro wx hSw; (try dsimp only at hSw); obtain ⟨k0, k1, k2, k3⟩ := HKF.out _ hSw; go_simp; first | done | with_reducible rfl | (rw [if_neg (by omega)]; with_reducible rfl))
   (try simp only [Act.put, List.setIfInBounds_toArray, List.set_cons_zero, List.set_cons_succ])
   refine wpAnyH_done (by kernel_rfl) ?_ _
   go_wp2
   go_ret
   exact ⟨ret_str' (by refine ba_ext ?_; rw [HT2.out, HZ.out]), below2 HBW.out HQ0.out⟩
  ·have hpo' : (ap != ow) = true := bne_iff_ne.2 hpo
   have HZ := hid (show textO ⟨AS.data.toList, AH.data.toList, ap, false⟩ = AS.data.toList ++ [58, 47, 47] ++ AH.data.toList ++ ([58] ++ portT ap) by unfold textO; simp [hpo, HOwE.out])
   clear hpo
   refine' wpAnyH_take (i := 5) (oi := ⟨some 17, _, _, _, _, _⟩) (v := _) rfl (by kernel_rfl) (by kernel_rfl) (by kernel_rfl) (fun _ _ _ h => h) (Or.inl ⟨by kernel_rfl, ?hy6⟩) (by assumption) ?rest6
   case hy6 => (intro wx hSw; (try dsimp only at hSw); obtain ⟨k0, k1, k2, k3⟩ := HKF.out _ hSw; go_simp; first | done | with_reducible rfl | (rw [if_neg (by omega)]; with_reducible rfl))
   (try simp only [Act.put, List.setIfInBounds_toArray, List.set_cons_zero, List.set_cons_succ])
   refine wpAnyH_done (by kernel_rfl) ?_ _
   obtain ⟨k0, k1, k2, k3⟩ := HKF.out _ HQ0.out
   go_wp2_with fail
   refine (HIt.out _ HQ0.out).mono ?_
   rintro e w5 ⟨rfl, hb5⟩
   go_wp2
   go_ret
   exact ⟨ret_str' (by refine ba_ext ?_; rw [HT4.out, HZ.out]), below2 HBW.out (below2 HQ0.out hb5)⟩

end Go.Proofs.YtmhooefajdndjaaGreatDoor
