/-
  Walks and plain facts that this claim leans on, put together out of 3 texts: Azh, Epa, Dz.
-/
import Derived.Test.YtgoefeaopegdoaaGreatDoorProg
import Derived.Test.YtgoefeaopegdoaaGreatDoorRows
import Derived.Test.YtgoefeaopegdoaaGreatDoorTie
import Derived.Test.YtgoefeaopegdoaaGreatDoorQa1
import Derived.Test.YtgoefeaopegdoaaGreatDoorQa2
import Derived.Test.YtgoefeaopegdoaaGreatDoorQa3
import Derived.Test.YtgoefeaopegdoaaGreatDoorQa4
import Derived.Test.YtgoefeaopegdoaaGreatDoorQa5
import Derived.Test.YtgoefeaopegdoaaGreatDoorQa6
import Derived.Test.YtgoefeaopegdoaaGreatDoorQa7
import Derived.Test.YtgoefeaopegdoaaGreatDoorQa8
import Derived.Test.YtgoefeaopegdoaaGreatDoorQa9
import Derived.Test.YtgoefeaopegdoaaGreatDoorQa10
import Derived.Test.YtgoefeaopegdoaaGreatDoorQa11
import Derived.Test.YtgoefeaopegdoaaGreatDoorQa12
import Derived.Test.YtgoefeaopegdoaaGreatDoorQa13
import Derived.Test.YtgoefeaopegdoaaGreatDoorQa14
import Derived.Test.YtgoefeaopegdoaaGreatDoorQa15
import Derived.Test.YtgoefeaopegdoaaGreatDoorQa16
import Derived.Test.YtgoefeaopegdoaaGreatDoorQa17
import Derived.Test.YtgoefeaopegdoaaGreatDoorQa18
import Derived.Test.YtgoefeaopegdoaaGreatDoorQa19
import Derived.Test.YtgoefeaopegdoaaGreatDoorQa20
import Derived.Test.YtgoefeaopegdoaaGreatDoorQa21
import Derived.Test.YtgoefeaopegdoaaGreatDoorQa22
import Derived.Test.YtgoefeaopegdoaaGreatDoorQa23
import Derived.Test.YtgoefeaopegdoaaGreatDoorQa24
import Derived.Test.YtgoefeaopegdoaaGreatDoorQa25
import Derived.Test.YtgoefeaopegdoaaGreatDoorQa26
import Derived.Test.YtgoefeaopegdoaaGreatDoorQa27
import Derived.Test.YtgoefeaopegdoaaGreatDoorQb1
import Derived.Test.YtgoefeaopegdoaaGreatDoorQb3
import Derived.Deep.SlicePairs
import Derived.WalkKit
import Derived.Lib.Strings
import Derived.Lib.UnsafeStr
import Derived.Laws.IdiomStrings
import Derived.Laws.AppendOwn
import Derived.Laws.BitsAllLaws
import Derived.Lib.Bytealg
import Derived.Lib.BufferMore
import Derived.Shelf.Strings.Builder1
import Derived.Shelf.Strings.Builder2
import Derived.Shelf.Strings.OnBuilder
import Derived.Shelf.Strings.Trim
import Derived.Shelf.Small.Utf8
import Derived.Shelf.Small.Bits
import Derived.Shelf.Small.Strs
import Derived.Shelf.Small.Wraps
import Derived.Shelf.Strings.BuilderF
import Derived.Shelf.Strings.BuilderK
import Derived.Shelf.Strings.BuilderRune
import Derived.Shelf.Utf8.AppendRune
import Derived.Shelf.Utf8.AppendRunePlain
import Derived.Shelf.Strings.Builder2Cap
import Derived.Shelf.Strconv.Itoa0
import Derived.Shelf.Strconv.Itoa1
import Derived.Shelf.LaysM
import Derived.Shelf.Strconv.Itoa2
import Derived.Shelf.Strconv.Itoa3
import Derived.Shelf.Strings.Search1
import Derived.Shelf.Strings.Search2
import Derived.Shelf.Strings.Search3
import Derived.Shelf.Strings.Cut
import Derived.Shelf.Strings.Count
import Derived.Shelf.Strings.Shaped
import Derived.Shelf.Strings.LastIndex
import Derived.Shelf.Strings.Prefix
import Derived.Shelf.Strings.Split
import Derived.Shelf.Strings.Replace
import Derived.Shelf.Strings.Runes
import Derived.Shelf.Strings.IndexAny
import Derived.Shelf.Strings.AsciiSet
import Derived.Shelf.Strings.IndexAnyAll
import Derived.Shelf.Unicode.DecodeSlow
import Derived.Ground.Names2Prog
import Derived.Shelf.Slices.Clone
import Derived.Shelf.Slices.In.SortNone
import Derived.Ground.SlgnProg
import Derived.Shelf.SlicesE.Clone
import Derived.WalkSpells
import Derived.WalkLawsBesides
import Derived.Lib.SlTrimSet
import Derived.Lib.Join
import Derived.Lib.IndexMore
import Derived.Laws.OwnMore
import Derived.Below
import Derived.WalkSmall
import Derived.Lib.SmallJoins
import Derived.Deep.QuietTactic
import Derived.BigQuiet
import Derived.Deep.LoopGhost
import Derived.Deep.MidRow
import Derived.Shelf.Strings.SlTrimAscii
import Derived.Lib.LastIndexByte
import Derived.Lib.BufferRead
import Derived.Lib.RuneBytes
import Derived.Laws.RangeAny
import Derived.LoopN
import Derived.RegionTactic
import Derived.Deep.RegionWith
import Derived.Scope
import Derived.ScopeJumps
import Derived.WalkMore
import Derived.Lib.IndexAny
import Derived.Lib.Replace
import Derived.Lib.TrimByte
import Derived.Lib.ItoaNum
import Derived.Lib.DecodeN
import Derived.Lib.OthersKept
import Derived.Laws.BytesString
import Derived.Deep.WholeRow
import Derived.BigRegion
import Derived.Lib.AppendIntMem
import Derived.OwnWalk
import Derived.Laws.CopyOwn
import Derived.Laws.ResultCell
import Derived.Lib.FrozenHead2
import Derived.Lib.Builder
import Derived.Deep.RegionLaw
import Derived.Laws.Runes
import Derived.Stop.LaidErr
import Derived.LaidMore
set_option linter.unusedSimpArgs false
set_option linter.unusedVariables false

namespace Go.Proofs.YtgoefeaopegdoaaGreatDoor
open Go.RowKit

theorem spot_none0 {w : World} {x : Addr} {v : Value} (h : w.cell? x = some v) : x.spot = none := by
 unfold World.cell? at h
 cases hs : x.spot with
 | none => rfl
 | some y =>
  rw [hs] at h
  split at h
  ·simp at h
  ·cases h

theorem addr_add0 {x : Addr} (h : x.spot = none) (j : Nat) : x.add j = ⟨x.block, x.off + j, none⟩ := by
 unfold Addr.add
 split
 ·subst_vars; rw [← h]; rfl
 ·rfl

end Go.Proofs.YtgoefeaopegdoaaGreatDoor

namespace Go.Proofs.YtgoefeaopegdoaaGreatDoor
open Go.RowKit

theorem undPr : ∃ f0 f1, Tryz.prog.underlying 51 = some (.struct #[f0, f1]) ∧ f0.offset = 0 ∧ f1.offset = 1 ∧ f0.type = 9 ∧ f1.type = 9 := ⟨_, _, Tryz.underlying51, rfl, rfl, rfl, rfl⟩

theorem bulk_pair {H : Type} (x y : List UInt8) : Rows.uptoBulk (DataW.agg [.lit (.string x), .lit (.string y)] : DataW H) = x.length + y.length + 3 := by
 simp [Rows.uptoBulk, Rows.uptoBulkAll]
 omega

theorem bulk_big {H : Type} (f : Nat → Hd) (g : Nat → DataW H) : ∀ (I : List Nat), (∀ i ∈ I, g i = .agg [.lit (.string (f i).name), .lit (.string (f i).value)]) → bigQ (I.map f) ≤ 3 * Rows.uptoBulkAll (I.map g)
 | [], _ => by simp [bigQ]
 | i :: I, h => by
  have h1 := bulk_big f g I fun j hj => h j (by simp [hj])
  have h2 : bigH (f i) ≤ 3 * Rows.uptoBulk (g i) := by
   rw [h i (by simp), bulk_pair]
   unfold bigH
   omega
  have e1 : bigQ ((i :: I).map f) = bigH (f i) + bigQ (I.map f) := by simp [bigQ]
  have e2 : Rows.uptoBulkAll ((i :: I).map g) = Rows.uptoBulk (g i) + Rows.uptoBulkAll (I.map g) := by rw [List.map_cons, Rows.uptoBulkAll]
  rw [e1, e2]
  omega

theorem pair_arg {H : Type} {enc : TypeId × Value → H} {W : World} {a : Option Addr} {len cap : Nat} {d : DataW H} {p : List MemPlace} {fuel : Nat}
  (hf : DataW.trod enc Tryz.prog W 0 (fun _ => true) true fuel 48 [.slice a len cap] = some (d, p)) :
  ∃ L, HdAt W (.slice a len cap) L ∧ bigQ L ≤ 3 * Rows.uptoBulk d := by
 obtain ⟨f0, f1, hu, o0, o1, t0, t1⟩ := undPr
 have c1 : Tryz.prog.cellsOf 9 = 1 := by kernel_rfl
 rcases Deep.open_slice_pairs Tryz.underlying48 hu (by kernel_rfl) o0 o1 (by rw [t0]; exact c1) (by rw [t1]; exact c1) hf with ⟨hcs, _⟩ | ⟨x, len', cap', m, n, V0, V1, D0, D1, P0, P1, hcs, _, hl, hm, hmm, hx, hcell⟩
 ·simp at hcs
  obtain ⟨rfl, rfl, rfl⟩ := hcs
  exact ⟨[], hd_nil _, by simp [bigQ]⟩
 ·simp at hcs
  obtain ⟨rfl, rfl, rfl⟩ := hcs
  have hlm : len ≤ m := by rw [hmm]; simp; omega
  have hx1 := (Prod.mk.injEq _ _ _ _ ▸ hx : _ ∧ _).1
  have each : ∀ i, i < len → ∃ s : ByteArray × ByteArray, W.cell? (x.add (i * 2)) = some (.string s.1) ∧ W.cell? (x.add (i * 2 + 1)) = some (.string s.2) ∧ D0 i = .lit (.string s.1.data.toList) ∧ D1 i = .lit (.string s.2.data.toList) := fun i hi => by
   obtain ⟨q0, q1, r0, r1⟩ := hcell i (by omega)
   rw [t0] at r0
   rw [t1] at r1
   obtain ⟨s0, e0, y0, _⟩ := DataW.trod_string Tryz.underlying9 r0
   obtain ⟨s1, e1, y1, _⟩ := DataW.trod_string Tryz.underlying9 r1
   simp at e0 e1 y0 y1
   rw [e0] at q0
   rw [e1] at q1
   exact ⟨(s0, s1), q0, q1, y0.1, y1.1⟩
  obtain ⟨F, hF⟩ := Deep.choose_lt each
  have hL : ((List.range len).map fun i => (⟨(F i).1.data.toList, (F i).2.data.toList⟩ : Hd)).length = len := by simp
  refine ⟨(List.range len).map fun i => ⟨(F i).1.data.toList, (F i).2.data.toList⟩, ⟨some x, cap, by rw [hL], by rw [hL]; exact hl, hm, fun i hi => ?_⟩, ?_⟩
  ·rw [hL] at hi
   have h0 := hF 0 (by omega)
   have hsp : x.spot = none := spot_none0 (by simpa [Addr.add] using h0.1)
   obtain ⟨q0, q1, _⟩ := hF i hi
   rw [addr_add0 hsp] at q0 q1
   refine ⟨x.block, x.off, by rw [← hsp], ?_, ?_⟩
   ·rw [q0]; simp
   ·rw [Nat.add_assoc, q1]; simp
  ·have := bulk_big (H := H) (fun i => (⟨(F i).1.data.toList, (F i).2.data.toList⟩ : Hd)) (fun i => .agg [D0 i, D1 i]) (List.range len) fun i hi => by
    obtain ⟨_, _, h0, h1⟩ := hF i (by simpa using hi)
    rw [h0, h1]
   have e : Rows.uptoBulkAll ((List.range len).map fun i => (DataW.agg [D0 i, D1 i] : DataW H)) ≤ Rows.uptoBulk d := by
    rw [hx1]
    simp only [Rows.uptoBulk]
    omega
   omega

theorem bulk_part {H : Type} {d : DataW H} {l : List (DataW H)} (h : d ∈ l) : Rows.uptoBulk d ≤ Rows.uptoBulkAll l := by
 induction l with
 | nil => cases h
 | cons x r ih =>
  simp only [Rows.uptoBulkAll]
  cases List.mem_cons.1 h with
  | inl e => subst e; omega
  | inr e => have := ih e; omega

theorem bulk_bound {H : Type} {l : List (DataW H)} (hk : Rows.uptoSmall H l = true) : Rows.uptoBulkAll l ≤ 1048576 := of_decide_eq_true hk

end Go.Proofs.YtgoefeaopegdoaaGreatDoor

namespace Go.Proofs.YtgoefeaopegdoaaGreatDoor
open Go.RowKit

def laid7 : List (String × DataW Unit) := [("math/bits.deBruijn32tab", Rows.laid_math_bits_deBruijn32tab), ("math/bits.deBruijn64tab", Rows.laid_math_bits_deBruijn64tab), ("internal/strconv.uint64pow10", Rows.laid_internal_strconv_uint64pow10), ("unicode/utf8.acceptRanges", Rows.laid_unicode_utf8_acceptRanges), ("unicode/utf8.first", Rows.laid_unicode_utf8_first)]

theorem g5_of_shaped {W : World} (hsh : W.ShapedOpen Tryz.prog) : G5 W := Tryz.laysM145.s1_3 W hsh

theorem gd7_of_laid {W : World} (h : laidMetH Tryz.prog laid7 W) (hsh : W.ShapedOpen Tryz.prog) : Gd W := by
 have h' : laidMet Tryz.prog laid7 W := h
 have h2 := h'.tail
 have h3 := h2.tail
 refine ⟨Tryz.laysM145.s1_3 W hsh, ?_, ?_⟩
 ·exact Lib.tabIs_of_head gPow10 (by kernel_rfl) Tryz.underlying269 Tryz.underlying239 (by kernel_rfl) (by kernel_rfl) h3
 ·exact Lib.tabIs_of_head gDB64 (by kernel_rfl) Tryz.underlying304 Tryz.underlying5 (by kernel_rfl) (by kernel_rfl) h2

theorem ownK : ownKnob Tryz.prog.godebug = none := by kernel_rfl

noncomputable def startW (os : Os) : World :=
 { World.doorLaid Tryz.prog 24 os with heap := (World.doorLaid Tryz.prog 24 os).heap.setIfInBounds 1 (.cells (Pinned.utf8FirstZ.map fun (n : Nat) => Value.int .u8 (n : Int)).toArray 247 (0, 0)) }

theorem door_met (os : Os) (args : Array Value) : laidMetH Tryz.prog laid7 ((startW os).forCall (fun _ _ => 0) ⟨#[], args, []⟩).memory :=
 laidMetH_of_parts3 (fuel := 8) (laidMet_of_run' 8 (by kernel_rfl) (by kernel_rfl)) (by kernel_rfl) (by kernel_rfl)

end Go.Proofs.YtgoefeaopegdoaaGreatDoor
