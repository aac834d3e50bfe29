/-
  Walks and plain facts that this claim leans on, put together out of 1 texts: Erp.
-/
import Derived.Test.YtdnginibhpnefaaGreatDoorProg
import Derived.Test.YtdnginibhpnefaaGreatDoorQa1
import Derived.Test.YtdnginibhpnefaaGreatDoorQa2
import Derived.Test.YtdnginibhpnefaaGreatDoorQa3
import Derived.Test.YtdnginibhpnefaaGreatDoorQa4
import Derived.Test.YtdnginibhpnefaaGreatDoorQa5
import Derived.Test.YtdnginibhpnefaaGreatDoorQa6
import Derived.Test.YtdnginibhpnefaaGreatDoorQa7
import Derived.Test.YtdnginibhpnefaaGreatDoorQa8
import Derived.Test.YtdnginibhpnefaaGreatDoorQa9
import Derived.Test.YtdnginibhpnefaaGreatDoorQa10
import Derived.Test.YtdnginibhpnefaaGreatDoorQa11
import Derived.Test.YtdnginibhpnefaaGreatDoorQa12
import Derived.Test.YtdnginibhpnefaaGreatDoorQa13
import Derived.Test.YtdnginibhpnefaaGreatDoorQa14
import Derived.Test.YtdnginibhpnefaaGreatDoorQa15
import Derived.Test.YtdnginibhpnefaaGreatDoorQa16
import Derived.Test.YtdnginibhpnefaaGreatDoorQa17
import Derived.Test.YtdnginibhpnefaaGreatDoorQa18
import Derived.Test.YtdnginibhpnefaaGreatDoorQa19
import Derived.Test.YtdnginibhpnefaaGreatDoorQa20
import Derived.Test.YtdnginibhpnefaaGreatDoorQa21
import Derived.Test.YtdnginibhpnefaaGreatDoorQa22
import Derived.Test.YtdnginibhpnefaaGreatDoorQa23
import Derived.Test.YtdnginibhpnefaaGreatDoorQa24
import Derived.Test.YtdnginibhpnefaaGreatDoorQa25
import Derived.Test.YtdnginibhpnefaaGreatDoorQa26
import Derived.Test.YtdnginibhpnefaaGreatDoorQa27
import Derived.Test.YtdnginibhpnefaaGreatDoorQa28
import Derived.Test.YtdnginibhpnefaaGreatDoorQa29
import Derived.Test.YtdnginibhpnefaaGreatDoorQa30
import Derived.Test.YtdnginibhpnefaaGreatDoorQa31
import Derived.Test.YtdnginibhpnefaaGreatDoorQa32
import Derived.Test.YtdnginibhpnefaaGreatDoorQa33
import Derived.Laws.RangeAny
import Derived.Lib.DecodeN
import Derived.Lib.OthersKept
import Derived.Deep.LoopGhost
import Derived.RegionTactic
import Derived.Deep.RegionWith
import Derived.Deep.QuietTactic
import Derived.BigQuiet
import Derived.Laws.BitsAllLaws
import Derived.Shelf.Strings.Builder1
import Derived.Shelf.Strings.Builder2
import Derived.Shelf.Strings.OnBuilder
import Derived.Shelf.Strings.Trim
import Derived.Shelf.Small.Utf8
import Derived.Shelf.Small.Strs
import Derived.Shelf.Small.Wraps
import Derived.Shelf.Strings.BuilderF
import Derived.Shelf.Strings.BuilderK
import Derived.Shelf.Strings.Builder2Cap
import Derived.Shelf.Strconv.Itoa0
import Derived.Shelf.Strconv.Itoa1
import Derived.Shelf.LaysM
import Derived.Shelf.Strconv.Itoa2
import Derived.Shelf.Strconv.Itoa3
import Derived.Shelf.Strings.Search1
import Derived.Shelf.Strings.Search2
import Derived.Shelf.Strings.Search3
import Derived.Shelf.Strings.Cut
import Derived.Shelf.Strings.Count
import Derived.Shelf.Strings.Shaped
import Derived.Shelf.Strings.LastIndex
import Derived.Shelf.Strings.Prefix
import Derived.Shelf.Strings.Split
import Derived.Shelf.Strings.Replace
import Derived.Shelf.Strings.Runes
import Derived.Shelf.Strings.IndexAny
import Derived.Shelf.Strings.AsciiSet
import Derived.Shelf.Strings.IndexAnyAll
import Derived.Shelf.Unicode.DecodeSlow
import Derived.Ground.Names2Prog
import Derived.Shelf.Slices.Clone
import Derived.Ground.SlgnProg
import Derived.Shelf.SlicesE.Clone
import Derived.LoopN
import Derived.Deep.RegionHeld
import Derived.Lib.BufferMore
import Derived.Deep.RegionLaw
import Derived.BigRegion
import Derived.Deep.Cut
import Derived.WalkKit
import Derived.WalkSpells
import Derived.WalkLawsBesides
import Derived.Lib.AppendIntMem
import Derived.Lib.SmallJoins
import Derived.WalkSmall
import Derived.Lib.IndexMore
import Derived.Lib.Join
import Derived.Lib.AppendStr
import Derived.Laws.IdiomStrings
import Derived.Laws.BytesString
import Derived.Deep.WholeRow
import Derived.Laws.AppendOwnNone
import Derived.WalkMore
import Derived.Scope
import Derived.ScopeJumps
import Derived.OwnWalk
import Derived.Lib.SlTrimSet
import Derived.Lib.Bytealg
import Derived.Lib.BufferRead
import Derived.Lib.RuneBytes
import Derived.Laws.CopyOwn
import Derived.Laws.ResultCell
import Derived.Deep.MidRow
import Derived.Lib.UnsafeStr
import Derived.Deep.CutRange
import Derived.Lib.Strings
import Derived.Laws.AppendOwn
import Derived.Laws.OwnMore
import Derived.Lib.LastIndexByte
import Derived.Lib.IndexAny
import Derived.Lib.Replace
import Derived.Lib.TrimByte
import Derived.Lib.ItoaNum
import Derived.Lib.FrozenHead2
import Derived.Lib.Builder
set_option linter.unusedSimpArgs false
set_option linter.unusedVariables false

namespace Go.Proofs.YtdnginibhpnefaaGreatDoor
open Go.RowKit

def nbA : Adr := adrOf (readV [100, 97, 116, 97, 58, 97, 32, 98, 63, 99, 35, 100] none)

def nbX : Adr := adrOf (readV [] (some nbA))

def nbY : Adr := adrOf (readV [35, 122] (some nbA))

theorem nb_a : readV [100, 97, 116, 97, 58, 97, 32, 98, 63, 99, 35, 100] none = .ok nbA := by kernel_rfl

theorem nb_x : readV [] (some nbA) = .ok nbX := by kernel_rfl

theorem nb_f : readV [120] (some nbA) = .error 12 := by kernel_rfl

theorem nb_y : readV [35, 122] (some nbA) = .ok nbY := by kernel_rfl

theorem nb_tx : textV nbX = [100, 97, 116, 97, 58, 97, 32, 98, 63, 99] := by decide +kernel

theorem nb_ty : textV nbY = [100, 97, 116, 97, 58, 97, 32, 98, 63, 99, 35, 122] := by decide +kernel

theorem why3_at (s : ByteArray) (n : Int) (h : numOf (readV s.data.toList none) = n) (hs : s.size ≤ 100000) (w : World) (hg : Gd w) :
    Calls Tryz.prog 17 #[.string s] w fun e w' => e = .returned (.int .i64 n) ∧ Below w.heap.size w w' := by
  have := why3_any s w hg hs
  rw [h] at this
  exact this

/-- The world behind make of 4097 bytes. -/
def longW (w : World) : World := w.alloc (.cells (madeCells #[.int .u8 0] 4097) 5)

def longS : ByteArray := ⟨(List.replicate 4097 (0 : UInt8)).toArray⟩

set_option maxRecDepth 100000 in
theorem long_made (w : World) : (Instr.makeSlice 33 (.int .i64 4097) (.int .i64 4097)).run Tryz.prog w = .ok (.slice (some ⟨w.heap.size, 0, none⟩) 4097 4097) (longW w) := by
  have := run_makeSlice (P := Tryz.prog) w 33 5 _ (.int .u8 0) Tryz.underlying33 rfl rfl .i64 .i64 4097 4097 (by decide) (by decide) (by decide) (by decide) (by decide)
  exact this

set_option maxRecDepth 100000 in
theorem long_cell (w : World) (j : Nat) (hj : j < 4097) : (longW w).cell? ⟨w.heap.size, j, none⟩ = some (.int .u8 0) := by
  have h := World.ownsRow_lit (base := w.heap.size) (e := 5) (size := 1) w (madeCells #[.int .u8 0] 4097) 4097 (Nat.le_refl _) (by decide) (by rw [size_madeCells])
  have := h.cellAt j (by omega)
  rw [toList_madeCells_one, List.getElem?_replicate, if_pos hj] at this
  exact this

set_option maxRecDepth 100000 in
theorem long_conv (w : World) : (convert 33 9 (.slice (some ⟨w.heap.size, 0, none⟩) 4097 4097)).run Tryz.prog (longW w) = .ok (.string longS) (longW w) := by
  have := run_convert_bytes_back (P := Tryz.prog) (longW w) 33 9 5 ⟨w.heap.size, 0, none⟩ 4097 (List.replicate 4097 (0 : UInt8)) Tryz.underlying33 Tryz.underlying5 Tryz.underlying9 (fun j hj => by
    have hj' : j < 4097 := by rw [List.length_replicate] at hj; exact hj
    have e : (⟨w.heap.size, 0, none⟩ : Addr).add j = ⟨w.heap.size, j, none⟩ := by unfold Addr.add; split <;> simp_all
    rw [e, long_cell w j hj', List.getElem_replicate]
    rfl)
  rw [List.length_replicate] at this
  exact this

theorem long_size : longS.data.toList.length = 4097 := by
  show (List.replicate 4097 (0 : UInt8)).length = 4097
  rw [List.length_replicate]

theorem long_why : numOf (readV longS.data.toList none) = 3 := by
  rw [readV_long (by rw [long_size]; decide)]; rfl

theorem nb_1 : textL [104, 116, 116, 112, 115, 58, 101, 120, 46, 99, 111, 109] = [104, 116, 116, 112, 115, 58, 47, 47, 101, 120, 46, 99, 111, 109, 47] := by decide +kernel

theorem nb_2 : textL [100, 97, 116, 97, 58, 97, 32, 98, 63, 99] = [100, 97, 116, 97, 58, 97, 32, 98, 63, 99] := by decide +kernel

theorem nb_3 : numOf (readV [47, 97] none) = 12 := by decide +kernel

theorem nb_4 : joinedL [47, 47, 103] [104, 116, 116, 112, 58, 47, 47, 104, 47, 97, 47, 98, 47, 99] = [104, 116, 116, 112, 58, 47, 47, 103, 47] := by decide +kernel

theorem nb_5 : joinedL [63, 113] [104, 116, 116, 112, 58, 47, 47, 104, 47, 97, 47, 98, 47, 99] = [104, 116, 116, 112, 58, 47, 47, 104, 47, 97, 47, 98, 47, 99, 63, 113] := by decide +kernel

theorem nb_6 : joinedL [] [104, 116, 116, 112, 58, 47, 47, 104, 47, 97, 47, 98, 47, 99, 35, 102] = [104, 116, 116, 112, 58, 47, 47, 104, 47, 97, 47, 98, 47, 99] := by decide +kernel

theorem nb_7 : numOf (readV [104, 116, 116, 112, 58, 47, 47, 104, 58, 57, 57, 57, 57, 57] none) = 11 := by decide +kernel

theorem nb_8 : numOf (readV [104, 116, 116, 112, 58, 47, 47] none) = 10 := by decide +kernel

theorem nb_9 : textL [104, 116, 116, 112, 58, 47, 47, 64, 104] = [104, 116, 116, 112, 58, 47, 47, 104, 47] := by decide +kernel

theorem nb_10 : numOf (readV [104, 116, 116, 112, 58, 47, 47, 117, 64, 58, 56, 48] none) = 10 := by decide +kernel

theorem nb_11 : numOf (readV [] none) = 12 := by decide +kernel

theorem nb_12 : textL [97, 58] = [97, 58] := by decide +kernel

theorem nb_13 : textL [104, 116, 116, 112, 115, 58, 47, 47, 104, 58, 56, 48, 47] = [104, 116, 116, 112, 115, 58, 47, 47, 104, 58, 56, 48, 47] := by decide +kernel

theorem nb_15 : textL [97, 58, 47, 46, 47, 47, 98] = [97, 58, 47, 46, 47, 47, 98] := by decide +kernel

theorem nb_16 : joinedL [104, 116, 116, 112, 58, 120] [104, 116, 116, 112, 58, 47, 47, 104, 47, 97, 47, 98] = [104, 116, 116, 112, 58, 47, 47, 104, 47, 97, 47, 120] := by decide +kernel

theorem nb_17 : joinedL [104, 116, 116, 112, 115, 58, 120] [104, 116, 116, 112, 58, 47, 47, 104, 47, 97, 47, 98] = [104, 116, 116, 112, 115, 58, 47, 47, 120, 47] := by decide +kernel

theorem nb_18 : textL [104, 116, 116, 112, 58, 92, 92, 104, 92, 97, 63, 92] = [104, 116, 116, 112, 58, 47, 47, 104, 47, 97, 63, 92] := by decide +kernel

theorem nb_19 : textL [32, 104, 9, 116, 116, 112, 58, 47, 47, 104, 32] = [104, 116, 116, 112, 58, 47, 47, 104, 47] := by decide +kernel

set_option maxHeartbeats 16000000 in
set_option maxRecDepth 100000 in
theorem urlNumbers_walk (w : World) (hg : Gd w) :
    Calls Tryz.prog 3 #[] w fun e w' => e = .returned (.bool true) ∧ Below w.heap.size w w' := by
  have H1 := hid (fun (Z : World) (hZ : Gd Z) => text3_at ⟨#[104, 116, 116, 112, 115, 58, 101, 120, 46, 99, 111, 109]⟩ ⟨#[104, 116, 116, 112, 115, 58, 47, 47, 101, 120, 46, 99, 111, 109, 47]⟩ nb_1 (by decide) Z hZ)
  have H2 := hid (fun (Z : World) (hZ : Gd Z) => text3_at ⟨#[100, 97, 116, 97, 58, 97, 32, 98, 63, 99]⟩ ⟨#[100, 97, 116, 97, 58, 97, 32, 98, 63, 99]⟩ nb_2 (by decide) Z hZ)
  have H3 := hid (fun (Z : World) (hZ : Gd Z) => why3_at ⟨#[47, 97]⟩ 12 nb_3 (by decide) Z hZ)
  have H4 := hid (fun (Z : World) (hZ : Gd Z) => joined3_at ⟨#[47, 47, 103]⟩ ⟨#[104, 116, 116, 112, 58, 47, 47, 104, 47, 97, 47, 98, 47, 99]⟩ ⟨#[104, 116, 116, 112, 58, 47, 47, 103, 47]⟩ nb_4 (by decide) (by decide) Z hZ)
  have H5 := hid (fun (Z : World) (hZ : Gd Z) => joined3_at ⟨#[63, 113]⟩ ⟨#[104, 116, 116, 112, 58, 47, 47, 104, 47, 97, 47, 98, 47, 99]⟩ ⟨#[104, 116, 116, 112, 58, 47, 47, 104, 47, 97, 47, 98, 47, 99, 63, 113]⟩ nb_5 (by decide) (by decide) Z hZ)
  have H6 := hid (fun (Z : World) (hZ : Gd Z) => joined3_at ⟨#[]⟩ ⟨#[104, 116, 116, 112, 58, 47, 47, 104, 47, 97, 47, 98, 47, 99, 35, 102]⟩ ⟨#[104, 116, 116, 112, 58, 47, 47, 104, 47, 97, 47, 98, 47, 99]⟩ nb_6 (by decide) (by decide) Z hZ)
  have H7 := hid (fun (Z : World) (hZ : Gd Z) => why3_at ⟨#[104, 116, 116, 112, 58, 47, 47, 104, 58, 57, 57, 57, 57, 57]⟩ 11 nb_7 (by decide) Z hZ)
  have H8 := hid (fun (Z : World) (hZ : Gd Z) => why3_at ⟨#[104, 116, 116, 112, 58, 47, 47]⟩ 10 nb_8 (by decide) Z hZ)
  have H9 := hid (fun (Z : World) (hZ : Gd Z) => text3_at ⟨#[104, 116, 116, 112, 58, 47, 47, 64, 104]⟩ ⟨#[104, 116, 116, 112, 58, 47, 47, 104, 47]⟩ nb_9 (by decide) Z hZ)
  have H10 := hid (fun (Z : World) (hZ : Gd Z) => why3_at ⟨#[104, 116, 116, 112, 58, 47, 47, 117, 64, 58, 56, 48]⟩ 10 nb_10 (by decide) Z hZ)
  have H11 := hid (fun (Z : World) (hZ : Gd Z) => why3_at ⟨#[]⟩ 12 nb_11 (by decide) Z hZ)
  have H12 := hid (fun (Z : World) (hZ : Gd Z) => text3_at ⟨#[97, 58]⟩ ⟨#[97, 58]⟩ nb_12 (by decide) Z hZ)
  have H13 := hid (fun (Z : World) (hZ : Gd Z) => text3_at ⟨#[104, 116, 116, 112, 115, 58, 47, 47, 104, 58, 56, 48, 47]⟩ ⟨#[104, 116, 116, 112, 115, 58, 47, 47, 104, 58, 56, 48, 47]⟩ nb_13 (by decide) Z hZ)
  have H14 := hid (fun (Z : World) (hZ : Gd Z) => why3_at longS 3 long_why (by rw [Lib.size_eq, long_size]; decide) Z hZ)
  have H15 := hid (fun (Z : World) (hZ : Gd Z) => text3_at ⟨#[97, 58, 47, 46, 47, 47, 98]⟩ ⟨#[97, 58, 47, 46, 47, 47, 98]⟩ nb_15 (by decide) Z hZ)
  have H16 := hid (fun (Z : World) (hZ : Gd Z) => joined3_at ⟨#[104, 116, 116, 112, 58, 120]⟩ ⟨#[104, 116, 116, 112, 58, 47, 47, 104, 47, 97, 47, 98]⟩ ⟨#[104, 116, 116, 112, 58, 47, 47, 104, 47, 97, 47, 120]⟩ nb_16 (by decide) (by decide) Z hZ)
  have H17 := hid (fun (Z : World) (hZ : Gd Z) => joined3_at ⟨#[104, 116, 116, 112, 115, 58, 120]⟩ ⟨#[104, 116, 116, 112, 58, 47, 47, 104, 47, 97, 47, 98]⟩ ⟨#[104, 116, 116, 112, 115, 58, 47, 47, 120, 47]⟩ nb_17 (by decide) (by decide) Z hZ)
  have H18 := hid (fun (Z : World) (hZ : Gd Z) => text3_at ⟨#[104, 116, 116, 112, 58, 92, 92, 104, 92, 97, 63, 92]⟩ ⟨#[104, 116, 116, 112, 58, 47, 47, 104, 47, 97, 63, 92]⟩ nb_18 (by decide) Z hZ)
  have H19 := hid (fun (Z : World) (hZ : Gd Z) => text3_at ⟨#[32, 104, 9, 116, 116, 112, 58, 47, 47, 104, 32]⟩ ⟨#[104, 116, 116, 112, 58, 47, 47, 104, 47]⟩ nb_19 (by decide) Z hZ)
  have H22 := hid (fun (Z : World) (hZ : Gd Z) => known3_any Z hZ)
  have HPa := hid (rparse3_any ⟨#[100, 97, 116, 97, 58, 97, 32, 98, 63, 99, 35, 100]⟩ w (by decide))
  rw [show readV (⟨#[100, 97, 116, 97, 58, 97, 32, 98, 63, 99, 35, 100]⟩ : ByteArray).data.toList none = .ok nbA from nb_a] at HPa
  unfold ReadPost at HPa
  simp only [numOf, adrOf] at HPa
  have HG := hid hg
  have HLa := hid (show nbA.path.length ≤ 100000 from slim_path (parse_slim nb_a) (by omega))
  have hsA := parse_slim nb_a
  have HFx := hid (show Fine nbX from (join_slim hsA (by omega) nb_x).fine (by omega))
  have HFy := hid (show Fine nbY from (join_slim hsA (by omega) nb_y).fine (by omega))
  have HJx := hid (fun (Z : World) (pv : Value) (hZ : Gd Z) (hp : PathAt Z pv nbA.path) => ujoin_any ⟨#[]⟩ nbA pv Z hZ (by decide) hp HLa.out)
  rw [show readV (⟨#[]⟩ : ByteArray).data.toList (some nbA) = .ok nbX from nb_x] at HJx
  have HJf := hid (fun (Z : World) (pv : Value) (hZ : Gd Z) (hp : PathAt Z pv nbA.path) => ujoin_any ⟨#[120]⟩ nbA pv Z hZ (by decide) hp HLa.out)
  rw [show readV (⟨#[120]⟩ : ByteArray).data.toList (some nbA) = .error 12 from nb_f] at HJf
  have HJy := hid (fun (Z : World) (pv : Value) (hZ : Gd Z) (hp : PathAt Z pv nbA.path) => ujoin_any ⟨#[35, 122]⟩ nbA pv Z hZ (by decide) hp HLa.out)
  rw [show readV (⟨#[35, 122]⟩ : ByteArray).data.toList (some nbA) = .ok nbY from nb_y] at HJy
  unfold ReadPost at HJx HJf HJy
  simp only [numOf, adrOf] at HJx HJy
  simp only [numOf] at HJf
  have HTx := hid (fun (Z : World) (pv : Value) (hZ : Gd Z) (hp : PathAt Z pv nbX.path) => text_any nbX pv Z hZ hp HFx.out)
  have HTy := hid (fun (Z : World) (pv : Value) (hZ : Gd Z) (hp : PathAt Z pv nbY.path) => text_any nbY pv Z hZ hp HFy.out)
  rw [nb_tx] at HTx
  rw [nb_ty] at HTy
  clear hsA hg
  obtain ⟨A, hA⟩ : ∃ A, nbA = A := ⟨_, rfl⟩
  obtain ⟨X, hX⟩ : ∃ A, nbX = A := ⟨_, rfl⟩
  obtain ⟨Y, hY⟩ : ∃ A, nbY = A := ⟨_, rfl⟩
  obtain ⟨E, hE⟩ : ∃ A, adrOf (.error 12) = A := ⟨_, rfl⟩
  rw [hA] at HPa HJx HJf HJy HLa
  rw [hX] at HJx HTx HFx
  rw [hY] at HJy HTy HFy
  rw [hE] at HJf
  clear hA hX hY hE HFx HFy
  go_enter Tryz.func3, Tryz.ntmps3
  go_wp2_with fail
  refine HPa.out.mono ?_
  rintro e w1 ⟨pv, rfl, hown, hb1⟩
  obtain ⟨ua, un, uc, rfl⟩ := own_sl hown
  obtain ⟨u0, u1, u2, u3, u4, u5, u6, u8, u9, u10, u11, hxu⟩ := adr_cells A ua un uc
  have hvu : adrVal A (.slice ua un uc) = .agg #[.string u0, .string u1, .string u2, .string u3, .bool u4, .int .i64 u5, .bool u6, .slice ua un uc, .string u8, .string u9, .bool u10, .bool u11] := by unfold adrVal; rw [hxu]
  rw [hvu]
  obtain ⟨W2, hW2⟩ : ∃ X, (w1.alloc (.cells #[.string u0, .string u1, .string u2, .string u3, .bool u4, .int .i64 u5, .bool u6, .slice ua un uc, .string u8, .string u9, .bool u10, .bool u11] 24)) = X := ⟨_, rfl⟩
  have hbW2 : Below w1.heap.size w1 W2 := by rw [← hW2]; exact (Below.refl _ w1).alloc (Nat.le_refl _) _
  have hsW2 : W2.heap.size = w1.heap.size + 1 := by rw [← hW2]; simp
  have hAW2 : AdrIn W2 w1.heap.size A (.slice ua un uc) := by
    unfold AdrIn
    rw [hxu, ← hW2]
    exact heap_alloc_new w1 _
  have HP2 := hid ((own_path hown).kept hbW2)
  have HB2 := hid (below2 hb1 hbW2)
  have HA2 := hid hAW2
  have HXu := hid hxu
  have HVu := hid hvu
  obtain ⟨y0, y1, y2, y3, y4, y5, y6, y7, y8, y9, y10, y11⟩ := adr_twelve hxu hAW2
  clear hown hb1 hbW2 hAW2 hxu hvu
  have hj := HJx.out W2 (.slice ua un uc) (HG.out.kept HB2.out) HP2.out
  rw [HVu.out] at hj
  have HJ := hid hj
  clear hj
  go_wp2_with fail
  refine HJ.out.mono ?_
  rintro e w3 ⟨qv, rfl, hown, hb3⟩
  obtain ⟨xa, xn, xc, rfl⟩ := own_sl hown
  obtain ⟨x0, x1, x2, x3, x4, x5, x6, x8, x9, x10, x11, hxx⟩ := adr_cells X xa xn xc
  have hvx : adrVal X (.slice xa xn xc) = .agg #[.string x0, .string x1, .string x2, .string x3, .bool x4, .int .i64 x5, .bool x6, .slice xa xn xc, .string x8, .string x9, .bool x10, .bool x11] := by unfold adrVal; rw [hxx]
  rw [hvx]
  obtain ⟨W4, hW4⟩ : ∃ X, (w3.alloc (.cells #[.string x0, .string x1, .string x2, .string x3, .bool x4, .int .i64 x5, .bool x6, .slice xa xn xc, .string x8, .string x9, .bool x10, .bool x11] 24)) = X := ⟨_, rfl⟩
  have hbW4 : Below w3.heap.size w3 W4 := by rw [← hW4]; exact (Below.refl _ w3).alloc (Nat.le_refl _) _
  have hsW4 : W4.heap.size = w3.heap.size + 1 := by rw [← hW4]; simp
  have hAW4 : AdrIn W4 w3.heap.size X (.slice xa xn xc) := by
    unfold AdrIn
    rw [hxx, ← hW4]
    exact heap_alloc_new w3 _
  have hbn := below2 hb3 hbW4
  have HP4 := hid (HP2.out.kept hbn)
  have HB4 := hid (below2 HB2.out hbn)
  have HS4 := hid hbn
  have HA4 := hid (HA2.out.kept hbn)
  have HOx := hid ((own_path hown).kept hbW4)
  have HIx := hid hAW4
  have HXx := hid hxx
  have HVx := hid hvx
  clear y0 y1 y2 y3 y4 y5 y6 y7 y8 y9 y10 y11 HJ
  obtain ⟨y0, y1, y2, y3, y4, y5, y6, y7, y8, y9, y10, y11⟩ := adr_twelve HXu.out HA4.out
  clear hown hb3 hbW4 hAW4 hxx hvx hbn
  have hj := HJf.out W4 (.slice ua un uc) (HG.out.kept HB4.out) HP4.out
  rw [HVu.out] at hj
  have HJ := hid hj
  clear hj
  go_wp2_with fail
  refine HJ.out.mono ?_
  rintro e w5 ⟨qv, rfl, hown, hb5⟩
  obtain ⟨fa, fn, fc, rfl⟩ := own_sl hown
  obtain ⟨f0, f1, f2, f3, f4, f5, f6, f8, f9, f10, f11, hxf⟩ := adr_cells E fa fn fc
  have hvf : adrVal E (.slice fa fn fc) = .agg #[.string f0, .string f1, .string f2, .string f3, .bool f4, .int .i64 f5, .bool f6, .slice fa fn fc, .string f8, .string f9, .bool f10, .bool f11] := by unfold adrVal; rw [hxf]
  rw [hvf]
  obtain ⟨W6, hW6⟩ : ∃ X, (w5.alloc (.cells #[.string f0, .string f1, .string f2, .string f3, .bool f4, .int .i64 f5, .bool f6, .slice fa fn fc, .string f8, .string f9, .bool f10, .bool f11] 24)) = X := ⟨_, rfl⟩
  have hbW6 : Below w5.heap.size w5 W6 := by rw [← hW6]; exact (Below.refl _ w5).alloc (Nat.le_refl _) _
  have hsW6 : W6.heap.size = w5.heap.size + 1 := by rw [← hW6]; simp
  have hAW6 : AdrIn W6 w5.heap.size E (.slice fa fn fc) := by
    unfold AdrIn
    rw [hxf, ← hW6]
    exact heap_alloc_new w5 _
  have hbn := below2 hb5 hbW6
  have HP6 := hid (HP4.out.kept hbn)
  have HB6 := hid (below2 HB4.out hbn)
  have HS6 := hid hbn
  have HA6 := hid (HA4.out.kept hbn)
  have HOf := hid ((own_path hown).kept hbW6)
  have HIf := hid hAW6
  have HXf := hid hxf
  have HVf := hid hvf
  clear y0 y1 y2 y3 y4 y5 y6 y7 y8 y9 y10 y11 HJ
  obtain ⟨y0, y1, y2, y3, y4, y5, y6, y7, y8, y9, y10, y11⟩ := adr_twelve HXu.out HA6.out
  clear hown hb5 hbW6 hAW6 hxf hvf hbn
  have hj := HJy.out W6 (.slice ua un uc) (HG.out.kept HB6.out) HP6.out
  rw [HVu.out] at hj
  have HJ := hid hj
  clear hj
  go_wp2_with fail
  refine HJ.out.mono ?_
  rintro e w7 ⟨qv, rfl, hown, hb7⟩
  obtain ⟨va, vn, vc, rfl⟩ := own_sl hown
  obtain ⟨v0, v1, v2, v3, v4, v5, v6, v8, v9, v10, v11, hxv⟩ := adr_cells Y va vn vc
  have hvv : adrVal Y (.slice va vn vc) = .agg #[.string v0, .string v1, .string v2, .string v3, .bool v4, .int .i64 v5, .bool v6, .slice va vn vc, .string v8, .string v9, .bool v10, .bool v11] := by unfold adrVal; rw [hxv]
  rw [hvv]
  obtain ⟨W8, hW8⟩ : ∃ X, (w7.alloc (.cells #[.string v0, .string v1, .string v2, .string v3, .bool v4, .int .i64 v5, .bool v6, .slice va vn vc, .string v8, .string v9, .bool v10, .bool v11] 24)) = X := ⟨_, rfl⟩
  have hbW8 : Below w7.heap.size w7 W8 := by rw [← hW8]; exact (Below.refl _ w7).alloc (Nat.le_refl _) _
  have hsW8 : W8.heap.size = w7.heap.size + 1 := by rw [← hW8]; simp
  have hAW8 : AdrIn W8 w7.heap.size Y (.slice va vn vc) := by
    unfold AdrIn
    rw [hxv, ← hW8]
    exact heap_alloc_new w7 _
  have hbn := below2 hb7 hbW8
  have HP8 := hid (HP6.out.kept hbn)
  have HB8 := hid (below2 HB6.out hbn)
  have HS8 := hid hbn
  have HA8 := hid (HA6.out.kept hbn)
  have HOv := hid ((own_path hown).kept hbW8)
  have HIv := hid hAW8
  have HXv := hid hxv
  have HVv := hid hvv
  clear y0 y1 y2 y3 y4 y5 y6 y7 y8 y9 y10 y11 HJ
  obtain ⟨y0, y1, y2, y3, y4, y5, y6, y7, y8, y9, y10, y11⟩ := adr_twelve HXu.out HA8.out
  clear hown hb7 hbW8 hAW8 hxv hvv hbn
  have hAx := (HIx.out.kept HS6.out).kept HS8.out
  have hOx := (HOx.out.kept HS6.out).kept HS8.out
  have HAx := hid hAx
  have HOx8 := hid hOx
  clear y0 y1 y2 y3 y4 y5 y6 y7 y8 y9 y10 y11 hAx hOx HA2 HA4 HA6 HA8 HP2 HP4 HP6 HP8 HIx HIf HOx HOf HXf HVf HJx HJf HJy HPa HXu HVu HLa
  go_wp2_with fail
  refine (H1.out _ (HG.out.kept HB8.out)).mono ?_
  rintro e v1 ⟨rfl, hb⟩
  have HD1 := hid (below2 HB8.out hb)
  have HC1 := hid (hb)
  clear hb
  go_wp2_with fail
  refine (H2.out _ (HG.out.kept HD1.out)).mono ?_
  rintro e v2 ⟨rfl, hb⟩
  have HD2 := hid (below2 HD1.out hb)
  have HC2 := hid (below2 HC1.out hb)
  clear hb
  go_wp2_with fail
  refine (H3.out _ (HG.out.kept HD2.out)).mono ?_
  rintro e v3 ⟨rfl, hb⟩
  have HD3 := hid (below2 HD2.out hb)
  have HC3 := hid (below2 HC2.out hb)
  clear hb
  go_wp2_with fail
  refine (H4.out _ (HG.out.kept HD3.out)).mono ?_
  rintro e v4 ⟨rfl, hb⟩
  have HD4 := hid (below2 HD3.out hb)
  have HC4 := hid (below2 HC3.out hb)
  clear hb
  go_wp2_with fail
  refine (H5.out _ (HG.out.kept HD4.out)).mono ?_
  rintro e v5 ⟨rfl, hb⟩
  have HD5 := hid (below2 HD4.out hb)
  have HC5 := hid (below2 HC4.out hb)
  clear hb
  go_wp2_with fail
  refine (H6.out _ (HG.out.kept HD5.out)).mono ?_
  rintro e v6 ⟨rfl, hb⟩
  have HD6 := hid (below2 HD5.out hb)
  have HC6 := hid (below2 HC5.out hb)
  clear hb
  go_wp2_with fail
  refine (H7.out _ (HG.out.kept HD6.out)).mono ?_
  rintro e v7 ⟨rfl, hb⟩
  have HD7 := hid (below2 HD6.out hb)
  have HC7 := hid (below2 HC6.out hb)
  clear hb
  go_wp2_with fail
  refine (H8.out _ (HG.out.kept HD7.out)).mono ?_
  rintro e v8 ⟨rfl, hb⟩
  have HD8 := hid (below2 HD7.out hb)
  have HC8 := hid (below2 HC7.out hb)
  clear hb
  go_wp2_with fail
  refine (H9.out _ (HG.out.kept HD8.out)).mono ?_
  rintro e v9 ⟨rfl, hb⟩
  have HD9 := hid (below2 HD8.out hb)
  have HC9 := hid (below2 HC8.out hb)
  clear hb
  go_wp2_with fail
  refine (H10.out _ (HG.out.kept HD9.out)).mono ?_
  rintro e v10 ⟨rfl, hb⟩
  have HD10 := hid (below2 HD9.out hb)
  have HC10 := hid (below2 HC9.out hb)
  clear hb
  go_wp2_with fail
  refine (H11.out _ (HG.out.kept HD10.out)).mono ?_
  rintro e v11 ⟨rfl, hb⟩
  have HD11 := hid (below2 HD10.out hb)
  have HC11 := hid (below2 HC10.out hb)
  clear hb
  go_wp2_with fail
  refine (H12.out _ (HG.out.kept HD11.out)).mono ?_
  rintro e v12 ⟨rfl, hb⟩
  have HD12 := hid (below2 HD11.out hb)
  have HC12 := hid (below2 HC11.out hb)
  clear hb
  go_wp2_with fail
  refine (H13.out _ (HG.out.kept HD12.out)).mono ?_
  rintro e v13 ⟨rfl, hb⟩
  have HD13 := hid (below2 HD12.out hb)
  have HC13 := hid (below2 HC12.out hb)
  clear hb
  have hm := long_made v13
  have hcv := long_conv v13
  have HLW := hid (show Below v13.heap.size v13 (longW v13) from (Below.refl _ v13).alloc (Nat.le_refl _) _)
  obtain ⟨LW, hLW⟩ : ∃ X, longW v13 = X := ⟨_, rfl⟩
  rw [hLW] at hm hcv HLW
  clear hLW
  go_wp2_with fail
  refine (H14.out _ (HG.out.kept (below2 HD13.out HLW.out))).mono ?_
  rintro e v14 ⟨rfl, hb0⟩
  have hb := below2 HLW.out hb0
  clear hm hcv hb0 HLW
  have HD14 := hid (below2 HD13.out hb)
  have HC14 := hid (below2 HC13.out hb)
  clear hb
  go_wp2_with fail
  refine (H15.out _ (HG.out.kept HD14.out)).mono ?_
  rintro e v15 ⟨rfl, hb⟩
  have HD15 := hid (below2 HD14.out hb)
  have HC15 := hid (below2 HC14.out hb)
  clear hb
  go_wp2_with fail
  refine (H16.out _ (HG.out.kept HD15.out)).mono ?_
  rintro e v16 ⟨rfl, hb⟩
  have HD16 := hid (below2 HD15.out hb)
  have HC16 := hid (below2 HC15.out hb)
  clear hb
  go_wp2_with fail
  refine (H17.out _ (HG.out.kept HD16.out)).mono ?_
  rintro e v17 ⟨rfl, hb⟩
  have HD17 := hid (below2 HD16.out hb)
  have HC17 := hid (below2 HC16.out hb)
  clear hb
  go_wp2_with fail
  refine (H18.out _ (HG.out.kept HD17.out)).mono ?_
  rintro e v18 ⟨rfl, hb⟩
  have HD18 := hid (below2 HD17.out hb)
  have HC18 := hid (below2 HC17.out hb)
  clear hb
  go_wp2_with fail
  refine (H19.out _ (HG.out.kept HD18.out)).mono ?_
  rintro e v19 ⟨rfl, hb⟩
  have HD19 := hid (below2 HD18.out hb)
  have HC19 := hid (below2 HC18.out hb)
  clear hb
  have ht := HTx.out v19 (.slice xa xn xc) (HG.out.kept HD19.out) (HOx8.out.kept HC19.out)
  rw [HVx.out] at ht
  have HTT := hid ht
  obtain ⟨y0, y1, y2, y3, y4, y5, y6, y7, y8, y9, y10, y11⟩ := adr_twelve HXx.out (HAx.out.kept HC19.out)
  clear ht
  go_wp2_with fail
  refine HTT.out.mono ?_
  rintro e v20 ⟨rfl, hb⟩
  clear y0 y1 y2 y3 y4 y5 y6 y7 y8 y9 y10 y11 HTT
  have HD20 := hid (below2 HD19.out hb)
  have HC20 := hid (below2 HC19.out hb)
  clear hb
  have ht := HTy.out v20 (.slice va vn vc) (HG.out.kept HD20.out) (HOv.out.kept HC20.out)
  rw [HVv.out] at ht
  have HTT := hid ht
  obtain ⟨y0, y1, y2, y3, y4, y5, y6, y7, y8, y9, y10, y11⟩ := adr_twelve HXv.out (HIv.out.kept HC20.out)
  clear ht
  go_wp2_with fail
  refine HTT.out.mono ?_
  rintro e v21 ⟨rfl, hb⟩
  clear y0 y1 y2 y3 y4 y5 y6 y7 y8 y9 y10 y11 HTT
  have HD21 := hid (below2 HD20.out hb)
  have HC21 := hid (below2 HC20.out hb)
  clear hb
  go_wp2_with fail
  refine (H22.out _ (HG.out.kept HD21.out)).mono ?_
  rintro e v22 ⟨rfl, hb⟩
  have HD22 := hid (below2 HD21.out hb)
  have HC22 := hid (below2 HC21.out hb)
  clear hb
  go_wp2
  go_ret
  exact ⟨rfl, HD22.out⟩

end Go.Proofs.YtdnginibhpnefaaGreatDoor
