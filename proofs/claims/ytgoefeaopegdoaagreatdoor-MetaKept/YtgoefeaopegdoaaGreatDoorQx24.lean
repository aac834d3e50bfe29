/-
  Walks and plain facts that this claim leans on, put together out of 8 texts: Djk, Yh, Yi, Yt, Yo, Pg, Xa, Xb.
-/
import Derived.Test.YtgoefeaopegdoaaGreatDoorProg
import Derived.Test.YtgoefeaopegdoaaGreatDoorQx1
import Derived.Test.YtgoefeaopegdoaaGreatDoorQx3
import Derived.Test.YtgoefeaopegdoaaGreatDoorQx6
import Derived.Test.YtgoefeaopegdoaaGreatDoorQx8
import Derived.Test.YtgoefeaopegdoaaGreatDoorQx9
import Derived.Test.YtgoefeaopegdoaaGreatDoorQx10
import Derived.Test.YtgoefeaopegdoaaGreatDoorQx11
import Derived.Test.YtgoefeaopegdoaaGreatDoorQx12
import Derived.Test.YtgoefeaopegdoaaGreatDoorQx13
import Derived.Test.YtgoefeaopegdoaaGreatDoorQx17
import Derived.Test.YtgoefeaopegdoaaGreatDoorQx21
import Derived.Test.YtgoefeaopegdoaaGreatDoorQx23
import Derived.Lib.IndexMore
import Derived.Lib.Join
import Derived.Lib.LastIndexByte
import Derived.WalkKit
import Derived.Lib.Strings
import Derived.Lib.UnsafeStr
import Derived.Laws.IdiomStrings
import Derived.Laws.AppendOwn
import Derived.Laws.BitsAllLaws
import Derived.Lib.Bytealg
import Derived.Lib.BufferMore
import Derived.Lib.BufferRead
import Derived.Lib.RuneBytes
import Derived.Laws.RangeAny
import Derived.LoopN
import Derived.RegionTactic
import Derived.Deep.RegionWith
import Derived.Deep.QuietTactic
import Derived.BigQuiet
import Derived.OwnWalk
import Derived.Deep.RegionLaw
import Derived.Laws.OwnMore
import Derived.Deep.LoopGhost
import Derived.Shelf.Strings.Builder1
import Derived.Shelf.Strings.Builder2
import Derived.Shelf.Strings.OnBuilder
import Derived.Shelf.Strings.Trim
import Derived.Shelf.Small.Utf8
import Derived.Shelf.Small.Bits
import Derived.Shelf.Small.Strs
import Derived.Shelf.Small.Wraps
import Derived.Shelf.Strings.BuilderF
import Derived.Shelf.Strings.BuilderK
import Derived.Shelf.Strings.BuilderRune
import Derived.Shelf.Utf8.AppendRune
import Derived.Shelf.Utf8.AppendRunePlain
import Derived.Shelf.Strings.Builder2Cap
import Derived.Shelf.Strconv.Itoa0
import Derived.Shelf.Strconv.Itoa1
import Derived.Shelf.LaysM
import Derived.Shelf.Strconv.Itoa2
import Derived.Shelf.Strconv.Itoa3
import Derived.Shelf.Strings.Search1
import Derived.Shelf.Strings.Search2
import Derived.Shelf.Strings.Search3
import Derived.Shelf.Strings.Cut
import Derived.Shelf.Strings.Count
import Derived.Shelf.Strings.Shaped
import Derived.Shelf.Strings.LastIndex
import Derived.Shelf.Strings.Prefix
import Derived.Shelf.Strings.Split
import Derived.Shelf.Strings.Replace
import Derived.Shelf.Strings.Runes
import Derived.Shelf.Strings.IndexAny
import Derived.Shelf.Strings.AsciiSet
import Derived.Shelf.Strings.IndexAnyAll
import Derived.Shelf.Unicode.DecodeSlow
import Derived.Ground.Names2Prog
import Derived.Shelf.Slices.Clone
import Derived.Shelf.Slices.In.SortNone
import Derived.Ground.SlgnProg
import Derived.Shelf.SlicesE.Clone
import Derived.BigRegion
import Derived.Laws.AppendOwnNone
import Derived.Deep.Cut
import Derived.Scope
import Derived.ScopeJumps
import Derived.WalkMore
import Derived.Lib.IndexAny
import Derived.Lib.Replace
import Derived.Lib.TrimByte
import Derived.Lib.ItoaNum
import Derived.Lib.DecodeN
import Derived.Lib.OthersKept
import Derived.Laws.BytesString
import Derived.Deep.WholeRow
import Derived.Lib.AppendStr
import Derived.Deep.RegionHeld
import Derived.WalkSpells
import Derived.WalkLawsBesides
import Derived.Lib.AppendIntMem
import Derived.Lib.SmallJoins
import Derived.WalkSmall
import Derived.Laws.CopyOwn
import Derived.Laws.ResultCell
import Derived.Deep.MidRow
import Derived.Lib.FrozenHead2
import Derived.Lib.Builder
import Derived.Laws.Runes
import Derived.Lib.SlTrimSet
set_option linter.unusedSimpArgs false
set_option linter.unusedVariables false

namespace Go.Proofs.YtgoefeaopegdoaaGreatDoor
open Go.RowKit

def urlV (s : List UInt8) : Except Int Adr := readV (s.take 300) none

def isOk (r : Except Int Adr) : Bool := match r with | .ok _ => true | .error _ => false

def UPost (r : Except Int Adr) (w : World) (e : Ending) (w' : World) : Prop :=
 ∃ pv, e = .returned (.tuple #[adrVal (adrOf r) pv, .bool (isOk r)]) ∧ w'.ownsRow w.heap.size 9 1 pv (adrOf r).path.length (cellsS (adrOf r).path) ∧ Below w.heap.size w w'

theorem numOf_isOk {s : List UInt8} : decide (numOf (readV s none) = 0) = isOk (readV s none) := by
 cases h : readV s none with
 | ok u => rfl
 | error e =>
  have : e = 3 ∨ e = 10 ∨ e = 11 ∨ e = 12 := by
   unfold readV at h
   split at h
   ·injection h with h; exact .inl h.symm
   ·simp only at h
    split at h
    ·injection h with h; exact .inr (.inr (.inr h.symm))
    ·rcases startV_err h with h | h
     ·exact .inr (.inl h)
     ·exact .inr (.inr (.inl h))
  rcases this with rfl | rfl | rfl | rfl <;> rfl

set_option maxHeartbeats 1000000 in
set_option maxRecDepth 100000 in
theorem url_k (s : ByteArray) (w : World) (hs : s.size ≤ 9223372036854775807) :
  Calls Tryz.prog 63 #[.string s] w (UPost (urlV s.data.toList) w) := by
 have h0 : AdrIn (w.alloc (.cells (adrCells Adr.zero (.slice none 0 0)).toArray 34)) w.heap.size Adr.zero (.slice none 0 0) := heap_alloc_new w _
 have hb0 : Below w.heap.size w (w.alloc (.cells (adrCells Adr.zero (.slice none 0 0)).toArray 34)) := (Below.refl _ w).alloc (Nat.le_refl _) _
 have H0 := hid h0
 have HB0 := hid hb0
 clear h0 hb0
 obtain ⟨F, hF⟩ : ∃ F : ByteArray, ⟨(s.data.toList.take 300).toArray⟩ = F := ⟨_, rfl⟩
 have hFl : F.data.toList = s.data.toList.take 300 := by rw [← hF]
 have hFs : F.size ≤ 100000 := by rw [Lib.size_eq, hFl, List.length_take]; omega
 have HFw := hid (fun w => few_any s 300 w (by omega) hs)
 rw [hF] at HFw
 have HRd := hid (fun w => rparse3_any F w hFs)
 have HN := hid (numOf_isOk (s := F.data.toList))
 have HU := hid (show urlV s.data.toList = readV F.data.toList none by unfold urlV; rw [hFl])
 obtain ⟨r, hr⟩ : ∃ r, readV F.data.toList none = r := ⟨_, rfl⟩
 rw [hr] at HRd HN HU
 clear hF hFl hFs hr
 go_enter Tryz.func63, Tryz.ntmps63
 go_wp2_with fail
 refine (HFw.out _).mono ?_
 rintro e w' ⟨rfl, rfl⟩
 go_wp2_with fail
 refine (HRd.out _).mono ?_
 rintro e w1 ⟨pv, rfl, hown, hb1⟩
 have h1 := H0.out.kept hb1
 have HB1 := hid (below2 HB0.out hb1)
 have HO1 := hid (ownsRow_lower hown HB0.out.size)
 have hsl := own_sl hown
 obtain ⟨a0, n0, c0, rfl⟩ := hsl
 obtain ⟨s0, s1, s2, s3, b4, i5, b6, s8, s9, b10, b11, hx⟩ : ∃ s0 s1 s2 s3 b4 i5 b6 s8 s9 b10 b11, adrCells (adrOf r) (.slice a0 n0 c0) = [.string s0, .string s1, .string s2, .string s3, .bool b4, .int .i64 i5, .bool b6, .slice a0 n0 c0, .string s8, .string s9, .bool b10, .bool b11] := ⟨_, _, _, _, _, _, _, _, _, _, _, rfl⟩
 have hva : adrVal (adrOf r) (.slice a0 n0 c0) = .agg #[.string s0, .string s1, .string s2, .string s3, .bool b4, .int .i64 i5, .bool b6, .slice a0 n0 c0, .string s8, .string s9, .bool b10, .bool b11] := by unfold adrVal; rw [hx]
 have h4 : AdrIn (w1.alloc (.cells #[.string s0, .string s1, .string s2, .string s3, .bool b4, .int .i64 i5, .bool b6, .slice a0 n0 c0, .string s8, .string s9, .bool b10, .bool b11] 34)) w1.heap.size (adrOf r) (.slice a0 n0 c0) := by
  have := heap_alloc_new w1 (.cells #[.string s0, .string s1, .string s2, .string s3, .bool b4, .int .i64 i5, .bool b6, .slice a0 n0 c0, .string s8, .string s9, .bool b10, .bool b11] 34)
  unfold AdrIn
  rw [hx]
  exact this
 have hb4 : Below w1.heap.size w1 (w1.alloc (.cells #[.string s0, .string s1, .string s2, .string s3, .bool b4, .int .i64 i5, .bool b6, .slice a0 n0 c0, .string s8, .string s9, .bool b10, .bool b11] 34)) := (Below.refl _ w1).alloc (Nat.le_refl _) _
 have h6 := h1.kept hb4
 have HO4 := hid (ownsRow_same HO1.out fun g hg => hb4.block g (HO1.out.lt g hg).2)
 have HB4 := hid (below2 HB1.out hb4)
 have y0 := h6.cell 0 _ rfl
 have f0 := h6.frozen 0
 have y1 := h6.cell 1 _ rfl
 have f1 := h6.frozen 1
 have y2 := h6.cell 2 _ rfl
 have f2 := h6.frozen 2
 have y3 := h6.cell 3 _ rfl
 have f3 := h6.frozen 3
 have y4 := h6.cell 4 _ rfl
 have f4 := h6.frozen 4
 have y5 := h6.cell 5 _ rfl
 have f5 := h6.frozen 5
 have y6 := h6.cell 6 _ rfl
 have f6 := h6.frozen 6
 have y7 := h6.cell 7 _ rfl
 have f7 := h6.frozen 7
 have y8 := h6.cell 8 _ rfl
 have f8 := h6.frozen 8
 have y9 := h6.cell 9 _ rfl
 have f9 := h6.frozen 9
 have y10 := h6.cell 10 _ rfl
 have f10 := h6.frozen 10
 have y11 := h6.cell 11 _ rfl
 have f11 := h6.frozen 11
 have H6 := hid h6
 have HX := hid hx
 have HV := hid hva
 clear h4 hb4 h6 h1 hb1 hown hx
 rw [hva]
 clear hva
 go_wp2_with fail
 have hn : (numOf r == 0) = isOk r := HN.out
 rw [hn, HU.out]
 have hrg := range_row (H6.out.store (v := adrOf r) (qv := .slice a0 n0 c0))
 have hbl := below_setCells (Nat.le_refl w.heap.size) (adrCells (adrOf r) (.slice a0 n0 c0)) 0 _ HB4.out
 have how := own_cells HO4.out H6.out (adrCells (adrOf r) (.slice a0 n0 c0)) 0
 refine bodyPost_ret (results_u2 rfl _ _ w.heap.size (adrOf r) (.slice a0 n0 c0) rfl ?_) rfl ⟨.slice a0 n0 c0, ?_, ?_, ?_⟩
 ·rw [HX.out] at hrg ⊢; exact hrg
 ·rfl
 ·rw [HX.out] at how; exact how
 ·rw [HX.out] at hbl; exact hbl

end Go.Proofs.YtgoefeaopegdoaaGreatDoor

namespace Go.Proofs.YtgoefeaopegdoaaGreatDoor
open Go.RowKit

theorem adr_named (u : Adr) (a : Option Addr) (n c : Nat) : ∃ s0 s1 s2 s3 b4 i5 b6 s8 s9 b10 b11, adrCells u (.slice a n c) = [.string s0, .string s1, .string s2, .string s3, .bool b4, .int .i64 i5, .bool b6, .slice a n c, .string s8, .string s9, .bool b10, .bool b11] ∧ s0.data.toList = u.scheme ∧ s3.data.toList = u.host ∧ i5 = u.port ∧ b6 = u.opq := ⟨_, _, _, _, _, _, _, _, _, _, _, rfl, rfl, rfl, rfl, rfl⟩

def InPost (u : Adr) (w : World) (e : Ending) (w' : World) : Prop := ∃ pv, e = .returned (adrVal u pv) ∧ IsSl pv ∧ Below w.heap.size w w'

def InPostP (u : Adr) (w : World) (e : Ending) (w' : World) : Prop := ∃ pv, e = .returned (adrVal u pv) ∧ IsSl pv ∧ Below w.heap.size w w' ∧ PathAt w' pv u.path

set_option maxHeartbeats 4000000 in
set_option maxRecDepth 100000 in
theorem inner_own (u : Adr) (pv : Value) (w : World) (hg : Gd w) (hp : PathAt w pv u.path) (hl : u.path.length ≤ 1000000) (hf : u.path.flatten.length ≤ 100000) :
  Calls Tryz.prog 120 #[adrVal u pv] w (InPostP (innV u) w) := by
 have hsl : IsSl pv := by
  rcases hp with ⟨rfl, _⟩ | ⟨b, cap, rfl, _⟩
  ·exact ⟨_, _, _, rfl⟩
  ·exact ⟨_, _, _, rfl⟩
 obtain ⟨ua, un, uc, rfl⟩ := hsl
 obtain ⟨u0, u1, u2, u3, u4, u5, u6, u8, u9, u10, u11, hx, hx0, hx3, hx5, hx6⟩ := adr_named u ua un uc
 have hva : adrVal u (.slice ua un uc) = .agg #[.string u0, .string u1, .string u2, .string u3, .bool u4, .int .i64 u5, .bool u6, .slice ua un uc, .string u8, .string u9, .bool u10, .bool u11] := by unfold adrVal; rw [hx]
 rw [hva]
 obtain ⟨W1, hW1⟩ : ∃ W1, (w.alloc (.cells #[.string u0, .string u1, .string u2, .string u3, .bool u4, .int .i64 u5, .bool u6, .slice ua un uc, .string u8, .string u9, .bool u10, .bool u11] 34)) = W1 := ⟨_, rfl⟩
 have hb1 : Below w.heap.size w W1 := by rw [← hW1]; exact (Below.refl _ w).alloc (Nat.le_refl _) _
 have hs1 : W1.heap.size = w.heap.size + 1 := by rw [← hW1]; simp
 have hA1 : AdrIn W1 w.heap.size u (.slice ua un uc) := by
  unfold AdrIn
  rw [hx, ← hW1]
  exact heap_alloc_new w _
 obtain ⟨W2, hW2⟩ : ∃ W2, (W1.alloc (.cells (adrCells Adr.zero (.slice none 0 0)).toArray 34)) = W2 := ⟨_, rfl⟩
 have hb2 : Below W1.heap.size W1 W2 := by rw [← hW2]; exact (Below.refl _ W1).alloc (Nat.le_refl _) _
 have hA2 := hA1.kept hb2
 have hR2 : AdrIn W2 W1.heap.size Adr.zero (.slice none 0 0) := by rw [← hW2]; exact heap_alloc_new W1 _
 rw [hs1] at hR2
 have hB2 := below2 hb1 hb2
 have HG2 := hid (hg.kept hB2)
 have HP2 := hid (hp.kept hB2)
 have hfl : ∀ j v, (adrCells u (.slice ua un uc))[j]? = some v → W2.cell? ⟨w.heap.size, j, none⟩ = some v := fun j v h => hA2.cell j v h
 rw [hx] at hfl
 have y0 := hfl 0 _ rfl
 have y6 := hfl 6 _ rfl
 have y7 := hfl 7 _ rfl
 have HR2 := hid hR2
 have HB2 := hid hB2
 have HW1 := hid hs1
 have hW1' : w.alloc (.cells #[.string u0, .string u1, .string u2, .string u3, .bool u4, .int .i64 u5, .bool u6, .slice ua un uc, .string u8, .string u9, .bool u10, .bool u11] 34) = W1 := hW1
 have hW2' : W1.alloc (.cells #[.string ⟨#[]⟩, .string ⟨#[]⟩, .string ⟨#[]⟩, .string ⟨#[]⟩, .bool false, .int .i64 0, .bool false, .slice none 0 0, .string ⟨#[]⟩, .string ⟨#[]⟩, .bool false, .bool false] 34) = W2 := hW2
 clear hva hW1 hW2 hb1 hA1 hb2 hA2 hR2 hB2 hfl hg hx
 by_cases hc : u.scheme = sBlob ∧ u.opq = true
 ·have HV := hid (show innV u = adrOf (readV u.path.flatten none) by unfold innV; rw [if_pos hc])
  have e0 : (u0.toList == [98, 108, 111, 98]) = true := beq_yes u0 _ (by rw [hx0]; exact hc.1)
  have e6 : u6 = true := by rw [hx6]; exact hc.2
  subst e6
  obtain ⟨F, hF⟩ : ∃ F : ByteArray, F = ⟨u.path.flatten.toArray⟩ := ⟨_, rfl⟩
  have hFl : F.data.toList = u.path.flatten := by rw [hF]
  have HJ := hid (fun (w : World) (h : PathAt w (.slice ua un uc) u.path) => joinP_any (.slice ua un uc) u.path w h hl (by omega))
  rw [← hF] at HJ
  have HRd := hid (fun (w : World) (hg : Gd w) => uparse_any F w hg (by rw [Lib.size_eq, hFl]; omega))
  rw [hFl] at HRd
  obtain ⟨r, hr⟩ : ∃ r, readV u.path.flatten none = r := ⟨_, rfl⟩
  rw [hr] at HRd HV
  clear hc hx0 hx3 hx5 hx6 hF hFl hl hf hp hr
  go_enter Tryz.func120, Tryz.ntmps120
  go_wp2_with fail
  refine (HJ.out _ HP2.out).mono ?_
  rintro e w3 ⟨rfl, hb3⟩
  have HB3 := hid (below2 HB2.out hb3)
  have HG3 := hid (HG2.out.kept hb3)
  have HR3 := hid (HR2.out.kept hb3)
  clear hb3
  go_wp2_with fail
  refine (HRd.out _ HG3.out).mono ?_
  rintro e w4 ⟨qv, rfl, hown, hb4⟩
  have hsl := own_sl hown
  obtain ⟨qa, qn, qc, rfl⟩ := hsl
  obtain ⟨q0, q1, q2, q3, q4, q5, q6, q8, q9, q10, q11, hq, -, -, -, -⟩ := adr_named (adrOf r) qa qn qc
  have hqa : adrVal (adrOf r) (.slice qa qn qc) = .agg #[.string q0, .string q1, .string q2, .string q3, .bool q4, .int .i64 q5, .bool q6, .slice qa qn qc, .string q8, .string q9, .bool q10, .bool q11] := by unfold adrVal; rw [hq]
  have hb5 : Below w4.heap.size w4 (w4.alloc (.cells #[.string q0, .string q1, .string q2, .string q3, .bool q4, .int .i64 q5, .bool q6, .slice qa qn qc, .string q8, .string q9, .bool q10, .bool q11] 34)) := (Below.refl _ w4).alloc (Nat.le_refl _) _
  have h6 := (HR3.out.kept hb4).kept hb5
  have HB5 := hid (below2 (below2 HB3.out hb4) hb5)
  have ry0 := h6.cell 0 _ rfl
  have rz0 := h6.frozen 0
  have ry1 := h6.cell 1 _ rfl
  have rz1 := h6.frozen 1
  have ry2 := h6.cell 2 _ rfl
  have rz2 := h6.frozen 2
  have ry3 := h6.cell 3 _ rfl
  have rz3 := h6.frozen 3
  have ry4 := h6.cell 4 _ rfl
  have rz4 := h6.frozen 4
  have ry5 := h6.cell 5 _ rfl
  have rz5 := h6.frozen 5
  have ry6 := h6.cell 6 _ rfl
  have rz6 := h6.frozen 6
  have ry7 := h6.cell 7 _ rfl
  have rz7 := h6.frozen 7
  have ry8 := h6.cell 8 _ rfl
  have rz8 := h6.frozen 8
  have ry9 := h6.cell 9 _ rfl
  have rz9 := h6.frozen 9
  have ry10 := h6.cell 10 _ rfl
  have rz10 := h6.frozen 10
  have ry11 := h6.cell 11 _ rfl
  have rz11 := h6.frozen 11
  have H6 := hid h6
  have HO6 := hid (ownsRow_same hown fun g hg => hb5.block g (hown.lt g hg).2)
  have HQ := hid hq
  have HQA := hid hqa
  clear h6 hq hb4 hb5 hown
  rw [hqa]
  clear hqa
  go_wp2_with fail
  have hrg := range_row (H6.out.store (v := adrOf r) (qv := .slice qa qn qc))
  have hbl := below_setCells (B := w.heap.size) (b := w.heap.size + 1) (Nat.le_succ _) (adrCells (adrOf r) (.slice qa qn qc)) 0 _ HB5.out
  have how := own_path (own_cells HO6.out H6.out (adrCells (adrOf r) (.slice qa qn qc)) 0)
  rw [HV.out]
  refine bodyPost_ret (results_u1 rfl _ _ (w.heap.size + 1) (adrOf r) (.slice qa qn qc) rfl ?_) rfl ⟨.slice qa qn qc, ?_, ⟨_, _, _, rfl⟩, ?_, ?_⟩
  ·rw [HQ.out] at hrg ⊢; exact hrg
  ·rfl
  ·rw [HQ.out] at hbl; exact hbl
  ·rw [HQ.out] at how; exact how
 ·have HV := hid (show innV u = Adr.zero by unfold innV; rw [if_neg hc])
  have HR := hid HR2.out
  have ry0 := HR2.out.cell 0 _ rfl
  have rz0 := HR2.out.frozen 0
  have ry1 := HR2.out.cell 1 _ rfl
  have rz1 := HR2.out.frozen 1
  have ry2 := HR2.out.cell 2 _ rfl
  have rz2 := HR2.out.frozen 2
  have ry3 := HR2.out.cell 3 _ rfl
  have rz3 := HR2.out.frozen 3
  have ry4 := HR2.out.cell 4 _ rfl
  have rz4 := HR2.out.frozen 4
  have ry5 := HR2.out.cell 5 _ rfl
  have rz5 := HR2.out.frozen 5
  have ry6 := HR2.out.cell 6 _ rfl
  have rz6 := HR2.out.frozen 6
  have ry7 := HR2.out.cell 7 _ rfl
  have rz7 := HR2.out.frozen 7
  have ry8 := HR2.out.cell 8 _ rfl
  have rz8 := HR2.out.frozen 8
  have ry9 := HR2.out.cell 9 _ rfl
  have rz9 := HR2.out.frozen 9
  have ry10 := HR2.out.cell 10 _ rfl
  have rz10 := HR2.out.frozen 10
  have ry11 := HR2.out.cell 11 _ rfl
  have rz11 := HR2.out.frozen 11
  have hcs : (u0.toList == [98, 108, 111, 98]) = false ∨ ((u0.toList == [98, 108, 111, 98]) = true ∧ u6 = false) := by
   by_cases h : u0.data.toList = [98, 108, 111, 98]
   ·right
    refine ⟨beq_yes u0 _ h, ?_⟩
    rw [hx6]
    cases ho : u.opq with
    | false => rfl
    | true => exact absurd ⟨by rw [← hx0]; exact h, ho⟩ hc
   ·left; exact beq_no u0 _ h
  clear hc hx0 hx3 hx5 hx6 hl hf hp
  rcases hcs with e0 | ⟨e0, rfl⟩
  all_goals
   go_enter Tryz.func120, Tryz.ntmps120
   go_wp2_with fail
   have hrg := range_row (HR.out.store (v := Adr.zero) (qv := .slice none 0 0))
   have hbl := below_setCells (B := w.heap.size) (b := w.heap.size + 1) (Nat.le_succ _) (adrCells Adr.zero (.slice none 0 0)) 0 _ HB2.out
   rw [HV.out]
   refine bodyPost_ret (results_u1 rfl _ _ (w.heap.size + 1) Adr.zero (.slice none 0 0) rfl ?_) rfl ⟨.slice none 0 0, ?_, ⟨_, _, _, rfl⟩, ?_, ?_⟩
   ·exact hrg
   ·rfl
   ·exact hbl
   ·exact .inl ⟨rfl, rfl⟩

theorem inner_any (u : Adr) (pv : Value) (w : World) (hg : Gd w) (hp : PathAt w pv u.path) (hl : u.path.length ≤ 1000000) (hf : u.path.flatten.length ≤ 100000) :
  Calls Tryz.prog 120 #[adrVal u pv] w (InPost (innV u) w) := by
 refine (inner_own u pv w hg hp hl hf).mono ?_
 rintro e w' ⟨qv, he, hsl, hb, -⟩
 exact ⟨qv, he, hsl, hb⟩

end Go.Proofs.YtgoefeaopegdoaaGreatDoor

namespace Go.Proofs.YtgoefeaopegdoaaGreatDoor
open Go.RowKit

def orgCells (o : Org) : List Value := [.string ⟨o.scheme.toArray⟩, .string ⟨o.host.toArray⟩, .int .i64 o.port, .bool o.opq]

def orgVal (o : Org) : Value := .agg (orgCells o).toArray

def OrgIn (w : World) (b : Nat) (o : Org) : Prop := w.heap[b]? = some (.cells (orgCells o).toArray 28 (0, 0))

def Org.nil : Org := ⟨[], [], 0, false⟩

theorem OrgIn.lt {w : World} {b : Nat} {o : Org} (h : OrgIn w b o) : b < w.heap.size := (Array.getElem?_eq_some_iff.1 h).1

theorem OrgIn.kept {w w' : World} {b : Nat} {o : Org} (h : OrgIn w b o) (hb : Below w.heap.size w w') : OrgIn w' b o := by
 unfold OrgIn
 rw [hb.block b h.lt]; exact h

theorem OrgIn.cell {w : World} {b : Nat} {o : Org} (h : OrgIn w b o) (j : Nat) (v : Value) (hv : (orgCells o)[j]? = some v) : w.cell? ⟨b, j, none⟩ = some v := by
 rw [Lib.cell_of_heap h]
 simpa using hv

theorem OrgIn.frozen {w : World} {b : Nat} {o : Org} (h : OrgIn w b o) (j : Nat) : w.frozen? ⟨b, j, none⟩ = false := by
 simp [World.frozen?, show w.heap[b]? = _ from h]

theorem OrgIn.store {w : World} {b : Nat} {o p : Org} (h : OrgIn w b o) : OrgIn (w.setCells b 0 (orgCells p)) b p := by
 obtain ⟨C', e1, e2, _, e4⟩ := setCells_heap b 28 (0, 0) (orgCells p) 0 w _ h
 unfold OrgIn
 rw [e1]
 have : C' = (orgCells p).toArray := by
  apply Array.ext_getElem?
  intro j
  by_cases hj : j < 4
  ·have := e4 j hj (by rw [Nat.zero_add]; exact hj)
   rw [Nat.zero_add] at this
   rw [this]; simp
  ·have h2 : C'.size = 4 := by rw [e2]; rfl
   rw [Array.getElem?_eq_none (by omega), Array.getElem?_eq_none (by simp [orgCells]; omega)]
 rw [this]

theorem OrgIn.far {w : World} {b c j : Nat} {o : Org} {v : Value} (h : OrgIn w b o) (hne : b ≠ c) : OrgIn (w.setCell ⟨c, j, none⟩ v) b o := by
 unfold OrgIn
 rw [heap_setCell_other _ _ _ _ (fun e => hne (by simpa using e))]; exact h

theorem OrgIn.fars {b c : Nat} {o : Org} (hne : b ≠ c) : ∀ (vs : List Value) (j : Nat) (w : World), OrgIn w b o → OrgIn (w.setCells c j vs) b o
 | [], _, _, h => h
 | v :: r, j, w, h => by rw [World.setCells]; exact OrgIn.fars hne r (j + 1) _ (h.far hne)

theorem AdrIn.fars {b c : Nat} {u : Adr} {pv : Value} (hne : b ≠ c) : ∀ (vs : List Value) (j : Nat) (w : World), AdrIn w b u pv → AdrIn (w.setCells c j vs) b u pv
 | [], _, _, h => h
 | v :: r, j, w, h => by
  rw [World.setCells]
  refine AdrIn.fars hne r (j + 1) _ ?_
  unfold AdrIn
  rw [heap_setCell_other _ _ _ _ (fun e => hne (by simpa using e))]; exact h

theorem OrgIn.port {w : World} {b : Nat} {sc h : List UInt8} {n m : Int} {q : Bool} (H : OrgIn w b ⟨sc, h, n, q⟩) : OrgIn (w.setCell ⟨b, 2, none⟩ (.int .i64 m)) b ⟨sc, h, m, q⟩ := Lib.heap_setCell_same H (i := 2) (.int .i64 m)

theorem sizeO : (Tryz.prog.info? 28).map (·.size) = some 4 := by kernel_rfl

theorem results_o1 {fn : Func} {p : Tmp} (h : fn.results = #[.cell p 28]) (tmps : Array Value) (w : World) (b : Nat) (o : Org) (hp : tmps.getD p undef = .pointer (some ⟨b, 0, none⟩)) (hc : w.rangeAt b 0 (orgCells o)) : (results fn tmps).run Tryz.prog w = .ok (orgVal o) w := by
 rw [Array.getD_eq_getD_getElem?] at hp
 simp only [results, h]
 simp [Sem.run_bind, Result.andThen, hp, asAddr, run_loadVar_mid w b 0 28 (orgCells o) _ hc Tryz.underlying28 rfl sizeO, orgVal]

theorem wpList_worldO {P : Program} {ops : Array Oper} {Q : Exit → Act → World → Prop} {rest : List Oper} {a : Act} {w w' : World} (e : w = w') (h : wpList P ops Q rest a w) : wpList P ops Q rest a w' := e ▸ h

theorem orgV_no {u : Adr} (h : specV (orgA u).scheme = false) : orgV u = Org.none := by unfold orgV; rw [h]; rfl

theorem orgV_yes {u : Adr} (h : specV (orgA u).scheme = true) : orgV u = ⟨(orgA u).scheme, (orgA u).host, hasP (orgA u), false⟩ := by unfold orgV; rw [h]; rfl

theorem orgA_in {u : Adr} (h : webV (innV u).scheme = true) : orgA u = innV u := by unfold orgA; rw [h]; rfl

theorem orgA_out {u : Adr} (h : webV (innV u).scheme = false) : orgA u = u := by unfold orgA; rw [h]; rfl

def OfPost (o : Org) (w : World) (e : Ending) (w' : World) : Prop := e = .returned (orgVal o) ∧ Below w.heap.size w w'

set_option maxHeartbeats 8000000 in
set_option maxRecDepth 100000 in
theorem of_any (u : Adr) (pv : Value) (w : World) (hg : Gd w) (hp : PathAt w pv u.path) (hl : u.path.length ≤ 1000000) (hf : u.path.flatten.length ≤ 100000) :
  Calls Tryz.prog 71 #[adrVal u pv] w (OfPost (orgV u) w) := by
 have hsl : IsSl pv := by
  rcases hp with ⟨rfl, _⟩ | ⟨b, cap, rfl, _⟩
  ·exact ⟨_, _, _, rfl⟩
  ·exact ⟨_, _, _, rfl⟩
 obtain ⟨ua, un, uc, rfl⟩ := hsl
 have HIN := hid (fun (w : World) (hg : Gd w) (hp : PathAt w (.slice ua un uc) u.path) => inner_any u (.slice ua un uc) w hg hp hl hf)
 obtain ⟨u0, u1, u2, u3, u4, u5, u6, u8, u9, u10, u11, hx, hx0, hx3, hx5, hx6⟩ := adr_named u ua un uc
 have hva : adrVal u (.slice ua un uc) = .agg #[.string u0, .string u1, .string u2, .string u3, .bool u4, .int .i64 u5, .bool u6, .slice ua un uc, .string u8, .string u9, .bool u10, .bool u11] := by unfold adrVal; rw [hx]
 rw [hva] at HIN ⊢
 obtain ⟨W1, hW1⟩ : ∃ W1, (w.alloc (.cells #[.string u0, .string u1, .string u2, .string u3, .bool u4, .int .i64 u5, .bool u6, .slice ua un uc, .string u8, .string u9, .bool u10, .bool u11] 34)) = W1 := ⟨_, rfl⟩
 have hb1 : Below w.heap.size w W1 := by rw [← hW1]; exact (Below.refl _ w).alloc (Nat.le_refl _) _
 have hs1 : W1.heap.size = w.heap.size + 1 := by rw [← hW1]; simp
 have hA1 : AdrIn W1 w.heap.size u (.slice ua un uc) := by
  unfold AdrIn
  rw [hx, ← hW1]
  exact heap_alloc_new w _
 obtain ⟨W2, hW2⟩ : ∃ W2, (W1.alloc (.cells (orgCells Org.nil).toArray 28)) = W2 := ⟨_, rfl⟩
 have hb2 : Below W1.heap.size W1 W2 := by rw [← hW2]; exact (Below.refl _ W1).alloc (Nat.le_refl _) _
 have hA2 := hA1.kept hb2
 have hR2 : OrgIn W2 W1.heap.size Org.nil := by rw [← hW2]; exact heap_alloc_new W1 _
 rw [hs1] at hR2
 have hB2 := below2 hb1 hb2
 have HG2 := hid (hg.kept hB2)
 have HP2 := hid (hp.kept hB2)
 have hA2' := hA2
 unfold AdrIn at hA2'
 have hfl : ∀ j v, (adrCells u (.slice ua un uc))[j]? = some v → W2.cell? ⟨w.heap.size, j, none⟩ = some v := fun j v h => hA2.cell j v h
 rw [hx] at hfl
 have y0 := hfl 0 _ rfl
 have y1 := hfl 1 _ rfl
 have y2 := hfl 2 _ rfl
 have y3 := hfl 3 _ rfl
 have y4 := hfl 4 _ rfl
 have y5 := hfl 5 _ rfl
 have y6 := hfl 6 _ rfl
 have y7 := hfl 7 _ rfl
 have y8 := hfl 8 _ rfl
 have y9 := hfl 9 _ rfl
 have y10 := hfl 10 _ rfl
 have y11 := hfl 11 _ rfl
 have HA2 := hid hA2
 have HR2 := hid hR2
 have HB2 := hid hB2
 have hW1' : w.alloc (.cells #[.string u0, .string u1, .string u2, .string u3, .bool u4, .int .i64 u5, .bool u6, .slice ua un uc, .string u8, .string u9, .bool u10, .bool u11] 34) = W1 := hW1
 have hW2' : W1.alloc (.cells #[.string ⟨#[]⟩, .string ⟨#[]⟩, .int .i64 0, .bool false] 28) = W2 := hW2
 have HX := hid hx
 have HXA := hid (And.intro hx0 (And.intro hx3 (And.intro hx5 hx6)))
 clear hva hW1 hW2 hb1 hA1 hb2 hA2 hA2' hR2 hB2 hfl hg hx hl hf hp hx0 hx3 hx5 hx6
 go_enter Tryz.func71, Tryz.ntmps71
 go_wp2_with fail
 refine (HIN.out _ HG2.out HP2.out).mono ?_
 rintro e w3 ⟨qv, rfl, hqs, hb3⟩
 have hh0 : W2.heap.size = w.heap.size + 2 := by
  rw [← hW2']; simp [hs1]
 obtain ⟨qa, qn, qc, rfl⟩ := hqs
 obtain ⟨q0, q1, q2, q3, q4, q5, q6, q8, q9, q10, q11, hq, hq0, hq3, hq5, hq6⟩ := adr_named (innV u) qa qn qc
 have hqa : adrVal (innV u) (.slice qa qn qc) = .agg #[.string q0, .string q1, .string q2, .string q3, .bool q4, .int .i64 q5, .bool q6, .slice qa qn qc, .string q8, .string q9, .bool q10, .bool q11] := by unfold adrVal; rw [hq]
 rw [hqa]
 obtain ⟨W5, hW5⟩ : ∃ W5, (w3.alloc (.cells #[.string q0, .string q1, .string q2, .string q3, .bool q4, .int .i64 q5, .bool q6, .slice qa qn qc, .string q8, .string q9, .bool q10, .bool q11] 34)) = W5 := ⟨_, rfl⟩
 have hb5 : Below w3.heap.size w3 W5 := by rw [← hW5]; exact (Below.refl _ w3).alloc (Nat.le_refl _) _
 have hq' : AdrIn W5 w3.heap.size (innV u) (.slice qa qn qc) := by
  unfold AdrIn
  rw [hq, ← hW5]
  exact heap_alloc_new w3 _
 have HA5 := hid ((HA2.out.kept hb3).kept hb5)
 have HR5 := hid ((HR2.out.kept hb3).kept hb5)
 have HB5 := hid (below2 (below2 HB2.out hb3) hb5)
 have hfl : ∀ j v, (adrCells (innV u) (.slice qa qn qc))[j]? = some v → W5.cell? ⟨w3.heap.size, j, none⟩ = some v := fun j v h => hq'.cell j v h
 rw [hq] at hfl
 have q_y0 := hfl 0 _ rfl
 have q_y1 := hfl 1 _ rfl
 have q_y2 := hfl 2 _ rfl
 have q_y3 := hfl 3 _ rfl
 have q_y4 := hfl 4 _ rfl
 have q_y5 := hfl 5 _ rfl
 have q_y6 := hfl 6 _ rfl
 have q_y7 := hfl 7 _ rfl
 have q_y8 := hfl 8 _ rfl
 have q_y9 := hfl 9 _ rfl
 have q_y10 := hfl 10 _ rfl
 have q_y11 := hfl 11 _ rfl
 have HQ := hid hq
 have HQA := hid (And.intro hq0 (And.intro hq3 (And.intro hq5 hq6)))
 clear hfl hq' hb5 hb3 hqa hq y0 y1 y2 y3 y4 y5 y6 y7 y8 y9 y10 y11
 by_cases hweb : webV (innV u).scheme = true
 ·have HAV := hid (orgA_in hweb)
  obtain ⟨W6, hW6⟩ : ∃ W6, W6 = W5.setCells w.heap.size 0 [.string q0, .string q1, .string q2, .string q3, .bool q4, .int .i64 q5, .bool q6, .slice qa qn qc, .string q8, .string q9, .bool q10, .bool q11] := ⟨_, rfl⟩
  have HA6 := hid (show AdrIn W6 w.heap.size (innV u) (.slice qa qn qc) by
   have := HA5.out.store (v := innV u) (qv := .slice qa qn qc)
   rw [HQ.out] at this
   rw [hW6]; exact this)
  have HR6 := hid (show OrgIn W6 (w.heap.size + 1) Org.nil by rw [hW6]; exact OrgIn.fars (by omega) _ _ _ HR5.out)
  have HB6 := hid (show Below w.heap.size w W6 by rw [hW6]; exact below_setCells (Nat.le_refl _) _ _ _ HB5.out)
  have HT := hid (show W5.there w.heap.size 0 12 from HA5.out.there)
  have HW6 := hid hW6
  have hone : (#[.string q0, .string q1, .string q2, .string q3, .bool q4, .int .i64 q5, .bool q6, .slice qa qn qc, .string q8, .string q9, .bool q10, .bool q11] : Array Value).all (·.oneCell') = true := by
   have := all_oneCell_toArray (adrCells_one (innV u) (.slice qa qn qc) ⟨_, _, _, rfl⟩)
   rw [HQ.out] at this
   exact this
  have hws : (q0.toList == [104, 116, 116, 112]) = true ∨ ((q0.toList == [104, 116, 116, 112]) = false ∧ (q0.toList == [104, 116, 116, 112, 115]) = true) := by
   unfold webV at hweb
   rw [Bool.or_eq_true] at hweb
   by_cases h : q0.data.toList = [104, 116, 116, 112]
   ·left; exact beq_yes q0 _ h
   ·right
    refine ⟨beq_no q0 _ h, beq_yes q0 _ ?_⟩
    rw [hq0] at h ⊢
    rcases hweb with h2 | h2
    ·exact absurd (beq_iff_eq.1 h2) h
    ·exact (beq_iff_eq.1 h2)
  clear hW6 hweb hq0 hq3 hq5 hq6
  rcases hws with e0 | ⟨e0, e1⟩
  all_goals
   have hfl : ∀ j y, (adrCells (innV u) (.slice qa qn qc))[j]? = some y → W6.cell? ⟨w.heap.size, j, none⟩ = some y := fun j y h => HA6.out.cell j y h
   rw [HQ.out] at hfl
   have c0 := hfl 0 _ rfl
   have c3 := hfl 3 _ rfl
   have c5 := hfl 5 _ rfl
   clear hfl
   have ry0 := HR6.out.cell 0 _ rfl
   have rz0 := HR6.out.frozen 0
   have ry1 := HR6.out.cell 1 _ rfl
   have rz1 := HR6.out.frozen 1
   have ry2 := HR6.out.cell 2 _ rfl
   have rz2 := HR6.out.frozen 2
   have ry3 := HR6.out.cell 3 _ rfl
   have rz3 := HR6.out.frozen 3
   have HSp := hid (fun w => special_any q0 w)
   have HOw := hid (fun w => own_any q0 w)
   obtain ⟨sp, hsp⟩ : ∃ b, specV q0.data.toList = b := ⟨_, rfl⟩
   obtain ⟨ow, how⟩ : ∃ b, ownV q0.data.toList = b := ⟨_, rfl⟩
   rw [hsp] at HSp
   rw [how] at HOw
   have HSP := hid hsp
   have HOW := hid how
   clear hsp how
   cases sp with
   | false =>
    go_wp2_with (first | (refine wpList_store_mid rfl 34 (.tmp 1) (.tmp 15) rfl w.heap.size 0 #[.string q0, .string q1, .string q2, .string q3, .bool q4, .int .i64 q5, .bool q6, .slice qa qn qc, .string q8, .string q9, .bool q10, .bool q11] rfl rfl HT.out (sizeUa (innV u) (.slice qa qn qc)) hone ?_; refine wpList_worldO HW6.out ?_) | (go_at_call 124; refine (HSp.out _).mono ?_; rintro e wz ⟨rfl, hwz⟩; rw [← hwz]; clear hwz) | (go_at_call 125; refine (HOw.out _).mono ?_; rintro e wz ⟨rfl, hwz⟩; rw [← hwz]; clear hwz))
    have HV := hid (show orgV u = Org.none from orgV_no (by rw [HAV.out, ← HQA.out.1]; exact HSP.out))
    have hrg := range_row (HR6.out.store (p := Org.none))
    have hbl := below_setCells (B := w.heap.size) (b := w.heap.size + 1) (Nat.le_succ _) (orgCells Org.none) 0 _ HB6.out
    rw [HV.out]
    refine bodyPost_ret (results_o1 rfl _ _ (w.heap.size + 1) Org.none rfl ?_) rfl ⟨?_, ?_⟩
    ·exact hrg
    ·rfl
    ·exact hbl
   | true =>
    have HV0 := hid (orgV_yes (u := u) (by rw [HAV.out, ← HQA.out.1]; exact HSP.out))
    rw [HAV.out] at HV0
    have hbn : Below W6.heap.size W6 (W6.alloc (.cells #[.string q0, .string q3, .int .i64 q5, .bool false] 28)) := (Below.refl _ _).alloc (Nat.le_refl _) _
    have HRn := hid (HR6.out.kept hbn)
    have HBn := hid (below2 HB6.out hbn)
    have ny0 := HRn.out.cell 0 _ rfl
    have nz0 := HRn.out.frozen 0
    have ny1 := HRn.out.cell 1 _ rfl
    have nz1 := HRn.out.frozen 1
    have ny2 := HRn.out.cell 2 _ rfl
    have nz2 := HRn.out.frozen 2
    have ny3 := HRn.out.cell 3 _ rfl
    have nz3 := HRn.out.frozen 3
    have HLt := hid (HR6.out.lt)
    clear hbn
    by_cases hpo : q5 = -1
    ·subst hpo
     have HV := hid (show orgV u = ⟨(innV u).scheme, (innV u).host, ow, false⟩ by rw [HV0.out]; unfold hasP; rw [if_pos (show (innV u).port = -1 from HQA.out.2.2.1.symm), ← HQA.out.1, HOW.out])
     have hbo : Below W6.heap.size W6 (W6.alloc (.cells #[.string q0, .string q3, .int .i64 ow, .bool false] 28)) := (Below.refl _ _).alloc (Nat.le_refl _) _
     have HR8 := hid (HR6.out.kept hbo)
     have HB8 := hid (below2 HB6.out hbo)
     have k0 := (((Below.refl _ W6).alloc (Nat.le_refl _) (.cells #[.string q0, .string q3, .int .i64 (-1), .bool false] 28)).cell (World.block_lt_of_cell? W6 _ c0)).trans c0
     clear hbo ny0 nz0 ny1 nz1 ny2 nz2 ny3 nz3
     have ny0 := HR8.out.cell 0 _ rfl
     have nz0 := HR8.out.frozen 0
     have ny1 := HR8.out.cell 1 _ rfl
     have nz1 := HR8.out.frozen 1
     have ny2 := HR8.out.cell 2 _ rfl
     have nz2 := HR8.out.frozen 2
     have ny3 := HR8.out.cell 3 _ rfl
     have nz3 := HR8.out.frozen 3
     go_wp2_with (first | (refine wpList_store_mid rfl 34 (.tmp 1) (.tmp 15) rfl w.heap.size 0 #[.string q0, .string q1, .string q2, .string q3, .bool q4, .int .i64 (-1), .bool q6, .slice qa qn qc, .string q8, .string q9, .bool q10, .bool q11] rfl rfl HT.out (sizeUa (innV u) (.slice qa qn qc)) hone ?_; refine wpList_worldO HW6.out ?_) | (go_at_call 124; refine (HSp.out _).mono ?_; rintro e wz ⟨rfl, hwz⟩; rw [← hwz]; clear hwz) | (go_at_call 125; refine (HOw.out _).mono ?_; rintro e wz ⟨rfl, hwz⟩; rw [← hwz]; clear hwz))
     have hrg := range_row (HR8.out.store (p := ⟨(innV u).scheme, (innV u).host, ow, false⟩))
     have hbl := below_setCells (B := w.heap.size) (b := w.heap.size + 1) (Nat.le_succ _) (orgCells ⟨(innV u).scheme, (innV u).host, ow, false⟩) 0 _ HB8.out
     have HC := hid (show orgCells ⟨(innV u).scheme, (innV u).host, ow, false⟩ = [.string q0, .string q3, .int .i64 ow, .bool false] by unfold orgCells; rw [← HQA.out.1, ← HQA.out.2.1])
     rw [HV.out]
     refine bodyPost_ret (results_o1 rfl _ _ (w.heap.size + 1) ⟨(innV u).scheme, (innV u).host, ow, false⟩ rfl ?_) rfl ⟨?_, ?_⟩
     ·rw [HC.out] at hrg ⊢; exact hrg
     ·rfl
     ·rw [HC.out] at hbl; exact hbl
    ·have hpb : (q5 == -1) = false := beq_eq_false_iff_ne.2 hpo
     have HV := hid (show orgV u = ⟨(innV u).scheme, (innV u).host, q5, false⟩ by rw [HV0.out]; unfold hasP; rw [if_neg (show ¬ (innV u).port = -1 from fun e => hpo (HQA.out.2.2.1.trans e)), HQA.out.2.2.1])
     clear hpo
     go_wp2_with (first | (refine wpList_store_mid rfl 34 (.tmp 1) (.tmp 15) rfl w.heap.size 0 #[.string q0, .string q1, .string q2, .string q3, .bool q4, .int .i64 q5, .bool q6, .slice qa qn qc, .string q8, .string q9, .bool q10, .bool q11] rfl rfl HT.out (sizeUa (innV u) (.slice qa qn qc)) hone ?_; refine wpList_worldO HW6.out ?_) | (go_at_call 124; refine (HSp.out _).mono ?_; rintro e wz ⟨rfl, hwz⟩; rw [← hwz]; clear hwz) | (go_at_call 125; refine (HOw.out _).mono ?_; rintro e wz ⟨rfl, hwz⟩; rw [← hwz]; clear hwz))
     have hrg := range_row (HRn.out.store (p := ⟨(innV u).scheme, (innV u).host, q5, false⟩))
     have hbl := below_setCells (B := w.heap.size) (b := w.heap.size + 1) (Nat.le_succ _) (orgCells ⟨(innV u).scheme, (innV u).host, q5, false⟩) 0 _ HBn.out
     have HC := hid (show orgCells ⟨(innV u).scheme, (innV u).host, q5, false⟩ = [.string q0, .string q3, .int .i64 q5, .bool false] by unfold orgCells; rw [← HQA.out.1, ← HQA.out.2.1])
     rw [HV.out]
     refine bodyPost_ret (results_o1 rfl _ _ (w.heap.size + 1) ⟨(innV u).scheme, (innV u).host, q5, false⟩ rfl ?_) rfl ⟨?_, ?_⟩
     ·rw [HC.out] at hrg ⊢; exact hrg
     ·rfl
     ·rw [HC.out] at hbl; exact hbl
 ·have hweb' : webV (innV u).scheme = false := by simpa using hweb
  have HAV := hid (orgA_out hweb')
  have e0 : (q0.toList == [104, 116, 116, 112]) = false := beq_no q0 _ (fun h => by
   rw [hq0] at h
   unfold webV at hweb'
   rw [show (innV u).scheme = sHttp from h] at hweb'
   revert hweb'; decide)
  have e1 : (q0.toList == [104, 116, 116, 112, 115]) = false := beq_no q0 _ (fun h => by
   rw [hq0] at h
   unfold webV at hweb'
   rw [show (innV u).scheme = sHttps from h] at hweb'
   revert hweb'; decide)
  clear hweb hweb' hq0 hq3 hq5 hq6
  have hfl : ∀ j y, (adrCells u (.slice ua un uc))[j]? = some y → W5.cell? ⟨w.heap.size, j, none⟩ = some y := fun j y h => HA5.out.cell j y h
  rw [HX.out] at hfl
  have c0 := hfl 0 _ rfl
  have c3 := hfl 3 _ rfl
  have c5 := hfl 5 _ rfl
  clear hfl
  have ry0 := HR5.out.cell 0 _ rfl
  have rz0 := HR5.out.frozen 0
  have ry1 := HR5.out.cell 1 _ rfl
  have rz1 := HR5.out.frozen 1
  have ry2 := HR5.out.cell 2 _ rfl
  have rz2 := HR5.out.frozen 2
  have ry3 := HR5.out.cell 3 _ rfl
  have rz3 := HR5.out.frozen 3
  have HSp := hid (fun w => special_any u0 w)
  have HOw := hid (fun w => own_any u0 w)
  obtain ⟨sp, hsp⟩ : ∃ b, specV u0.data.toList = b := ⟨_, rfl⟩
  obtain ⟨ow, how⟩ : ∃ b, ownV u0.data.toList = b := ⟨_, rfl⟩
  rw [hsp] at HSp
  rw [how] at HOw
  have HSP := hid hsp
  have HOW := hid how
  clear hsp how
  cases sp with
  | false =>
   go_wp2_with (first | (go_at_call 124; refine (HSp.out _).mono ?_; rintro e wz ⟨rfl, hwz⟩; rw [← hwz]; clear hwz) | (go_at_call 125; refine (HOw.out _).mono ?_; rintro e wz ⟨rfl, hwz⟩; rw [← hwz]; clear hwz))
   have HV := hid (show orgV u = Org.none from orgV_no (by rw [HAV.out, ← HXA.out.1]; exact HSP.out))
   have hrg := range_row (HR5.out.store (p := Org.none))
   have hbl := below_setCells (B := w.heap.size) (b := w.heap.size + 1) (Nat.le_succ _) (orgCells Org.none) 0 _ HB5.out
   rw [HV.out]
   refine bodyPost_ret (results_o1 rfl _ _ (w.heap.size + 1) Org.none rfl ?_) rfl ⟨?_, ?_⟩
   ·exact hrg
   ·rfl
   ·exact hbl
  | true =>
   have HV0 := hid (orgV_yes (u := u) (by rw [HAV.out, ← HXA.out.1]; exact HSP.out))
   rw [HAV.out] at HV0
   have hbn : Below W5.heap.size W5 (W5.alloc (.cells #[.string u0, .string u3, .int .i64 u5, .bool false] 28)) := (Below.refl _ _).alloc (Nat.le_refl _) _
   have HRn := hid (HR5.out.kept hbn)
   have HBn := hid (below2 HB5.out hbn)
   have ny0 := HRn.out.cell 0 _ rfl
   have nz0 := HRn.out.frozen 0
   have ny1 := HRn.out.cell 1 _ rfl
   have nz1 := HRn.out.frozen 1
   have ny2 := HRn.out.cell 2 _ rfl
   have nz2 := HRn.out.frozen 2
   have ny3 := HRn.out.cell 3 _ rfl
   have nz3 := HRn.out.frozen 3
   have HLt := hid (HR5.out.lt)
   clear hbn
   by_cases hpo : u5 = -1
   ·subst hpo
    have HV := hid (show orgV u = ⟨u.scheme, u.host, ow, false⟩ by rw [HV0.out]; unfold hasP; rw [if_pos (show u.port = -1 from HXA.out.2.2.1.symm), ← HXA.out.1, HOW.out])
    have hbo : Below W5.heap.size W5 (W5.alloc (.cells #[.string u0, .string u3, .int .i64 ow, .bool false] 28)) := (Below.refl _ _).alloc (Nat.le_refl _) _
    have HR8 := hid (HR5.out.kept hbo)
    have HB8 := hid (below2 HB5.out hbo)
    have k0 := (((Below.refl _ W5).alloc (Nat.le_refl _) (.cells #[.string u0, .string u3, .int .i64 (-1), .bool false] 28)).cell (World.block_lt_of_cell? W5 _ c0)).trans c0
    clear hbo ny0 nz0 ny1 nz1 ny2 nz2 ny3 nz3
    have ny0 := HR8.out.cell 0 _ rfl
    have nz0 := HR8.out.frozen 0
    have ny1 := HR8.out.cell 1 _ rfl
    have nz1 := HR8.out.frozen 1
    have ny2 := HR8.out.cell 2 _ rfl
    have nz2 := HR8.out.frozen 2
    have ny3 := HR8.out.cell 3 _ rfl
    have nz3 := HR8.out.frozen 3
    go_wp2_with (first | (go_at_call 124; refine (HSp.out _).mono ?_; rintro e wz ⟨rfl, hwz⟩; rw [← hwz]; clear hwz) | (go_at_call 125; refine (HOw.out _).mono ?_; rintro e wz ⟨rfl, hwz⟩; rw [← hwz]; clear hwz))
    have hrg := range_row (HR8.out.store (p := ⟨u.scheme, u.host, ow, false⟩))
    have hbl := below_setCells (B := w.heap.size) (b := w.heap.size + 1) (Nat.le_succ _) (orgCells ⟨u.scheme, u.host, ow, false⟩) 0 _ HB8.out
    have HC := hid (show orgCells ⟨u.scheme, u.host, ow, false⟩ = [.string u0, .string u3, .int .i64 ow, .bool false] by unfold orgCells; rw [← HXA.out.1, ← HXA.out.2.1])
    rw [HV.out]
    refine bodyPost_ret (results_o1 rfl _ _ (w.heap.size + 1) ⟨u.scheme, u.host, ow, false⟩ rfl ?_) rfl ⟨?_, ?_⟩
    ·rw [HC.out] at hrg ⊢; exact hrg
    ·rfl
    ·rw [HC.out] at hbl; exact hbl
   ·have hpb : (u5 == -1) = false := beq_eq_false_iff_ne.2 hpo
    have HV := hid (show orgV u = ⟨u.scheme, u.host, u5, false⟩ by rw [HV0.out]; unfold hasP; rw [if_neg (show ¬ u.port = -1 from fun e => hpo (HXA.out.2.2.1.trans e)), HXA.out.2.2.1])
    clear hpo
    go_wp2_with (first | (go_at_call 124; refine (HSp.out _).mono ?_; rintro e wz ⟨rfl, hwz⟩; rw [← hwz]; clear hwz) | (go_at_call 125; refine (HOw.out _).mono ?_; rintro e wz ⟨rfl, hwz⟩; rw [← hwz]; clear hwz))
    have hrg := range_row (HRn.out.store (p := ⟨u.scheme, u.host, u5, false⟩))
    have hbl := below_setCells (B := w.heap.size) (b := w.heap.size + 1) (Nat.le_succ _) (orgCells ⟨u.scheme, u.host, u5, false⟩) 0 _ HBn.out
    have HC := hid (show orgCells ⟨u.scheme, u.host, u5, false⟩ = [.string u0, .string u3, .int .i64 u5, .bool false] by unfold orgCells; rw [← HXA.out.1, ← HXA.out.2.1])
    rw [HV.out]
    refine bodyPost_ret (results_o1 rfl _ _ (w.heap.size + 1) ⟨u.scheme, u.host, u5, false⟩ rfl ?_) rfl ⟨?_, ?_⟩
    ·rw [HC.out] at hrg ⊢; exact hrg
    ·rfl
    ·rw [HC.out] at hbl; exact hbl

end Go.Proofs.YtgoefeaopegdoaaGreatDoor

namespace Go.Proofs.YtgoefeaopegdoaaGreatDoor
open Go.RowKit

set_option maxHeartbeats 2000000 in
set_option maxRecDepth 100000 in
theorem same4_any (a b : Org) (w : World) :
  Calls Tryz.prog 36 #[orgVal a, orgVal b] w fun e w' => e = .returned (.bool (sameO a b)) ∧ Below w.heap.size w w' := by
 obtain ⟨sa, ah, ap, ao⟩ := a
 obtain ⟨bs, bh, bp, bo⟩ := b
 obtain ⟨AS, rfl⟩ : ∃ X : ByteArray, sa = X.data.toList := ⟨⟨sa.toArray⟩, rfl⟩
 obtain ⟨AH, rfl⟩ : ∃ X : ByteArray, ah = X.data.toList := ⟨⟨ah.toArray⟩, rfl⟩
 obtain ⟨BS, rfl⟩ : ∃ X : ByteArray, bs = X.data.toList := ⟨⟨bs.toArray⟩, rfl⟩
 obtain ⟨BH, rfl⟩ : ∃ X : ByteArray, bh = X.data.toList := ⟨⟨bh.toArray⟩, rfl⟩
 have hv : ∀ (s h : ByteArray) (p : Int) (o : Bool), orgVal ⟨s.data.toList, h.data.toList, p, o⟩ = .agg #[.string s, .string h, .int .i64 p, .bool o] := fun _ _ _ _ => rfl
 rw [hv, hv]
 have HBx := hid (show Below w.heap.size w ((w.alloc (.cells #[.string AS, .string AH, .int .i64 ap, .bool ao] 28)).alloc (.cells #[.string BS, .string BH, .int .i64 bp, .bool bo] 28)) from ((Below.refl _ w).alloc (Nat.le_refl _) _).alloc (by simp) _)
 clear hv
 cases ao with
 | true =>
  go_enter Tryz.func36, Tryz.ntmps36
  go_wp2
  go_ret
  exact ⟨rfl, HBx.out⟩
 | false =>
  clear HBx
  go_enter Tryz.func36, Tryz.ntmps36
  go_wp2
  all_goals
   go_ret
   refine ⟨ret_bool ?_, ((Below.refl _ w).alloc (Nat.le_refl _) _).alloc (by simp) _⟩
   simp only [Lib.toList_data] at *
   simp_all [sameO]

def UrlAt (w : World) (u : Adr) (pv : Value) : Prop := PathAt w pv u.path ∧ u.path.length ≤ 1000000 ∧ u.path.flatten.length ≤ 100000

theorem UrlAt.kept {w w' : World} {u : Adr} {pv : Value} (h : UrlAt w u pv) (hb : Below w.heap.size w w') : UrlAt w' u pv := ⟨h.1.kept hb, h.2⟩

end Go.Proofs.YtgoefeaopegdoaaGreatDoor

namespace Go.Proofs.YtgoefeaopegdoaaGreatDoor
open Go.RowKit

def Rdr11 (w : World) (v : Value) (q : List UInt8 → Bool) : Prop :=
 ∃ (f : Nat) (lb : Array Value), v = .func (.func f) #[] lb ∧ (∀ args w, (callFunc f args).run Tryz.prog w = .ok (.enter f args) w) ∧ ∀ (X : World) (s : ByteArray), Below w.heap.size w X → s.size ≤ 4000000000 → Calls Tryz.prog f (#[.string s] ++ lb) X fun e w' => e = .returned (.bool (q s.data.toList)) ∧ Below X.heap.size X w'

theorem Rdr11.kept {w w' : World} {v : Value} {q : List UInt8 → Bool} (h : Rdr11 w v q) (hb : Below w.heap.size w w') : Rdr11 w' v q := by
 obtain ⟨f, lb, h1, h2, h3⟩ := h
 exact ⟨f, lb, h1, h2, fun X s hX hs => h3 X s (below2 hb hX) hs⟩

theorem keptC {w w' : World} {a : Addr} {v : Value} (h : w.cell? a = some v) (hb : Below w.heap.size w w') : w'.cell? a = some v := (hb.cell (World.block_lt_of_cell? w _ h)).trans h

end Go.Proofs.YtgoefeaopegdoaaGreatDoor

namespace Go.Proofs.YtgoefeaopegdoaaGreatDoor
def blC (c : UInt8) : Bool := blankI c.toNat

theorem all_reverse (A : List UInt8) (h : A.all blC = true) : A.reverse.all blC = true := by simpa using h

end Go.Proofs.YtgoefeaopegdoaaGreatDoor

namespace Go.Proofs.YtgoefeaopegdoaaGreatDoor
structure Hd where
 name : List UInt8
 value : List UInt8
deriving DecidableEq

def isN (n : List UInt8) (h : Hd) : Bool := low h.name == low n

def selV (L : List Hd) (n : List UInt8) : List (List UInt8) := (L.filter (isN n)).map (·.value)

def getT (L : List Hd) (n : List UInt8) : List UInt8 := Lib.join (selV L n) [44, 32]

def getB (L : List Hd) (n : List UInt8) : Bool := !(selV L n).isEmpty

theorem selV_snoc (L : List Hd) (h : Hd) (n : List UInt8) : selV (L ++ [h]) n = selV L n ++ (if isN n h then [h.value] else []) := by
 unfold selV
 rw [List.filter_append, List.map_append]
 by_cases hh : isN n h = true <;> simp [hh]

def bndV (l : List UInt8) : Int := if l = [] then -1 else intV l

def bndOk (l : List UInt8) : Bool := l == [] || intOk l

end Go.Proofs.YtgoefeaopegdoaaGreatDoor

namespace Go.Proofs.YtgoefeaopegdoaaGreatDoor
def Dec (n : Nat) (T : List UInt8) : Prop := T ≠ [] ∧ T.all digP = true ∧ numI T = (n : Int) ∧ T.length ≤ 40

theorem Dec.no {n : Nat} {T : List UInt8} (h : Dec n T) (c : UInt8) (hc : digP c = false) : c ∉ T := by
 intro hm
 have := List.all_eq_true.1 h.2.1 c hm
 rw [hc] at this
 cases this

theorem Dec.int {n : Nat} {T : List UInt8} (h : Dec n T) : bndV T = n ∧ bndOk T = true := by
 have e : (T.all digP && !T.isEmpty) = true := by
  rw [h.2.1]
  have := h.1
  cases T with
  | nil => exact absurd rfl this
  | cons a b => rfl
 constructor
 ·unfold bndV intV
  rw [if_neg h.1, if_pos e, h.2.2.1]
 ·unfold bndOk intOk
  rw [e]; simp

end Go.Proofs.YtgoefeaopegdoaaGreatDoor
