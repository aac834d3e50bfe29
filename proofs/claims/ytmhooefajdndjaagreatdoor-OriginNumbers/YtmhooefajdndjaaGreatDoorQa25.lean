/-
  Walks and plain facts that this claim leans on, put together out of 15 texts: Djk, Yh, Yi, Yt, Yo, Pg, Xa, Xb, Xc, Xe, Xg, Xh, Xj, Yts, Ytn.
-/
import Derived.Test.YtmhooefajdndjaaGreatDoorProg
import Derived.Test.YtmhooefajdndjaaGreatDoorQa1
import Derived.Test.YtmhooefajdndjaaGreatDoorQa2
import Derived.Test.YtmhooefajdndjaaGreatDoorQa3
import Derived.Test.YtmhooefajdndjaaGreatDoorQa6
import Derived.Test.YtmhooefajdndjaaGreatDoorQa8
import Derived.Test.YtmhooefajdndjaaGreatDoorQa9
import Derived.Test.YtmhooefajdndjaaGreatDoorQa10
import Derived.Test.YtmhooefajdndjaaGreatDoorQa11
import Derived.Test.YtmhooefajdndjaaGreatDoorQa12
import Derived.Test.YtmhooefajdndjaaGreatDoorQa13
import Derived.Test.YtmhooefajdndjaaGreatDoorQa14
import Derived.Test.YtmhooefajdndjaaGreatDoorQa18
import Derived.Test.YtmhooefajdndjaaGreatDoorQa22
import Derived.Test.YtmhooefajdndjaaGreatDoorQa24
import Derived.Lib.IndexMore
import Derived.Lib.Join
import Derived.Lib.LastIndexByte
import Derived.WalkKit
import Derived.Lib.Strings
import Derived.Lib.UnsafeStr
import Derived.Laws.IdiomStrings
import Derived.Laws.AppendOwn
import Derived.Laws.BitsAllLaws
import Derived.Lib.Bytealg
import Derived.Lib.BufferMore
import Derived.Lib.BufferRead
import Derived.Lib.RuneBytes
import Derived.Laws.RangeAny
import Derived.LoopN
import Derived.RegionTactic
import Derived.Deep.RegionWith
import Derived.Deep.QuietTactic
import Derived.BigQuiet
import Derived.OwnWalk
import Derived.Deep.RegionLaw
import Derived.Laws.OwnMore
import Derived.Deep.LoopGhost
import Derived.Shelf.Strings.Builder1
import Derived.Shelf.Strings.Builder2
import Derived.Shelf.Strings.OnBuilder
import Derived.Shelf.Strings.Trim
import Derived.Shelf.Small.Utf8
import Derived.Shelf.Small.Strs
import Derived.Shelf.Small.Wraps
import Derived.Shelf.Strings.BuilderF
import Derived.Shelf.Strings.BuilderK
import Derived.Shelf.Strings.BuilderRune
import Derived.Shelf.Utf8.AppendRune
import Derived.Shelf.Utf8.AppendRunePlain
import Derived.Shelf.Strings.Builder2Cap
import Derived.Shelf.Strconv.Itoa0
import Derived.Shelf.Strconv.Itoa1
import Derived.Shelf.LaysM
import Derived.Shelf.Strconv.Itoa2
import Derived.Shelf.Strconv.Itoa3
import Derived.Shelf.Strings.Search1
import Derived.Shelf.Strings.Search2
import Derived.Shelf.Strings.Search3
import Derived.Shelf.Strings.Cut
import Derived.Shelf.Strings.Count
import Derived.Shelf.Strings.Shaped
import Derived.Shelf.Strings.LastIndex
import Derived.Shelf.Strings.Prefix
import Derived.Shelf.Strings.Split
import Derived.Shelf.Strings.Replace
import Derived.Shelf.Strings.Runes
import Derived.Shelf.Strings.IndexAny
import Derived.Shelf.Strings.AsciiSet
import Derived.Shelf.Strings.IndexAnyAll
import Derived.Shelf.Unicode.DecodeSlow
import Derived.Ground.Names2Prog
import Derived.Shelf.Slices.Clone
import Derived.Ground.SlgnProg
import Derived.Shelf.SlicesE.Clone
import Derived.BigRegion
import Derived.Laws.AppendOwnNone
import Derived.Deep.Cut
import Derived.Scope
import Derived.ScopeJumps
import Derived.WalkMore
import Derived.Lib.IndexAny
import Derived.Lib.Replace
import Derived.Lib.TrimByte
import Derived.Lib.ItoaNum
import Derived.Lib.DecodeN
import Derived.Lib.OthersKept
import Derived.Laws.BytesString
import Derived.Deep.WholeRow
import Derived.Lib.AppendStr
import Derived.Deep.RegionHeld
import Derived.WalkSpells
import Derived.WalkLawsBesides
import Derived.Lib.AppendIntMem
import Derived.Lib.SmallJoins
import Derived.WalkSmall
import Derived.Laws.CopyOwn
import Derived.Laws.ResultCell
import Derived.Deep.MidRow
import Derived.Lib.FrozenHead2
import Derived.Lib.Builder
import Derived.Laws.Runes
import Derived.Lib.SlTrimSet
import Derived.Below
import Derived.Shelf.Strings.SlTrimAscii
set_option linter.unusedSimpArgs false
set_option linter.unusedVariables false

namespace Go.Proofs.YtmhooefajdndjaaGreatDoor
open Go.RowKit

def urlV (s : List UInt8) : Except Int Adr := readV (s.take 300) none

def isOk (r : Except Int Adr) : Bool := match r with | .ok _ => true | .error _ => false

def UPost (r : Except Int Adr) (w : World) (e : Ending) (w' : World) : Prop :=
 ∃ pv, e = .returned (.tuple #[adrVal (adrOf r) pv, .bool (isOk r)]) ∧ w'.ownsRow w.heap.size 9 1 pv (adrOf r).path.length (cellsS (adrOf r).path) ∧ Below w.heap.size w w'

theorem numOf_isOk {s : List UInt8} : decide (numOf (readV s none) = 0) = isOk (readV s none) := by
 cases h : readV s none with
 | ok u => rfl
 | error e =>
  have : e = 3 ∨ e = 10 ∨ e = 11 ∨ e = 12 := by
   unfold readV at h
   split at h
   ·injection h with h; exact .inl h.symm
   ·simp only at h
    split at h
    ·injection h with h; exact .inr (.inr (.inr h.symm))
    ·rcases startV_err h with h | h
     ·exact .inr (.inl h)
     ·exact .inr (.inr (.inl h))
  rcases this with rfl | rfl | rfl | rfl <;> rfl

set_option maxHeartbeats 1000000 in
set_option maxRecDepth 100000 in
theorem url_k (s : ByteArray) (w : World) (hs : s.size ≤ 9223372036854775807) :
  Calls Tryz.prog 23 #[.string s] w (UPost (urlV s.data.toList) w) := by
 have h0 : AdrIn (w.alloc (.cells (adrCells Adr.zero (.slice none 0 0)).toArray 45)) w.heap.size Adr.zero (.slice none 0 0) := heap_alloc_new w _
 have hb0 : Below w.heap.size w (w.alloc (.cells (adrCells Adr.zero (.slice none 0 0)).toArray 45)) := (Below.refl _ w).alloc (Nat.le_refl _) _
 have H0 := hid h0
 have HB0 := hid hb0
 clear h0 hb0
 obtain ⟨F, hF⟩ : ∃ F : ByteArray, ⟨(s.data.toList.take 300).toArray⟩ = F := ⟨_, rfl⟩
 have hFl : F.data.toList = s.data.toList.take 300 := by rw [← hF]
 have hFs : F.size ≤ 100000 := by rw [Lib.size_eq, hFl, List.length_take]; omega
 have HFw := hid (fun w => few_any s 300 w (by omega) hs)
 rw [hF] at HFw
 have HRd := hid (fun w => rparse3_any F w hFs)
 have HN := hid (numOf_isOk (s := F.data.toList))
 have HU := hid (show urlV s.data.toList = readV F.data.toList none by unfold urlV; rw [hFl])
 obtain ⟨r, hr⟩ : ∃ r, readV F.data.toList none = r := ⟨_, rfl⟩
 rw [hr] at HRd HN HU
 clear hF hFl hFs hr
 go_enter Tryz.func23, Tryz.ntmps23
 go_wp2_with fail
 refine (HFw.out _).mono ?_
 rintro e w' ⟨rfl, rfl⟩
 go_wp2_with fail
 refine (HRd.out _).mono ?_
 rintro e w1 ⟨pv, rfl, hown, hb1⟩
 have h1 := H0.out.kept hb1
 have HB1 := hid (below2 HB0.out hb1)
 have HO1 := hid (ownsRow_lower hown HB0.out.size)
 have hsl := own_sl hown
 obtain ⟨a0, n0, c0, rfl⟩ := hsl
 obtain ⟨s0, s1, s2, s3, b4, i5, b6, s8, s9, b10, b11, hx⟩ : ∃ s0 s1 s2 s3 b4 i5 b6 s8 s9 b10 b11, adrCells (adrOf r) (.slice a0 n0 c0) = [.string s0, .string s1, .string s2, .string s3, .bool b4, .int .i64 i5, .bool b6, .slice a0 n0 c0, .string s8, .string s9, .bool b10, .bool b11] := ⟨_, _, _, _, _, _, _, _, _, _, _, rfl⟩
 have hva : adrVal (adrOf r) (.slice a0 n0 c0) = .agg #[.string s0, .string s1, .string s2, .string s3, .bool b4, .int .i64 i5, .bool b6, .slice a0 n0 c0, .string s8, .string s9, .bool b10, .bool b11] := by unfold adrVal; rw [hx]
 have h4 : AdrIn (w1.alloc (.cells #[.string s0, .string s1, .string s2, .string s3, .bool b4, .int .i64 i5, .bool b6, .slice a0 n0 c0, .string s8, .string s9, .bool b10, .bool b11] 45)) w1.heap.size (adrOf r) (.slice a0 n0 c0) := by
  have := heap_alloc_new w1 (.cells #[.string s0, .string s1, .string s2, .string s3, .bool b4, .int .i64 i5, .bool b6, .slice a0 n0 c0, .string s8, .string s9, .bool b10, .bool b11] 45)
  unfold AdrIn
  rw [hx]
  exact this
 have hb4 : Below w1.heap.size w1 (w1.alloc (.cells #[.string s0, .string s1, .string s2, .string s3, .bool b4, .int .i64 i5, .bool b6, .slice a0 n0 c0, .string s8, .string s9, .bool b10, .bool b11] 45)) := (Below.refl _ w1).alloc (Nat.le_refl _) _
 have h6 := h1.kept hb4
 have HO4 := hid (ownsRow_same HO1.out fun g hg => hb4.block g (HO1.out.lt g hg).2)
 have HB4 := hid (below2 HB1.out hb4)
 have y0 := h6.cell 0 _ rfl
 have f0 := h6.frozen 0
 have y1 := h6.cell 1 _ rfl
 have f1 := h6.frozen 1
 have y2 := h6.cell 2 _ rfl
 have f2 := h6.frozen 2
 have y3 := h6.cell 3 _ rfl
 have f3 := h6.frozen 3
 have y4 := h6.cell 4 _ rfl
 have f4 := h6.frozen 4
 have y5 := h6.cell 5 _ rfl
 have f5 := h6.frozen 5
 have y6 := h6.cell 6 _ rfl
 have f6 := h6.frozen 6
 have y7 := h6.cell 7 _ rfl
 have f7 := h6.frozen 7
 have y8 := h6.cell 8 _ rfl
 have f8 := h6.frozen 8
 have y9 := h6.cell 9 _ rfl
 have f9 := h6.frozen 9
 have y10 := h6.cell 10 _ rfl
 have f10 := h6.frozen 10
 have y11 := h6.cell 11 _ rfl
 have f11 := h6.frozen 11
 have H6 := hid h6
 have HX := hid hx
 have HV := hid hva
 clear h4 hb4 h6 h1 hb1 hown hx
 rw [hva]
 clear hva
 go_wp2_with fail
 have hn : (numOf r == 0) = isOk r := HN.out
 rw [hn, HU.out]
 have hrg := range_row (H6.out.store (v := adrOf r) (qv := .slice a0 n0 c0))
 have hbl := below_setCells (Nat.le_refl w.heap.size) (adrCells (adrOf r) (.slice a0 n0 c0)) 0 _ HB4.out
 have how := own_cells HO4.out H6.out (adrCells (adrOf r) (.slice a0 n0 c0)) 0
 refine bodyPost_ret (results_u2 rfl _ _ w.heap.size (adrOf r) (.slice a0 n0 c0) rfl ?_) rfl ⟨.slice a0 n0 c0, ?_, ?_, ?_⟩
 ·rw [HX.out] at hrg ⊢; exact hrg
 ·rfl
 ·rw [HX.out] at how; exact how
 ·rw [HX.out] at hbl; exact hbl

end Go.Proofs.YtmhooefajdndjaaGreatDoor

namespace Go.Proofs.YtmhooefajdndjaaGreatDoor
open Go.RowKit

theorem adr_named (u : Adr) (a : Option Addr) (n c : Nat) : ∃ s0 s1 s2 s3 b4 i5 b6 s8 s9 b10 b11, adrCells u (.slice a n c) = [.string s0, .string s1, .string s2, .string s3, .bool b4, .int .i64 i5, .bool b6, .slice a n c, .string s8, .string s9, .bool b10, .bool b11] ∧ s0.data.toList = u.scheme ∧ s3.data.toList = u.host ∧ i5 = u.port ∧ b6 = u.opq := ⟨_, _, _, _, _, _, _, _, _, _, _, rfl, rfl, rfl, rfl, rfl⟩

theorem ext_ba {x : ByteArray} {l : List UInt8} (h : x.data.toList = l) : x = ⟨l.toArray⟩ := by
 cases x; subst h; rfl

def InPostP (u : Adr) (w : World) (e : Ending) (w' : World) : Prop := ∃ pv, e = .returned (adrVal u pv) ∧ IsSl pv ∧ Below w.heap.size w w' ∧ PathAt w' pv u.path

set_option maxHeartbeats 4000000 in
set_option maxRecDepth 100000 in
theorem inner_own (u : Adr) (pv : Value) (w : World) (hg : Gd w) (hp : PathAt w pv u.path) (hl : u.path.length ≤ 1000000) (hf : u.path.flatten.length ≤ 100000) :
  Calls Tryz.prog 65 #[adrVal u pv] w (InPostP (innV u) w) := by
 have hsl : IsSl pv := by
  rcases hp with ⟨rfl, _⟩ | ⟨b, cap, rfl, _⟩
  ·exact ⟨_, _, _, rfl⟩
  ·exact ⟨_, _, _, rfl⟩
 obtain ⟨ua, un, uc, rfl⟩ := hsl
 obtain ⟨u0, u1, u2, u3, u4, u5, u6, u8, u9, u10, u11, hx, hx0, hx3, hx5, hx6⟩ := adr_named u ua un uc
 have hva : adrVal u (.slice ua un uc) = .agg #[.string u0, .string u1, .string u2, .string u3, .bool u4, .int .i64 u5, .bool u6, .slice ua un uc, .string u8, .string u9, .bool u10, .bool u11] := by unfold adrVal; rw [hx]
 rw [hva]
 obtain ⟨W1, hW1⟩ : ∃ W1, (w.alloc (.cells #[.string u0, .string u1, .string u2, .string u3, .bool u4, .int .i64 u5, .bool u6, .slice ua un uc, .string u8, .string u9, .bool u10, .bool u11] 45)) = W1 := ⟨_, rfl⟩
 have hb1 : Below w.heap.size w W1 := by rw [← hW1]; exact (Below.refl _ w).alloc (Nat.le_refl _) _
 have hs1 : W1.heap.size = w.heap.size + 1 := by rw [← hW1]; simp
 have hA1 : AdrIn W1 w.heap.size u (.slice ua un uc) := by
  unfold AdrIn
  rw [hx, ← hW1]
  exact heap_alloc_new w _
 obtain ⟨W2, hW2⟩ : ∃ W2, (W1.alloc (.cells (adrCells Adr.zero (.slice none 0 0)).toArray 45)) = W2 := ⟨_, rfl⟩
 have hb2 : Below W1.heap.size W1 W2 := by rw [← hW2]; exact (Below.refl _ W1).alloc (Nat.le_refl _) _
 have hA2 := hA1.kept hb2
 have hR2 : AdrIn W2 W1.heap.size Adr.zero (.slice none 0 0) := by rw [← hW2]; exact heap_alloc_new W1 _
 rw [hs1] at hR2
 have hB2 := below2 hb1 hb2
 have HG2 := hid (hg.kept hB2)
 have HP2 := hid (hp.kept hB2)
 have hfl : ∀ j v, (adrCells u (.slice ua un uc))[j]? = some v → W2.cell? ⟨w.heap.size, j, none⟩ = some v := fun j v h => hA2.cell j v h
 rw [hx] at hfl
 have y0 := hfl 0 _ rfl
 have y6 := hfl 6 _ rfl
 have y7 := hfl 7 _ rfl
 have HR2 := hid hR2
 have HB2 := hid hB2
 have HW1 := hid hs1
 have hW1' : w.alloc (.cells #[.string u0, .string u1, .string u2, .string u3, .bool u4, .int .i64 u5, .bool u6, .slice ua un uc, .string u8, .string u9, .bool u10, .bool u11] 45) = W1 := hW1
 have hW2' : W1.alloc (.cells #[.string ⟨#[]⟩, .string ⟨#[]⟩, .string ⟨#[]⟩, .string ⟨#[]⟩, .bool false, .int .i64 0, .bool false, .slice none 0 0, .string ⟨#[]⟩, .string ⟨#[]⟩, .bool false, .bool false] 45) = W2 := hW2
 clear hva hW1 hW2 hb1 hA1 hb2 hA2 hR2 hB2 hfl hg hx
 by_cases hc : u.scheme = sBlob ∧ u.opq = true
 ·have HV := hid (show innV u = adrOf (readV u.path.flatten none) by unfold innV; rw [if_pos hc])
  have e0 : (u0.toList == [98, 108, 111, 98]) = true := beq_yes u0 _ (by rw [hx0]; exact hc.1)
  have e6 : u6 = true := by rw [hx6]; exact hc.2
  subst e6
  obtain ⟨F, hF⟩ : ∃ F : ByteArray, F = ⟨u.path.flatten.toArray⟩ := ⟨_, rfl⟩
  have hFl : F.data.toList = u.path.flatten := by rw [hF]
  have HJ := hid (fun (w : World) (h : PathAt w (.slice ua un uc) u.path) => joinP_any (.slice ua un uc) u.path w h hl (by omega))
  rw [← hF] at HJ
  have HRd := hid (fun (w : World) (hg : Gd w) => uparse_any F w hg (by rw [Lib.size_eq, hFl]; omega))
  rw [hFl] at HRd
  obtain ⟨r, hr⟩ : ∃ r, readV u.path.flatten none = r := ⟨_, rfl⟩
  rw [hr] at HRd HV
  clear hc hx0 hx3 hx5 hx6 hF hFl hl hf hp hr
  go_enter Tryz.func65, Tryz.ntmps65
  go_wp2_with fail
  refine (HJ.out _ HP2.out).mono ?_
  rintro e w3 ⟨rfl, hb3⟩
  have HB3 := hid (below2 HB2.out hb3)
  have HG3 := hid (HG2.out.kept hb3)
  have HR3 := hid (HR2.out.kept hb3)
  clear hb3
  go_wp2_with fail
  refine (HRd.out _ HG3.out).mono ?_
  rintro e w4 ⟨qv, rfl, hown, hb4⟩
  have hsl := own_sl hown
  obtain ⟨qa, qn, qc, rfl⟩ := hsl
  obtain ⟨q0, q1, q2, q3, q4, q5, q6, q8, q9, q10, q11, hq, -, -, -, -⟩ := adr_named (adrOf r) qa qn qc
  have hqa : adrVal (adrOf r) (.slice qa qn qc) = .agg #[.string q0, .string q1, .string q2, .string q3, .bool q4, .int .i64 q5, .bool q6, .slice qa qn qc, .string q8, .string q9, .bool q10, .bool q11] := by unfold adrVal; rw [hq]
  have hb5 : Below w4.heap.size w4 (w4.alloc (.cells #[.string q0, .string q1, .string q2, .string q3, .bool q4, .int .i64 q5, .bool q6, .slice qa qn qc, .string q8, .string q9, .bool q10, .bool q11] 45)) := (Below.refl _ w4).alloc (Nat.le_refl _) _
  have h6 := (HR3.out.kept hb4).kept hb5
  have HB5 := hid (below2 (below2 HB3.out hb4) hb5)
  have ry0 := h6.cell 0 _ rfl
  have rz0 := h6.frozen 0
  have ry1 := h6.cell 1 _ rfl
  have rz1 := h6.frozen 1
  have ry2 := h6.cell 2 _ rfl
  have rz2 := h6.frozen 2
  have ry3 := h6.cell 3 _ rfl
  have rz3 := h6.frozen 3
  have ry4 := h6.cell 4 _ rfl
  have rz4 := h6.frozen 4
  have ry5 := h6.cell 5 _ rfl
  have rz5 := h6.frozen 5
  have ry6 := h6.cell 6 _ rfl
  have rz6 := h6.frozen 6
  have ry7 := h6.cell 7 _ rfl
  have rz7 := h6.frozen 7
  have ry8 := h6.cell 8 _ rfl
  have rz8 := h6.frozen 8
  have ry9 := h6.cell 9 _ rfl
  have rz9 := h6.frozen 9
  have ry10 := h6.cell 10 _ rfl
  have rz10 := h6.frozen 10
  have ry11 := h6.cell 11 _ rfl
  have rz11 := h6.frozen 11
  have H6 := hid h6
  have HO6 := hid (ownsRow_same hown fun g hg => hb5.block g (hown.lt g hg).2)
  have HQ := hid hq
  have HQA := hid hqa
  clear h6 hq hb4 hb5 hown
  rw [hqa]
  clear hqa
  go_wp2_with fail
  have hrg := range_row (H6.out.store (v := adrOf r) (qv := .slice qa qn qc))
  have hbl := below_setCells (B := w.heap.size) (b := w.heap.size + 1) (Nat.le_succ _) (adrCells (adrOf r) (.slice qa qn qc)) 0 _ HB5.out
  have how := own_path (own_cells HO6.out H6.out (adrCells (adrOf r) (.slice qa qn qc)) 0)
  rw [HV.out]
  refine bodyPost_ret (results_u1 rfl _ _ (w.heap.size + 1) (adrOf r) (.slice qa qn qc) rfl ?_) rfl ⟨.slice qa qn qc, ?_, ⟨_, _, _, rfl⟩, ?_, ?_⟩
  ·rw [HQ.out] at hrg ⊢; exact hrg
  ·rfl
  ·rw [HQ.out] at hbl; exact hbl
  ·rw [HQ.out] at how; exact how
 ·have HV := hid (show innV u = Adr.zero by unfold innV; rw [if_neg hc])
  have HR := hid HR2.out
  have ry0 := HR2.out.cell 0 _ rfl
  have rz0 := HR2.out.frozen 0
  have ry1 := HR2.out.cell 1 _ rfl
  have rz1 := HR2.out.frozen 1
  have ry2 := HR2.out.cell 2 _ rfl
  have rz2 := HR2.out.frozen 2
  have ry3 := HR2.out.cell 3 _ rfl
  have rz3 := HR2.out.frozen 3
  have ry4 := HR2.out.cell 4 _ rfl
  have rz4 := HR2.out.frozen 4
  have ry5 := HR2.out.cell 5 _ rfl
  have rz5 := HR2.out.frozen 5
  have ry6 := HR2.out.cell 6 _ rfl
  have rz6 := HR2.out.frozen 6
  have ry7 := HR2.out.cell 7 _ rfl
  have rz7 := HR2.out.frozen 7
  have ry8 := HR2.out.cell 8 _ rfl
  have rz8 := HR2.out.frozen 8
  have ry9 := HR2.out.cell 9 _ rfl
  have rz9 := HR2.out.frozen 9
  have ry10 := HR2.out.cell 10 _ rfl
  have rz10 := HR2.out.frozen 10
  have ry11 := HR2.out.cell 11 _ rfl
  have rz11 := HR2.out.frozen 11
  have hcs : (u0.toList == [98, 108, 111, 98]) = false ∨ ((u0.toList == [98, 108, 111, 98]) = true ∧ u6 = false) := by
   by_cases h : u0.data.toList = [98, 108, 111, 98]
   ·right
    refine ⟨beq_yes u0 _ h, ?_⟩
    rw [hx6]
    cases ho : u.opq with
    | false => rfl
    | true => exact absurd ⟨by rw [← hx0]; exact h, ho⟩ hc
   ·left; exact beq_no u0 _ h
  clear hc hx0 hx3 hx5 hx6 hl hf hp
  rcases hcs with e0 | ⟨e0, rfl⟩
  all_goals
   go_enter Tryz.func65, Tryz.ntmps65
   go_wp2_with fail
   have hrg := range_row (HR.out.store (v := Adr.zero) (qv := .slice none 0 0))
   have hbl := below_setCells (B := w.heap.size) (b := w.heap.size + 1) (Nat.le_succ _) (adrCells Adr.zero (.slice none 0 0)) 0 _ HB2.out
   rw [HV.out]
   refine bodyPost_ret (results_u1 rfl _ _ (w.heap.size + 1) Adr.zero (.slice none 0 0) rfl ?_) rfl ⟨.slice none 0 0, ?_, ⟨_, _, _, rfl⟩, ?_, ?_⟩
   ·exact hrg
   ·rfl
   ·exact hbl
   ·exact .inl ⟨rfl, rfl⟩

end Go.Proofs.YtmhooefajdndjaaGreatDoor

namespace Go.Proofs.YtmhooefajdndjaaGreatDoor
open Go.RowKit

def orgCells (o : Org) : List Value := [.string ⟨o.scheme.toArray⟩, .string ⟨o.host.toArray⟩, .int .i64 o.port, .bool o.opq]

def OrgIn (w : World) (b : Nat) (o : Org) : Prop := w.heap[b]? = some (.cells (orgCells o).toArray 24 (0, 0))

def Org.nil : Org := ⟨[], [], 0, false⟩

theorem OrgIn.lt {w : World} {b : Nat} {o : Org} (h : OrgIn w b o) : b < w.heap.size := (Array.getElem?_eq_some_iff.1 h).1

theorem OrgIn.kept {w w' : World} {b : Nat} {o : Org} (h : OrgIn w b o) (hb : Below w.heap.size w w') : OrgIn w' b o := by
 unfold OrgIn
 rw [hb.block b h.lt]; exact h

theorem OrgIn.cell {w : World} {b : Nat} {o : Org} (h : OrgIn w b o) (j : Nat) (v : Value) (hv : (orgCells o)[j]? = some v) : w.cell? ⟨b, j, none⟩ = some v := by
 rw [Lib.cell_of_heap h]
 simpa using hv

theorem OrgIn.frozen {w : World} {b : Nat} {o : Org} (h : OrgIn w b o) (j : Nat) : w.frozen? ⟨b, j, none⟩ = false := by
 simp [World.frozen?, show w.heap[b]? = _ from h]

theorem OrgIn.store {w : World} {b : Nat} {o p : Org} (h : OrgIn w b o) : OrgIn (w.setCells b 0 (orgCells p)) b p := by
 obtain ⟨C', e1, e2, _, e4⟩ := setCells_heap b 24 (0, 0) (orgCells p) 0 w _ h
 unfold OrgIn
 rw [e1]
 have : C' = (orgCells p).toArray := by
  apply Array.ext_getElem?
  intro j
  by_cases hj : j < 4
  ·have := e4 j hj (by rw [Nat.zero_add]; exact hj)
   rw [Nat.zero_add] at this
   rw [this]; simp
  ·have h2 : C'.size = 4 := by rw [e2]; rfl
   rw [Array.getElem?_eq_none (by omega), Array.getElem?_eq_none (by simp [orgCells]; omega)]
 rw [this]

theorem OrgIn.far {w : World} {b c j : Nat} {o : Org} {v : Value} (h : OrgIn w b o) (hne : b ≠ c) : OrgIn (w.setCell ⟨c, j, none⟩ v) b o := by
 unfold OrgIn
 rw [heap_setCell_other _ _ _ _ (fun e => hne (by simpa using e))]; exact h

theorem OrgIn.port {w : World} {b : Nat} {sc h : List UInt8} {n m : Int} {q : Bool} (H : OrgIn w b ⟨sc, h, n, q⟩) : OrgIn (w.setCell ⟨b, 2, none⟩ (.int .i64 m)) b ⟨sc, h, m, q⟩ := Lib.heap_setCell_same H (i := 2) (.int .i64 m)

end Go.Proofs.YtmhooefajdndjaaGreatDoor

namespace Go.Proofs.YtmhooefajdndjaaGreatDoor
open Go.RowKit

def UrlAt (w : World) (u : Adr) (pv : Value) : Prop := PathAt w pv u.path ∧ u.path.length ≤ 1000000 ∧ u.path.flatten.length ≤ 100000

theorem UrlAt.kept {w w' : World} {u : Adr} {pv : Value} (h : UrlAt w u pv) (hb : Below w.heap.size w w') : UrlAt w' u pv := ⟨h.1.kept hb, h.2⟩

end Go.Proofs.YtmhooefajdndjaaGreatDoor

namespace Go.Proofs.YtmhooefajdndjaaGreatDoor
open Go.RowKit

def Rdr11 (w : World) (v : Value) (q : List UInt8 → Bool) : Prop :=
 ∃ (f : Nat) (lb : Array Value), v = .func (.func f) #[] lb ∧ (∀ args w, (callFunc f args).run Tryz.prog w = .ok (.enter f args) w) ∧ ∀ (X : World) (s : ByteArray), Below w.heap.size w X → s.size ≤ 4000000000 → Calls Tryz.prog f (#[.string s] ++ lb) X fun e w' => e = .returned (.bool (q s.data.toList)) ∧ Below X.heap.size X w'

theorem Rdr11.kept {w w' : World} {v : Value} {q : List UInt8 → Bool} (h : Rdr11 w v q) (hb : Below w.heap.size w w') : Rdr11 w' v q := by
 obtain ⟨f, lb, h1, h2, h3⟩ := h
 exact ⟨f, lb, h1, h2, fun X s hX hs => h3 X s (below2 hb hX) hs⟩

end Go.Proofs.YtmhooefajdndjaaGreatDoor

namespace Go.Proofs.YtmhooefajdndjaaGreatDoor
def blC (c : UInt8) : Bool := blankI c.toNat

theorem all_reverse (A : List UInt8) (h : A.all blC = true) : A.reverse.all blC = true := by simpa using h

end Go.Proofs.YtmhooefajdndjaaGreatDoor

namespace Go.Proofs.YtmhooefajdndjaaGreatDoor
structure Hd where
 name : List UInt8
 value : List UInt8
deriving DecidableEq

def bndV (l : List UInt8) : Int := if l = [] then -1 else intV l

def bndOk (l : List UInt8) : Bool := l == [] || intOk l

end Go.Proofs.YtmhooefajdndjaaGreatDoor

namespace Go.Proofs.YtmhooefajdndjaaGreatDoor
def Dec (n : Nat) (T : List UInt8) : Prop := T ≠ [] ∧ T.all digP = true ∧ numI T = (n : Int) ∧ T.length ≤ 40

def decC (d : Nat) : UInt8 := UInt8.ofNat (48 + d)

theorem decC_val (d : Nat) (h : d < 10) : ((decC d).toNat : Int) - 48 = (d : Int) ∧ digP (decC d) = true := by
 rcases (show d = 0 ∨ d = 1 ∨ d = 2 ∨ d = 3 ∨ d = 4 ∨ d = 5 ∨ d = 6 ∨ d = 7 ∨ d = 8 ∨ d = 9 from by omega) with
  rfl | rfl | rfl | rfl | rfl | rfl | rfl | rfl | rfl | rfl <;> decide

theorem Dec.no {n : Nat} {T : List UInt8} (h : Dec n T) (c : UInt8) (hc : digP c = false) : c ∉ T := by
 intro hm
 have := List.all_eq_true.1 h.2.1 c hm
 rw [hc] at this
 cases this

theorem Dec.int {n : Nat} {T : List UInt8} (h : Dec n T) : bndV T = n ∧ bndOk T = true := by
 have e : (T.all digP && !T.isEmpty) = true := by
  rw [h.2.1]
  have := h.1
  cases T with
  | nil => exact absurd rfl this
  | cons a b => rfl
 constructor
 ·unfold bndV intV
  rw [if_neg h.1, if_pos e, h.2.2.1]
 ·unfold bndOk intOk
  rw [e]; simp

end Go.Proofs.YtmhooefajdndjaaGreatDoor

namespace Go.Proofs.YtmhooefajdndjaaGreatDoor
open Go.RowKit

def TxL (w : World) (b off : Nat) (L : List (List UInt8)) : Prop := ∀ j (h : j < L.length), w.cell? ⟨b, off + j, none⟩ = some (.string ⟨L[j].toArray⟩)

def TxAt (w : World) (v : Value) (L : List (List UInt8)) : Prop :=
 ∃ a cap, v = .slice a L.length cap ∧ L.length ≤ cap ∧ cap ≤ maxLen ∧ ∀ j (hj : j < L.length), ∃ b off, a = some ⟨b, off, none⟩ ∧ w.cell? ⟨b, off + j, none⟩ = some (.string ⟨L[j].toArray⟩)

theorem TxAt.view {w : World} {v : Value} {L : List (List UInt8)} (h : TxAt w v L) : ∃ a cap, v = .slice a L.length cap ∧ L.length ≤ cap ∧ cap ≤ maxLen ∧ ∀ j (hj : j < L.length), ∃ b off, a = some ⟨b, off, none⟩ ∧ w.cell? ⟨b, off + j, none⟩ = some (.string ⟨L[j].toArray⟩) := h

theorem tx_nil (w : World) : TxAt w (.slice none 0 0) [] := ⟨none, 0, rfl, Nat.le_refl _, by decide, fun j hj => by simp at hj⟩

def HdS (w : World) (b off : Nat) (L : List Hd) : Prop :=
 ∀ j (h : j < L.length), w.cell? ⟨b, off + j * 2, none⟩ = some (.string ⟨L[j].name.toArray⟩) ∧ w.cell? ⟨b, off + j * 2 + 1, none⟩ = some (.string ⟨L[j].value.toArray⟩)

def HdAt (w : World) (v : Value) (L : List Hd) : Prop :=
 ∃ a cap, v = .slice a L.length cap ∧ L.length ≤ cap ∧ cap ≤ maxLen ∧ ∀ j (hj : j < L.length), ∃ b off, a = some ⟨b, off, none⟩ ∧ w.cell? ⟨b, off + j * 2, none⟩ = some (.string ⟨L[j].name.toArray⟩) ∧ w.cell? ⟨b, off + j * 2 + 1, none⟩ = some (.string ⟨L[j].value.toArray⟩)

theorem HdAt.view {w : World} {v : Value} {L : List Hd} (h : HdAt w v L) : ∃ a cap, v = .slice a L.length cap ∧ L.length ≤ cap ∧ cap ≤ maxLen ∧ ∀ j (hj : j < L.length), ∃ b off, a = some ⟨b, off, none⟩ ∧ w.cell? ⟨b, off + j * 2, none⟩ = some (.string ⟨L[j].name.toArray⟩) ∧ w.cell? ⟨b, off + j * 2 + 1, none⟩ = some (.string ⟨L[j].value.toArray⟩) := h

theorem HdS.kept {w w' : World} {b off : Nat} {L : List Hd} (h : HdS w b off L) (hb : Below w.heap.size w w') : HdS w' b off L := fun j hj => by
 have h1 := h j hj
 exact ⟨(hb.cell (World.block_lt_of_cell? w _ h1.1)).trans h1.1, (hb.cell (World.block_lt_of_cell? w _ h1.2)).trans h1.2⟩

theorem TxL.kept {w w' : World} {b off : Nat} {L : List (List UInt8)} (h : TxL w b off L) (hb : Below w.heap.size w w') : TxL w' b off L := fun j hj => by
 have h1 := h j hj
 exact (hb.cell (World.block_lt_of_cell? w _ h1)).trans h1

theorem HdAt.kept {w w' : World} {v : Value} {L : List Hd} (h : HdAt w v L) (hb : Below w.heap.size w w') : HdAt w' v L := by
 obtain ⟨a, cap, h1, h2, h3, h4⟩ := h
 refine ⟨a, cap, h1, h2, h3, fun j hj => ?_⟩
 obtain ⟨b, off, e, c1, c2⟩ := h4 j hj
 exact ⟨b, off, e, (hb.cell (World.block_lt_of_cell? w _ c1)).trans c1, (hb.cell (World.block_lt_of_cell? w _ c2)).trans c2⟩

theorem TxAt.kept {w w' : World} {v : Value} {L : List (List UInt8)} (h : TxAt w v L) (hb : Below w.heap.size w w') : TxAt w' v L := by
 obtain ⟨a, cap, h1, h2, h3, h4⟩ := h
 refine ⟨a, cap, h1, h2, h3, fun j hj => ?_⟩
 obtain ⟨b, off, e, c1⟩ := h4 j hj
 exact ⟨b, off, e, (hb.cell (World.block_lt_of_cell? w _ c1)).trans c1⟩

theorem xba {a b : ByteArray} (h : a.data.toList = b.data.toList) : a = b := by
 cases a; cases b; simp at h; simp [h]

end Go.Proofs.YtmhooefajdndjaaGreatDoor

namespace Go.Proofs.YtmhooefajdndjaaGreatDoor
open Go.RowKit

theorem xext {a : ByteArray} {l : List UInt8} (h : a.data.toList = l) : a = ⟨l.toArray⟩ := xba h

end Go.Proofs.YtmhooefajdndjaaGreatDoor

namespace Go.Proofs.YtmhooefajdndjaaGreatDoor
open Go.RowKit

theorem xtens_app (d : Nat) (h : d < 10) (T : List UInt8) : (⟨#[48, 49, 50, 51, 52, 53, 54, 55, 56, 57]⟩ : ByteArray).extract d (d + 1) ++ ⟨T.toArray⟩ = ⟨(decC d :: T).toArray⟩ := by
 refine xext ?_
 rw [ByteArray.data_append, Array.toList_append]
 have : ((⟨#[48, 49, 50, 51, 52, 53, 54, 55, 56, 57]⟩ : ByteArray).extract d (d + 1)).data.toList = [decC d] := by
  rcases (show d = 0 ∨ d = 1 ∨ d = 2 ∨ d = 3 ∨ d = 4 ∨ d = 5 ∨ d = 6 ∨ d = 7 ∨ d = 8 ∨ d = 9 from by omega) with
   rfl | rfl | rfl | rfl | rfl | rfl | rfl | rfl | rfl | rfl <;> (rw [Lib.extract_data]; rfl)
 rw [this]; rfl

theorem word_app (s : ByteArray) (k : Nat) (h : k < s.size) (T : List UInt8) : (⟨T.toArray⟩ : ByteArray) ++ s.extract k (k + 1) = ⟨(T ++ [s[k]]).toArray⟩ := by
 refine xext ?_
 rw [ByteArray.data_append, Array.toList_append, Lib.extract_data, show k + 1 - k = 1 by omega, drop_cons s k h]
 rfl

end Go.Proofs.YtmhooefajdndjaaGreatDoor

namespace Go.Proofs.YtmhooefajdndjaaGreatDoor
open Go.RowKit

theorem list_eq_of {α : Type} {A B : List α} (hl : A.length = B.length) (h : ∀ j (h1 : j < A.length) (h2 : j < B.length), A[j] = B[j]) : A = B :=
 List.ext_getElem hl fun j h1 h2 => h j h1 h2

set_option maxHeartbeats 2000000 in
theorem sameT_any (v1 v2 : Value) (L1 L2 : List (List UInt8)) (w : World) (h1 : TxAt w v1 L1) (h2 : TxAt w v2 L2) (hl1 : L1.length ≤ 1000000) (hl2 : L2.length ≤ 1000000) :
  Calls Tryz.prog 62 #[v1, v2] w fun e w' => e = .returned (.bool (decide (L1 = L2))) ∧ Below w.heap.size w w' := by
 obtain ⟨a1, c1, rfl, hc1, hm1, hv1⟩ := h1.view
 obtain ⟨a2, c2, rfl, hc2, hm2, hv2⟩ := h2.view
 have H1 := hid h1
 have H2 := hid h2
 have V1 := hid hv1
 have V2 := hid hv2
 clear h1 h2 hv1 hv2
 by_cases hl : L1.length = L2.length
 ·have hl' : ((L1.length : Int) == (L2.length : Int)) = true := by rw [beq_iff_eq]; omega
  go_enter Tryz.func62, Tryz.ntmps62
  go_wp2
  go_loopw [5] (fun i wr => ∃ k : Nat, k ≤ L1.length ∧ i = .int .i64 k ∧ (∀ j (h1 : j < L1.length) (h2 : j < L2.length), j < k → L1[j] = L2[j]) ∧ Below w.heap.size w wr) (fun i _ => L1.length - (intOf i).toNat)
  case atStart => exact ⟨0, Nat.zero_le _, rfl, fun j _ _ h => absurd h (by omega), Below.refl _ _⟩
  case round =>
   obtain ⟨k, hk, rfl, hall, hb⟩ := hrel
   have HA := hid hall
   clear hall
   by_cases hlt : k < L1.length
   ·have hlt' : (k : Int) < (L1.length : Int) := by omega
    have hlt2' : (k : Int) < (L2.length : Int) := by omega
    obtain ⟨b1, o1, rfl, e1⟩ := V1.out k hlt
    obtain ⟨b2, o2, rfl, e2⟩ := V2.out k (by omega)
    have f1 : wr.cell? ⟨b1, o1 + k, none⟩ = some (.string ⟨L1[k].toArray⟩) := (hb.cell (World.block_lt_of_cell? w _ e1)).trans e1
    have f2 : wr.cell? ⟨b2, o2 + k, none⟩ = some (.string ⟨(L2[k]'(by omega)).toArray⟩) := (hb.cell (World.block_lt_of_cell? w _ e2)).trans e2
    clear e1 e2
    obtain ⟨x, hx⟩ : ∃ x, x = L1[k] := ⟨_, rfl⟩
    obtain ⟨y, hy⟩ : ∃ y, y = L2[k]'(by omega) := ⟨_, rfl⟩
    rw [← hx] at f1
    rw [← hy] at f2
    have HX := hid hx
    have HY := hid hy
    clear hx hy
    by_cases hxy : x = y
    ·subst hxy
     go_wp2
     go_quiet (fail)
     go_wp2
     go_roundw
     case rel =>
      refine ⟨k + 1, by omega, by go_num, fun j h1 h2 hj => ?_, Go.below_drewN hb _⟩
      by_cases he : j = k
      ·subst he; rw [← HX.out, ← HY.out]
      ·exact HA.out j h1 h2 (by omega)
     case measure => simp [intOf]; omega
    ·have hne : (x == y) = false := by simpa using hxy
     have HN := hid (show ¬ L1 = L2 from fun e => hxy (by rw [HX.out, HY.out]; subst e; rfl))
     go_wp2
     go_quiet (fail)
     go_wp2
     go_ret
     exact ⟨ret_bool (by simp [HN.out]), Go.below_drewN hb _⟩
   ·have HE := hid (show L1 = L2 from list_eq_of hl fun j h1 h2 => HA.out j h1 h2 (by omega))
    go_wp2
    go_ret
    exact ⟨ret_bool (by simp [HE.out]), hb⟩
 ·have hl' : ((L1.length : Int) == (L2.length : Int)) = false := by rw [beq_eq_false_iff_ne]; omega
  have HN := hid (show ¬ L1 = L2 from fun e => hl (by rw [e]))
  go_enter Tryz.func62, Tryz.ntmps62
  go_wp2
  go_ret
  exact ⟨ret_bool (by simp [HN.out]), Below.refl _ _⟩

end Go.Proofs.YtmhooefajdndjaaGreatDoor

namespace Go.Proofs.YtmhooefajdndjaaGreatDoor
open Go.RowKit

def G5 (w : World) : Prop := ∃ m, w.cell? ⟨0, 0, none⟩ = some (.int .i64 m)

theorem G5.kept {w w' : World} (h : G5 w) (hb : Below w.heap.size w w') : G5 w' := by
 obtain ⟨m, hm⟩ := h
 exact ⟨m, (hb.cell (World.block_lt_of_cell? w _ hm)).trans hm⟩

theorem trim5_any (s c : ByteArray) (w : World) (hs : s.size ≤ 9223372036854775807) (hc : c.size < 4294967281) (ha : c.data.toList.all (fun b => decide (b.toNat < 128)) = true) :
  Calls Tryz.prog 67 #[.string s, .string c] w fun e w' => e = .returned (.string ⟨(Lib.trimS s.data.toList c.data.toList).toArray⟩) ∧ Below w.heap.size w w' :=
 Any.strings_Trim_laid Tryz.lays160 (by kernel_rfl) s c w hs hc (ascii_of_all ha)

end Go.Proofs.YtmhooefajdndjaaGreatDoor

namespace Go.Proofs.YtmhooefajdndjaaGreatDoor
open Go.RowKit

def numO (h : List UInt8) : Bool := (Lib.trimS h [48, 49, 50, 51, 52, 53, 54, 55, 56, 57, 46]).isEmpty

set_option maxHeartbeats 2000000 in
theorem numeric_any (h : ByteArray) (w : World) (hh : h.size ≤ 9223372036854775807) :
  Calls Tryz.prog 39 #[.string h] w fun e w' => e = .returned (.bool (numO h.data.toList)) ∧ Below w.heap.size w w' := by
 have HT := hid (trim5_any h ⟨#[48, 49, 50, 51, 52, 53, 54, 55, 56, 57, 46]⟩ w hh (by decide) (by decide))
 obtain ⟨T, hT⟩ : ∃ X : ByteArray, X = ⟨(Lib.trimS h.data.toList [48, 49, 50, 51, 52, 53, 54, 55, 56, 57, 46]).toArray⟩ := ⟨_, rfl⟩
 have HT' : Hid (Calls Tryz.prog 67 #[.string h, .string ⟨#[48, 49, 50, 51, 52, 53, 54, 55, 56, 57, 46]⟩] w fun e w' => e = .returned (.string T) ∧ Below w.heap.size w w') := by rw [hT]; exact HT.out
 have HN := hid (show numO h.data.toList = T.toList.isEmpty by unfold numO; rw [Lib.toList_data, hT])
 clear HT hT
 go_enter Tryz.func39, Tryz.ntmps39
 go_wp2_with fail
 refine HT'.out.mono ?_
 rintro e w2 ⟨rfl, hb⟩
 go_wp2
 go_ret
 exact ⟨ret_bool (by rw [HN.out]), hb⟩

end Go.Proofs.YtmhooefajdndjaaGreatDoor

namespace Go.Proofs.YtmhooefajdndjaaGreatDoor
open Go.RowKit

def nearV (h : List UInt8) : Bool := (h == [108, 111, 99, 97, 108, 104, 111, 115, 116]) || (Lib.hasSuffix h [46, 108, 111, 99, 97, 108, 104, 111, 115, 116] || ((h == [91, 58, 58, 49, 93]) || (Lib.hasPrefix h [49, 50, 55, 46] && numO h)))

set_option maxHeartbeats 4000000 in
set_option maxRecDepth 20000 in
theorem near_any (h : ByteArray) (w : World) (hh : h.size ≤ 9223372036854775807) :
  Calls Tryz.prog 72 #[.string h] w fun e w' => e = .returned (.bool (nearV h.data.toList)) ∧ Below w.heap.size w w' := by
 obtain ⟨q2, e2⟩ : ∃ q, Lib.hasSuffix h.data.toList [46, 108, 111, 99, 97, 108, 104, 111, 115, 116] = q := ⟨_, rfl⟩
 obtain ⟨q4, e4⟩ : ∃ q, Lib.hasPrefix h.data.toList [49, 50, 55, 46] = q := ⟨_, rfl⟩
 obtain ⟨q5, e5⟩ : ∃ q, numO h.data.toList = q := ⟨_, rfl⟩
 obtain ⟨q1, e1⟩ : ∃ q, (h.toList == [108, 111, 99, 97, 108, 104, 111, 115, 116]) = q := ⟨_, rfl⟩
 obtain ⟨q3, e3⟩ : ∃ q, (h.toList == [91, 58, 58, 49, 93]) = q := ⟨_, rfl⟩
 have HV := hid (show nearV h.data.toList = (q1 || (q2 || (q3 || (q4 && q5)))) by unfold nearV; rw [e2, e4, e5, ← e1, ← e3, Lib.toList_data])
 have HS : Hid (∀ w, Calls Tryz.prog 69 #[.string h, .string ⟨#[46, 108, 111, 99, 97, 108, 104, 111, 115, 116]⟩] w fun e w' => e = .returned (.bool q2) ∧ w' = w) := fun w => by rw [← e2]; exact Tryz.strings_HasSuffix h _ w hh
 have HP : Hid (∀ w, Calls Tryz.prog 38 #[.string h, .string ⟨#[49, 50, 55, 46]⟩] w fun e w' => e = .returned (.bool q4) ∧ w' = w) := fun w => by rw [← e4]; exact Tryz.strings_HasPrefix h _ w
 have HN := hid (fun w => numeric_any h w hh)
 rw [e5] at HN
 have HB := hid (Below.refl w.heap.size w)
 clear e2 e4 e5 hh
 cases q1 with
 | true =>
  go_enter Tryz.func72, Tryz.ntmps72
  go_wp2
  go_ret
  exact ⟨ret_bool (by rw [HV.out]; rfl), HB.out⟩
 | false =>
  go_enter Tryz.func72, Tryz.ntmps72
  go_wp2_with fail
  refine (HS.out _).mono ?_
  rintro e wz ⟨rfl, hwz⟩
  rw [hwz]
  clear hwz
  cases q2 with
  | true =>
   go_wp2
   go_ret
   exact ⟨ret_bool (by rw [HV.out]; rfl), HB.out⟩
  | false =>
   cases q3 with
   | true =>
    go_wp2
    go_ret
    exact ⟨ret_bool (by rw [HV.out]; rfl), HB.out⟩
   | false =>
    go_wp2_with fail
    refine (HP.out _).mono ?_
    rintro e wy ⟨rfl, hwy⟩
    rw [hwy]
    clear hwy
    cases q4 with
    | false =>
     go_wp2
     go_ret
     exact ⟨ret_bool (by rw [HV.out]; rfl), HB.out⟩
    | true =>
     go_wp2_with fail
     refine (HN.out _).mono ?_
     rintro e wx ⟨rfl, hbx⟩
     go_wp2
     go_ret
     exact ⟨ret_bool (by rw [HV.out]; rfl), hbx⟩

end Go.Proofs.YtmhooefajdndjaaGreatDoor
