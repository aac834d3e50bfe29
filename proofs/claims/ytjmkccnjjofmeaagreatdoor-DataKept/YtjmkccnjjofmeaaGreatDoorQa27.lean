/-
  Walks and plain facts that this claim leans on, put together out of 5 texts: Dj, Dk, Pk, Wo, Wp.
-/
import Derived.Test.YtjmkccnjjofmeaaGreatDoorProg
import Derived.Test.YtjmkccnjjofmeaaGreatDoorQa1
import Derived.Test.YtjmkccnjjofmeaaGreatDoorQa2
import Derived.Test.YtjmkccnjjofmeaaGreatDoorQa3
import Derived.Test.YtjmkccnjjofmeaaGreatDoorQa4
import Derived.Test.YtjmkccnjjofmeaaGreatDoorQa5
import Derived.Test.YtjmkccnjjofmeaaGreatDoorQa6
import Derived.Test.YtjmkccnjjofmeaaGreatDoorQa7
import Derived.Test.YtjmkccnjjofmeaaGreatDoorQa8
import Derived.Test.YtjmkccnjjofmeaaGreatDoorQa9
import Derived.Test.YtjmkccnjjofmeaaGreatDoorQa10
import Derived.Test.YtjmkccnjjofmeaaGreatDoorQa11
import Derived.Test.YtjmkccnjjofmeaaGreatDoorQa12
import Derived.Test.YtjmkccnjjofmeaaGreatDoorQa13
import Derived.Test.YtjmkccnjjofmeaaGreatDoorQa14
import Derived.Test.YtjmkccnjjofmeaaGreatDoorQa15
import Derived.Test.YtjmkccnjjofmeaaGreatDoorQa16
import Derived.Test.YtjmkccnjjofmeaaGreatDoorQa17
import Derived.Test.YtjmkccnjjofmeaaGreatDoorQa18
import Derived.Test.YtjmkccnjjofmeaaGreatDoorQa19
import Derived.Test.YtjmkccnjjofmeaaGreatDoorQa20
import Derived.Test.YtjmkccnjjofmeaaGreatDoorQa21
import Derived.Test.YtjmkccnjjofmeaaGreatDoorQa22
import Derived.Test.YtjmkccnjjofmeaaGreatDoorQa23
import Derived.Test.YtjmkccnjjofmeaaGreatDoorQa24
import Derived.Test.YtjmkccnjjofmeaaGreatDoorQa25
import Derived.Test.YtjmkccnjjofmeaaGreatDoorQa26
import Derived.LoopN
import Derived.RegionTactic
import Derived.Deep.RegionWith
import Derived.Deep.QuietTactic
import Derived.BigQuiet
import Derived.WalkKit
import Derived.WalkSpells
import Derived.WalkLawsBesides
import Derived.Lib.FrozenHead2
import Derived.Lib.OthersKept
import Derived.Lib.Builder
import Derived.Laws.IdiomStrings
import Derived.Laws.BytesString
import Derived.Lib.AppendStr
import Derived.Laws.BitsAllLaws
import Derived.WalkMore
import Derived.Deep.LoopGhost
import Derived.BigRegion
import Derived.Lib.Bytealg
import Derived.Lib.Replace
import Derived.Lib.Strings
import Derived.Lib.UnsafeStr
import Derived.Laws.AppendOwn
import Derived.Lib.LastIndexByte
import Derived.Lib.SlTrimSet
import Derived.Lib.Join
import Derived.Lib.IndexMore
import Derived.Laws.OwnMore
import Derived.Below
import Derived.WalkSmall
import Derived.Lib.SmallJoins
import Derived.Maps.OwnSet
import Derived.Maps.OwnOps
import Derived.Maps.AppendAt
import Derived.StringKeys
import Derived.Lib.TrimByte
import Derived.Lib.IndexAny
import Derived.Deep.Cut
import Derived.Deep.WholeRow
import Derived.Laws.RangeAny
import Derived.Lib.DecodeN
import Derived.Lib.BufferRead
import Derived.Lib.RuneBytes
import Derived.OwnWalk
import Derived.Shelf.Strings.Builder1
import Derived.Shelf.Strings.Builder2
import Derived.Shelf.Strings.OnBuilder
import Derived.Shelf.Strings.Trim
import Derived.Shelf.Small.Utf8
import Derived.Shelf.Small.Strs
import Derived.Shelf.Small.Wraps
import Derived.Shelf.Strings.BuilderF
import Derived.Shelf.Strings.BuilderK
import Derived.Shelf.Strings.Builder2Cap
import Derived.Shelf.Strconv.Itoa0
import Derived.Shelf.Strconv.Itoa1
import Derived.Shelf.LaysM
import Derived.Shelf.Strconv.Itoa2
import Derived.Shelf.Strconv.Itoa3
import Derived.Shelf.Strings.Search1
import Derived.Shelf.Strings.Search2
import Derived.Shelf.Strings.Search3
import Derived.Shelf.Strings.Cut
import Derived.Shelf.Strings.Count
import Derived.Shelf.Strings.Shaped
import Derived.Shelf.Strings.Prefix
import Derived.Shelf.Strings.Split
import Derived.Shelf.Strings.Replace
import Derived.Shelf.Strings.Runes
import Derived.Shelf.Strings.IndexAny
import Derived.Shelf.Strings.AsciiSet
import Derived.Shelf.Strings.IndexAnyAll
import Derived.Shelf.Unicode.DecodeSlow
import Derived.Deep.MidRow
import Derived.Lib.ItoaNum
import Derived.Laws.AppendOwnNone
import Derived.Deep.RegionHeldLaw
import Derived.Lib.BufferMore
import Derived.Lib.AppendIntMem
import Derived.Deep.RegionHeld
import Derived.Deep.RegionLaw
import Derived.Laws.CopyOwn
import Derived.Laws.ResultCell
import Derived.Scope
import Derived.ScopeJumps
import Derived.Shelf.Strings.SlTrimAscii
import Derived.Laws.Runes
import Derived.Laws.CopyRow
set_option linter.unusedSimpArgs false
set_option linter.unusedVariables false

namespace Go.Proofs.YtjmkccnjjofmeaaGreatDoor
open Go.RowKit

def urlV (s : List UInt8) : Except Int Adr := readV (s.take 300) none

def isOk (r : Except Int Adr) : Bool := match r with | .ok _ => true | .error _ => false

def UPost (r : Except Int Adr) (w : World) (e : Ending) (w' : World) : Prop :=
  ∃ pv, e = .returned (.tuple #[adrVal (adrOf r) pv, .bool (isOk r)]) ∧ w'.ownsRow w.heap.size 9 1 pv (adrOf r).path.length (cellsS (adrOf r).path) ∧ Below w.heap.size w w'

theorem numOf_isOk {s : List UInt8} : decide (numOf (readV s none) = 0) = isOk (readV s none) := by
  cases h : readV s none with
  | ok u => rfl
  | error e =>
    have : e = 3 ∨ e = 10 ∨ e = 11 ∨ e = 12 := by
      unfold readV at h
      split at h
      · injection h with h; exact .inl h.symm
      · simp only at h
        split at h
        · injection h with h; exact .inr (.inr (.inr h.symm))
        · rcases startV_err h with h | h
          · exact .inr (.inl h)
          · exact .inr (.inr (.inl h))
    rcases this with rfl | rfl | rfl | rfl <;> rfl

set_option maxHeartbeats 1000000 in
set_option maxRecDepth 100000 in
theorem url_k (s : ByteArray) (w : World) (hs : s.size ≤ 9223372036854775807) :
    Calls Tryz.prog 12 #[.string s] w (UPost (urlV s.data.toList) w) := by
  have h0 : AdrIn (w.alloc (.cells (adrCells Adr.zero (.slice none 0 0)).toArray 32)) w.heap.size Adr.zero (.slice none 0 0) := heap_alloc_new w _
  have hb0 : Below w.heap.size w (w.alloc (.cells (adrCells Adr.zero (.slice none 0 0)).toArray 32)) := (Below.refl _ w).alloc (Nat.le_refl _) _
  have H0 := hid h0
  have HB0 := hid hb0
  clear h0 hb0
  obtain ⟨F, hF⟩ : ∃ F : ByteArray, ⟨(s.data.toList.take 300).toArray⟩ = F := ⟨_, rfl⟩
  have hFl : F.data.toList = s.data.toList.take 300 := by rw [← hF]
  have hFs : F.size ≤ 100000 := by rw [Lib.size_eq, hFl, List.length_take]; omega
  have HFw := hid (fun w => few_any s 300 w (by omega) hs)
  rw [hF] at HFw
  have HRd := hid (fun w => rparse3_any F w hFs)
  have HN := hid (numOf_isOk (s := F.data.toList))
  have HU := hid (show urlV s.data.toList = readV F.data.toList none by unfold urlV; rw [hFl])
  obtain ⟨r, hr⟩ : ∃ r, readV F.data.toList none = r := ⟨_, rfl⟩
  rw [hr] at HRd HN HU
  clear hF hFl hFs hr
  go_enter Tryz.func12, Tryz.ntmps12
  go_wp2_with fail
  refine (HFw.out _).mono ?_
  rintro e w' ⟨rfl, rfl⟩
  go_wp2_with fail
  refine (HRd.out _).mono ?_
  rintro e w1 ⟨pv, rfl, hown, hb1⟩
  have h1 := H0.out.kept hb1
  have HB1 := hid (below2 HB0.out hb1)
  have HO1 := hid (ownsRow_lower hown HB0.out.size)
  have hsl := own_sl hown
  obtain ⟨a0, n0, c0, rfl⟩ := hsl
  obtain ⟨s0, s1, s2, s3, b4, i5, b6, s8, s9, b10, b11, hx⟩ : ∃ s0 s1 s2 s3 b4 i5 b6 s8 s9 b10 b11, adrCells (adrOf r) (.slice a0 n0 c0) = [.string s0, .string s1, .string s2, .string s3, .bool b4, .int .i64 i5, .bool b6, .slice a0 n0 c0, .string s8, .string s9, .bool b10, .bool b11] := ⟨_, _, _, _, _, _, _, _, _, _, _, rfl⟩
  have hva : adrVal (adrOf r) (.slice a0 n0 c0) = .agg #[.string s0, .string s1, .string s2, .string s3, .bool b4, .int .i64 i5, .bool b6, .slice a0 n0 c0, .string s8, .string s9, .bool b10, .bool b11] := by unfold adrVal; rw [hx]
  have h4 : AdrIn (w1.alloc (.cells #[.string s0, .string s1, .string s2, .string s3, .bool b4, .int .i64 i5, .bool b6, .slice a0 n0 c0, .string s8, .string s9, .bool b10, .bool b11] 32)) w1.heap.size (adrOf r) (.slice a0 n0 c0) := by
    have := heap_alloc_new w1 (.cells #[.string s0, .string s1, .string s2, .string s3, .bool b4, .int .i64 i5, .bool b6, .slice a0 n0 c0, .string s8, .string s9, .bool b10, .bool b11] 32)
    unfold AdrIn
    rw [hx]
    exact this
  have hb4 : Below w1.heap.size w1 (w1.alloc (.cells #[.string s0, .string s1, .string s2, .string s3, .bool b4, .int .i64 i5, .bool b6, .slice a0 n0 c0, .string s8, .string s9, .bool b10, .bool b11] 32)) := (Below.refl _ w1).alloc (Nat.le_refl _) _
  have h6 := h1.kept hb4
  have HO4 := hid (ownsRow_same HO1.out fun g hg => hb4.block g (HO1.out.lt g hg).2)
  have HB4 := hid (below2 HB1.out hb4)
  have y0 := h6.cell 0 _ rfl
  have f0 := h6.frozen 0
  have y1 := h6.cell 1 _ rfl
  have f1 := h6.frozen 1
  have y2 := h6.cell 2 _ rfl
  have f2 := h6.frozen 2
  have y3 := h6.cell 3 _ rfl
  have f3 := h6.frozen 3
  have y4 := h6.cell 4 _ rfl
  have f4 := h6.frozen 4
  have y5 := h6.cell 5 _ rfl
  have f5 := h6.frozen 5
  have y6 := h6.cell 6 _ rfl
  have f6 := h6.frozen 6
  have y7 := h6.cell 7 _ rfl
  have f7 := h6.frozen 7
  have y8 := h6.cell 8 _ rfl
  have f8 := h6.frozen 8
  have y9 := h6.cell 9 _ rfl
  have f9 := h6.frozen 9
  have y10 := h6.cell 10 _ rfl
  have f10 := h6.frozen 10
  have y11 := h6.cell 11 _ rfl
  have f11 := h6.frozen 11
  have H6 := hid h6
  have HX := hid hx
  have HV := hid hva
  clear h4 hb4 h6 h1 hb1 hown hx
  rw [hva]
  clear hva
  go_wp2_with fail
  have hn : (numOf r == 0) = isOk r := HN.out
  rw [hn, HU.out]
  have hrg := range_row (H6.out.store (v := adrOf r) (qv := .slice a0 n0 c0))
  have hbl := below_setCells (Nat.le_refl w.heap.size) (adrCells (adrOf r) (.slice a0 n0 c0)) 0 _ HB4.out
  have how := own_cells HO4.out H6.out (adrCells (adrOf r) (.slice a0 n0 c0)) 0
  refine bodyPost_ret (results_u2 rfl _ _ w.heap.size (adrOf r) (.slice a0 n0 c0) rfl ?_) rfl ⟨.slice a0 n0 c0, ?_, ?_, ?_⟩
  · rw [HX.out] at hrg ⊢; exact hrg
  · rfl
  · rw [HX.out] at how; exact how
  · rw [HX.out] at hbl; exact hbl

/-- What the statements' read tells of a text. -/
def lrV (s : List UInt8) : List UInt8 := match urlV s with
  | .error _ => []
  | .ok u => if rdO u then txtV (typV (rdK u)) ++ 124 :: rdB u else []

end Go.Proofs.YtjmkccnjjofmeaaGreatDoor

namespace Go.Proofs.YtjmkccnjjofmeaaGreatDoor
open Go.RowKit

theorem own_hd7 {w : World} {B : Nat} {v : Value} {L : List Hd} (h : w.ownsRow B 43 2 v L.length (cellsH L)) : HdAt w v L := own_hd h

set_option maxHeartbeats 4000000 in
set_option maxRecDepth 100000 in
theorem lread_d (s : ByteArray) (w : World) (hg : Gd w) (hG : G5 w) (hs : s.size ≤ 9223372036854775807) (hl : (lrV s.data.toList).length ≤ 100000000) :
    Calls Tryz.prog 8 #[.string s] w fun e w' => e = .returned (.string (ba (lrV s.data.toList))) ∧ Below w.heap.size w w' := by
  have HU := hid (fun w => url_k s w hs)
  have HL := hid (show ∀ e, urlV s.data.toList = .error e → lrV s.data.toList = [] by intro e h; unfold lrV; rw [h])
  have HL2 := hid (show ∀ u, urlV s.data.toList = .ok u → lrV s.data.toList = if rdO u then txtV (typV (rdK u)) ++ 124 :: rdB u else [] by intro u h; unfold lrV; rw [h])
  have HLl := hid hl
  have HF := hid (fun u (h : urlV s.data.toList = .ok u) => parse_fine h)
  clear hl
  obtain ⟨r, hr⟩ : ∃ r, urlV s.data.toList = r := ⟨_, rfl⟩
  rw [hr] at HU HL HL2 HF
  have Hg := hid hg
  have HG := hid hG
  clear hg hG hr
  go_enter Tryz.func8, Tryz.ntmps8
  go_wp2_with fail
  refine (HU.out _).mono ?_
  rintro e w1 ⟨pv, rfl, hown, hb1⟩
  have HB1 := hid hb1
  have hsl := own_sl hown
  have hpa := own_path hown
  obtain ⟨a0, n0, c0, rfl⟩ := hsl
  obtain ⟨s0, s1, s2, s3, b4, i5, b6, s8, s9, b10, b11, hx⟩ : ∃ s0 s1 s2 s3 b4 i5 b6 s8 s9 b10 b11, adrCells (adrOf r) (.slice a0 n0 c0) = [.string s0, .string s1, .string s2, .string s3, .bool b4, .int .i64 i5, .bool b6, .slice a0 n0 c0, .string s8, .string s9, .bool b10, .bool b11] := ⟨_, _, _, _, _, _, _, _, _, _, _, rfl⟩
  have hva : adrVal (adrOf r) (.slice a0 n0 c0) = .agg #[.string s0, .string s1, .string s2, .string s3, .bool b4, .int .i64 i5, .bool b6, .slice a0 n0 c0, .string s8, .string s9, .bool b10, .bool b11] := by unfold adrVal; rw [hx]
  have hb2 : Below w1.heap.size w1 (w1.alloc (.cells #[.string s0, .string s1, .string s2, .string s3, .bool b4, .int .i64 i5, .bool b6, .slice a0 n0 c0, .string s8, .string s9, .bool b10, .bool b11] 32)) := (Below.refl _ w1).alloc (Nat.le_refl _) _
  have HB2 := hid (below2 hb1 hb2)
  have HPa := hid (hpa.kept hb2)
  have HV := hid hva
  rw [hva]
  clear hva hx hpa hb2 hown hb1
  cases r with
  | error e =>
    have HE := hid (HL.out e rfl)
    clear HL HL2 HF
    simp only [isOk]
    go_wp2_with fail
    go_ret
    exact ⟨by rw [HE.out]; rfl, HB2.out⟩
  | ok u =>
    have HE := hid (HL2.out u rfl)
    have hf := HF.out u rfl
    have HRd := hid (fun w hg hG hp => read_d u (.slice a0 n0 c0) w hg hG hf hp)
    simp only [adrOf] at HV HPa
    rw [HV.out] at HRd
    clear HL HL2 HF hf
    simp only [isOk]
    go_wp2_with fail
    refine (HRd.out _ (Hg.out.kept HB2.out) (HG.out.kept HB2.out) HPa.out).mono ?_
    rintro e w3 ⟨hb3, ⟨ho, rfl⟩ | ⟨ho, v, sl, rfl, hown, hnew⟩⟩
    · unfold knVal
      have HB3 := hid (below2 HB2.out hb3)
      rw [ho] at HE
      clear hb3 ho
      go_wp2_with fail
      go_ret
      exact ⟨by rw [HE.out]; rfl, HB3.out.alloc HB3.out.size _⟩
    · rw [ho, if_pos rfl] at HE
      have hll := HLl.out
      rw [HE.out, List.length_append, List.length_cons] at hll
      have HT2 : Hid (∀ (X : World), G5 X → HdAt X v (typV (rdK u)).params → Calls Tryz.prog 21 #[knVal (ba (typV (rdK u)).major) (ba (typV (rdK u)).minor) v] X fun e w' => e = .returned (.string (ba (txtV (typV (rdK u))))) ∧ Below X.heap.size X w') := fun X hG h => by
        generalize typV (rdK u) = t at hll h
        exact mtext_any (ba t.major) (ba t.minor) v t.params X hG h (by show (txtV t).length ≤ _; omega)
      have HHd := hid (own_hd hown)
      have HSl := hid hnew.sl
      have HB3 := hid (below2 HB2.out hb3)
      obtain ⟨v1, v2, v3, rfl⟩ := own_slice hown
      obtain ⟨g, cap, rfl, hgb, hgc, hgm, hgr⟩ := hnew
      obtain ⟨A, hA⟩ : ∃ A, ba (typV (rdK u)).major = A := ⟨_, rfl⟩
      obtain ⟨M, hM⟩ : ∃ M, ba (typV (rdK u)).minor = M := ⟨_, rfl⟩
      obtain ⟨TX, hTX⟩ : ∃ T, ba (txtV (typV (rdK u))) = T := ⟨_, rfl⟩
      obtain ⟨BB, hBB⟩ : ∃ T, ba (rdB u) = T := ⟨_, rfl⟩
      have HT3 : Hid (∀ (X : World), G5 X → HdAt X (.slice v1 v2 v3) (typV (rdK u)).params → Calls Tryz.prog 21 #[.agg #[.string A, .string M, .slice v1 v2 v3]] X fun e w' => e = .returned (.string TX) ∧ Below X.heap.size X w') := fun X h1 h2 => by
        have := HT2.out X h1 h2
        rw [hA, hM, hTX] at this
        exact this
      have HE2 := hid (show ba (lrV s.data.toList) = TX ++ ⟨#[124]⟩ ++ BB by
        rw [HE.out, ← hTX, ← hBB]
        exact xext (by simp [ba]))
      have hTs : TX.size ≤ 100000000 := by rw [← hTX, ba_size]; omega
      have hBs : BB.size ≤ 100000000 := by rw [← hBB, ba_size]; omega
      unfold knVal
      rw [hA, hM]
      have h4 : Tri (w3.alloc (.cells #[.string A, .string M, .slice v1 v2 v3] 26)) w3.heap.size A M (.slice v1 v2 v3) := heap_alloc_new _ _
      have hb4 : Below w3.heap.size w3 (w3.alloc (.cells #[.string A, .string M, .slice v1 v2 v3] 26)) := (Below.refl _ _).alloc (Nat.le_refl _) _
      obtain ⟨W4, hW4⟩ : ∃ W, w3.alloc (.cells #[.string A, .string M, .slice v1 v2 v3] 26) = W := ⟨_, rfl⟩
      rw [hW4] at h4 hb4
      have HW := hid hW4
      have hb5 := below2 HB3.out hb4
      have HY : Hid (∀ Y : World, Below W4.heap.size W4 Y → (Y.cell? ⟨w3.heap.size, 0, none⟩ = some (.string A) ∧ Y.cell? ⟨w3.heap.size, 1, none⟩ = some (.string M) ∧ Y.cell? ⟨w3.heap.size, 2, none⟩ = some (.slice v1 v2 v3)) ∧ G5 Y ∧ HdAt Y (.slice v1 v2 v3) (typV (rdK u)).params ∧ (convert 27 9 (.slice (some ⟨g, 0, none⟩) (rdB u).length cap)).run Tryz.prog Y = .ok (.string BB) Y ∧ Below w.heap.size w Y) := fun Y hY => by
        have hbY := below2 hb4 hY
        refine ⟨(h4.kept hY).cells, HG.out.kept (below2 HB3.out hbY), HHd.out.kept hbY, ?_, below2 HB3.out hbY⟩
        rw [← hBB]
        exact (HSl.out.kept hbY).string (P := Tryz.prog) Tryz.underlying27 Tryz.underlying5 Tryz.underlying9
      have HQ0 : Hid (Below W4.heap.size W4 W4.drew) := (Below.refl _ _).drew
      have hcv0 := (HY.out _ HQ0.out).2.2.2.1
      have hcv1 := (HY.out _ (Below.refl _ _)).2.2.2.1
      clear hA hM hTX hBB hgr hb4 h4 hb5 hW4 hll ho hown hb3 HT2 hgb hgc hgm
      go_wp2_with fail
      rw [HW.out]
      go_region_held_law (fun wx => wx.cell? ⟨w3.heap.size, 0, none⟩ = some (.string A) ∧ wx.cell? ⟨w3.heap.size, 1, none⟩ = some (.string M) ∧ wx.cell? ⟨w3.heap.size, 2, none⟩ = some (.slice v1 v2 v3))
        (first
          | with_reducible exact (HY.out _ HQ0.out).1
          | with_reducible exact (HY.out _ (by assumption)).1
          | (go_split_ands; exact ⟨by assumption, by assumption, by assumption⟩))
        (first
          | (go_at_call 21; refine (HT3.out _ (HY.out _ HQ0.out).2.1 (HY.out _ HQ0.out).2.2.1).mono ?_; rintro e wy ⟨rfl, hby⟩; have hbY : Below W4.heap.size W4 wy := below2 HQ0.out hby; have hcvY := (HY.out _ hbY).2.2.2.1; have HBW := hid (HY.out _ hbY).2.2.2.2; clear hby))
      all_goals
        (try dsimp only at *)
        go_wp2_with fail
        go_ret
        exact ⟨by rw [HE2.out]; rfl, HBW.out⟩

end Go.Proofs.YtjmkccnjjofmeaaGreatDoor

namespace Go.Proofs.YtjmkccnjjofmeaaGreatDoor
open Go.RowKit

def alpha64 : List UInt8 := [65, 66, 67, 68, 69, 70, 71, 72, 73, 74, 75, 76, 77, 78, 79, 80, 81, 82, 83, 84, 85, 86, 87, 88, 89, 90, 97, 98, 99, 100, 101, 102, 103, 104, 105, 106, 107, 108, 109, 110, 111, 112, 113, 114, 115, 116, 117, 118, 119, 120, 121, 122, 48, 49, 50, 51, 52, 53, 54, 55, 56, 57, 43, 47]

def d64 (n : Nat) : UInt8 := alpha64.getD n 61

def e64 : List UInt8 → List UInt8
  | [] => []
  | [a] => [d64 (a.toNat / 4), d64 (a.toNat % 4 * 16), 61, 61]
  | [a, b] => [d64 (a.toNat / 4), d64 (a.toNat % 4 * 16 + b.toNat / 16), d64 (b.toNat % 16 * 4), 61]
  | a :: b :: c :: r => [d64 (a.toNat / 4), d64 (a.toNat % 4 * 16 + b.toNat / 16), d64 (b.toNat % 16 * 4 + c.toNat / 64), d64 (c.toNat % 64)] ++ e64 r

theorem d64_at (n : Nat) (h : n < (ByteArray.mk #[65, 66, 67, 68, 69, 70, 71, 72, 73, 74, 75, 76, 77, 78, 79, 80, 81, 82, 83, 84, 85, 86, 87, 88, 89, 90, 97, 98, 99, 100, 101, 102, 103, 104, 105, 106, 107, 108, 109, 110, 111, 112, 113, 114, 115, 116, 117, 118, 119, 120, 121, 122, 48, 49, 50, 51, 52, 53, 54, 55, 56, 57, 43, 47]).size) :
    (ByteArray.mk #[65, 66, 67, 68, 69, 70, 71, 72, 73, 74, 75, 76, 77, 78, 79, 80, 81, 82, 83, 84, 85, 86, 87, 88, 89, 90, 97, 98, 99, 100, 101, 102, 103, 104, 105, 106, 107, 108, 109, 110, 111, 112, 113, 114, 115, 116, 117, 118, 119, 120, 121, 122, 48, 49, 50, 51, 52, 53, 54, 55, 56, 57, 43, 47])[n] = d64 n := by
  have h' : n < alpha64.length := h
  unfold d64
  rw [List.getD_eq_getElem?_getD, List.getElem?_eq_getElem h']
  rfl

theorem or24 (a b c : UInt8) : bits .or .u32 (bits .or .u32 ((a.toNat : Int) * 65536) ((b.toNat : Int) * 256)) (c.toNat : Int) = ((a.toNat * 65536 + b.toNat * 256 + c.toNat : Nat) : Int) := by
  have ha := a.toNat_lt
  have hb := b.toNat_lt
  have hc := c.toNat_lt
  have e1 : (a.toNat : Int) * 65536 = ((a.toNat * 65536 : Nat) : Int) := by omega
  have e2 : (b.toNat : Int) * 256 = ((b.toNat * 256 : Nat) : Int) := by omega
  rw [e1, e2, u32_or_nat _ _ (by omega) (by omega), nat_join 16 _ _ (by omega) (by omega), u32_or_nat _ _ (by omega) (by omega), nat_join 8 _ _ (by omega) (by omega)]

theorem and63 (m : Nat) (h : m < 16777216) : bits .and .u32 (m : Int) 63 = ((m % 64 : Nat) : Int) := by
  have := u32_and_nat m 63 (by omega) (by omega)
  rw [nat_mask6] at this
  exact this

theorem setRow_new (W : World) (C C' : Array Value) (t : TypeId) : (W.alloc (.cells C t)).setRow W.heap.size C' = W.alloc (.cells C' t) := by
  have hm : ∀ (a : Array Obj) (x : Obj) (f : Obj → Obj), (a.push x).modify a.size f = a.push (f x) := by
    intro a x f
    apply Array.ext
    · simp
    · intro i h1 h2
      simp only [Array.getElem_modify, Array.getElem_push]
      by_cases h : a.size = i
      · subst h
        simp
      · have hi : i < a.size := by simp at h1; omega
        simp [h, hi]
  unfold World.setRow
  show ({ W.alloc (.cells C t) with heap := (W.heap.push (.cells C t)).modify W.heap.size _ } : World) = _
  rw [hm]
  rfl

end Go.Proofs.YtjmkccnjjofmeaaGreatDoor

namespace Go.Proofs.YtjmkccnjjofmeaaGreatDoor
open Go.RowKit

set_option maxRecDepth 100000 in
/-- 'copy(three[:], b)', into a new block of three bytes. -/
theorem copy_three (W : World) (t : TypeId) (x : Addr) (n cap : Nat) (l : List UInt8) (hl : l.length = n) (hn : n ≤ 3) (hn0 : 0 < n) (hc : ∀ j (h : j < l.length), W.cell? (x.add j) = some (.int .u8 (l[j].toNat : Int))) :
    (Builtin.copy_ #[27, 27] 3 #[.slice (some ⟨W.heap.size, 0, none⟩) 3 3, .slice (some x) n cap]).run Tryz.prog (W.alloc (.cells #[.int .u8 0, .int .u8 0, .int .u8 0] t)) =
      .ok (goInt n) (W.alloc (.cells (Lib.byteCells l ++ (List.replicate 3 (Value.int .u8 0)).drop n).toArray t)) := by
  obtain ⟨i0, hi, hz0, hz1, hz2⟩ := info_parts infoByte
  have hsz1 : (Tryz.prog.info? 5).map (·.size) = some 1 := by rw [hi]; simp [hz1]
  have h := run_copy_row (P := Tryz.prog) (W.alloc (.cells #[.int .u8 0, .int .u8 0, .int .u8 0] t)) 27 27 3 5 W.heap.size 0 3 3 x n cap #[.int .u8 0, .int .u8 0, .int .u8 0] t (Lib.byteCells l) Tryz.underlying27 hsz1
    (heap_alloc_new W _) (by rw [Lib.byteCells_length, hl]; exact (Nat.min_eq_left hn).symm) ?_ (by rw [Lib.byteCells_length, hl]; simpa using hn) ?_
  · rw [h, setRow_new, Lib.byteCells_length, hl]
    congr 3
    simp [List.replicate]
  · intro j v hj
    have hj' : j < l.length := by
      have := (List.getElem?_eq_some_iff.1 hj).1
      rwa [Lib.byteCells_length] at this
    have hb := World.block_lt_of_cell? W _ (hc j hj')
    have e : (W.alloc (.cells #[.int .u8 0, .int .u8 0, .int .u8 0] t)).cell? (x.add j) = W.cell? (x.add j) := World.cell?_alloc_old W _ _ (Nat.ne_of_lt hb)
    rw [e, hc j hj', ← hj]
    simp [Lib.byteCells, hj']
  · intro v hv
    simp only [Lib.byteCells, List.mem_map] at hv
    obtain ⟨b, _, rfl⟩ := hv
    rfl

set_option maxHeartbeats 1000000 in
set_option maxRecDepth 100000 in
theorem encodeThree_1 (x : Addr) (cap : Nat) (a : UInt8) (w : World) (hc : ∀ j (h : j < [a].length), w.cell? (x.add j) = some (.int .u8 ([a][j].toNat : Int))) :
    Calls Tryz.prog 46 #[.slice (some x) 1 cap] w fun e w' => e = .returned (.agg #[.int .u8 (d64 (a.toNat / 4)).toNat, .int .u8 (d64 (a.toNat % 4 * 16)).toNat, .int .u8 61, .int .u8 61]) ∧ Below w.heap.size w w' := by
  have hcp := copy_three (w.alloc (.cells #[.int .u8 0, .int .u8 0, .int .u8 0, .int .u8 0] 87)) 111 x 1 cap [a] rfl (by omega) (by omega) (fun j hj => (World.cell?_alloc_old w _ _ (Nat.ne_of_lt (World.block_lt_of_cell? w _ (hc j hj)))).trans (hc j hj))
  simp only [Lib.byteCells, List.map_cons, List.map_nil, List.replicate, List.drop, List.append_nil, List.cons_append, List.nil_append, World.size_alloc] at hcp
  have ha8 := a.toNat_lt
  obtain ⟨N, hN⟩ : ∃ N : Nat, N = a.toNat * 65536 := ⟨_, rfl⟩
  have ho : bits .or .u32 (bits .or .u32 ((a.toNat : Int) * 65536) 0) 0 = (N : Int) := by
    have := or24 a 0 0
    rw [hN]
    simpa using this
  have hNb : N < 16777216 := by omega
  have HN := hid hN
  clear hN hc
  go_enter Tryz.func46, Tryz.ntmps46
  go_wp2
  clear hcp ho
  obtain ⟨i0, hi0⟩ : ∃ i : Nat, i = N / 262144 % 64 := ⟨_, rfl⟩
  obtain ⟨i1, hi1⟩ : ∃ i : Nat, i = N / 4096 % 64 := ⟨_, rfl⟩
  have g0 : bits .and .u32 ((N : Int) / 262144) 63 = (i0 : Int) := by
    have := and63 (N / 262144) (by omega)
    rw [← hi0] at this
    exact this
  have g1 : bits .and .u32 ((N : Int) / 4096) 63 = (i1 : Int) := by
    have := and63 (N / 4096) (by omega)
    rw [← hi1] at this
    exact this
  have b0 : i0 < 64 := by omega
  have b1 : i1 < 64 := by omega
  have H0 := hid hi0
  have H1 := hid hi1
  clear hi0 hi1
  refine wp_loop_rounds 3 ?_
  rw [rounds_succ]
  go_wp2
  rw [rounds_succ]
  go_wp2
  rw [rounds_succ]
  go_wp2
  simp only [d64_at]
  refine bodyPost_ret (v := .agg #[.int .u8 (d64 i0).toNat, .int .u8 (d64 i1).toNat, .int .u8 61, .int .u8 61]) (by simp [results, Tryz.results46, go_sem]) rfl ⟨?_, ((((Below.refl _ w).alloc (Nat.le_refl _) _).alloc (by simp) _).alloc (by simp; omega) _)⟩
  have e0 := H0.out
  have e1 := H1.out
  rw [HN.out] at e0 e1
  have f0 : i0 = a.toNat / 4 := by omega
  have f1 : i1 = a.toNat % 4 * 16 := by omega
  rw [f0, f1]

set_option maxHeartbeats 1000000 in
set_option maxRecDepth 100000 in
theorem encodeThree_2 (x : Addr) (cap : Nat) (a b : UInt8) (w : World) (hc : ∀ j (h : j < [a, b].length), w.cell? (x.add j) = some (.int .u8 ([a, b][j].toNat : Int))) :
    Calls Tryz.prog 46 #[.slice (some x) 2 cap] w fun e w' => e = .returned (.agg #[.int .u8 (d64 (a.toNat / 4)).toNat, .int .u8 (d64 (a.toNat % 4 * 16 + b.toNat / 16)).toNat, .int .u8 (d64 (b.toNat % 16 * 4)).toNat, .int .u8 61]) ∧ Below w.heap.size w w' := by
  have hcp := copy_three (w.alloc (.cells #[.int .u8 0, .int .u8 0, .int .u8 0, .int .u8 0] 87)) 111 x 2 cap [a, b] rfl (by omega) (by omega) (fun j hj => (World.cell?_alloc_old w _ _ (Nat.ne_of_lt (World.block_lt_of_cell? w _ (hc j hj)))).trans (hc j hj))
  simp only [Lib.byteCells, List.map_cons, List.map_nil, List.replicate, List.drop, List.append_nil, List.cons_append, List.nil_append, World.size_alloc] at hcp
  have ha8 := a.toNat_lt
  have hb8 := b.toNat_lt
  obtain ⟨N, hN⟩ : ∃ N : Nat, N = a.toNat * 65536 + b.toNat * 256 := ⟨_, rfl⟩
  have ho : bits .or .u32 (bits .or .u32 ((a.toNat : Int) * 65536) ((b.toNat : Int) * 256)) 0 = (N : Int) := by
    have := or24 a b 0
    rw [hN]
    simpa using this
  have hNb : N < 16777216 := by omega
  have HN := hid hN
  clear hN hc
  go_enter Tryz.func46, Tryz.ntmps46
  go_wp2
  clear hcp ho
  obtain ⟨i0, hi0⟩ : ∃ i : Nat, i = N / 262144 % 64 := ⟨_, rfl⟩
  obtain ⟨i1, hi1⟩ : ∃ i : Nat, i = N / 4096 % 64 := ⟨_, rfl⟩
  obtain ⟨i2, hi2⟩ : ∃ i : Nat, i = N / 64 % 64 := ⟨_, rfl⟩
  have g0 : bits .and .u32 ((N : Int) / 262144) 63 = (i0 : Int) := by
    have := and63 (N / 262144) (by omega)
    rw [← hi0] at this
    exact this
  have g1 : bits .and .u32 ((N : Int) / 4096) 63 = (i1 : Int) := by
    have := and63 (N / 4096) (by omega)
    rw [← hi1] at this
    exact this
  have g2 : bits .and .u32 ((N : Int) / 64) 63 = (i2 : Int) := by
    have := and63 (N / 64) (by omega)
    rw [← hi2] at this
    exact this
  have b0 : i0 < 64 := by omega
  have b1 : i1 < 64 := by omega
  have b2 : i2 < 64 := by omega
  have H0 := hid hi0
  have H1 := hid hi1
  have H2 := hid hi2
  clear hi0 hi1 hi2
  refine wp_loop_rounds 4 ?_
  rw [rounds_succ]
  go_wp2
  rw [rounds_succ]
  go_wp2
  rw [rounds_succ]
  go_wp2
  rw [rounds_succ]
  go_wp2
  simp only [d64_at]
  refine bodyPost_ret (v := .agg #[.int .u8 (d64 i0).toNat, .int .u8 (d64 i1).toNat, .int .u8 (d64 i2).toNat, .int .u8 61]) (by simp [results, Tryz.results46, go_sem]) rfl ⟨?_, ((((Below.refl _ w).alloc (Nat.le_refl _) _).alloc (by simp) _).alloc (by simp; omega) _)⟩
  have e0 := H0.out
  have e1 := H1.out
  have e2 := H2.out
  rw [HN.out] at e0 e1 e2
  have f0 : i0 = a.toNat / 4 := by omega
  have f1 : i1 = a.toNat % 4 * 16 + b.toNat / 16 := by omega
  have f2 : i2 = b.toNat % 16 * 4 := by omega
  rw [f0, f1, f2]

set_option maxHeartbeats 1000000 in
set_option maxRecDepth 100000 in
theorem encodeThree_3 (x : Addr) (cap : Nat) (a b c : UInt8) (w : World) (hc : ∀ j (h : j < [a, b, c].length), w.cell? (x.add j) = some (.int .u8 ([a, b, c][j].toNat : Int))) :
    Calls Tryz.prog 46 #[.slice (some x) 3 cap] w fun e w' => e = .returned (.agg #[.int .u8 (d64 (a.toNat / 4)).toNat, .int .u8 (d64 (a.toNat % 4 * 16 + b.toNat / 16)).toNat, .int .u8 (d64 (b.toNat % 16 * 4 + c.toNat / 64)).toNat, .int .u8 (d64 (c.toNat % 64)).toNat]) ∧ Below w.heap.size w w' := by
  have hcp := copy_three (w.alloc (.cells #[.int .u8 0, .int .u8 0, .int .u8 0, .int .u8 0] 87)) 111 x 3 cap [a, b, c] rfl (by omega) (by omega) (fun j hj => (World.cell?_alloc_old w _ _ (Nat.ne_of_lt (World.block_lt_of_cell? w _ (hc j hj)))).trans (hc j hj))
  simp only [Lib.byteCells, List.map_cons, List.map_nil, List.replicate, List.drop, List.append_nil, List.cons_append, List.nil_append, World.size_alloc] at hcp
  have ha8 := a.toNat_lt
  have hb8 := b.toNat_lt
  have hc8 := c.toNat_lt
  obtain ⟨N, hN⟩ : ∃ N : Nat, N = a.toNat * 65536 + b.toNat * 256 + c.toNat := ⟨_, rfl⟩
  have ho : bits .or .u32 (bits .or .u32 ((a.toNat : Int) * 65536) ((b.toNat : Int) * 256)) (c.toNat : Int) = (N : Int) := by
    have := or24 a b c
    rw [hN]
    simpa using this
  have hNb : N < 16777216 := by omega
  have HN := hid hN
  clear hN hc
  go_enter Tryz.func46, Tryz.ntmps46
  go_wp2
  clear hcp ho
  obtain ⟨i0, hi0⟩ : ∃ i : Nat, i = N / 262144 % 64 := ⟨_, rfl⟩
  obtain ⟨i1, hi1⟩ : ∃ i : Nat, i = N / 4096 % 64 := ⟨_, rfl⟩
  obtain ⟨i2, hi2⟩ : ∃ i : Nat, i = N / 64 % 64 := ⟨_, rfl⟩
  obtain ⟨i3, hi3⟩ : ∃ i : Nat, i = N % 64 := ⟨_, rfl⟩
  have g0 : bits .and .u32 ((N : Int) / 262144) 63 = (i0 : Int) := by
    have := and63 (N / 262144) (by omega)
    rw [← hi0] at this
    exact this
  have g1 : bits .and .u32 ((N : Int) / 4096) 63 = (i1 : Int) := by
    have := and63 (N / 4096) (by omega)
    rw [← hi1] at this
    exact this
  have g2 : bits .and .u32 ((N : Int) / 64) 63 = (i2 : Int) := by
    have := and63 (N / 64) (by omega)
    rw [← hi2] at this
    exact this
  have g3 : bits .and .u32 (N : Int) 63 = (i3 : Int) := by
    have := and63 N (by omega)
    rw [← hi3] at this
    exact this
  have b0 : i0 < 64 := by omega
  have b1 : i1 < 64 := by omega
  have b2 : i2 < 64 := by omega
  have b3 : i3 < 64 := by omega
  have H0 := hid hi0
  have H1 := hid hi1
  have H2 := hid hi2
  have H3 := hid hi3
  clear hi0 hi1 hi2 hi3
  refine wp_loop_rounds 5 ?_
  rw [rounds_succ]
  go_wp2
  rw [rounds_succ]
  go_wp2
  rw [rounds_succ]
  go_wp2
  rw [rounds_succ]
  go_wp2
  rw [rounds_succ]
  go_wp2
  simp only [d64_at]
  refine bodyPost_ret (v := .agg #[.int .u8 (d64 i0).toNat, .int .u8 (d64 i1).toNat, .int .u8 (d64 i2).toNat, .int .u8 (d64 i3).toNat]) (by simp [results, Tryz.results46, go_sem]) rfl ⟨?_, ((((Below.refl _ w).alloc (Nat.le_refl _) _).alloc (by simp) _).alloc (by simp; omega) _)⟩
  have e0 := H0.out
  have e1 := H1.out
  have e2 := H2.out
  have e3 := H3.out
  rw [HN.out] at e0 e1 e2 e3
  have f0 : i0 = a.toNat / 4 := by omega
  have f1 : i1 = a.toNat % 4 * 16 + b.toNat / 16 := by omega
  have f2 : i2 = b.toNat % 16 * 4 + c.toNat / 64 := by omega
  have f3 : i3 = c.toNat % 64 := by omega
  rw [f0, f1, f2, f3]

end Go.Proofs.YtjmkccnjjofmeaaGreatDoor

namespace Go.Proofs.YtjmkccnjjofmeaaGreatDoor
open Go.RowKit

set_option maxHeartbeats 2000000 in
set_option maxRecDepth 100000 in
theorem write_k (B b : Nat) (bs : List Value) (g n cap : Nat) (C : Array Value) (T : TypeId) (l : List UInt8) (w : World) (h : Lib.IsBuilderF 80 5 B b bs w) (hg : w.heap[g]? = some (.cells C T (0, 0))) (hgb : g ≠ b) (hT : T ≠ 5)
    (hl : l.length = n) (hn0 : 0 < n) (hC : ∀ j (hj : j < l.length), C[j]? = some (.int .u8 (l[j].toNat : Int))) (hlen : bs.length + n ≤ 140737488355328) (hBw : B ≤ w.heap.size) :
    Calls Tryz.prog 47 #[.pointer (some ⟨b, 0, none⟩), .slice (some ⟨g, 0, none⟩) n cap] w fun e w' => e = .returned (.tuple #[.int .i64 n, .nilIface]) ∧ (Lib.BuilderAtF 80 5 B b (.pointer (some ⟨b, 0, none⟩)) (bs ++ Lib.byteCells l) w' ∧ Below B w w' ∧ Lib.OthersKept 5 (some b) w w') := by
  obtain ⟨i0, hi, hz0, hz1, hz2⟩ := info_parts infoByte
  go_enter Tryz.func47, Tryz.ntmps47
  go_wp2_with (go_at_call 71; refine (copyCheck_k B b bs _ h).mono ?_)
  rintro e w1 ⟨rfl, h1, hb1, hk1⟩
  obtain ⟨hB, v, hbk, hown, hne⟩ := h1
  have c0 : w1.cell? ⟨b, 0, none⟩ = some (.pointer (some ⟨b, 0, none⟩)) := by rw [Lib.cell_of_heap hbk]; rfl
  have c1 : w1.cell? ⟨b, 1, none⟩ = some v := by rw [Lib.cell_of_heap hbk]; rfl
  have hg1 := hk1 g _ hg (fun e => hgb (Option.some.inj e)) (fun c fz e => hT (by injection e))
  have HG1 := hid hg1
  clear hg1
  go_wp2_with (at_builtin; refine wpList_append_ownF _ rfl _ _ 27 rfl B 5 i0 (.int .u8 0) 1 1 Tryz.underlying27 hi hz0 hz1 hz2 rfl (by decide) _ _ _ rfl hown ⟨g, 0, none⟩ n cap (Lib.byteCells l) ?k0 ?k6 ?c1 ?c2 ?c3 ?c4 ?c5 ?_)
  case k0 => rfl
  case k6 => rw [Lib.byteCells_length, hl, Nat.mul_one]
  case c1 =>
    intro j u hj
    have hj' : j < l.length := by
      have := (List.getElem?_eq_some_iff.1 hj).1
      rwa [Lib.byteCells_length] at this
    rw [Addr.add_lit, Nat.zero_add, Lib.cell_of_heap HG1.out, hC j hj', ← hj]
    simp [Lib.byteCells, hj']
  case c2 =>
    intro u hu
    simp only [Lib.byteCells, List.mem_map] at hu
    obtain ⟨c, _, rfl⟩ := hu
    rfl
  case c3 => unfold maxLen; omega
  case c4 => omega
  case c5 => have := hb1.size; omega
  intro v' w2 hown' hgrow _
  have hlt : b < w1.heap.size := by
    rcases Nat.lt_or_ge b w1.heap.size with h' | h'
    · exact h'
    · simp [Array.getElem?_eq_none h'] at hbk
  have hb2 : w2.heap[b]? = some (.cells #[.pointer (some ⟨b, 0, none⟩), v] 80 (0, 0)) := by
    rw [hgrow.block b hlt (fun e => hne e.symm)]
    exact hbk
  have d0 : w2.cell? ⟨b, 0, none⟩ = some (.pointer (some ⟨b, 0, none⟩)) := by rw [Lib.cell_of_heap hb2]; rfl
  have d1 : w2.cell? ⟨b, 1, none⟩ = some v := by rw [Lib.cell_of_heap hb2]; rfl
  have f1 : w2.frozen? ⟨b, 1, none⟩ = false := Lib.frozen_of_heap hb2 1
  obtain ⟨g', cap', rfl⟩ : ∃ g cap, v' = .slice (some ⟨g, 0, none⟩) (bs.length + n) cap := by
    rcases hown'.2 with ⟨_, h0⟩ | ⟨g, cap, cur, fz, hv, _⟩
    · omega
    · exact ⟨g, cap, hv⟩
  go_wp2
  go_ret2
  refine ⟨rfl, ?_, ?_, (hk1.grown hgrow (Lib.ownsRowF_kind hown)).setCell ⟨b, 1, none⟩ rfl _⟩
  · exact Lib.BuilderAtF.put (T := 80) (e := 5) hB hb2 (bs' := bs ++ Lib.byteCells l) (by simpa [Lib.byteCells_length, hl] using hown') (by decide)
  · exact (hb1.grown hgrow (by have := hb1.size; omega) (fun k hk => (hown.lt k hk).1)).setCell (p := ⟨b, 1, none⟩) hB _

theorem builder_below {T e : TypeId} {B b : Nat} {bs : List Value} {w w' : World} (h : Lib.IsBuilderF T e B b bs w) (hb : Below w.heap.size w w') : Lib.IsBuilderF T e B b bs w' := by
  have key : ∀ {p : Value}, Lib.BuilderAtF T e B b p bs w → Lib.BuilderAtF T e B b p bs w' := by
    rintro p ⟨hB, v, hbk, hown, hne⟩
    have hblk : ∀ (k : Nat) (o : Obj), w.heap[k]? = some o → w'.heap[k]? = some o := by
      intro k o hk
      have hlt : k < w.heap.size := (Array.getElem?_eq_some_iff.1 hk).1
      rw [hb.block k hlt]; exact hk
    refine ⟨hB, v, hblk _ _ hbk, ⟨hown.1, ?_⟩, hne⟩
    rcases hown.2 with h1 | ⟨g, cap, cur, fz, hv, hbg, hg, hr⟩
    · exact .inl h1
    · exact .inr ⟨g, cap, cur, fz, hv, hbg, hblk _ _ hg, hr⟩
  rcases h with h | h
  · exact .inl (key h)
  · exact .inr (key h)

theorem add_more (y : Addr) (k j : Nat) (hk : 0 < k) : (⟨y.block, y.off + k, none⟩ : Addr).add j = y.add (k + j) := by
  rw [Addr.add_lit]
  unfold Addr.add
  split
  · omega
  · simp [Nat.add_assoc]

theorem slb_rest (w : World) (y : Addr) (c k n : Nat) (pre rest : List UInt8) (hk : pre.length = k) (hk0 : 0 < k) (hn : n = (pre ++ rest).length) (hnc : n ≤ c)
    (hcell : ∀ j (hj : j < (pre ++ rest).length), w.cell? (y.add j) = some (.int .u8 ((pre ++ rest)[j].toNat : Int))) : SlB w (.slice (if c = k then some y else some ⟨y.block, y.off + k, none⟩) (n - k) (c - k)) rest := by
  have hnk : n - k = rest.length := by rw [hn]; simp; omega
  by_cases hck : c = k
  · have hr : rest = [] := List.eq_nil_of_length_eq_zero (by omega)
    rw [if_pos hck, hnk]
    subst hr
    exact .inr ⟨y, c - k, rfl, fun j hj => by simp at hj⟩
  · rw [if_neg hck, hnk]
    refine .inr ⟨_, c - k, rfl, fun j hj => ?_⟩
    rw [add_more y k j hk0, hcell (k + j) (by simp; omega), List.getElem_append_right (by omega)]
    congr 5
    omega

def sliceN : Value → Nat
  | .slice _ n _ => n
  | _ => 0

theorem e64_le (l : List UInt8) : (e64 l).length ≤ 4 * l.length := by
  match l with
  | [] => simp [e64]
  | [a] => simp [e64]
  | [a, b] => simp [e64]
  | a :: b :: c :: r =>
    have := e64_le r
    simp [e64]
    omega

set_option maxHeartbeats 2000000 in
set_option maxRecDepth 100000 in
theorem encode64_any (a0 : Option Addr) (len cap : Nat) (l : List UInt8) (w : World) (hv : SlB w (.slice a0 len cap) l) (hcap : len ≤ cap) (hcm : cap ≤ maxLen) (hs : l.length ≤ 1000000) :
    Calls Tryz.prog 23 #[.slice a0 len cap] w fun e w' => e = .returned (.string ⟨(e64 l).toArray⟩) ∧ Below w.heap.size w w' := by
  have hll : len = l.length := by
    rcases hv with ⟨c, e, rfl⟩ | ⟨x, c, e, hc⟩
    · obtain ⟨_, rfl, _⟩ := Value.slice.inj e
      rfl
    · obtain ⟨_, rfl, _⟩ := Value.slice.inj e
      rfl
  unfold maxLen at hcm
  go_enter Tryz.func23, Tryz.ntmps23
  go_wp2
  go_loopw [0] (fun vs wr => ∃ (x : Option Addr) (n c : Nat) (r acc : List UInt8), vs = .slice x n c ∧ n = r.length ∧ n ≤ c ∧ c ≤ cap ∧ SlB w (.slice x n c) r ∧ acc ++ e64 r = e64 l ∧ r.length ≤ l.length ∧ acc.length + 4 * r.length ≤ 4 * l.length ∧
      Lib.IsBuilderF 80 5 w.heap.size w.heap.size (Lib.byteCells acc) wr ∧ Below w.heap.size w wr) (fun vs _ => sliceN vs)
  case atStart =>
    exact ⟨a0, len, cap, l, [], rfl, hll, hcap, Nat.le_refl _, hv, rfl, Nat.le_refl _, by simp, Lib.IsBuilderF.of (Lib.fresh_isBuilder 80 5 w), (Below.refl _ w).alloc (Nat.le_refl _) _⟩
  case round =>
    obtain ⟨x, n, c, r, acc, rfl, hn, hnc, hcc, hr, hacc, hrl, hal, hI, hbw⟩ := hrel
    have HACC := hid hacc
    have HN := hid hn
    clear hacc hn
    match r, HN, hr, hrl, HACC with
    | [], HN, hr, hrl, HACC =>
      have hn0 : (n : Int) ≤ 0 := by have := HN.out; simp at this; omega
      have hfin : acc = e64 l := by have := HACC.out; simpa [e64] using this
      rw [hfin] at hI
      clear hfin HACC
      go_wp2_with (go_at_call 43; refine (Tryz.Builder_String_any_k w.heap.size w.heap.size _ _ hI hbw.size).mono ?_)
      rintro e w1 ⟨rfl, _, b1, _⟩
      go_wp2
      go_ret
      exact ⟨rfl, hbw.trans b1⟩
    | [a], HN, hr, hrl, HACC =>
      obtain ⟨y, rfl, hcell⟩ : ∃ y, x = some y ∧ ∀ j (hj : j < ([a]).length), w.cell? (y.add j) = some (.int .u8 (([a])[j].toNat : Int)) := by
        rcases hr with ⟨c', e, h0⟩ | ⟨y, c', e, hc⟩
        · simp at h0
        · obtain ⟨rfl, _, _⟩ := Value.slice.inj e
          exact ⟨y, rfl, hc⟩
      have hnk : n = 1 := by have := HN.out; simp at this; omega
      have hpos : (0 : Int) < (n : Int) := by omega
      have hmin : min (3 : Int) (n : Int) = 1 := by omega
      have hkc : (1 : Int) ≤ (c : Int) := by omega
      have hkn : (1 : Int) ≤ (n : Int) := by omega
      have hcell2 : ∀ j (hj : j < [a].length), wr.cell? (y.add j) = some (.int .u8 ([a][j].toNat : Int)) := by
        intro j hj
        have hj3 : j < 1 := by simpa using hj
        have hj' : j < ([a]).length := hj
        have e := hcell j hj'
        rw [hbw.cell (World.block_lt_of_cell? w _ e), e]
      have HK := hid hnk
      have HC := hid hcell
      clear hr hcell hnk
      go_wp2_with fail
      refine (encodeThree_1 y c a wr hcell2).mono ?_
      rintro e w1 ⟨rfl, hb1⟩
      clear hcell2
      have hI1 := builder_below hI hb1
      have hw1 : w.heap.size < w1.heap.size := by
        have h1 := hb1.size
        have h2 : w.heap.size < wr.heap.size := by
          rcases hI with h | h
          · exact h.lt
          · exact h.lt
        omega
      go_wp2_with fail
      refine (write_k w.heap.size w.heap.size _ w1.heap.size 4 4 _ 87 [d64 (a.toNat / 4), d64 (a.toNat % 4 * 16), 61, 61] _ (hI1.alloc _) (heap_alloc_new w1 _) (by omega) (by decide) rfl (by omega) ?_ (by rw [Lib.byteCells_length]; omega) (by simp; omega)).mono ?_
      · intro j hj
        rcases (show j = 0 ∨ j = 1 ∨ j = 2 ∨ j = 3 from by simp at hj; omega) with rfl | rfl | rfl | rfl <;> rfl
      rintro e w2 ⟨rfl, h2, b2, _⟩
      go_wp2
      go_roundw
      case rel =>
        have hnn := HN.out
        have hkk := HK.out
        refine ⟨_, n - 1, c - 1, [], acc ++ [d64 (a.toNat / 4), d64 (a.toNat % 4 * 16), 61, 61], rfl, ?_, by omega, by omega, slb_rest w y c 1 n [a] [] rfl (by omega) hnn hnc HC.out, ?_, ?_, ?_, ?_, ?_⟩
        · simp at hnn ⊢; omega
        · rw [← HACC.out, List.append_assoc]; rfl
        · simp at hrl ⊢; try omega
        · simp at hal ⊢; omega
        · rw [Lib.byteCells_append]; exact .inr h2
        · exact (hbw.trans (hb1.mono hbw.size)).trans (((Below.refl _ w1).alloc (by omega) _).trans b2)
      case measure =>
        have hkk := HK.out
        simp only [sliceN]
        omega
    | [a, b], HN, hr, hrl, HACC =>
      obtain ⟨y, rfl, hcell⟩ : ∃ y, x = some y ∧ ∀ j (hj : j < ([a, b]).length), w.cell? (y.add j) = some (.int .u8 (([a, b])[j].toNat : Int)) := by
        rcases hr with ⟨c', e, h0⟩ | ⟨y, c', e, hc⟩
        · simp at h0
        · obtain ⟨rfl, _, _⟩ := Value.slice.inj e
          exact ⟨y, rfl, hc⟩
      have hnk : n = 2 := by have := HN.out; simp at this; omega
      have hpos : (0 : Int) < (n : Int) := by omega
      have hmin : min (3 : Int) (n : Int) = 2 := by omega
      have hkc : (2 : Int) ≤ (c : Int) := by omega
      have hkn : (2 : Int) ≤ (n : Int) := by omega
      have hcell2 : ∀ j (hj : j < [a, b].length), wr.cell? (y.add j) = some (.int .u8 ([a, b][j].toNat : Int)) := by
        intro j hj
        have hj3 : j < 2 := by simpa using hj
        have hj' : j < ([a, b]).length := hj
        have e := hcell j hj'
        rw [hbw.cell (World.block_lt_of_cell? w _ e), e]
      have HK := hid hnk
      have HC := hid hcell
      clear hr hcell hnk
      go_wp2_with fail
      refine (encodeThree_2 y c a b wr hcell2).mono ?_
      rintro e w1 ⟨rfl, hb1⟩
      clear hcell2
      have hI1 := builder_below hI hb1
      have hw1 : w.heap.size < w1.heap.size := by
        have h1 := hb1.size
        have h2 : w.heap.size < wr.heap.size := by
          rcases hI with h | h
          · exact h.lt
          · exact h.lt
        omega
      go_wp2_with fail
      refine (write_k w.heap.size w.heap.size _ w1.heap.size 4 4 _ 87 [d64 (a.toNat / 4), d64 (a.toNat % 4 * 16 + b.toNat / 16), d64 (b.toNat % 16 * 4), 61] _ (hI1.alloc _) (heap_alloc_new w1 _) (by omega) (by decide) rfl (by omega) ?_ (by rw [Lib.byteCells_length]; omega) (by simp; omega)).mono ?_
      · intro j hj
        rcases (show j = 0 ∨ j = 1 ∨ j = 2 ∨ j = 3 from by simp at hj; omega) with rfl | rfl | rfl | rfl <;> rfl
      rintro e w2 ⟨rfl, h2, b2, _⟩
      go_wp2
      go_roundw
      case rel =>
        have hnn := HN.out
        have hkk := HK.out
        refine ⟨_, n - 2, c - 2, [], acc ++ [d64 (a.toNat / 4), d64 (a.toNat % 4 * 16 + b.toNat / 16), d64 (b.toNat % 16 * 4), 61], rfl, ?_, by omega, by omega, slb_rest w y c 2 n [a, b] [] rfl (by omega) hnn hnc HC.out, ?_, ?_, ?_, ?_, ?_⟩
        · simp at hnn ⊢; omega
        · rw [← HACC.out, List.append_assoc]; rfl
        · simp at hrl ⊢; try omega
        · simp at hal ⊢; omega
        · rw [Lib.byteCells_append]; exact .inr h2
        · exact (hbw.trans (hb1.mono hbw.size)).trans (((Below.refl _ w1).alloc (by omega) _).trans b2)
      case measure =>
        have hkk := HK.out
        simp only [sliceN]
        omega
    | a :: b :: d :: r, HN, hr, hrl, HACC =>
      obtain ⟨y, rfl, hcell⟩ : ∃ y, x = some y ∧ ∀ j (hj : j < (a :: b :: d :: r).length), w.cell? (y.add j) = some (.int .u8 ((a :: b :: d :: r)[j].toNat : Int)) := by
        rcases hr with ⟨c', e, h0⟩ | ⟨y, c', e, hc⟩
        · simp at h0
        · obtain ⟨rfl, _, _⟩ := Value.slice.inj e
          exact ⟨y, rfl, hc⟩
      have hnk : 3 ≤ n := by have := HN.out; simp at this; omega
      have hpos : (0 : Int) < (n : Int) := by omega
      have hmin : min (3 : Int) (n : Int) = 3 := by omega
      have hkc : (3 : Int) ≤ (c : Int) := by omega
      have hkn : (3 : Int) ≤ (n : Int) := by omega
      have hcell2 : ∀ j (hj : j < [a, b, d].length), wr.cell? (y.add j) = some (.int .u8 ([a, b, d][j].toNat : Int)) := by
        intro j hj
        have hj3 : j < 3 := by simpa using hj
        have hj' : j < (a :: b :: d :: r).length := by simp; omega
        have e := hcell j hj'
        rw [hbw.cell (World.block_lt_of_cell? w _ e), e]
        rcases (show j = 0 ∨ j = 1 ∨ j = 2 from by omega) with rfl | rfl | rfl <;> rfl
      have HK := hid hnk
      have HC := hid hcell
      clear hr hcell hnk
      go_wp2_with fail
      refine (encodeThree_3 y c a b d wr hcell2).mono ?_
      rintro e w1 ⟨rfl, hb1⟩
      clear hcell2
      have hI1 := builder_below hI hb1
      have hw1 : w.heap.size < w1.heap.size := by
        have h1 := hb1.size
        have h2 : w.heap.size < wr.heap.size := by
          rcases hI with h | h
          · exact h.lt
          · exact h.lt
        omega
      go_wp2_with fail
      refine (write_k w.heap.size w.heap.size _ w1.heap.size 4 4 _ 87 [d64 (a.toNat / 4), d64 (a.toNat % 4 * 16 + b.toNat / 16), d64 (b.toNat % 16 * 4 + d.toNat / 64), d64 (d.toNat % 64)] _ (hI1.alloc _) (heap_alloc_new w1 _) (by omega) (by decide) rfl (by omega) ?_ (by rw [Lib.byteCells_length]; omega) (by simp; omega)).mono ?_
      · intro j hj
        rcases (show j = 0 ∨ j = 1 ∨ j = 2 ∨ j = 3 from by simp at hj; omega) with rfl | rfl | rfl | rfl <;> rfl
      rintro e w2 ⟨rfl, h2, b2, _⟩
      go_wp2
      go_roundw
      case rel =>
        have hnn := HN.out
        have hkk := HK.out
        refine ⟨_, n - 3, c - 3, r, acc ++ [d64 (a.toNat / 4), d64 (a.toNat % 4 * 16 + b.toNat / 16), d64 (b.toNat % 16 * 4 + d.toNat / 64), d64 (d.toNat % 64)], rfl, ?_, by omega, by omega, slb_rest w y c 3 n [a, b, d] r rfl (by omega) hnn hnc HC.out, ?_, ?_, ?_, ?_, ?_⟩
        · simp at hnn ⊢; omega
        · rw [← HACC.out, List.append_assoc]; rfl
        · simp at hrl ⊢; omega
        · simp at hal ⊢; omega
        · rw [Lib.byteCells_append]; exact .inr h2
        · exact (hbw.trans (hb1.mono hbw.size)).trans (((Below.refl _ w1).alloc (by omega) _).trans b2)
      case measure =>
        have hkk := HK.out
        simp only [sliceN]
        omega

end Go.Proofs.YtjmkccnjjofmeaaGreatDoor
