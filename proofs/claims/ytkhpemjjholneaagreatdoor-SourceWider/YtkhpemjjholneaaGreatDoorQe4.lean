/-
  Walks and plain facts that this claim leans on, put together out of 1 texts: Ysw.
-/
import Derived.Test.YtkhpemjjholneaaGreatDoorProg
import Derived.Test.YtkhpemjjholneaaGreatDoorQa1
import Derived.Test.YtkhpemjjholneaaGreatDoorQa2
import Derived.Test.YtkhpemjjholneaaGreatDoorQa3
import Derived.Test.YtkhpemjjholneaaGreatDoorQa4
import Derived.Test.YtkhpemjjholneaaGreatDoorQa5
import Derived.Test.YtkhpemjjholneaaGreatDoorQa6
import Derived.Test.YtkhpemjjholneaaGreatDoorQa7
import Derived.Test.YtkhpemjjholneaaGreatDoorQa8
import Derived.Test.YtkhpemjjholneaaGreatDoorQa9
import Derived.Test.YtkhpemjjholneaaGreatDoorQa10
import Derived.Test.YtkhpemjjholneaaGreatDoorQa11
import Derived.Test.YtkhpemjjholneaaGreatDoorQa12
import Derived.Test.YtkhpemjjholneaaGreatDoorQa13
import Derived.Test.YtkhpemjjholneaaGreatDoorQa14
import Derived.Test.YtkhpemjjholneaaGreatDoorQa15
import Derived.Test.YtkhpemjjholneaaGreatDoorQa16
import Derived.Test.YtkhpemjjholneaaGreatDoorQa17
import Derived.Test.YtkhpemjjholneaaGreatDoorQa18
import Derived.Test.YtkhpemjjholneaaGreatDoorQa19
import Derived.Test.YtkhpemjjholneaaGreatDoorQa20
import Derived.Test.YtkhpemjjholneaaGreatDoorQa21
import Derived.Test.YtkhpemjjholneaaGreatDoorQa22
import Derived.Test.YtkhpemjjholneaaGreatDoorQa23
import Derived.Test.YtkhpemjjholneaaGreatDoorQa24
import Derived.Test.YtkhpemjjholneaaGreatDoorQa25
import Derived.Test.YtkhpemjjholneaaGreatDoorQa26
import Derived.Test.YtkhpemjjholneaaGreatDoorQa27
import Derived.Test.YtkhpemjjholneaaGreatDoorQa28
import Derived.Test.YtkhpemjjholneaaGreatDoorQa29
import Derived.Test.YtkhpemjjholneaaGreatDoorQa30
import Derived.Test.YtkhpemjjholneaaGreatDoorQa31
import Derived.Test.YtkhpemjjholneaaGreatDoorQy1
import Derived.Test.YtkhpemjjholneaaGreatDoorQe1
import Derived.Test.YtkhpemjjholneaaGreatDoorQe2
import Derived.Test.YtkhpemjjholneaaGreatDoorQe3
import Derived.Deep.LoopGhost
import Derived.Lib.IndexAny
import Derived.Lib.Replace
import Derived.Lib.TrimByte
import Derived.Lib.ItoaNum
import Derived.Laws.Runes
import Derived.Laws.RangeAny
import Derived.Lib.DecodeN
import Derived.Lib.OthersKept
import Derived.RegionTactic
import Derived.Deep.RegionWith
import Derived.Deep.QuietTactic
import Derived.BigQuiet
import Derived.WalkKit
import Derived.WalkSpells
import Derived.WalkLawsBesides
import Derived.Lib.FrozenHead2
import Derived.Lib.Builder
import Derived.Shelf.Slices.In.SortNone
import Derived.Sort.OwnSorted
import Derived.Laws.OwnMore
import Derived.Below
import Derived.WalkSmall
import Derived.Lib.SmallJoins
import Derived.Laws.AppendOwn
import Derived.Lib.AppendStr
import Derived.Lib.UnsafeStr
import Derived.Deep.RegionHeld
import Derived.Laws.CopyOwn
import Derived.Laws.ResultCell
import Derived.Deep.MidRow
import Derived.Shelf.Strings.Builder1
import Derived.Shelf.Strings.Builder2
import Derived.Shelf.Strings.OnBuilder
import Derived.Shelf.Strings.Trim
import Derived.Shelf.Small.Utf8
import Derived.Shelf.Small.Bits
import Derived.Shelf.Small.Strs
import Derived.Shelf.Small.Wraps
import Derived.Shelf.Strings.BuilderF
import Derived.Shelf.Strings.BuilderK
import Derived.Shelf.Strings.BuilderRune
import Derived.Shelf.Utf8.AppendRune
import Derived.Shelf.Utf8.AppendRunePlain
import Derived.Shelf.Strings.Builder2Cap
import Derived.Shelf.Strconv.Itoa0
import Derived.Shelf.Strconv.Itoa1
import Derived.Shelf.LaysM
import Derived.Shelf.Strconv.Itoa2
import Derived.Shelf.Strconv.Itoa3
import Derived.Shelf.Strings.Search1
import Derived.Shelf.Strings.Search2
import Derived.Shelf.Strings.Search3
import Derived.Shelf.Strings.Cut
import Derived.Shelf.Strings.Count
import Derived.Shelf.Strings.Shaped
import Derived.Shelf.Sort.Plain
import Derived.Shelf.Strings.LastIndex
import Derived.Shelf.Strings.Prefix
import Derived.Shelf.Strings.Split
import Derived.Shelf.Strings.Replace
import Derived.Shelf.Strings.Runes
import Derived.Shelf.Strings.IndexAny
import Derived.Shelf.Strings.AsciiSet
import Derived.Shelf.Strings.IndexAnyAll
import Derived.Shelf.Unicode.DecodeSlow
import Derived.Shelf.Unicode.DecodeAny
import Derived.Shelf.Unicode.DecodeLast
import Derived.Shelf.Strings.FieldsFuncAny
import Derived.Shelf.Strings.FieldsFuncGrows
import Derived.Shelf.Slices.Equal
import Derived.Ground.Names2Prog
import Derived.Shelf.Slices.Clone
import Derived.Ground.SlgnProg
import Derived.Shelf.SlicesE.Equal
import Derived.Shelf.SlicesE.Clone
import Derived.Lib.AppendIntMem
import Derived.Lib.SlTrimSet
import Derived.Lib.Join
import Derived.Lib.IndexMore
import Derived.Lib.Bytealg
import Derived.Lib.Strings
import Derived.Laws.IdiomStrings
import Derived.LoopN
import Derived.Shelf.GgClosure.GivesRunes
import Derived.BigRegion
import Derived.Lib.BufferMore
import Derived.Deep.RegionHeldLaw
import Derived.Laws.AppendOwnNone
import Derived.Lib.BufferRead
import Derived.Lib.RuneBytes
import Derived.Shelf.Strings.SlTrimAscii
import Derived.OwnWalk
import Derived.Lib.FieldsP
import Derived.Deep.Cut
import Derived.Laws.BytesString
import Derived.Deep.RegionLaw
import Derived.Scope
import Derived.ScopeJumps
import Derived.WalkMore
import Derived.Lib.LastIndexByte
import Derived.Laws.BitsAllLaws
import Derived.Laws.EntriesVeiled
import Derived.Deep.WholeRow
import Derived.Maps.OwnSet
import Derived.Maps.OwnOps
import Derived.Maps.AppendAt
import Derived.StringKeys
set_option linter.unusedSimpArgs false
set_option linter.unusedVariables false

namespace Go.Proofs.YtkhpemjjholneaaGreatDoor
open Go.RowKit

theorem gm_of {w : World} (h : Gd w) : Gm w := h.1

set_option maxHeartbeats 4000000 in
set_option maxRecDepth 100000 in
theorem any_none (v : Value) (L : List (List UInt8)) (u p : Adr) (uv pv : Value) (hops : Int) (w : World) (hg : Gd w) (hu : UrlAt w u uv) (hp : UrlAt w p pv) (hz : Sized11 u) (hv : TxAt w v L) (hl : L.length ≤ 1000000) (hs : ∀ x ∈ L, x.length ≤ 1000000) :
    Calls Tryz.prog 31 #[v, adrVal u uv, adrVal p pv, .int .i64 hops, .string ⟨#[]⟩, .string ⟨#[]⟩] w fun e w' => e = .returned (.bool (L.any (oneV u p hops))) ∧ Below w.heap.size w w' := by
  obtain ⟨ua, un, uc, rfl⟩ := hu.sl
  obtain ⟨pa, pn, pc, rfl⟩ := hp.sl
  have HM := hid (fun (w : World) (hg : Gd w) (hu : UrlAt w u (.slice ua un uc)) (hp : UrlAt w p (.slice pa pn pc)) => meaning_any u p (.slice ua un uc) (.slice pa pn pc) hops w hg hu hp hz)
  obtain ⟨u0, u1, u2, u3, u4, u5, u6, u8, u9, u10, u11, hx, -, -, -, -⟩ := adr_named u ua un uc
  obtain ⟨p0, p1, p2, p3, p4, p5, p6, p8, p9, p10, p11, hy, -, -, -, -⟩ := adr_named p pa pn pc
  have hva : adrVal u (.slice ua un uc) = .agg #[.string u0, .string u1, .string u2, .string u3, .bool u4, .int .i64 u5, .bool u6, .slice ua un uc, .string u8, .string u9, .bool u10, .bool u11] := by unfold adrVal; rw [hx]
  have hvb : adrVal p (.slice pa pn pc) = .agg #[.string p0, .string p1, .string p2, .string p3, .bool p4, .int .i64 p5, .bool p6, .slice pa pn pc, .string p8, .string p9, .bool p10, .bool p11] := by unfold adrVal; rw [hy]
  rw [hva, hvb] at HM ⊢
  obtain ⟨W1, hW1⟩ : ∃ W1, (w.alloc (.cells #[.string u0, .string u1, .string u2, .string u3, .bool u4, .int .i64 u5, .bool u6, .slice ua un uc, .string u8, .string u9, .bool u10, .bool u11] 45)) = W1 := ⟨_, rfl⟩
  have hb1 : Below w.heap.size w W1 := by rw [← hW1]; exact (Below.refl _ w).alloc (Nat.le_refl _) _
  have hs1 : W1.heap.size = w.heap.size + 1 := by rw [← hW1]; simp
  have hA1 : AdrIn W1 w.heap.size u (.slice ua un uc) := by
    unfold AdrIn
    rw [hx, ← hW1]
    exact heap_alloc_new w _
  obtain ⟨W2, hW2⟩ : ∃ W2, (W1.alloc (.cells #[.string p0, .string p1, .string p2, .string p3, .bool p4, .int .i64 p5, .bool p6, .slice pa pn pc, .string p8, .string p9, .bool p10, .bool p11] 45)) = W2 := ⟨_, rfl⟩
  have hb2 : Below W1.heap.size W1 W2 := by rw [← hW2]; exact (Below.refl _ W1).alloc (Nat.le_refl _) _
  have hA2 := hA1.kept hb2
  have hP2 : AdrIn W2 (w.heap.size + 1) p (.slice pa pn pc) := by
    unfold AdrIn
    rw [hy, ← hW2, ← hs1]
    exact heap_alloc_new W1 _
  have hB2 := below2 hb1 hb2
  have HG2 := hid (hg.kept hB2)
  have HU2 := hid (hu.kept hB2)
  have HP2 := hid (hp.kept hB2)
  have HV2 := hid (hv.kept hB2)
  have HB2 := hid hB2
  have HL := hid hl
  have HS := hid hs
  have HRu := hid (show W2.rangeAt w.heap.size 0 [.string u0, .string u1, .string u2, .string u3, .bool u4, .int .i64 u5, .bool u6, .slice ua un uc, .string u8, .string u9, .bool u10, .bool u11] by
    have := range_row (show W2.heap[w.heap.size]? = some (.cells (adrCells u (.slice ua un uc)).toArray 45 (0, 0)) from hA2)
    rw [hx] at this
    exact this)
  have HRp := hid (show W2.rangeAt (w.heap.size + 1) 0 [.string p0, .string p1, .string p2, .string p3, .bool p4, .int .i64 p5, .bool p6, .slice pa pn pc, .string p8, .string p9, .bool p10, .bool p11] by
    have := range_row (show W2.heap[w.heap.size + 1]? = some (.cells (adrCells p (.slice pa pn pc)).toArray 45 (0, 0)) from hP2)
    rw [hy] at this
    exact this)
  obtain ⟨q, hq⟩ : ∃ q, L.any (oneV u p hops) = q := ⟨_, rfl⟩
  have HQ := hid hq
  rw [hq]
  clear hb1 hb2 hA1 hA2 hP2 hB2 hg hu hp hx hy hz hva hvb hv hl hs hq
  go_enter Tryz.func31, Tryz.ntmps31
  go_wp2_with (first | refine wpList_load_mid rfl 45 (.tmp 7) rfl w.heap.size 0 rfl [.string u0, .string u1, .string u2, .string u3, .bool u4, .int .i64 u5, .bool u6, .slice ua un uc, .string u8, .string u9, .bool u10, .bool u11] _ HRu.out Tryz.underlying45 rfl sizeU ?_ | refine wpList_load_mid rfl 45 (.tmp 8) rfl (w.heap.size + 1) 0 rfl [.string p0, .string p1, .string p2, .string p3, .bool p4, .int .i64 p5, .bool p6, .slice pa pn pc, .string p8, .string p9, .bool p10, .bool p11] _ HRp.out Tryz.underlying45 rfl sizeU ?_)
  refine (HM.out _ HG2.out HU2.out HP2.out).mono ?_
  rintro e w3 ⟨fv, rfl, hr, hb3⟩
  have HC := hid (containsS_any (oneV u p hops) v fv L w3 (HV2.out.kept hb3) HL.out HS.out hr)
  rw [HQ.out] at HC
  have HB3 := hid (below2 HB2.out hb3)
  have HV3 := hid (HV2.out.kept hb3)
  have HG3 := hid (HG2.out.kept hb3)
  clear hr hb3
  go_wp2_with fail
  refine HC.out.mono ?_
  rintro e w4 ⟨rfl, hb4⟩
  have HB4 := hid (below2 HB3.out hb4)
  have HNm := hid (named_none v L w4 (HG3.out.kept hb4) (gm_of (HG3.out.kept hb4)) (HV3.out.kept hb4) HL.out HS.out)
  clear hb4
  cases q with
  | true =>
    go_wp2
    go_ret
    exact ⟨rfl, HB4.out⟩
  | false =>
    go_wp2_with (go_at_call 59; refine HNm.out.mono ?_; rintro e w5 ⟨rfl, hb5⟩)
    go_ret
    exact ⟨rfl, below2 HB4.out hb5⟩

theorem tx_one11 (X : World) (s : ByteArray) : TxAt (X.alloc (.cells #[.string s] 9)) (.slice (some ⟨X.heap.size, 0, none⟩) 1 1) [s.data.toList] :=
  tx_of (L := [s.data.toList]) (by simp) (by decide) (fun j hj => by
    have h := heap_alloc_new X (.cells #[.string s] 9)
    have hj0 : j = 0 := by simp at hj; exact hj
    subst hj0
    rw [Lib.cell_of_heap h]; rfl)

theorem tx_two11 (X : World) (s t : ByteArray) : TxAt (X.alloc (.cells #[.string s, .string t] 9)) (.slice (some ⟨X.heap.size, 0, none⟩) 2 2) [s.data.toList, t.data.toList] :=
  tx_of (L := [s.data.toList, t.data.toList]) (by simp) (by decide) (fun j hj => by
    have h := heap_alloc_new X (.cells #[.string s, .string t] 9)
    rcases (show j = 0 ∨ j = 1 by simp at hj; omega) with rfl | rfl
    · rw [Lib.cell_of_heap h]; rfl
    · rw [Lib.cell_of_heap h]; rfl)

set_option maxHeartbeats 16000000 in
set_option maxRecDepth 100000 in
theorem sourceWider_walk (s u p more : ByteArray) (w : World) (hs : s.size ≤ 140737488351232) (hu : u.size ≤ 140737488351232) (hp : p.size ≤ 140737488351232) (hm : more.size ≤ 140737488351232) (hg : Gd w) :
    Calls Tryz.prog 10 #[.string s, .string u, .string p, .string more] w fun e w' => e = .returned (.bool true) ∧ Below w.heap.size w w' := by
  have HU := hid (fun w => url_k u w (by omega))
  have HP := hid (fun w => url_k p w (by omega))
  have HSu := hid (fun (w : World) (B : Nat) (pv : Value) (h : w.ownsRow B 9 1 pv (adrOf (urlV u.data.toList)).path.length (cellsS (adrOf (urlV u.data.toList)).path)) => slim_any h)
  have HSp := hid (fun (w : World) (B : Nat) (pv : Value) (h : w.ownsRow B 9 1 pv (adrOf (urlV p.data.toList)).path.length (cellsS (adrOf (urlV p.data.toList)).path)) => slim_any h)
  have HOk : Hid (isOk (urlV u.data.toList) = true → readV (u.data.toList.take 300) none = .ok (adrOf (urlV u.data.toList))) := fun h => by
    unfold urlV at h ⊢
    cases e : readV (u.data.toList.take 300) none with
    | ok a => rfl
    | error x => rw [e] at h; cases h
  obtain ⟨r1, hr1⟩ : ∃ r, urlV u.data.toList = r := ⟨_, rfl⟩
  obtain ⟨r2, hr2⟩ : ∃ r, urlV p.data.toList = r := ⟨_, rfl⟩
  rw [hr1] at HU HSu HOk
  rw [hr2] at HP HSp
  obtain ⟨o1, ho1⟩ : ∃ b, isOk r1 = b := ⟨_, rfl⟩
  obtain ⟨o2, ho2⟩ : ∃ b, isOk r2 = b := ⟨_, rfl⟩
  unfold UPost at HU HP
  rw [ho1] at HU HOk
  rw [ho2] at HP
  obtain ⟨A, hA⟩ : ∃ A, adrOf r1 = A := ⟨_, rfl⟩
  obtain ⟨B, hB⟩ : ∃ A, adrOf r2 = A := ⟨_, rfl⟩
  rw [hA] at HU HSu HOk
  rw [hB] at HP HSp
  obtain ⟨S2, hS2⟩ : ∃ X : ByteArray, X = ⟨(s.data.toList.take 200).toArray⟩ := ⟨_, rfl⟩
  have hS2s : S2.size ≤ 200 := by rw [hS2, Lib.size_eq]; simp; omega
  have HF2' := hid (fun w => few_any s 200 w (by decide) (by omega))
  rw [← hS2] at HF2'
  obtain ⟨M2, hM2⟩ : ∃ X : ByteArray, X = ⟨(more.data.toList.take 100).toArray⟩ := ⟨_, rfl⟩
  have hM2s : M2.size ≤ 100 := by rw [hM2, Lib.size_eq]; simp; omega
  have HF4 := hid (fun w => few_any more 100 w (by decide) (by omega))
  rw [← hM2] at HF4
  have HS2m := hid (show ∀ x ∈ [S2.data.toList], x.length ≤ 1000000 from fun x hx => by
    rw [List.mem_singleton.1 hx, ← Lib.size_eq]; omega)
  have HM2m := hid (show ∀ x ∈ [M2.data.toList, S2.data.toList], x.length ≤ 1000000 from fun x hx => by
    rcases List.mem_cons.1 hx with rfl | hx
    · rw [← Lib.size_eq]; omega
    · rw [List.mem_singleton.1 hx, ← Lib.size_eq]; omega)
  have HG := hid hg
  clear hr1 hr2 ho1 ho2 hA hB hg hu hp hs hm hS2 hM2
  go_enter Tryz.func10, Tryz.ntmps10
  go_wp2_with fail
  refine (HU.out _).mono ?_
  rintro e w1 ⟨uv, rfl, hown1, hb1⟩
  have hS1 := HSu.out _ _ _ hown1
  obtain ⟨ua, un, uc, rfl⟩ := hS1.1.sl
  obtain ⟨u0, u1, u2, u3, u4, u5, u6, u8, u9, u10, u11, hx, hx0, hx3, hx5, hx6⟩ := adr_named A ua un uc
  have hva : adrVal A (.slice ua un uc) = .agg #[.string u0, .string u1, .string u2, .string u3, .bool u4, .int .i64 u5, .bool u6, .slice ua un uc, .string u8, .string u9, .bool u10, .bool u11] := by unfold adrVal; rw [hx]
  rw [hva]
  obtain ⟨W2, hW2⟩ : ∃ W2, (w1.alloc (.cells #[.string u0, .string u1, .string u2, .string u3, .bool u4, .int .i64 u5, .bool u6, .slice ua un uc, .string u8, .string u9, .bool u10, .bool u11] 45)) = W2 := ⟨_, rfl⟩
  have hb2 : Below w1.heap.size w1 W2 := by rw [← hW2]; exact (Below.refl _ w1).alloc (Nat.le_refl _) _
  have hA2 : AdrIn W2 w1.heap.size A (.slice ua un uc) := by
    unfold AdrIn
    rw [hx, ← hW2]
    exact heap_alloc_new w1 _
  have HA2' := hid hA2
  have HX := hid hx
  have HXA := hid (And.intro hx0 (And.intro hx3 (And.intro hx5 hx6)))
  have HVA := hid hva
  have HS1 := hid (And.intro (hS1.1.kept hb2) hS1.2)
  have HB2 := hid (below2 hb1 hb2)
  clear hS1 hown1 hb1 hb2 hA2 hx hva hx0 hx3 hx5 hx6
  go_wp2_with fail
  refine (HP.out _).mono ?_
  rintro e w3 ⟨pv, rfl, hown3, hb3⟩
  have hS3 := HSp.out _ _ _ hown3
  obtain ⟨pa, pn, pc, rfl⟩ := hS3.1.sl
  obtain ⟨p0, p1, p2, p3, p4, p5, p6, p8, p9, p10, p11, hy, -, -, -, -⟩ := adr_named B pa pn pc
  have hvb : adrVal B (.slice pa pn pc) = .agg #[.string p0, .string p1, .string p2, .string p3, .bool p4, .int .i64 p5, .bool p6, .slice pa pn pc, .string p8, .string p9, .bool p10, .bool p11] := by unfold adrVal; rw [hy]
  rw [hvb]
  obtain ⟨W4, hW4⟩ : ∃ W4, (w3.alloc (.cells #[.string p0, .string p1, .string p2, .string p3, .bool p4, .int .i64 p5, .bool p6, .slice pa pn pc, .string p8, .string p9, .bool p10, .bool p11] 45)) = W4 := ⟨_, rfl⟩
  have hb4 : Below w3.heap.size w3 W4 := by rw [← hW4]; exact (Below.refl _ w3).alloc (Nat.le_refl _) _
  have hA4 : AdrIn W4 w3.heap.size B (.slice pa pn pc) := by
    unfold AdrIn
    rw [hy, ← hW4]
    exact heap_alloc_new w3 _
  have hb34 := below2 hb3 hb4
  have HB4 := hid (below2 HB2.out hb34)
  have hA24 := HA2'.out.kept hb34
  have HU4 := hid (HS1.out.1.kept hb34)
  have HP4 := hid (hS3.1.kept hb4)
  have HRu := hid (show ∀ Z, Below W4.heap.size W4 Z → Z.rangeAt w1.heap.size 0 [.string u0, .string u1, .string u2, .string u3, .bool u4, .int .i64 u5, .bool u6, .slice ua un uc, .string u8, .string u9, .bool u10, .bool u11] from fun Z hZ => by
    have := range_row (show Z.heap[w1.heap.size]? = some (.cells (adrCells A (.slice ua un uc)).toArray 45 (0, 0)) from hA24.kept hZ)
    rw [HX.out] at this
    exact this)
  have HRp := hid (show ∀ Z, Below W4.heap.size W4 Z → Z.rangeAt w3.heap.size 0 [.string p0, .string p1, .string p2, .string p3, .bool p4, .int .i64 p5, .bool p6, .slice pa pn pc, .string p8, .string p9, .bool p10, .bool p11] from fun Z hZ => by
    have := range_row (show Z.heap[w3.heap.size]? = some (.cells (adrCells B (.slice pa pn pc)).toArray 45 (0, 0)) from hA4.kept hZ)
    rw [hy] at this
    exact this)
  have HF1 := hid (show ∀ Z, Below W4.heap.size W4 Z → ∀ j v, [.string u0, .string u1, .string u2, .string u3, .bool u4, .int .i64 u5, .bool u6, .slice ua un uc, .string u8, .string u9, .bool u10, .bool u11][j]? = some v → Z.cell? ⟨w1.heap.size, j, none⟩ = some v from fun Z hZ j v h => by
    have := HRu.out Z hZ j v h
    rwa [Nat.zero_add] at this)
  have HF2 := hid (show ∀ Z, Below W4.heap.size W4 Z → ∀ j v, [.string p0, .string p1, .string p2, .string p3, .bool p4, .int .i64 p5, .bool p6, .slice pa pn pc, .string p8, .string p9, .bool p10, .bool p11][j]? = some v → Z.cell? ⟨w3.heap.size, j, none⟩ = some v from fun Z hZ j v h => by
    have := HRp.out Z hZ j v h
    rwa [Nat.zero_add] at this)
  have HFF := hid (show ∀ Z, Below W4.heap.size W4 Z → Z.cell? ⟨w1.heap.size, 0, none⟩ = some (.string u0) ∧ Z.cell? ⟨w1.heap.size, 1, none⟩ = some (.string u1) ∧ Z.cell? ⟨w1.heap.size, 2, none⟩ = some (.string u2) ∧ Z.cell? ⟨w1.heap.size, 3, none⟩ = some (.string u3) ∧ Z.cell? ⟨w1.heap.size, 4, none⟩ = some (.bool u4) ∧ Z.cell? ⟨w1.heap.size, 5, none⟩ = some (.int .i64 u5) ∧ Z.cell? ⟨w1.heap.size, 6, none⟩ = some (.bool u6) ∧ Z.cell? ⟨w1.heap.size, 7, none⟩ = some (.slice ua un uc) ∧ Z.cell? ⟨w1.heap.size, 8, none⟩ = some (.string u8) ∧ Z.cell? ⟨w1.heap.size, 9, none⟩ = some (.string u9) ∧ Z.cell? ⟨w1.heap.size, 10, none⟩ = some (.bool u10) ∧ Z.cell? ⟨w1.heap.size, 11, none⟩ = some (.bool u11) ∧ Z.cell? ⟨w3.heap.size, 0, none⟩ = some (.string p0) ∧ Z.cell? ⟨w3.heap.size, 1, none⟩ = some (.string p1) ∧ Z.cell? ⟨w3.heap.size, 2, none⟩ = some (.string p2) ∧ Z.cell? ⟨w3.heap.size, 3, none⟩ = some (.string p3) ∧ Z.cell? ⟨w3.heap.size, 4, none⟩ = some (.bool p4) ∧ Z.cell? ⟨w3.heap.size, 5, none⟩ = some (.int .i64 p5) ∧ Z.cell? ⟨w3.heap.size, 6, none⟩ = some (.bool p6) ∧ Z.cell? ⟨w3.heap.size, 7, none⟩ = some (.slice pa pn pc) ∧ Z.cell? ⟨w3.heap.size, 8, none⟩ = some (.string p8) ∧ Z.cell? ⟨w3.heap.size, 9, none⟩ = some (.string p9) ∧ Z.cell? ⟨w3.heap.size, 10, none⟩ = some (.bool p10) ∧ Z.cell? ⟨w3.heap.size, 11, none⟩ = some (.bool p11) from fun Z hZ => ⟨HF1.out Z hZ 0 _ rfl, HF1.out Z hZ 1 _ rfl, HF1.out Z hZ 2 _ rfl, HF1.out Z hZ 3 _ rfl, HF1.out Z hZ 4 _ rfl, HF1.out Z hZ 5 _ rfl, HF1.out Z hZ 6 _ rfl, HF1.out Z hZ 7 _ rfl, HF1.out Z hZ 8 _ rfl, HF1.out Z hZ 9 _ rfl, HF1.out Z hZ 10 _ rfl, HF1.out Z hZ 11 _ rfl, HF2.out Z hZ 0 _ rfl, HF2.out Z hZ 1 _ rfl, HF2.out Z hZ 2 _ rfl, HF2.out Z hZ 3 _ rfl, HF2.out Z hZ 4 _ rfl, HF2.out Z hZ 5 _ rfl, HF2.out Z hZ 6 _ rfl, HF2.out Z hZ 7 _ rfl, HF2.out Z hZ 8 _ rfl, HF2.out Z hZ 9 _ rfl, HF2.out Z hZ 10 _ rfl, HF2.out Z hZ 11 _ rfl⟩)
  have HOn := hid (fun (t : ByteArray) (hops : Int) (X : World) (hX : Below W4.heap.size W4 X) (ht : t.size ≤ 4000000000) => one11_any t A B (.slice ua un uc) (.slice pa pn pc) hops X ((HG.out.kept HB4.out).kept hX) (HU4.out.kept hX) (HP4.out.kept hX) HS1.out.2 ht)
  have HAn := hid (fun (v : Value) (L : List (List UInt8)) (X : World) (hX : Below W4.heap.size W4 X) (hv : TxAt X v L) (hl : L.length ≤ 1000000) (hs : ∀ x ∈ L, x.length ≤ 1000000) => any_none v L A B (.slice ua un uc) (.slice pa pn pc) 0 X ((HG.out.kept HB4.out).kept hX) (HU4.out.kept hX) (HP4.out.kept hX) HS1.out.2 hv hl hs)
  rw [HVA.out, hvb] at HOn HAn
  have HKn := hid (fun (X : World) (hX : Below W4.heap.size W4 X) => known11_any X ((HG.out.kept HB4.out).kept hX))
  have HNo := hid (fun (X : World) (hX : Below W4.heap.size W4 X) => HOn.out ⟨#[39, 110, 111, 110, 101, 39]⟩ 0 X hX (by decide))
  rw [show oneV A B 0 (⟨#[39, 110, 111, 110, 101, 39]⟩ : ByteArray).data.toList = false from one_none A B 0] at HNo
  have HNil := hid (fun (X : World) (hX : Below W4.heap.size W4 X) => HAn.out (.slice none 0 0) [] X hX (tx_nil X) (by decide) (fun x hx => by cases hx))
  rw [show ([] : List (List UInt8)).any (oneV A B 0) = false from rfl] at HNil
  obtain ⟨q0, hq0⟩ : ∃ q, oneV A B 0 S2.data.toList = q := ⟨_, rfl⟩
  have H00 := hid (fun (X : World) (hX : Below W4.heap.size W4 X) => HOn.out S2 0 X hX (by omega))
  have H01 := hid (fun (X : World) (hX : Below W4.heap.size W4 X) => HOn.out S2 1 X hX (by omega))
  rw [hq0] at H00
  have HL1 : Hid (q0 = true → oneV A B 1 S2.data.toList = true) := fun h => one_later A B _ (hq0.trans h)
  have HA1 := hid (show [S2.data.toList].any (oneV A B 0) = q0 by simp [hq0])
  have HA2 : Hid (q0 = true → [M2.data.toList, S2.data.toList].any (oneV A B 0) = true) := fun h => by simp [hq0, h]
  have HAq := hid (fun (v : Value) (X : World) (hX : Below W4.heap.size W4 X) (hv : TxAt X v [S2.data.toList]) => HAn.out v _ X hX hv (by simp) HS2m.out)
  rw [HA1.out] at HAq
  have HAr0 := hid (fun (h : q0 = true) (v : Value) (X : World) (hX : Below W4.heap.size W4 X) (hv : TxAt X v [M2.data.toList, S2.data.toList]) => HAn.out v _ X hX hv (by simp) HM2m.out)
  have HB0 := hid (Below.refl W4.heap.size W4)
  obtain ⟨y0, y1, y2, y3, y4, y5, y6, y7, y8, y9, y10, y11, z0, z1, z2, z3, z4, z5, z6, z7, z8, z9, z10, z11⟩ := HFF.out W4 HB0.out
  clear hS3 hown3 hb3 hb4 hA4 hb34 hA24 hy hvb hq0
  cases o1 with
  | false =>
    go_wp2_with (go_at_call 33; refine (HKn.out _ HB0.out).mono ?_; rintro e wk ⟨rfl, hbk⟩)
    go_ret
    exact ⟨rfl, below2 HB4.out hbk⟩
  | true =>
    cases o2 with
    | false =>
      go_wp2_with (go_at_call 33; refine (HKn.out _ HB0.out).mono ?_; rintro e wk ⟨rfl, hbk⟩)
      go_ret
      exact ⟨rfl, below2 HB4.out hbk⟩
    | true =>
      have HRd := hid (HOk.out (by first | rfl | trivial))
      have HSf : Hid (∀ (X : World), Below W4.heap.size W4 X → ∀ (T : ByteArray), T.data.toList = A.scheme ++ 58 :: 47 :: 47 :: A.host → T.size ≤ 4000000000 → (A.scheme = sHttp ∨ A.scheme = sHttps) → A.port = -1 → A.host ≠ [] → A.host.head? ≠ some 91 → Calls Tryz.prog 34 #[.string T, .agg #[.string u0, .string u1, .string u2, .string u3, .bool u4, .int .i64 u5, .bool u6, .slice ua un uc, .string u8, .string u9, .bool u10, .bool u11], .agg #[.string p0, .string p1, .string p2, .string p3, .bool p4, .int .i64 p5, .bool p6, .slice pa pn pc, .string p8, .string p9, .bool p10, .bool p11], .int .i64 0] X fun e w' => e = .returned (.bool true) ∧ Below X.heap.size X w') := fun X hX T hT hTs h1 h2 h3 h4 => by
        have := HOn.out T 0 X hX hTs
        rw [hT, one_self HRd.out h1 h2 h3 h4] at this
        exact this
      have hhz := HS1.out.2.1
      obtain ⟨x0, x3, x5, x6⟩ := HXA.out
      have hu3s : u3.size ≤ 4000000 := by
        have := (parse_slim HRd.out).2.2.2.2.1
        rw [Lib.size_eq, x3]; omega
      have hu0s : u0.size ≤ 4000000 := by
        have := (parse_slim HRd.out).2.1
        rw [Lib.size_eq, x0]; omega
      obtain ⟨T1, hT1⟩ : ∃ Z : ByteArray, u0 ++ (⟨#[58, 47, 47]⟩ : ByteArray) = Z := ⟨_, rfl⟩
      have hT1l : T1.data.toList = A.scheme ++ [58, 47, 47] := by rw [← hT1, ByteArray.data_append, Array.toList_append, x0]
      have hT1s : T1.size ≤ 4000003 := by rw [Lib.size_eq, hT1l, List.length_append, ← x0, ← Lib.size_eq]; simp; omega
      obtain ⟨T2, hT2⟩ : ∃ Z : ByteArray, T1 ++ u3 = Z := ⟨_, rfl⟩
      have hT2l : T2.data.toList = A.scheme ++ 58 :: 47 :: 47 :: A.host := by rw [← hT2, ByteArray.data_append, Array.toList_append, hT1l, x3]; simp
      have hT2s : T2.size ≤ 9000000 := by rw [Lib.size_eq, ← hT2, ByteArray.data_append, Array.toList_append, List.length_append, ← Lib.size_eq, ← Lib.size_eq]; omega
      have HCs : Hid ((u0.toList == [104, 116, 116, 112]) = true ∨ (u0.toList == [104, 116, 116, 112, 115]) = true → A.scheme = sHttp ∨ A.scheme = sHttps) := fun h => by
        rw [Lib.toList_data, x0] at h
        rcases h with h | h
        · exact .inl (beq_iff_eq.1 h)
        · exact .inr (beq_iff_eq.1 h)
      have HSelf : Hid (∀ (X : World), Below W4.heap.size W4 X → (A.scheme = sHttp ∨ A.scheme = sHttps) → A.port = -1 → A.host ≠ [] → A.host.head? ≠ some 91 → Calls Tryz.prog 34 #[.string T2, .agg #[.string u0, .string u1, .string u2, .string u3, .bool u4, .int .i64 u5, .bool u6, .slice ua un uc, .string u8, .string u9, .bool u10, .bool u11], .agg #[.string p0, .string p1, .string p2, .string p3, .bool p4, .int .i64 p5, .bool p6, .slice pa pn pc, .string p8, .string p9, .bool p10, .bool p11], .int .i64 0] X fun e w' => e = .returned (.bool true) ∧ Below X.heap.size X w') := fun X hX h1 h2 h3 h4 => HSf.out X hX T2 hT2l (by omega) h1 h2 h3 h4
      have HT2z := hid hT2s
      have HX3 := hid x3
      have HX5 := hid x5
      clear hT1l hT2l x0 x3 x5 x6 HSf hhz
      go_wp2_with fail
      refine (HF2'.out _).mono ?_
      rintro e wz ⟨rfl, rfl⟩
      cases q0 with
      | false => as_aux_lemma =>
        go_wp2_with fail
        refine (H00.out _ HB0.out).mono ?_
        rintro e wg ⟨rfl, hbg⟩
        have HQg := hid (below2 HB0.out hbg)
        clear hbg
        clear y0 z0 y1 z1 y2 z2 y3 z3 y4 z4 y5 z5 y6 z6 y7 z7 y8 z8 y9 z9 y10 z10 y11 z11
        have HQ0 := hid (below2 HQg.out (Below.refl wg.heap.size wg).drew)
        go_wp2_with fail
        refine wp_region_held_drew (S := (fun wx => Below W4.heap.size W4 wx)) (by kernel_rfl) HQ0.out (fun hHeld => ?_)
        refine' wpAnyH_take (i := 0) (oi := ⟨some 43, _, _, _, _, _⟩) (v := _) rfl (by kernel_rfl) (by kernel_rfl) (by kernel_rfl) (fun _ _ _ h => h) (Or.inl ⟨by kernel_rfl, ?hy1⟩) (by assumption) ?rest1
        case hy1 => (intro w hSw; (try dsimp only at hSw); go_simp; first | done | with_reducible rfl)
        (try simp only [Act.put, List.setIfInBounds_toArray, List.set_cons_zero, List.set_cons_succ])
        refine wpAnyH_take (i := 2) (oi := ⟨some 45, _, _, _, _, _⟩) rfl (by kernel_rfl) (by kernel_rfl) (by kernel_rfl) (fun _ _ _ h => h) (yieldsIf_load_mid (by kernel_rfl) 45 (.tmp 9) rfl w1.heap.size 0 rfl [.string u0, .string u1, .string u2, .string u3, .bool u4, .int .i64 u5, .bool u6, .slice ua un uc, .string u8, .string u9, .bool u10, .bool u11] _ HRu.out Tryz.underlying45 rfl sizeU) (by assumption) ?_
        (try simp only [Act.put, List.setIfInBounds_toArray, List.set_cons_zero, List.set_cons_succ])
        refine wpAnyH_take (i := 3) (oi := ⟨some 46, _, _, _, _, _⟩) rfl (by kernel_rfl) (by kernel_rfl) (by kernel_rfl) (fun _ _ _ h => h) (yieldsIf_load_mid (by kernel_rfl) 45 (.tmp 11) rfl w3.heap.size 0 rfl [.string p0, .string p1, .string p2, .string p3, .bool p4, .int .i64 p5, .bool p6, .slice pa pn pc, .string p8, .string p9, .bool p10, .bool p11] _ HRp.out Tryz.underlying45 rfl sizeU) (by assumption) ?_
        (try simp only [Act.put, List.setIfInBounds_toArray, List.set_cons_zero, List.set_cons_succ])
        refine wpAnyH_ready (rs := [1]) (by kernel_rfl) (by simp) ?_
        refine AllReadyH.cons rfl (fun K hK => ?_) AllReadyH.nil
        rw [if_pos (by kernel_rfl)]
        go_simp
        have HQ1 := hid (below2 HQ0.out ((Below.refl _ wg.drew).alloc (Nat.le_refl _) (.cells #[.string S2] 9)))
        refine hK.out _ _ HQ1.out (fun hHeld2 => ?_)
        clear hK K hHeld
        rename _ => hHeld
        refine wpAnyH_ready (rs := [4]) (by kernel_rfl) (by simp) ?_
        refine AllReadyH.cons rfl (fun K hK => ?_) AllReadyH.nil
        rw [if_pos (by kernel_rfl)]
        go_simp
        go_wp2_with (go_at_call 31; refine (HAq.out _ _ HQ1.out (tx_one11 wg.drew S2)).mono ?_; rintro e wa ⟨rfl, hba⟩)
        have HQ2 := hid (below2 HQ1.out hba)
        clear hba
        refine hK.out _ _ HQ2.out (fun hHeld2 => ?_)
        clear hK K hHeld
        rename _ => hHeld
        refine' wpAnyH_take (i := 5) (oi := ⟨some 48, _, _, _, _, _⟩) (v := _) rfl (by kernel_rfl) (by kernel_rfl) (by kernel_rfl) (fun _ _ _ h => h) (Or.inl ⟨by kernel_rfl, ?hy2⟩) (by assumption) ?rest2
        case hy2 => (intro w hSw; (try dsimp only at hSw); go_simp; first | done | with_reducible rfl)
        (try simp only [Act.put, List.setIfInBounds_toArray, List.set_cons_zero, List.set_cons_succ])
        refine wpAnyH_take (i := 6) (oi := ⟨some 49, _, _, _, _, _⟩) (v := undef) rfl (by kernel_rfl) (by kernel_rfl) (by kernel_rfl) (fun _ _ _ h => h) (Or.inr ⟨by kernel_rfl, by kernel_rfl⟩) (by assumption) ?_
        (try simp only [Act.put, List.setIfInBounds_toArray, List.set_cons_zero, List.set_cons_succ])
        refine wpAnyH_take (i := 7) (oi := ⟨some 50, _, _, _, _, _⟩) (v := undef) rfl (by kernel_rfl) (by kernel_rfl) (by kernel_rfl) (fun _ _ _ h => h) (Or.inr ⟨by kernel_rfl, by kernel_rfl⟩) (by assumption) ?_
        (try simp only [Act.put, List.setIfInBounds_toArray, List.set_cons_zero, List.set_cons_succ])
        refine wpAnyH_take (i := 8) (oi := ⟨some 51, _, _, _, _, _⟩) (v := undef) rfl (by kernel_rfl) (by kernel_rfl) (by kernel_rfl) (fun _ _ _ h => h) (Or.inr ⟨by kernel_rfl, by kernel_rfl⟩) (by assumption) ?_
        (try simp only [Act.put, List.setIfInBounds_toArray, List.set_cons_zero, List.set_cons_succ])
        refine wpAnyH_take (i := 9) (oi := ⟨some 52, _, _, _, _, _⟩) (v := undef) rfl (by kernel_rfl) (by kernel_rfl) (by kernel_rfl) (fun _ _ _ h => h) (Or.inr ⟨by kernel_rfl, by kernel_rfl⟩) (by assumption) ?_
        (try simp only [Act.put, List.setIfInBounds_toArray, List.set_cons_zero, List.set_cons_succ])
        refine wpAnyH_take (i := 10) (oi := ⟨some 53, _, _, _, _, _⟩) (v := undef) rfl (by kernel_rfl) (by kernel_rfl) (by kernel_rfl) (fun _ _ _ h => h) (Or.inr ⟨by kernel_rfl, by kernel_rfl⟩) (by assumption) ?_
        (try simp only [Act.put, List.setIfInBounds_toArray, List.set_cons_zero, List.set_cons_succ])
        refine wpAnyH_take (i := 11) (oi := ⟨some 54, _, _, _, _, _⟩) (v := undef) rfl (by kernel_rfl) (by kernel_rfl) (by kernel_rfl) (fun _ _ _ h => h) (Or.inr ⟨by kernel_rfl, by kernel_rfl⟩) (by assumption) ?_
        (try simp only [Act.put, List.setIfInBounds_toArray, List.set_cons_zero, List.set_cons_succ])
        refine wpAnyH_take (i := 12) (oi := ⟨some 55, _, _, _, _, _⟩) (v := undef) rfl (by kernel_rfl) (by kernel_rfl) (by kernel_rfl) (fun _ _ _ h => h) (Or.inr ⟨by kernel_rfl, by kernel_rfl⟩) (by assumption) ?_
        (try simp only [Act.put, List.setIfInBounds_toArray, List.set_cons_zero, List.set_cons_succ])
        refine wpAnyH_take (i := 13) (oi := ⟨some 56, _, _, _, _, _⟩) (v := undef) rfl (by kernel_rfl) (by kernel_rfl) (by kernel_rfl) (fun _ _ _ h => h) (Or.inr ⟨by kernel_rfl, by kernel_rfl⟩) (by assumption) ?_
        (try simp only [Act.put, List.setIfInBounds_toArray, List.set_cons_zero, List.set_cons_succ])
        refine' wpAnyH_take (i := 14) (oi := ⟨some 57, _, _, _, _, _⟩) (v := _) rfl (by kernel_rfl) (by kernel_rfl) (by kernel_rfl) (fun _ _ _ h => h) (Or.inl ⟨by kernel_rfl, ?hy3⟩) (by assumption) ?rest3
        case hy3 => (intro w hSw; (try dsimp only at hSw); go_simp; first | done | with_reducible rfl)
        (try simp only [Act.put, List.setIfInBounds_toArray, List.set_cons_zero, List.set_cons_succ])
        refine wpAnyH_done (by kernel_rfl) ?_ _
        obtain ⟨y0, y1, y2, y3, y4, y5, y6, y7, y8, y9, y10, y11, z0, z1, z2, z3, z4, z5, z6, z7, z8, z9, z10, z11⟩ := HFF.out wa HQ2.out
        have hsch : (u0.toList == [104, 116, 116, 112]) = true ∨ ((u0.toList == [104, 116, 116, 112]) = false ∧ (u0.toList == [104, 116, 116, 112, 115]) = true) ∨ ((u0.toList == [104, 116, 116, 112]) = false ∧ (u0.toList == [104, 116, 116, 112, 115]) = false) := by
          cases (u0.toList == [104, 116, 116, 112]) <;> cases (u0.toList == [104, 116, 116, 112, 115]) <;> simp
        rcases hsch with g0 | ⟨g0, g1⟩ | ⟨g0, g1⟩
        · have HW := hid (HCs.out (.inl g0))
          by_cases g5 : u5 = -1
          · have g5' : (u5 == -1) = true := by rw [g5]; rfl
            have HPo := hid (show A.port = -1 from HX5.out.symm.trans g5)
            clear g5
            by_cases g3 : u3.data.toList = []
            · have g3' := empty_yes u3 g3
              clear g3
              as_aux_lemma =>
                go_wp2_with fail
                refine (HNo.out _ HQ2.out).mono ?_
                rintro e wd ⟨rfl, hbd⟩
                have HQd := hid (below2 HQ2.out hbd)
                clear hbd
                clear y0 z0 y1 z1 y2 z2 y3 z3 y4 z4 y5 z5 y6 z6 y7 z7 y8 z8 y9 z9 y10 z10 y11 z11
                obtain ⟨y0, y1, y2, y3, y4, y5, y6, y7, y8, y9, y10, y11, z0, z1, z2, z3, z4, z5, z6, z7, z8, z9, z10, z11⟩ := HFF.out wd HQd.out
                go_wp2_with fail
                refine (HNil.out _ HQd.out).mono ?_
                rintro e we ⟨rfl, hbe⟩
                have HQe := hid (below2 HQd.out hbe)
                clear hbe
                clear y0 z0 y1 z1 y2 z2 y3 z3 y4 z4 y5 z5 y6 z6 y7 z7 y8 z8 y9 z9 y10 z10 y11 z11
                go_wp2_with fail
                refine (HKn.out _ HQe.out).mono ?_
                rintro e wf ⟨rfl, hbf⟩
                have HQf := hid (below2 HQe.out hbf)
                clear hbf
                go_wp2
                go_ret
                exact ⟨rfl, below2 HB4.out HQf.out⟩
            · have g3' := empty_no u3 g3
              have HH := hid (show A.host ≠ [] by rw [← HX3.out]; exact g3)
              have hu30 : 0 < u3.size := by rw [Lib.size_eq]; exact List.length_pos_iff.2 g3
              have hu30' : (0 : Int) < (u3.size : Int) := by omega
              have hhead : u3.data.toList.head? = some u3[0] := by
                have h1 := Lib.data_getElem? u3 0 hu30
                rw [List.head?_eq_getElem?]; exact h1
              clear g3
              by_cases g9 : u3[0].toNat = 91
              · have g9' : ((u3[0].toNat : Int) != 91) = false := by rw [g9]; rfl
                clear g9 hhead
                as_aux_lemma =>
                  go_wp2_with fail
                  refine (HNo.out _ HQ2.out).mono ?_
                  rintro e wd ⟨rfl, hbd⟩
                  have HQd := hid (below2 HQ2.out hbd)
                  clear hbd
                  clear y0 z0 y1 z1 y2 z2 y3 z3 y4 z4 y5 z5 y6 z6 y7 z7 y8 z8 y9 z9 y10 z10 y11 z11
                  obtain ⟨y0, y1, y2, y3, y4, y5, y6, y7, y8, y9, y10, y11, z0, z1, z2, z3, z4, z5, z6, z7, z8, z9, z10, z11⟩ := HFF.out wd HQd.out
                  go_wp2_with fail
                  refine (HNil.out _ HQd.out).mono ?_
                  rintro e we ⟨rfl, hbe⟩
                  have HQe := hid (below2 HQd.out hbe)
                  clear hbe
                  clear y0 z0 y1 z1 y2 z2 y3 z3 y4 z4 y5 z5 y6 z6 y7 z7 y8 z8 y9 z9 y10 z10 y11 z11
                  go_wp2_with fail
                  refine (HKn.out _ HQe.out).mono ?_
                  rintro e wf ⟨rfl, hbf⟩
                  have HQf := hid (below2 HQe.out hbf)
                  clear hbf
                  go_wp2
                  go_ret
                  exact ⟨rfl, below2 HB4.out HQf.out⟩
              · have g9' : ((u3[0].toNat : Int) != 91) = true := by
                  simp only [bne_iff_ne, ne_eq]
                  omega
                have HHd := hid (show A.host.head? ≠ some 91 by
                  rw [← HX3.out, hhead]
                  intro e
                  injection e with e
                  exact g9 (by rw [e]; rfl))
                clear g9 hhead
                as_aux_lemma =>
                  go_wp2_with fail
                  refine (HSelf.out _ HQ2.out HW.out HPo.out HH.out HHd.out).mono ?_
                  rintro e wc ⟨rfl, hbc⟩
                  have HQc := hid (below2 HQ2.out hbc)
                  clear hbc
                  clear y0 z0 y1 z1 y2 z2 y3 z3 y4 z4 y5 z5 y6 z6 y7 z7 y8 z8 y9 z9 y10 z10 y11 z11
                  obtain ⟨y0, y1, y2, y3, y4, y5, y6, y7, y8, y9, y10, y11, z0, z1, z2, z3, z4, z5, z6, z7, z8, z9, z10, z11⟩ := HFF.out wc HQc.out
                  go_wp2_with fail
                  refine (HNo.out _ HQc.out).mono ?_
                  rintro e wd ⟨rfl, hbd⟩
                  have HQd := hid (below2 HQc.out hbd)
                  clear hbd
                  clear y0 z0 y1 z1 y2 z2 y3 z3 y4 z4 y5 z5 y6 z6 y7 z7 y8 z8 y9 z9 y10 z10 y11 z11
                  obtain ⟨y0, y1, y2, y3, y4, y5, y6, y7, y8, y9, y10, y11, z0, z1, z2, z3, z4, z5, z6, z7, z8, z9, z10, z11⟩ := HFF.out wd HQd.out
                  go_wp2_with fail
                  refine (HNil.out _ HQd.out).mono ?_
                  rintro e we ⟨rfl, hbe⟩
                  have HQe := hid (below2 HQd.out hbe)
                  clear hbe
                  clear y0 z0 y1 z1 y2 z2 y3 z3 y4 z4 y5 z5 y6 z6 y7 z7 y8 z8 y9 z9 y10 z10 y11 z11
                  go_wp2_with fail
                  refine (HKn.out _ HQe.out).mono ?_
                  rintro e wf ⟨rfl, hbf⟩
                  have HQf := hid (below2 HQe.out hbf)
                  clear hbf
                  go_wp2
                  go_ret
                  exact ⟨rfl, below2 HB4.out HQf.out⟩
          · have g5' : (u5 == -1) = false := beq_eq_false_iff_ne.2 g5
            clear g5
            as_aux_lemma =>
              go_wp2_with fail
              refine (HNo.out _ HQ2.out).mono ?_
              rintro e wd ⟨rfl, hbd⟩
              have HQd := hid (below2 HQ2.out hbd)
              clear hbd
              clear y0 z0 y1 z1 y2 z2 y3 z3 y4 z4 y5 z5 y6 z6 y7 z7 y8 z8 y9 z9 y10 z10 y11 z11
              obtain ⟨y0, y1, y2, y3, y4, y5, y6, y7, y8, y9, y10, y11, z0, z1, z2, z3, z4, z5, z6, z7, z8, z9, z10, z11⟩ := HFF.out wd HQd.out
              go_wp2_with fail
              refine (HNil.out _ HQd.out).mono ?_
              rintro e we ⟨rfl, hbe⟩
              have HQe := hid (below2 HQd.out hbe)
              clear hbe
              clear y0 z0 y1 z1 y2 z2 y3 z3 y4 z4 y5 z5 y6 z6 y7 z7 y8 z8 y9 z9 y10 z10 y11 z11
              go_wp2_with fail
              refine (HKn.out _ HQe.out).mono ?_
              rintro e wf ⟨rfl, hbf⟩
              have HQf := hid (below2 HQe.out hbf)
              clear hbf
              go_wp2
              go_ret
              exact ⟨rfl, below2 HB4.out HQf.out⟩
        · have HW := hid (HCs.out (.inr g1))
          by_cases g5 : u5 = -1
          · have g5' : (u5 == -1) = true := by rw [g5]; rfl
            have HPo := hid (show A.port = -1 from HX5.out.symm.trans g5)
            clear g5
            by_cases g3 : u3.data.toList = []
            · have g3' := empty_yes u3 g3
              clear g3
              as_aux_lemma =>
                go_wp2_with fail
                refine (HNo.out _ HQ2.out).mono ?_
                rintro e wd ⟨rfl, hbd⟩
                have HQd := hid (below2 HQ2.out hbd)
                clear hbd
                clear y0 z0 y1 z1 y2 z2 y3 z3 y4 z4 y5 z5 y6 z6 y7 z7 y8 z8 y9 z9 y10 z10 y11 z11
                obtain ⟨y0, y1, y2, y3, y4, y5, y6, y7, y8, y9, y10, y11, z0, z1, z2, z3, z4, z5, z6, z7, z8, z9, z10, z11⟩ := HFF.out wd HQd.out
                go_wp2_with fail
                refine (HNil.out _ HQd.out).mono ?_
                rintro e we ⟨rfl, hbe⟩
                have HQe := hid (below2 HQd.out hbe)
                clear hbe
                clear y0 z0 y1 z1 y2 z2 y3 z3 y4 z4 y5 z5 y6 z6 y7 z7 y8 z8 y9 z9 y10 z10 y11 z11
                go_wp2_with fail
                refine (HKn.out _ HQe.out).mono ?_
                rintro e wf ⟨rfl, hbf⟩
                have HQf := hid (below2 HQe.out hbf)
                clear hbf
                go_wp2
                go_ret
                exact ⟨rfl, below2 HB4.out HQf.out⟩
            · have g3' := empty_no u3 g3
              have HH := hid (show A.host ≠ [] by rw [← HX3.out]; exact g3)
              have hu30 : 0 < u3.size := by rw [Lib.size_eq]; exact List.length_pos_iff.2 g3
              have hu30' : (0 : Int) < (u3.size : Int) := by omega
              have hhead : u3.data.toList.head? = some u3[0] := by
                have h1 := Lib.data_getElem? u3 0 hu30
                rw [List.head?_eq_getElem?]; exact h1
              clear g3
              by_cases g9 : u3[0].toNat = 91
              · have g9' : ((u3[0].toNat : Int) != 91) = false := by rw [g9]; rfl
                clear g9 hhead
                as_aux_lemma =>
                  go_wp2_with fail
                  refine (HNo.out _ HQ2.out).mono ?_
                  rintro e wd ⟨rfl, hbd⟩
                  have HQd := hid (below2 HQ2.out hbd)
                  clear hbd
                  clear y0 z0 y1 z1 y2 z2 y3 z3 y4 z4 y5 z5 y6 z6 y7 z7 y8 z8 y9 z9 y10 z10 y11 z11
                  obtain ⟨y0, y1, y2, y3, y4, y5, y6, y7, y8, y9, y10, y11, z0, z1, z2, z3, z4, z5, z6, z7, z8, z9, z10, z11⟩ := HFF.out wd HQd.out
                  go_wp2_with fail
                  refine (HNil.out _ HQd.out).mono ?_
                  rintro e we ⟨rfl, hbe⟩
                  have HQe := hid (below2 HQd.out hbe)
                  clear hbe
                  clear y0 z0 y1 z1 y2 z2 y3 z3 y4 z4 y5 z5 y6 z6 y7 z7 y8 z8 y9 z9 y10 z10 y11 z11
                  go_wp2_with fail
                  refine (HKn.out _ HQe.out).mono ?_
                  rintro e wf ⟨rfl, hbf⟩
                  have HQf := hid (below2 HQe.out hbf)
                  clear hbf
                  go_wp2
                  go_ret
                  exact ⟨rfl, below2 HB4.out HQf.out⟩
              · have g9' : ((u3[0].toNat : Int) != 91) = true := by
                  simp only [bne_iff_ne, ne_eq]
                  omega
                have HHd := hid (show A.host.head? ≠ some 91 by
                  rw [← HX3.out, hhead]
                  intro e
                  injection e with e
                  exact g9 (by rw [e]; rfl))
                clear g9 hhead
                as_aux_lemma =>
                  go_wp2_with fail
                  refine (HSelf.out _ HQ2.out HW.out HPo.out HH.out HHd.out).mono ?_
                  rintro e wc ⟨rfl, hbc⟩
                  have HQc := hid (below2 HQ2.out hbc)
                  clear hbc
                  clear y0 z0 y1 z1 y2 z2 y3 z3 y4 z4 y5 z5 y6 z6 y7 z7 y8 z8 y9 z9 y10 z10 y11 z11
                  obtain ⟨y0, y1, y2, y3, y4, y5, y6, y7, y8, y9, y10, y11, z0, z1, z2, z3, z4, z5, z6, z7, z8, z9, z10, z11⟩ := HFF.out wc HQc.out
                  go_wp2_with fail
                  refine (HNo.out _ HQc.out).mono ?_
                  rintro e wd ⟨rfl, hbd⟩
                  have HQd := hid (below2 HQc.out hbd)
                  clear hbd
                  clear y0 z0 y1 z1 y2 z2 y3 z3 y4 z4 y5 z5 y6 z6 y7 z7 y8 z8 y9 z9 y10 z10 y11 z11
                  obtain ⟨y0, y1, y2, y3, y4, y5, y6, y7, y8, y9, y10, y11, z0, z1, z2, z3, z4, z5, z6, z7, z8, z9, z10, z11⟩ := HFF.out wd HQd.out
                  go_wp2_with fail
                  refine (HNil.out _ HQd.out).mono ?_
                  rintro e we ⟨rfl, hbe⟩
                  have HQe := hid (below2 HQd.out hbe)
                  clear hbe
                  clear y0 z0 y1 z1 y2 z2 y3 z3 y4 z4 y5 z5 y6 z6 y7 z7 y8 z8 y9 z9 y10 z10 y11 z11
                  go_wp2_with fail
                  refine (HKn.out _ HQe.out).mono ?_
                  rintro e wf ⟨rfl, hbf⟩
                  have HQf := hid (below2 HQe.out hbf)
                  clear hbf
                  go_wp2
                  go_ret
                  exact ⟨rfl, below2 HB4.out HQf.out⟩
          · have g5' : (u5 == -1) = false := beq_eq_false_iff_ne.2 g5
            clear g5
            as_aux_lemma =>
              go_wp2_with fail
              refine (HNo.out _ HQ2.out).mono ?_
              rintro e wd ⟨rfl, hbd⟩
              have HQd := hid (below2 HQ2.out hbd)
              clear hbd
              clear y0 z0 y1 z1 y2 z2 y3 z3 y4 z4 y5 z5 y6 z6 y7 z7 y8 z8 y9 z9 y10 z10 y11 z11
              obtain ⟨y0, y1, y2, y3, y4, y5, y6, y7, y8, y9, y10, y11, z0, z1, z2, z3, z4, z5, z6, z7, z8, z9, z10, z11⟩ := HFF.out wd HQd.out
              go_wp2_with fail
              refine (HNil.out _ HQd.out).mono ?_
              rintro e we ⟨rfl, hbe⟩
              have HQe := hid (below2 HQd.out hbe)
              clear hbe
              clear y0 z0 y1 z1 y2 z2 y3 z3 y4 z4 y5 z5 y6 z6 y7 z7 y8 z8 y9 z9 y10 z10 y11 z11
              go_wp2_with fail
              refine (HKn.out _ HQe.out).mono ?_
              rintro e wf ⟨rfl, hbf⟩
              have HQf := hid (below2 HQe.out hbf)
              clear hbf
              go_wp2
              go_ret
              exact ⟨rfl, below2 HB4.out HQf.out⟩
        · as_aux_lemma =>
            go_wp2_with fail
            refine (HNo.out _ HQ2.out).mono ?_
            rintro e wd ⟨rfl, hbd⟩
            have HQd := hid (below2 HQ2.out hbd)
            clear hbd
            clear y0 z0 y1 z1 y2 z2 y3 z3 y4 z4 y5 z5 y6 z6 y7 z7 y8 z8 y9 z9 y10 z10 y11 z11
            obtain ⟨y0, y1, y2, y3, y4, y5, y6, y7, y8, y9, y10, y11, z0, z1, z2, z3, z4, z5, z6, z7, z8, z9, z10, z11⟩ := HFF.out wd HQd.out
            go_wp2_with fail
            refine (HNil.out _ HQd.out).mono ?_
            rintro e we ⟨rfl, hbe⟩
            have HQe := hid (below2 HQd.out hbe)
            clear hbe
            clear y0 z0 y1 z1 y2 z2 y3 z3 y4 z4 y5 z5 y6 z6 y7 z7 y8 z8 y9 z9 y10 z10 y11 z11
            go_wp2_with fail
            refine (HKn.out _ HQe.out).mono ?_
            rintro e wf ⟨rfl, hbf⟩
            have HQf := hid (below2 HQe.out hbf)
            clear hbf
            go_wp2
            go_ret
            exact ⟨rfl, below2 HB4.out HQf.out⟩
      | true => as_aux_lemma =>
        go_wp2_with fail
        refine (H00.out _ HB0.out).mono ?_
        rintro e wg ⟨rfl, hbg⟩
        have HQg := hid (below2 HB0.out hbg)
        clear hbg
        clear y0 z0 y1 z1 y2 z2 y3 z3 y4 z4 y5 z5 y6 z6 y7 z7 y8 z8 y9 z9 y10 z10 y11 z11
        obtain ⟨y0, y1, y2, y3, y4, y5, y6, y7, y8, y9, y10, y11, z0, z1, z2, z3, z4, z5, z6, z7, z8, z9, z10, z11⟩ := HFF.out wg HQg.out
        rw [HL1.out (by first | rfl | trivial)] at H01
        go_wp2_with fail
        refine (H01.out _ HQg.out).mono ?_
        rintro e wh ⟨rfl, hbh⟩
        have HQh := hid (below2 HQg.out hbh)
        clear hbh
        clear y0 z0 y1 z1 y2 z2 y3 z3 y4 z4 y5 z5 y6 z6 y7 z7 y8 z8 y9 z9 y10 z10 y11 z11
        have HAr := hid (HAr0.out (by first | rfl | trivial))
        rw [HA2.out (by first | rfl | trivial)] at HAr
        have HQ0 := hid (below2 HQh.out (Below.refl wh.heap.size wh).drew)
        go_wp2_with fail
        refine wp_region_held_drew (S := (fun wx => Below W4.heap.size W4 wx)) (by kernel_rfl) HQ0.out (fun hHeld => ?_)
        refine' wpAnyH_take (i := 0) (oi := ⟨some 43, _, _, _, _, _⟩) (v := _) rfl (by kernel_rfl) (by kernel_rfl) (by kernel_rfl) (fun _ _ _ h => h) (Or.inl ⟨by kernel_rfl, ?hy4⟩) (by assumption) ?rest4
        case hy4 => (intro w hSw; (try dsimp only at hSw); go_simp; first | done | with_reducible rfl)
        (try simp only [Act.put, List.setIfInBounds_toArray, List.set_cons_zero, List.set_cons_succ])
        refine wpAnyH_take (i := 2) (oi := ⟨some 45, _, _, _, _, _⟩) rfl (by kernel_rfl) (by kernel_rfl) (by kernel_rfl) (fun _ _ _ h => h) (yieldsIf_load_mid (by kernel_rfl) 45 (.tmp 9) rfl w1.heap.size 0 rfl [.string u0, .string u1, .string u2, .string u3, .bool u4, .int .i64 u5, .bool u6, .slice ua un uc, .string u8, .string u9, .bool u10, .bool u11] _ HRu.out Tryz.underlying45 rfl sizeU) (by assumption) ?_
        (try simp only [Act.put, List.setIfInBounds_toArray, List.set_cons_zero, List.set_cons_succ])
        refine wpAnyH_take (i := 3) (oi := ⟨some 46, _, _, _, _, _⟩) rfl (by kernel_rfl) (by kernel_rfl) (by kernel_rfl) (fun _ _ _ h => h) (yieldsIf_load_mid (by kernel_rfl) 45 (.tmp 11) rfl w3.heap.size 0 rfl [.string p0, .string p1, .string p2, .string p3, .bool p4, .int .i64 p5, .bool p6, .slice pa pn pc, .string p8, .string p9, .bool p10, .bool p11] _ HRp.out Tryz.underlying45 rfl sizeU) (by assumption) ?_
        (try simp only [Act.put, List.setIfInBounds_toArray, List.set_cons_zero, List.set_cons_succ])
        refine wpAnyH_ready (rs := [1]) (by kernel_rfl) (by simp) ?_
        refine AllReadyH.cons rfl (fun K hK => ?_) AllReadyH.nil
        rw [if_pos (by kernel_rfl)]
        go_simp
        have HQ1 := hid (below2 HQ0.out ((Below.refl _ wh.drew).alloc (Nat.le_refl _) (.cells #[.string S2] 9)))
        refine hK.out _ _ HQ1.out (fun hHeld2 => ?_)
        clear hK K hHeld
        rename _ => hHeld
        refine wpAnyH_ready (rs := [4]) (by kernel_rfl) (by simp) ?_
        refine AllReadyH.cons rfl (fun K hK => ?_) AllReadyH.nil
        rw [if_pos (by kernel_rfl)]
        go_simp
        go_wp2_with (go_at_call 31; refine (HAq.out _ _ HQ1.out (tx_one11 wh.drew S2)).mono ?_; rintro e wa ⟨rfl, hba⟩)
        have HQ2 := hid (below2 HQ1.out hba)
        clear hba
        refine hK.out _ _ HQ2.out (fun hHeld2 => ?_)
        clear hK K hHeld
        rename _ => hHeld
        refine' wpAnyH_take (i := 5) (oi := ⟨some 48, _, _, _, _, _⟩) (v := _) rfl (by kernel_rfl) (by kernel_rfl) (by kernel_rfl) (fun _ _ _ h => h) (Or.inl ⟨by kernel_rfl, ?hy5⟩) (by assumption) ?rest5
        case hy5 => (intro w hSw; (try dsimp only at hSw); go_simp; first | done | with_reducible rfl)
        (try simp only [Act.put, List.setIfInBounds_toArray, List.set_cons_zero, List.set_cons_succ])
        refine' wpAnyH_take (i := 6) (oi := ⟨some 49, _, _, _, _, _⟩) (v := _) rfl (by kernel_rfl) (by kernel_rfl) (by kernel_rfl) (fun _ _ _ h => h) (Or.inl ⟨by kernel_rfl, ?hy6⟩) (by assumption) ?rest6
        case hy6 => (intro w hSw; (try dsimp only at hSw); go_simp; first | done | with_reducible rfl)
        (try simp only [Act.put, List.setIfInBounds_toArray, List.set_cons_zero, List.set_cons_succ])
        refine' wpAnyH_take (i := 8) (oi := ⟨some 51, _, _, _, _, _⟩) (v := _) rfl (by kernel_rfl) (by kernel_rfl) (by kernel_rfl) (fun _ _ _ h => h) (Or.inl ⟨by kernel_rfl, ?hy7⟩) (by assumption) ?rest7
        case hy7 => (intro w hSw; (try dsimp only at hSw); go_simp; first | done | with_reducible rfl)
        (try simp only [Act.put, List.setIfInBounds_toArray, List.set_cons_zero, List.set_cons_succ])
        refine wpAnyH_take (i := 10) (oi := ⟨some 53, _, _, _, _, _⟩) rfl (by kernel_rfl) (by kernel_rfl) (by kernel_rfl) (fun _ _ _ h => h) (yieldsIf_load_mid (by kernel_rfl) 45 (.tmp 9) rfl w1.heap.size 0 rfl [.string u0, .string u1, .string u2, .string u3, .bool u4, .int .i64 u5, .bool u6, .slice ua un uc, .string u8, .string u9, .bool u10, .bool u11] _ HRu.out Tryz.underlying45 rfl sizeU) (by assumption) ?_
        (try simp only [Act.put, List.setIfInBounds_toArray, List.set_cons_zero, List.set_cons_succ])
        refine wpAnyH_take (i := 11) (oi := ⟨some 54, _, _, _, _, _⟩) rfl (by kernel_rfl) (by kernel_rfl) (by kernel_rfl) (fun _ _ _ h => h) (yieldsIf_load_mid (by kernel_rfl) 45 (.tmp 11) rfl w3.heap.size 0 rfl [.string p0, .string p1, .string p2, .string p3, .bool p4, .int .i64 p5, .bool p6, .slice pa pn pc, .string p8, .string p9, .bool p10, .bool p11] _ HRp.out Tryz.underlying45 rfl sizeU) (by assumption) ?_
        (try simp only [Act.put, List.setIfInBounds_toArray, List.set_cons_zero, List.set_cons_succ])
        refine wpAnyH_ready (rs := [7]) (by kernel_rfl) (by simp) ?_
        refine AllReadyH.cons rfl (fun K hK => ?_) AllReadyH.nil
        rw [if_pos (by kernel_rfl)]
        go_simp
        go_wp2_with (go_at_call 21; refine (HF4.out _).mono ?_; rintro e wz ⟨rfl, hwz⟩; rw [← hwz]; clear hwz)
        refine hK.out _ _ HQ2.out (fun hHeld2 => ?_)
        clear hK K hHeld
        rename _ => hHeld
        refine wpAnyH_ready (rs := [9]) (by kernel_rfl) (by simp) ?_
        refine AllReadyH.cons rfl (fun K hK => ?_) AllReadyH.nil
        rw [if_pos (by kernel_rfl)]
        go_simp
        have HQ3 := hid (below2 HQ2.out ((Below.refl _ wa).alloc (Nat.le_refl _) (.cells #[.string M2, .string S2] 9)))
        refine hK.out _ _ HQ3.out (fun hHeld2 => ?_)
        clear hK K hHeld
        rename _ => hHeld
        refine wpAnyH_ready (rs := [12]) (by kernel_rfl) (by simp) ?_
        refine AllReadyH.cons rfl (fun K hK => ?_) AllReadyH.nil
        rw [if_pos (by kernel_rfl)]
        go_simp
        go_wp2_with (go_at_call 31; refine (HAr.out _ _ HQ3.out (tx_two11 wa M2 S2)).mono ?_; rintro e wb ⟨rfl, hbb⟩)
        have HQ4 := hid (below2 HQ3.out hbb)
        clear hbb
        refine hK.out _ _ HQ4.out (fun hHeld2 => ?_)
        clear hK K hHeld
        rename _ => hHeld
        refine' wpAnyH_take (i := 13) (oi := ⟨some 56, _, _, _, _, _⟩) (v := _) rfl (by kernel_rfl) (by kernel_rfl) (by kernel_rfl) (fun _ _ _ h => h) (Or.inl ⟨by kernel_rfl, ?hy8⟩) (by assumption) ?rest8
        case hy8 => (intro w hSw; (try dsimp only at hSw); go_simp; first | done | with_reducible rfl)
        (try simp only [Act.put, List.setIfInBounds_toArray, List.set_cons_zero, List.set_cons_succ])
        refine' wpAnyH_take (i := 14) (oi := ⟨some 57, _, _, _, _, _⟩) (v := _) rfl (by kernel_rfl) (by kernel_rfl) (by kernel_rfl) (fun _ _ _ h => h) (Or.inl ⟨by kernel_rfl, ?hy9⟩) (by assumption) ?rest9
        case hy9 => (intro w hSw; (try dsimp only at hSw); go_simp; first | done | with_reducible rfl)
        (try simp only [Act.put, List.setIfInBounds_toArray, List.set_cons_zero, List.set_cons_succ])
        refine wpAnyH_done (by kernel_rfl) ?_ _
        obtain ⟨y0, y1, y2, y3, y4, y5, y6, y7, y8, y9, y10, y11, z0, z1, z2, z3, z4, z5, z6, z7, z8, z9, z10, z11⟩ := HFF.out wb HQ4.out
        have hsch : (u0.toList == [104, 116, 116, 112]) = true ∨ ((u0.toList == [104, 116, 116, 112]) = false ∧ (u0.toList == [104, 116, 116, 112, 115]) = true) ∨ ((u0.toList == [104, 116, 116, 112]) = false ∧ (u0.toList == [104, 116, 116, 112, 115]) = false) := by
          cases (u0.toList == [104, 116, 116, 112]) <;> cases (u0.toList == [104, 116, 116, 112, 115]) <;> simp
        rcases hsch with g0 | ⟨g0, g1⟩ | ⟨g0, g1⟩
        · have HW := hid (HCs.out (.inl g0))
          by_cases g5 : u5 = -1
          · have g5' : (u5 == -1) = true := by rw [g5]; rfl
            have HPo := hid (show A.port = -1 from HX5.out.symm.trans g5)
            clear g5
            by_cases g3 : u3.data.toList = []
            · have g3' := empty_yes u3 g3
              clear g3
              as_aux_lemma =>
                go_wp2_with fail
                refine (HNo.out _ HQ4.out).mono ?_
                rintro e wd ⟨rfl, hbd⟩
                have HQd := hid (below2 HQ4.out hbd)
                clear hbd
                clear y0 z0 y1 z1 y2 z2 y3 z3 y4 z4 y5 z5 y6 z6 y7 z7 y8 z8 y9 z9 y10 z10 y11 z11
                obtain ⟨y0, y1, y2, y3, y4, y5, y6, y7, y8, y9, y10, y11, z0, z1, z2, z3, z4, z5, z6, z7, z8, z9, z10, z11⟩ := HFF.out wd HQd.out
                go_wp2_with fail
                refine (HNil.out _ HQd.out).mono ?_
                rintro e we ⟨rfl, hbe⟩
                have HQe := hid (below2 HQd.out hbe)
                clear hbe
                clear y0 z0 y1 z1 y2 z2 y3 z3 y4 z4 y5 z5 y6 z6 y7 z7 y8 z8 y9 z9 y10 z10 y11 z11
                go_wp2_with fail
                refine (HKn.out _ HQe.out).mono ?_
                rintro e wf ⟨rfl, hbf⟩
                have HQf := hid (below2 HQe.out hbf)
                clear hbf
                go_wp2
                go_ret
                exact ⟨rfl, below2 HB4.out HQf.out⟩
            · have g3' := empty_no u3 g3
              have HH := hid (show A.host ≠ [] by rw [← HX3.out]; exact g3)
              have hu30 : 0 < u3.size := by rw [Lib.size_eq]; exact List.length_pos_iff.2 g3
              have hu30' : (0 : Int) < (u3.size : Int) := by omega
              have hhead : u3.data.toList.head? = some u3[0] := by
                have h1 := Lib.data_getElem? u3 0 hu30
                rw [List.head?_eq_getElem?]; exact h1
              clear g3
              by_cases g9 : u3[0].toNat = 91
              · have g9' : ((u3[0].toNat : Int) != 91) = false := by rw [g9]; rfl
                clear g9 hhead
                as_aux_lemma =>
                  go_wp2_with fail
                  refine (HNo.out _ HQ4.out).mono ?_
                  rintro e wd ⟨rfl, hbd⟩
                  have HQd := hid (below2 HQ4.out hbd)
                  clear hbd
                  clear y0 z0 y1 z1 y2 z2 y3 z3 y4 z4 y5 z5 y6 z6 y7 z7 y8 z8 y9 z9 y10 z10 y11 z11
                  obtain ⟨y0, y1, y2, y3, y4, y5, y6, y7, y8, y9, y10, y11, z0, z1, z2, z3, z4, z5, z6, z7, z8, z9, z10, z11⟩ := HFF.out wd HQd.out
                  go_wp2_with fail
                  refine (HNil.out _ HQd.out).mono ?_
                  rintro e we ⟨rfl, hbe⟩
                  have HQe := hid (below2 HQd.out hbe)
                  clear hbe
                  clear y0 z0 y1 z1 y2 z2 y3 z3 y4 z4 y5 z5 y6 z6 y7 z7 y8 z8 y9 z9 y10 z10 y11 z11
                  go_wp2_with fail
                  refine (HKn.out _ HQe.out).mono ?_
                  rintro e wf ⟨rfl, hbf⟩
                  have HQf := hid (below2 HQe.out hbf)
                  clear hbf
                  go_wp2
                  go_ret
                  exact ⟨rfl, below2 HB4.out HQf.out⟩
              · have g9' : ((u3[0].toNat : Int) != 91) = true := by
                  simp only [bne_iff_ne, ne_eq]
                  omega
                have HHd := hid (show A.host.head? ≠ some 91 by
                  rw [← HX3.out, hhead]
                  intro e
                  injection e with e
                  exact g9 (by rw [e]; rfl))
                clear g9 hhead
                as_aux_lemma =>
                  go_wp2_with fail
                  refine (HSelf.out _ HQ4.out HW.out HPo.out HH.out HHd.out).mono ?_
                  rintro e wc ⟨rfl, hbc⟩
                  have HQc := hid (below2 HQ4.out hbc)
                  clear hbc
                  clear y0 z0 y1 z1 y2 z2 y3 z3 y4 z4 y5 z5 y6 z6 y7 z7 y8 z8 y9 z9 y10 z10 y11 z11
                  obtain ⟨y0, y1, y2, y3, y4, y5, y6, y7, y8, y9, y10, y11, z0, z1, z2, z3, z4, z5, z6, z7, z8, z9, z10, z11⟩ := HFF.out wc HQc.out
                  go_wp2_with fail
                  refine (HNo.out _ HQc.out).mono ?_
                  rintro e wd ⟨rfl, hbd⟩
                  have HQd := hid (below2 HQc.out hbd)
                  clear hbd
                  clear y0 z0 y1 z1 y2 z2 y3 z3 y4 z4 y5 z5 y6 z6 y7 z7 y8 z8 y9 z9 y10 z10 y11 z11
                  obtain ⟨y0, y1, y2, y3, y4, y5, y6, y7, y8, y9, y10, y11, z0, z1, z2, z3, z4, z5, z6, z7, z8, z9, z10, z11⟩ := HFF.out wd HQd.out
                  go_wp2_with fail
                  refine (HNil.out _ HQd.out).mono ?_
                  rintro e we ⟨rfl, hbe⟩
                  have HQe := hid (below2 HQd.out hbe)
                  clear hbe
                  clear y0 z0 y1 z1 y2 z2 y3 z3 y4 z4 y5 z5 y6 z6 y7 z7 y8 z8 y9 z9 y10 z10 y11 z11
                  go_wp2_with fail
                  refine (HKn.out _ HQe.out).mono ?_
                  rintro e wf ⟨rfl, hbf⟩
                  have HQf := hid (below2 HQe.out hbf)
                  clear hbf
                  go_wp2
                  go_ret
                  exact ⟨rfl, below2 HB4.out HQf.out⟩
          · have g5' : (u5 == -1) = false := beq_eq_false_iff_ne.2 g5
            clear g5
            as_aux_lemma =>
              go_wp2_with fail
              refine (HNo.out _ HQ4.out).mono ?_
              rintro e wd ⟨rfl, hbd⟩
              have HQd := hid (below2 HQ4.out hbd)
              clear hbd
              clear y0 z0 y1 z1 y2 z2 y3 z3 y4 z4 y5 z5 y6 z6 y7 z7 y8 z8 y9 z9 y10 z10 y11 z11
              obtain ⟨y0, y1, y2, y3, y4, y5, y6, y7, y8, y9, y10, y11, z0, z1, z2, z3, z4, z5, z6, z7, z8, z9, z10, z11⟩ := HFF.out wd HQd.out
              go_wp2_with fail
              refine (HNil.out _ HQd.out).mono ?_
              rintro e we ⟨rfl, hbe⟩
              have HQe := hid (below2 HQd.out hbe)
              clear hbe
              clear y0 z0 y1 z1 y2 z2 y3 z3 y4 z4 y5 z5 y6 z6 y7 z7 y8 z8 y9 z9 y10 z10 y11 z11
              go_wp2_with fail
              refine (HKn.out _ HQe.out).mono ?_
              rintro e wf ⟨rfl, hbf⟩
              have HQf := hid (below2 HQe.out hbf)
              clear hbf
              go_wp2
              go_ret
              exact ⟨rfl, below2 HB4.out HQf.out⟩
        · have HW := hid (HCs.out (.inr g1))
          by_cases g5 : u5 = -1
          · have g5' : (u5 == -1) = true := by rw [g5]; rfl
            have HPo := hid (show A.port = -1 from HX5.out.symm.trans g5)
            clear g5
            by_cases g3 : u3.data.toList = []
            · have g3' := empty_yes u3 g3
              clear g3
              as_aux_lemma =>
                go_wp2_with fail
                refine (HNo.out _ HQ4.out).mono ?_
                rintro e wd ⟨rfl, hbd⟩
                have HQd := hid (below2 HQ4.out hbd)
                clear hbd
                clear y0 z0 y1 z1 y2 z2 y3 z3 y4 z4 y5 z5 y6 z6 y7 z7 y8 z8 y9 z9 y10 z10 y11 z11
                obtain ⟨y0, y1, y2, y3, y4, y5, y6, y7, y8, y9, y10, y11, z0, z1, z2, z3, z4, z5, z6, z7, z8, z9, z10, z11⟩ := HFF.out wd HQd.out
                go_wp2_with fail
                refine (HNil.out _ HQd.out).mono ?_
                rintro e we ⟨rfl, hbe⟩
                have HQe := hid (below2 HQd.out hbe)
                clear hbe
                clear y0 z0 y1 z1 y2 z2 y3 z3 y4 z4 y5 z5 y6 z6 y7 z7 y8 z8 y9 z9 y10 z10 y11 z11
                go_wp2_with fail
                refine (HKn.out _ HQe.out).mono ?_
                rintro e wf ⟨rfl, hbf⟩
                have HQf := hid (below2 HQe.out hbf)
                clear hbf
                go_wp2
                go_ret
                exact ⟨rfl, below2 HB4.out HQf.out⟩
            · have g3' := empty_no u3 g3
              have HH := hid (show A.host ≠ [] by rw [← HX3.out]; exact g3)
              have hu30 : 0 < u3.size := by rw [Lib.size_eq]; exact List.length_pos_iff.2 g3
              have hu30' : (0 : Int) < (u3.size : Int) := by omega
              have hhead : u3.data.toList.head? = some u3[0] := by
                have h1 := Lib.data_getElem? u3 0 hu30
                rw [List.head?_eq_getElem?]; exact h1
              clear g3
              by_cases g9 : u3[0].toNat = 91
              · have g9' : ((u3[0].toNat : Int) != 91) = false := by rw [g9]; rfl
                clear g9 hhead
                as_aux_lemma =>
                  go_wp2_with fail
                  refine (HNo.out _ HQ4.out).mono ?_
                  rintro e wd ⟨rfl, hbd⟩
                  have HQd := hid (below2 HQ4.out hbd)
                  clear hbd
                  clear y0 z0 y1 z1 y2 z2 y3 z3 y4 z4 y5 z5 y6 z6 y7 z7 y8 z8 y9 z9 y10 z10 y11 z11
                  obtain ⟨y0, y1, y2, y3, y4, y5, y6, y7, y8, y9, y10, y11, z0, z1, z2, z3, z4, z5, z6, z7, z8, z9, z10, z11⟩ := HFF.out wd HQd.out
                  go_wp2_with fail
                  refine (HNil.out _ HQd.out).mono ?_
                  rintro e we ⟨rfl, hbe⟩
                  have HQe := hid (below2 HQd.out hbe)
                  clear hbe
                  clear y0 z0 y1 z1 y2 z2 y3 z3 y4 z4 y5 z5 y6 z6 y7 z7 y8 z8 y9 z9 y10 z10 y11 z11
                  go_wp2_with fail
                  refine (HKn.out _ HQe.out).mono ?_
                  rintro e wf ⟨rfl, hbf⟩
                  have HQf := hid (below2 HQe.out hbf)
                  clear hbf
                  go_wp2
                  go_ret
                  exact ⟨rfl, below2 HB4.out HQf.out⟩
              · have g9' : ((u3[0].toNat : Int) != 91) = true := by
                  simp only [bne_iff_ne, ne_eq]
                  omega
                have HHd := hid (show A.host.head? ≠ some 91 by
                  rw [← HX3.out, hhead]
                  intro e
                  injection e with e
                  exact g9 (by rw [e]; rfl))
                clear g9 hhead
                as_aux_lemma =>
                  go_wp2_with fail
                  refine (HSelf.out _ HQ4.out HW.out HPo.out HH.out HHd.out).mono ?_
                  rintro e wc ⟨rfl, hbc⟩
                  have HQc := hid (below2 HQ4.out hbc)
                  clear hbc
                  clear y0 z0 y1 z1 y2 z2 y3 z3 y4 z4 y5 z5 y6 z6 y7 z7 y8 z8 y9 z9 y10 z10 y11 z11
                  obtain ⟨y0, y1, y2, y3, y4, y5, y6, y7, y8, y9, y10, y11, z0, z1, z2, z3, z4, z5, z6, z7, z8, z9, z10, z11⟩ := HFF.out wc HQc.out
                  go_wp2_with fail
                  refine (HNo.out _ HQc.out).mono ?_
                  rintro e wd ⟨rfl, hbd⟩
                  have HQd := hid (below2 HQc.out hbd)
                  clear hbd
                  clear y0 z0 y1 z1 y2 z2 y3 z3 y4 z4 y5 z5 y6 z6 y7 z7 y8 z8 y9 z9 y10 z10 y11 z11
                  obtain ⟨y0, y1, y2, y3, y4, y5, y6, y7, y8, y9, y10, y11, z0, z1, z2, z3, z4, z5, z6, z7, z8, z9, z10, z11⟩ := HFF.out wd HQd.out
                  go_wp2_with fail
                  refine (HNil.out _ HQd.out).mono ?_
                  rintro e we ⟨rfl, hbe⟩
                  have HQe := hid (below2 HQd.out hbe)
                  clear hbe
                  clear y0 z0 y1 z1 y2 z2 y3 z3 y4 z4 y5 z5 y6 z6 y7 z7 y8 z8 y9 z9 y10 z10 y11 z11
                  go_wp2_with fail
                  refine (HKn.out _ HQe.out).mono ?_
                  rintro e wf ⟨rfl, hbf⟩
                  have HQf := hid (below2 HQe.out hbf)
                  clear hbf
                  go_wp2
                  go_ret
                  exact ⟨rfl, below2 HB4.out HQf.out⟩
          · have g5' : (u5 == -1) = false := beq_eq_false_iff_ne.2 g5
            clear g5
            as_aux_lemma =>
              go_wp2_with fail
              refine (HNo.out _ HQ4.out).mono ?_
              rintro e wd ⟨rfl, hbd⟩
              have HQd := hid (below2 HQ4.out hbd)
              clear hbd
              clear y0 z0 y1 z1 y2 z2 y3 z3 y4 z4 y5 z5 y6 z6 y7 z7 y8 z8 y9 z9 y10 z10 y11 z11
              obtain ⟨y0, y1, y2, y3, y4, y5, y6, y7, y8, y9, y10, y11, z0, z1, z2, z3, z4, z5, z6, z7, z8, z9, z10, z11⟩ := HFF.out wd HQd.out
              go_wp2_with fail
              refine (HNil.out _ HQd.out).mono ?_
              rintro e we ⟨rfl, hbe⟩
              have HQe := hid (below2 HQd.out hbe)
              clear hbe
              clear y0 z0 y1 z1 y2 z2 y3 z3 y4 z4 y5 z5 y6 z6 y7 z7 y8 z8 y9 z9 y10 z10 y11 z11
              go_wp2_with fail
              refine (HKn.out _ HQe.out).mono ?_
              rintro e wf ⟨rfl, hbf⟩
              have HQf := hid (below2 HQe.out hbf)
              clear hbf
              go_wp2
              go_ret
              exact ⟨rfl, below2 HB4.out HQf.out⟩
        · as_aux_lemma =>
            go_wp2_with fail
            refine (HNo.out _ HQ4.out).mono ?_
            rintro e wd ⟨rfl, hbd⟩
            have HQd := hid (below2 HQ4.out hbd)
            clear hbd
            clear y0 z0 y1 z1 y2 z2 y3 z3 y4 z4 y5 z5 y6 z6 y7 z7 y8 z8 y9 z9 y10 z10 y11 z11
            obtain ⟨y0, y1, y2, y3, y4, y5, y6, y7, y8, y9, y10, y11, z0, z1, z2, z3, z4, z5, z6, z7, z8, z9, z10, z11⟩ := HFF.out wd HQd.out
            go_wp2_with fail
            refine (HNil.out _ HQd.out).mono ?_
            rintro e we ⟨rfl, hbe⟩
            have HQe := hid (below2 HQd.out hbe)
            clear hbe
            clear y0 z0 y1 z1 y2 z2 y3 z3 y4 z4 y5 z5 y6 z6 y7 z7 y8 z8 y9 z9 y10 z10 y11 z11
            go_wp2_with fail
            refine (HKn.out _ HQe.out).mono ?_
            rintro e wf ⟨rfl, hbf⟩
            have HQf := hid (below2 HQe.out hbf)
            clear hbf
            go_wp2
            go_ret
            exact ⟨rfl, below2 HB4.out HQf.out⟩

end Go.Proofs.YtkhpemjjholneaaGreatDoor
