/-
  Walks and plain facts that this claim leans on, put together out of 3 texts: Eyj, Eyn, Pm.
-/
import Derived.Test.YtmhooefajdndjaaGreatDoorProg
import Derived.Test.YtmhooefajdndjaaGreatDoorQa1
import Derived.Test.YtmhooefajdndjaaGreatDoorQa3
import Derived.Test.YtmhooefajdndjaaGreatDoorQa6
import Derived.Test.YtmhooefajdndjaaGreatDoorQa7
import Derived.Test.YtmhooefajdndjaaGreatDoorQa8
import Derived.Test.YtmhooefajdndjaaGreatDoorQa11
import Derived.Test.YtmhooefajdndjaaGreatDoorQa12
import Derived.Test.YtmhooefajdndjaaGreatDoorQa13
import Derived.Test.YtmhooefajdndjaaGreatDoorQa18
import Derived.Test.YtmhooefajdndjaaGreatDoorQa22
import Derived.Test.YtmhooefajdndjaaGreatDoorQa24
import Derived.Test.YtmhooefajdndjaaGreatDoorQa25
import Derived.Test.YtmhooefajdndjaaGreatDoorQa26
import Derived.Test.YtmhooefajdndjaaGreatDoorQa27
import Derived.Test.YtmhooefajdndjaaGreatDoorQa28
import Derived.Test.YtmhooefajdndjaaGreatDoorQa29
import Derived.Test.YtmhooefajdndjaaGreatDoorQa31
import Derived.Deep.Cut
import Derived.Deep.QuietTactic
import Derived.BigQuiet
import Derived.BigRegion
import Derived.Deep.RegionHeld
import Derived.Lib.IndexMore
import Derived.Lib.Join
import Derived.Lib.LastIndexByte
import Derived.WalkKit
import Derived.Lib.Strings
import Derived.Lib.UnsafeStr
import Derived.Laws.IdiomStrings
import Derived.Laws.AppendOwn
import Derived.Laws.BitsAllLaws
import Derived.Lib.Bytealg
import Derived.Lib.BufferMore
import Derived.Lib.BufferRead
import Derived.Lib.RuneBytes
import Derived.Laws.RangeAny
import Derived.LoopN
import Derived.RegionTactic
import Derived.Deep.RegionWith
import Derived.OwnWalk
import Derived.Deep.RegionLaw
import Derived.Laws.OwnMore
import Derived.Deep.LoopGhost
import Derived.Shelf.Strings.Builder1
import Derived.Shelf.Strings.Builder2
import Derived.Shelf.Strings.OnBuilder
import Derived.Shelf.Strings.Trim
import Derived.Shelf.Small.Utf8
import Derived.Shelf.Small.Strs
import Derived.Shelf.Small.Wraps
import Derived.Shelf.Strings.BuilderF
import Derived.Shelf.Strings.BuilderK
import Derived.Shelf.Strings.BuilderRune
import Derived.Shelf.Utf8.AppendRune
import Derived.Shelf.Utf8.AppendRunePlain
import Derived.Shelf.Strings.Builder2Cap
import Derived.Shelf.Strconv.Itoa0
import Derived.Shelf.Strconv.Itoa1
import Derived.Shelf.LaysM
import Derived.Shelf.Strconv.Itoa2
import Derived.Shelf.Strconv.Itoa3
import Derived.Shelf.Strings.Search1
import Derived.Shelf.Strings.Search2
import Derived.Shelf.Strings.Search3
import Derived.Shelf.Strings.Cut
import Derived.Shelf.Strings.Count
import Derived.Shelf.Strings.Shaped
import Derived.Shelf.Strings.LastIndex
import Derived.Shelf.Strings.Prefix
import Derived.Shelf.Strings.Split
import Derived.Shelf.Strings.Replace
import Derived.Shelf.Strings.Runes
import Derived.Shelf.Strings.IndexAny
import Derived.Shelf.Strings.AsciiSet
import Derived.Shelf.Strings.IndexAnyAll
import Derived.Shelf.Unicode.DecodeSlow
import Derived.Ground.Names2Prog
import Derived.Shelf.Slices.Clone
import Derived.Ground.SlgnProg
import Derived.Shelf.SlicesE.Clone
import Derived.Laws.AppendOwnNone
import Derived.Scope
import Derived.ScopeJumps
import Derived.WalkMore
import Derived.Lib.IndexAny
import Derived.Lib.Replace
import Derived.Lib.TrimByte
import Derived.Lib.ItoaNum
import Derived.Lib.DecodeN
import Derived.Lib.OthersKept
import Derived.Laws.BytesString
import Derived.Deep.WholeRow
import Derived.Lib.AppendStr
import Derived.WalkSpells
import Derived.WalkLawsBesides
import Derived.Lib.AppendIntMem
import Derived.Lib.SmallJoins
import Derived.WalkSmall
import Derived.Laws.CopyOwn
import Derived.Laws.ResultCell
import Derived.Deep.MidRow
import Derived.Lib.FrozenHead2
import Derived.Lib.Builder
import Derived.Lib.SlTrimSet
import Derived.Below
import Derived.Shelf.Strings.SlTrimAscii
import Derived.Laws.Runes
set_option linter.unusedSimpArgs false
set_option linter.unusedVariables false

namespace Go.Proofs.YtmhooefajdndjaaGreatDoor
open Go.RowKit

set_option maxHeartbeats 16000000 in
set_option maxRecDepth 100000 in
theorem mixedJudges_walk (p s : ByteArray) (dest : Int) (w : World) (hp : p.size ≤ 140737488351232) (hs : s.size ≤ 140737488351232) (hg : Gd w) :
  Calls Tryz.prog 7 #[.string p, .string s, .int .i64 dest] w fun e w' => e = .returned (.bool true) ∧ Below w.heap.size w w' := by
 have HU := hid (fun w => url_k p w (by omega))
 have HV := hid (fun w => url_k s w (by omega))
 have h2 : TrOk (adrOf (urlV s.data.toList)) := tr_read _
 have HG0 := hid hg
 generalize urlV p.data.toList = ru at HU
 generalize urlV s.data.toList = rv at HV h2
 unfold UPost at HU HV
 generalize isOk ru = ok1 at HU
 generalize isOk rv = ok2 at HV
 generalize adrOf ru = A at HU
 generalize adrOf rv = B at HV h2
 have HTk := hid h2
 clear h2 hg
 cases ok1 with
 | false =>
  go_enter Tryz.func7, Tryz.ntmps7
  go_wp2_with fail
  refine (HU.out _).mono ?_
  rintro e w1 ⟨pv, rfl, hown, hb1⟩
  obtain ⟨da, dn, dc, rfl⟩ := own_sl hown
  obtain ⟨d0, d1, d2, d3, d4, d5, d6, d8, d9, d10, d11, hxd⟩ := adr_cells A da dn dc
  have hvd : adrVal A (.slice da dn dc) = .agg #[.string d0, .string d1, .string d2, .string d3, .bool d4, .int .i64 d5, .bool d6, .slice da dn dc, .string d8, .string d9, .bool d10, .bool d11] := by unfold adrVal; rw [hxd]
  rw [hvd]
  obtain ⟨W2, hW2⟩ : ∃ X, (w1.alloc (.cells #[.string d0, .string d1, .string d2, .string d3, .bool d4, .int .i64 d5, .bool d6, .slice da dn dc, .string d8, .string d9, .bool d10, .bool d11] 45)) = X := ⟨_, rfl⟩
  have hbW2 : Below w1.heap.size w1 W2 := by rw [← hW2]; exact (Below.refl _ w1).alloc (Nat.le_refl _) _
  have hsW2 : W2.heap.size = w1.heap.size + 1 := by rw [← hW2]; simp
  have hAW2 : AdrIn W2 w1.heap.size A (.slice da dn dc) := by
   unfold AdrIn
   rw [hxd, ← hW2]
   exact heap_alloc_new w1 _
  have HB2 := hid (below2 hb1 hbW2)
  have HP2 := hid ((own_path hown).kept hbW2)
  have HA2 := hid hAW2
  have HXd := hid hxd
  have HVd := hid hvd
  clear hown hb1 hbW2 hAW2 hxd hvd hsW2
  go_wp2_with fail
  refine (HV.out _).mono ?_
  rintro e w3 ⟨qv, rfl, hown, hb3⟩
  obtain ⟨ua, un, uc, rfl⟩ := own_sl hown
  obtain ⟨u0, u1, u2, u3, u4, u5, u6, u8, u9, u10, u11, hxu⟩ := adr_cells B ua un uc
  have hvu : adrVal B (.slice ua un uc) = .agg #[.string u0, .string u1, .string u2, .string u3, .bool u4, .int .i64 u5, .bool u6, .slice ua un uc, .string u8, .string u9, .bool u10, .bool u11] := by unfold adrVal; rw [hxu]
  rw [hvu]
  obtain ⟨W4, hW4⟩ : ∃ X, (w3.alloc (.cells #[.string u0, .string u1, .string u2, .string u3, .bool u4, .int .i64 u5, .bool u6, .slice ua un uc, .string u8, .string u9, .bool u10, .bool u11] 45)) = X := ⟨_, rfl⟩
  have hbW4 : Below w3.heap.size w3 W4 := by rw [← hW4]; exact (Below.refl _ w3).alloc (Nat.le_refl _) _
  have hsW4 : W4.heap.size = w3.heap.size + 1 := by rw [← hW4]; simp
  have hAW4 : AdrIn W4 w3.heap.size B (.slice ua un uc) := by
   unfold AdrIn
   rw [hxu, ← hW4]
   exact heap_alloc_new w3 _
  have hb34 := below2 hb3 hbW4
  have HB4 := hid (below2 HB2.out hb34)
  have HG4 := hid (HG0.out.kept HB4.out)
  have HPp4 := hid (HP2.out.kept hb34)
  have HAp4 := hid (HA2.out.kept hb34)
  have HPu4 := hid ((own_path hown).kept hbW4)
  have HAu4 := hid hAW4
  have HXu := hid hxu
  have HVu := hid hvu
  clear hown hb3 hbW4 hAW4 hxu hvu hb34 hsW4
  have HK := hid (known14_any W4 HG4.out)
  go_wp2_with fail
  refine HK.out.mono ?_
  rintro e w5 ⟨rfl, hb5⟩
  go_wp2
  go_ret
  exact ⟨rfl, below2 HB4.out hb5⟩
 | true =>
  cases ok2 with
  | false =>
   go_enter Tryz.func7, Tryz.ntmps7
   go_wp2_with fail
   refine (HU.out _).mono ?_
   rintro e w1 ⟨pv, rfl, hown, hb1⟩
   obtain ⟨da, dn, dc, rfl⟩ := own_sl hown
   obtain ⟨d0, d1, d2, d3, d4, d5, d6, d8, d9, d10, d11, hxd⟩ := adr_cells A da dn dc
   have hvd : adrVal A (.slice da dn dc) = .agg #[.string d0, .string d1, .string d2, .string d3, .bool d4, .int .i64 d5, .bool d6, .slice da dn dc, .string d8, .string d9, .bool d10, .bool d11] := by unfold adrVal; rw [hxd]
   rw [hvd]
   obtain ⟨W2, hW2⟩ : ∃ X, (w1.alloc (.cells #[.string d0, .string d1, .string d2, .string d3, .bool d4, .int .i64 d5, .bool d6, .slice da dn dc, .string d8, .string d9, .bool d10, .bool d11] 45)) = X := ⟨_, rfl⟩
   have hbW2 : Below w1.heap.size w1 W2 := by rw [← hW2]; exact (Below.refl _ w1).alloc (Nat.le_refl _) _
   have hsW2 : W2.heap.size = w1.heap.size + 1 := by rw [← hW2]; simp
   have hAW2 : AdrIn W2 w1.heap.size A (.slice da dn dc) := by
    unfold AdrIn
    rw [hxd, ← hW2]
    exact heap_alloc_new w1 _
   have HB2 := hid (below2 hb1 hbW2)
   have HP2 := hid ((own_path hown).kept hbW2)
   have HA2 := hid hAW2
   have HXd := hid hxd
   have HVd := hid hvd
   clear hown hb1 hbW2 hAW2 hxd hvd hsW2
   go_wp2_with fail
   refine (HV.out _).mono ?_
   rintro e w3 ⟨qv, rfl, hown, hb3⟩
   obtain ⟨ua, un, uc, rfl⟩ := own_sl hown
   obtain ⟨u0, u1, u2, u3, u4, u5, u6, u8, u9, u10, u11, hxu⟩ := adr_cells B ua un uc
   have hvu : adrVal B (.slice ua un uc) = .agg #[.string u0, .string u1, .string u2, .string u3, .bool u4, .int .i64 u5, .bool u6, .slice ua un uc, .string u8, .string u9, .bool u10, .bool u11] := by unfold adrVal; rw [hxu]
   rw [hvu]
   obtain ⟨W4, hW4⟩ : ∃ X, (w3.alloc (.cells #[.string u0, .string u1, .string u2, .string u3, .bool u4, .int .i64 u5, .bool u6, .slice ua un uc, .string u8, .string u9, .bool u10, .bool u11] 45)) = X := ⟨_, rfl⟩
   have hbW4 : Below w3.heap.size w3 W4 := by rw [← hW4]; exact (Below.refl _ w3).alloc (Nat.le_refl _) _
   have hsW4 : W4.heap.size = w3.heap.size + 1 := by rw [← hW4]; simp
   have hAW4 : AdrIn W4 w3.heap.size B (.slice ua un uc) := by
    unfold AdrIn
    rw [hxu, ← hW4]
    exact heap_alloc_new w3 _
   have hb34 := below2 hb3 hbW4
   have HB4 := hid (below2 HB2.out hb34)
   have HG4 := hid (HG0.out.kept HB4.out)
   have HPp4 := hid (HP2.out.kept hb34)
   have HAp4 := hid (HA2.out.kept hb34)
   have HPu4 := hid ((own_path hown).kept hbW4)
   have HAu4 := hid hAW4
   have HXu := hid hxu
   have HVu := hid hvu
   clear hown hb3 hbW4 hAW4 hxu hvu hb34 hsW4
   have HK := hid (known14_any W4 HG4.out)
   go_wp2_with fail
   refine HK.out.mono ?_
   rintro e w5 ⟨rfl, hb5⟩
   go_wp2
   go_ret
   exact ⟨rfl, below2 HB4.out hb5⟩
  | true =>
   go_enter Tryz.func7, Tryz.ntmps7
   go_wp2_with fail
   refine (HU.out _).mono ?_
   rintro e w1 ⟨pv, rfl, hown, hb1⟩
   obtain ⟨da, dn, dc, rfl⟩ := own_sl hown
   obtain ⟨d0, d1, d2, d3, d4, d5, d6, d8, d9, d10, d11, hxd⟩ := adr_cells A da dn dc
   have hvd : adrVal A (.slice da dn dc) = .agg #[.string d0, .string d1, .string d2, .string d3, .bool d4, .int .i64 d5, .bool d6, .slice da dn dc, .string d8, .string d9, .bool d10, .bool d11] := by unfold adrVal; rw [hxd]
   rw [hvd]
   obtain ⟨W2, hW2⟩ : ∃ X, (w1.alloc (.cells #[.string d0, .string d1, .string d2, .string d3, .bool d4, .int .i64 d5, .bool d6, .slice da dn dc, .string d8, .string d9, .bool d10, .bool d11] 45)) = X := ⟨_, rfl⟩
   have hbW2 : Below w1.heap.size w1 W2 := by rw [← hW2]; exact (Below.refl _ w1).alloc (Nat.le_refl _) _
   have hsW2 : W2.heap.size = w1.heap.size + 1 := by rw [← hW2]; simp
   have hAW2 : AdrIn W2 w1.heap.size A (.slice da dn dc) := by
    unfold AdrIn
    rw [hxd, ← hW2]
    exact heap_alloc_new w1 _
   have HB2 := hid (below2 hb1 hbW2)
   have HP2 := hid ((own_path hown).kept hbW2)
   have HA2 := hid hAW2
   have HXd := hid hxd
   have HVd := hid hvd
   clear hown hb1 hbW2 hAW2 hxd hvd hsW2
   go_wp2_with fail
   refine (HV.out _).mono ?_
   rintro e w3 ⟨qv, rfl, hown, hb3⟩
   obtain ⟨ua, un, uc, rfl⟩ := own_sl hown
   obtain ⟨u0, u1, u2, u3, u4, u5, u6, u8, u9, u10, u11, hxu⟩ := adr_cells B ua un uc
   have hvu : adrVal B (.slice ua un uc) = .agg #[.string u0, .string u1, .string u2, .string u3, .bool u4, .int .i64 u5, .bool u6, .slice ua un uc, .string u8, .string u9, .bool u10, .bool u11] := by unfold adrVal; rw [hxu]
   rw [hvu]
   obtain ⟨W4, hW4⟩ : ∃ X, (w3.alloc (.cells #[.string u0, .string u1, .string u2, .string u3, .bool u4, .int .i64 u5, .bool u6, .slice ua un uc, .string u8, .string u9, .bool u10, .bool u11] 45)) = X := ⟨_, rfl⟩
   have hbW4 : Below w3.heap.size w3 W4 := by rw [← hW4]; exact (Below.refl _ w3).alloc (Nat.le_refl _) _
   have hsW4 : W4.heap.size = w3.heap.size + 1 := by rw [← hW4]; simp
   have hAW4 : AdrIn W4 w3.heap.size B (.slice ua un uc) := by
    unfold AdrIn
    rw [hxu, ← hW4]
    exact heap_alloc_new w3 _
   have hb34 := below2 hb3 hbW4
   have HB4 := hid (below2 HB2.out hb34)
   have HG4 := hid (HG0.out.kept HB4.out)
   have HPp4 := hid (HP2.out.kept hb34)
   have HAp4 := hid (HA2.out.kept hb34)
   have HPu4 := hid ((own_path hown).kept hbW4)
   have HAu4 := hid hAW4
   have HXu := hid hxu
   have HVu := hid hvu
   clear hown hb3 hbW4 hAW4 hxu hvu hb34 hsW4
   have HRp := hid (show ∀ Z, Below W4.heap.size W4 Z → Z.rangeAt (w1.heap.size) 0 [.string d0, .string d1, .string d2, .string d3, .bool d4, .int .i64 d5, .bool d6, .slice da dn dc, .string d8, .string d9, .bool d10, .bool d11] from fun Z hZ => by
    have := range_row (show Z.heap[w1.heap.size]? = some (.cells (adrCells A (.slice da dn dc)).toArray 45 (0, 0)) from HAp4.out.kept hZ)
    rw [HXd.out] at this
    exact this)
   have HRu := hid (show ∀ Z, Below W4.heap.size W4 Z → Z.rangeAt (w3.heap.size) 0 [.string u0, .string u1, .string u2, .string u3, .bool u4, .int .i64 u5, .bool u6, .slice ua un uc, .string u8, .string u9, .bool u10, .bool u11] from fun Z hZ => by
    have := range_row (show Z.heap[w3.heap.size]? = some (.cells (adrCells B (.slice ua un uc)).toArray 45 (0, 0)) from HAu4.out.kept hZ)
    rw [HXu.out] at this
    exact this)
   have H1 := hid (fun (Z : World) (hZ : Below W4.heap.size W4 Z) => bad14_any B (.slice ua un uc) Z (HPu4.out.kept hZ))
   have H2 := hid (fun (Z : World) (hZ : Below W4.heap.size W4 Z) => rbad14_any B (.slice ua un uc) Z (HPu4.out.kept hZ))
   have H3 := hid (fun (Z : World) (hZ : Below W4.heap.size W4 Z) => judge14_any A B (.slice da dn dc) (.slice ua un uc) dest Z (HG4.out.kept hZ) (HPp4.out.kept hZ) (HPu4.out.kept hZ) HTk.out)
   have H4 := hid (fun (Z : World) (hZ : Below W4.heap.size W4 Z) => rjudge14_any A B (.slice da dn dc) (.slice ua un uc) dest Z (HPp4.out.kept hZ) (HPu4.out.kept hZ) HTk.out)
   have H5 := hid (fun (Z : World) (hZ : Below W4.heap.size W4 Z) => raise14_any B (.slice ua un uc) Z (HPu4.out.kept hZ) HTk.out.1)
   have H6 := hid (fun (Z : World) (hZ : Below W4.heap.size W4 Z) => rraise14_any B (.slice ua un uc) Z (HPu4.out.kept hZ))
   have HK9 := hid (fun (Z : World) (hZ : Below W4.heap.size W4 Z) => known14_any Z (HG4.out.kept hZ))
   unfold AnPost at H5 H6
   rw [HVu.out] at H1 H2 H3 H4 H5 H6
   rw [HVd.out] at H3 H4
   generalize badU B = bu at H1 H2
   generalize judV A B dest = jv at H3 H4
   have HLn := hid (show (raiV B).path.length ≤ 1000000 from HTk.out.1)
   generalize raiV B = R at H5 H6 HLn
   have HQ0 := hid ((Below.refl W4.heap.size W4).drew)
   go_upto_region 5 with fail
   refine wp_region_held_drew (S := (fun wx => Below W4.heap.size W4 wx)) (by kernel_rfl) HQ0.out (fun hHeld => ?_)
   refine wpAnyH_to (fuel' := 27) (listed' := #[false, false, false, false, false, false, false, false, false, false, false, false, false, false, false, false, false, false, false, false, false, false, false, false, false, false, false]) rfl rfl ?_
   refine wpAnyH_take (i := 0) (oi := ⟨some 28, _, _, _, _, _⟩) rfl (by kernel_rfl) (by kernel_rfl) (by kernel_rfl) (fun _ _ _ h => h) (yieldsIf_load_mid (by kernel_rfl) 45 (.tmp 9) rfl (w3.heap.size) 0 rfl [.string u0, .string u1, .string u2, .string u3, .bool u4, .int .i64 u5, .bool u6, .slice ua un uc, .string u8, .string u9, .bool u10, .bool u11] _ HRu.out Tryz.underlying45 rfl sizeU) (by assumption) ?_
   (try simp only [Act.put, List.setIfInBounds_toArray, List.set_cons_zero, List.set_cons_succ])
   refine wpAnyH_take (i := 2) (oi := ⟨some 30, _, _, _, _, _⟩) rfl (by kernel_rfl) (by kernel_rfl) (by kernel_rfl) (fun _ _ _ h => h) (yieldsIf_load_mid (by kernel_rfl) 45 (.tmp 9) rfl (w3.heap.size) 0 rfl [.string u0, .string u1, .string u2, .string u3, .bool u4, .int .i64 u5, .bool u6, .slice ua un uc, .string u8, .string u9, .bool u10, .bool u11] _ HRu.out Tryz.underlying45 rfl sizeU) (by assumption) ?_
   (try simp only [Act.put, List.setIfInBounds_toArray, List.set_cons_zero, List.set_cons_succ])
   refine wpAnyH_ready (rs := [1]) (by kernel_rfl) (by simp) ?_
   refine AllReadyH.cons rfl (fun K9 hK => ?_) AllReadyH.nil
   rw [if_pos (by kernel_rfl)]
   go_simp
   go_wp2_with (go_at_call 24; refine (H1.out _ HQ0.out).mono ?_; rintro e w11 ⟨rfl, hba⟩)
   have HQ11 := hid (below2 HQ0.out hba)
   clear hba
   refine hK.out _ _ HQ11.out (fun hHeld2 => ?_)
   clear hK K9 hHeld
   rename _ => hHeld
   refine wpAnyH_ready (rs := [3]) (by kernel_rfl) (by simp) ?_
   refine AllReadyH.cons rfl (fun K9 hK => ?_) AllReadyH.nil
   rw [if_pos (by kernel_rfl)]
   go_simp
   go_wp2_with (go_at_call 25; refine (H2.out _ HQ11.out).mono ?_; rintro e w12 ⟨rfl, hba⟩)
   have HQ12 := hid (below2 HQ11.out hba)
   clear hba
   refine hK.out _ _ HQ12.out (fun hHeld2 => ?_)
   clear hK K9 hHeld
   rename _ => hHeld
   refine' wpAnyH_take (i := 4) (oi := ⟨some 32, _, _, _, _, _⟩) (v := _) rfl (by kernel_rfl) (by kernel_rfl) (by kernel_rfl) (fun _ _ _ h => h) (Or.inl ⟨by kernel_rfl, ?hyW41⟩) (by assumption) ?restW41
   case hyW41 => (intro wx hSw; (try dsimp only at hSw); go_simp; first | done | with_reducible rfl)
   (try simp only [Act.put, List.setIfInBounds_toArray, List.set_cons_zero, List.set_cons_succ])
   refine' wpAnyH_take (i := 5) (oi := ⟨some 33, _, _, _, _, _⟩) (v := _) rfl (by kernel_rfl) (by kernel_rfl) (by kernel_rfl) (fun _ _ _ h => h) (Or.inl ⟨by kernel_rfl, ?hyW42⟩) (by assumption) ?restW42
   case hyW42 => (intro wx hSw; (try dsimp only at hSw); go_simp; first | done | with_reducible rfl)
   (try simp only [Act.put, List.setIfInBounds_toArray, List.set_cons_zero, List.set_cons_succ])
   refine wpAnyH_take (i := 6) (oi := ⟨some 34, _, _, _, _, _⟩) rfl (by kernel_rfl) (by kernel_rfl) (by kernel_rfl) (fun _ _ _ h => h) (yieldsIf_load_mid (by kernel_rfl) 45 (.tmp 7) rfl (w1.heap.size) 0 rfl [.string d0, .string d1, .string d2, .string d3, .bool d4, .int .i64 d5, .bool d6, .slice da dn dc, .string d8, .string d9, .bool d10, .bool d11] _ HRp.out Tryz.underlying45 rfl sizeU) (by assumption) ?_
   (try simp only [Act.put, List.setIfInBounds_toArray, List.set_cons_zero, List.set_cons_succ])
   refine wpAnyH_take (i := 7) (oi := ⟨some 35, _, _, _, _, _⟩) rfl (by kernel_rfl) (by kernel_rfl) (by kernel_rfl) (fun _ _ _ h => h) (yieldsIf_load_mid (by kernel_rfl) 45 (.tmp 9) rfl (w3.heap.size) 0 rfl [.string u0, .string u1, .string u2, .string u3, .bool u4, .int .i64 u5, .bool u6, .slice ua un uc, .string u8, .string u9, .bool u10, .bool u11] _ HRu.out Tryz.underlying45 rfl sizeU) (by assumption) ?_
   (try simp only [Act.put, List.setIfInBounds_toArray, List.set_cons_zero, List.set_cons_succ])
   refine' wpAnyH_take (i := 8) (oi := ⟨some 36, _, _, _, _, _⟩) (v := _) rfl (by kernel_rfl) (by kernel_rfl) (by kernel_rfl) (fun _ _ _ h => h) (Or.inl ⟨by kernel_rfl, ?hyW43⟩) (by assumption) ?restW43
   case hyW43 => (intro wx hSw; (try dsimp only at hSw); go_simp; first | done | with_reducible rfl)
   (try simp only [Act.put, List.setIfInBounds_toArray, List.set_cons_zero, List.set_cons_succ])
   refine wpAnyH_take (i := 10) (oi := ⟨some 38, _, _, _, _, _⟩) rfl (by kernel_rfl) (by kernel_rfl) (by kernel_rfl) (fun _ _ _ h => h) (yieldsIf_load_mid (by kernel_rfl) 45 (.tmp 7) rfl (w1.heap.size) 0 rfl [.string d0, .string d1, .string d2, .string d3, .bool d4, .int .i64 d5, .bool d6, .slice da dn dc, .string d8, .string d9, .bool d10, .bool d11] _ HRp.out Tryz.underlying45 rfl sizeU) (by assumption) ?_
   (try simp only [Act.put, List.setIfInBounds_toArray, List.set_cons_zero, List.set_cons_succ])
   refine wpAnyH_take (i := 11) (oi := ⟨some 39, _, _, _, _, _⟩) rfl (by kernel_rfl) (by kernel_rfl) (by kernel_rfl) (fun _ _ _ h => h) (yieldsIf_load_mid (by kernel_rfl) 45 (.tmp 9) rfl (w3.heap.size) 0 rfl [.string u0, .string u1, .string u2, .string u3, .bool u4, .int .i64 u5, .bool u6, .slice ua un uc, .string u8, .string u9, .bool u10, .bool u11] _ HRu.out Tryz.underlying45 rfl sizeU) (by assumption) ?_
   (try simp only [Act.put, List.setIfInBounds_toArray, List.set_cons_zero, List.set_cons_succ])
   refine' wpAnyH_take (i := 12) (oi := ⟨some 40, _, _, _, _, _⟩) (v := _) rfl (by kernel_rfl) (by kernel_rfl) (by kernel_rfl) (fun _ _ _ h => h) (Or.inl ⟨by kernel_rfl, ?hyW44⟩) (by assumption) ?restW44
   case hyW44 => (intro wx hSw; (try dsimp only at hSw); go_simp; first | done | with_reducible rfl)
   (try simp only [Act.put, List.setIfInBounds_toArray, List.set_cons_zero, List.set_cons_succ])
   refine wpAnyH_ready (rs := [9]) (by kernel_rfl) (by simp) ?_
   refine AllReadyH.cons rfl (fun K9 hK => ?_) AllReadyH.nil
   rw [if_pos (by kernel_rfl)]
   go_simp
   go_wp2_with (go_at_call 29; refine (H3.out _ HQ12.out).mono ?_; rintro e w13 ⟨rfl, hba⟩)
   have HQ13 := hid (below2 HQ12.out hba)
   clear hba
   refine hK.out _ _ HQ13.out (fun hHeld2 => ?_)
   clear hK K9 hHeld
   rename _ => hHeld
   refine wpAnyH_ready (rs := [13]) (by kernel_rfl) (by simp) ?_
   refine AllReadyH.cons rfl (fun K9 hK => ?_) AllReadyH.nil
   rw [if_pos (by kernel_rfl)]
   go_simp
   go_wp2_with (go_at_call 30; refine (H4.out _ HQ13.out).mono ?_; rintro e w14 ⟨rfl, hba⟩)
   have HQ14 := hid (below2 HQ13.out hba)
   clear hba
   refine hK.out _ _ HQ14.out (fun hHeld2 => ?_)
   clear hK K9 hHeld
   rename _ => hHeld
   refine' wpAnyH_take (i := 14) (oi := ⟨some 42, _, _, _, _, _⟩) (v := _) rfl (by kernel_rfl) (by kernel_rfl) (by kernel_rfl) (fun _ _ _ h => h) (Or.inl ⟨by kernel_rfl, ?hyW45⟩) (by assumption) ?restW45
   case hyW45 => (intro wx hSw; (try dsimp only at hSw); go_simp; first | done | with_reducible rfl)
   (try simp only [Act.put, List.setIfInBounds_toArray, List.set_cons_zero, List.set_cons_succ])
   refine' wpAnyH_take (i := 15) (oi := ⟨some 43, _, _, _, _, _⟩) (v := _) rfl (by kernel_rfl) (by kernel_rfl) (by kernel_rfl) (fun _ _ _ h => h) (Or.inl ⟨by kernel_rfl, ?hyW46⟩) (by assumption) ?restW46
   case hyW46 => (intro wx hSw; (try dsimp only at hSw); go_simp; first | done | with_reducible rfl)
   (try simp only [Act.put, List.setIfInBounds_toArray, List.set_cons_zero, List.set_cons_succ])
   refine' wpAnyH_take (i := 16) (oi := ⟨some 44, _, _, _, _, _⟩) (v := _) rfl (by kernel_rfl) (by kernel_rfl) (by kernel_rfl) (fun _ _ _ h => h) (Or.inl ⟨by kernel_rfl, ?hyW47⟩) (by assumption) ?restW47
   case hyW47 => (intro wx hSw; (try dsimp only at hSw); go_simp; first | done | with_reducible rfl)
   (try simp only [Act.put, List.setIfInBounds_toArray, List.set_cons_zero, List.set_cons_succ])
   refine wpAnyH_take (i := 17) (oi := ⟨some 45, _, _, _, _, _⟩) rfl (by kernel_rfl) (by kernel_rfl) (by kernel_rfl) (fun _ _ _ h => h) (yieldsIf_load_mid (by kernel_rfl) 45 (.tmp 9) rfl (w3.heap.size) 0 rfl [.string u0, .string u1, .string u2, .string u3, .bool u4, .int .i64 u5, .bool u6, .slice ua un uc, .string u8, .string u9, .bool u10, .bool u11] _ HRu.out Tryz.underlying45 rfl sizeU) (by assumption) ?_
   (try simp only [Act.put, List.setIfInBounds_toArray, List.set_cons_zero, List.set_cons_succ])
   refine wpAnyH_take (i := 19) (oi := ⟨some 47, _, _, _, _, _⟩) rfl (by kernel_rfl) (by kernel_rfl) (by kernel_rfl) (fun _ _ _ h => h) (yieldsIf_load_mid (by kernel_rfl) 45 (.tmp 9) rfl (w3.heap.size) 0 rfl [.string u0, .string u1, .string u2, .string u3, .bool u4, .int .i64 u5, .bool u6, .slice ua un uc, .string u8, .string u9, .bool u10, .bool u11] _ HRu.out Tryz.underlying45 rfl sizeU) (by assumption) ?_
   (try simp only [Act.put, List.setIfInBounds_toArray, List.set_cons_zero, List.set_cons_succ])
   refine wpAnyH_ready (rs := [18]) (by kernel_rfl) (by simp) ?_
   refine AllReadyH.cons rfl (fun K9 hK => ?_) AllReadyH.nil
   rw [if_pos (by kernel_rfl)]
   go_simp
   go_wp2_with (go_at_call 32; refine (H5.out _ HQ14.out).mono ?_; rintro e w15 ⟨gv, rfl, hpg, hba⟩)
   have HQ15 := hid (below2 HQ14.out hba)
   have HPg := hid hpg
   clear hpg
   clear hba
   refine hK.out _ _ HQ15.out (fun hHeld2 => ?_)
   clear hK K9 hHeld
   rename _ => hHeld
   refine wpAnyH_ready (rs := [20]) (by kernel_rfl) (by simp) ?_
   refine AllReadyH.cons rfl (fun K9 hK => ?_) AllReadyH.nil
   rw [if_pos (by kernel_rfl)]
   go_simp
   go_wp2_with (go_at_call 33; refine (H6.out _ HQ15.out).mono ?_; rintro e w16 ⟨kv, rfl, hpg, hba⟩)
   have HQ16 := hid (below2 HQ15.out hba)
   have HSg := hid (same3_any R gv kv w16 (HPg.out.kept hba) hpg HLn.out)
   clear hpg
   clear hba
   refine hK.out _ _ HQ16.out (fun hHeld2 => ?_)
   clear hK K9 hHeld
   rename _ => hHeld
   refine wpAnyH_ready (rs := [21]) (by kernel_rfl) (by simp) ?_
   refine AllReadyH.cons rfl (fun K9 hK => ?_) AllReadyH.nil
   rw [if_pos (by kernel_rfl)]
   go_simp
   go_wp2_with (go_at_call 31; refine (HSg.out).mono ?_; rintro e w17 ⟨rfl, hba⟩)
   have HQ17 := hid (below2 HQ16.out hba)
   clear hba
   refine hK.out _ _ HQ17.out (fun hHeld2 => ?_)
   clear hK K9 hHeld
   rename _ => hHeld
   refine' wpAnyH_take (i := 22) (oi := ⟨some 50, _, _, _, _, _⟩) (v := _) rfl (by kernel_rfl) (by kernel_rfl) (by kernel_rfl) (fun _ _ _ h => h) (Or.inl ⟨by kernel_rfl, ?hyW48⟩) (by assumption) ?restW48
   case hyW48 => (intro wx hSw; (try dsimp only at hSw); go_simp; first | done | with_reducible rfl)
   (try simp only [Act.put, List.setIfInBounds_toArray, List.set_cons_zero, List.set_cons_succ])
   refine' wpAnyH_take (i := 23) (oi := ⟨some 51, _, _, _, _, _⟩) (v := _) rfl (by kernel_rfl) (by kernel_rfl) (by kernel_rfl) (fun _ _ _ h => h) (Or.inl ⟨by kernel_rfl, ?hyW49⟩) (by assumption) ?restW49
   case hyW49 => (intro wx hSw; (try dsimp only at hSw); go_simp; first | done | with_reducible rfl)
   (try simp only [Act.put, List.setIfInBounds_toArray, List.set_cons_zero, List.set_cons_succ])
   refine wpAnyH_ready (rs := [24]) (by kernel_rfl) (by simp) ?_
   refine AllReadyH.cons rfl (fun K9 hK => ?_) AllReadyH.nil
   rw [if_pos (by kernel_rfl)]
   go_simp
   go_wp2_with (go_at_call 28; refine (HK9.out _ HQ17.out).mono ?_; rintro e w18 ⟨rfl, hba⟩)
   have HQ18 := hid (below2 HQ17.out hba)
   clear hba
   refine hK.out _ _ HQ18.out (fun hHeld2 => ?_)
   clear hK K9 hHeld
   rename _ => hHeld
   refine' wpAnyH_take (i := 25) (oi := ⟨some 53, _, _, _, _, _⟩) (v := _) rfl (by kernel_rfl) (by kernel_rfl) (by kernel_rfl) (fun _ _ _ h => h) (Or.inl ⟨by kernel_rfl, ?hyW410⟩) (by assumption) ?restW410
   case hyW410 => (intro wx hSw; (try dsimp only at hSw); go_simp; first | done | with_reducible rfl)
   (try simp only [Act.put, List.setIfInBounds_toArray, List.set_cons_zero, List.set_cons_succ])
   refine' wpAnyH_take (i := 26) (oi := ⟨some 6, _, _, _, _, _⟩) (v := _) rfl (by kernel_rfl) (by kernel_rfl) (by kernel_rfl) (fun _ _ _ h => h) (Or.inl ⟨by kernel_rfl, ?hyW411⟩) (by assumption) ?restW411
   case hyW411 => (intro wx hSw; (try dsimp only at hSw); go_simp; first | done | with_reducible rfl)
   (try simp only [Act.put, List.setIfInBounds_toArray, List.set_cons_zero, List.set_cons_succ])
   refine wpAnyH_done (by kernel_rfl) ?_ _
   go_wp2
   go_ret
   exact ⟨rfl, below2 HB4.out HQ18.out⟩

end Go.Proofs.YtmhooefajdndjaaGreatDoor

namespace Go.Proofs.YtmhooefajdndjaaGreatDoor
open Go.RowKit

theorem mj_0 : judA [104, 116, 116, 112, 115, 58, 47, 47, 97, 47] [104, 116, 116, 112, 58, 47, 47, 108, 111, 99, 97, 108, 104, 111, 115, 116, 47] 2 = 1 := by decide +kernel

theorem mj_1 : judA [104, 116, 116, 112, 115, 58, 47, 47, 97, 47] [104, 116, 116, 112, 58, 47, 47, 49, 46, 50, 46, 51, 46, 52, 47] 4 = 3 := by decide +kernel

theorem mj_2 : judA [104, 116, 116, 112, 115, 58, 47, 47, 97, 47] [119, 115, 58, 47, 47, 98, 47] 1 = 3 := by decide +kernel

theorem mj_3 : judA [104, 116, 116, 112, 115, 58, 47, 47, 97, 47] [100, 97, 116, 97, 58, 120] 2 = 1 := by decide +kernel

theorem mb_0 : badA [100, 97, 116, 97, 58, 120] = false := by decide +kernel

theorem mb_1 : badA [102, 116, 112, 58, 47, 47, 104, 47] = false := by decide +kernel

theorem mb_2 : badA [102, 116, 112, 58, 47, 47, 104, 58, 50, 50, 47] = true := by decide +kernel

def NumI (w1 : World) (A : Adr) (sv : Value) (wr : World) : Prop := Below w1.heap.size w1 wr ∧ ∃ P : Int, AdrIn wr w1.heap.size { A with port := P } sv

set_option maxHeartbeats 16000000 in
set_option maxRecDepth 100000 in
theorem mixedNumbers_walk (w : World) (hg : Gd w) :
  Calls Tryz.prog 6 #[] w fun e w' => e = .returned (.bool true) ∧ Below w.heap.size w w' := by
 have HU := hid (fun w => url_k (⟨#[104, 116, 116, 112, 58, 47, 47, 104, 58, 53, 47]⟩ : ByteArray) w (by decide))
 have HG0 := hid hg
 unfold UPost at HU
 generalize urlV (⟨#[104, 116, 116, 112, 58, 47, 47, 104, 58, 53, 47]⟩ : ByteArray).data.toList = ru at HU
 generalize isOk ru = ok1 at HU
 generalize adrOf ru = A at HU
 have HJ0 := hid (judgeL_at (⟨#[104, 116, 116, 112, 115, 58, 47, 47, 97, 47]⟩ : ByteArray) (⟨#[104, 116, 116, 112, 58, 47, 47, 108, 111, 99, 97, 108, 104, 111, 115, 116, 47]⟩ : ByteArray) _ _ 2 1 rfl rfl mj_0 (by decide) (by decide))
 have HJ1 := hid (judgeL_at (⟨#[104, 116, 116, 112, 115, 58, 47, 47, 97, 47]⟩ : ByteArray) (⟨#[104, 116, 116, 112, 58, 47, 47, 49, 46, 50, 46, 51, 46, 52, 47]⟩ : ByteArray) _ _ 4 3 rfl rfl mj_1 (by decide) (by decide))
 have HJ2 := hid (judgeL_at (⟨#[104, 116, 116, 112, 115, 58, 47, 47, 97, 47]⟩ : ByteArray) (⟨#[119, 115, 58, 47, 47, 98, 47]⟩ : ByteArray) _ _ 1 3 rfl rfl mj_2 (by decide) (by decide))
 have HJ3 := hid (judgeL_at (⟨#[104, 116, 116, 112, 115, 58, 47, 47, 97, 47]⟩ : ByteArray) (⟨#[100, 97, 116, 97, 58, 120]⟩ : ByteArray) _ _ 2 1 rfl rfl mj_3 (by decide) (by decide))
 have HK0 := hid (badL_at (⟨#[100, 97, 116, 97, 58, 120]⟩ : ByteArray) _ false rfl mb_0 (by decide))
 have HK1 := hid (badL_at (⟨#[102, 116, 112, 58, 47, 47, 104, 47]⟩ : ByteArray) _ false rfl mb_1 (by decide))
 have HK2 := hid (badL_at (⟨#[102, 116, 112, 58, 47, 47, 104, 58, 50, 50, 47]⟩ : ByteArray) _ true rfl mb_2 (by decide))
 clear hg
 go_enter Tryz.func6, Tryz.ntmps6
 go_wp2_with fail
 refine (HU.out _).mono ?_
 rintro e w1 ⟨pv, rfl, hown, hb1⟩
 obtain ⟨da, dn, dc, rfl⟩ := own_sl hown
 obtain ⟨d0, d1, d2, d3, d4, d5, d6, d8, d9, d10, d11, hxd, -, -, hx5, -⟩ := adr_named A da dn dc
 have hvd : adrVal A (.slice da dn dc) = .agg #[.string d0, .string d1, .string d2, .string d3, .bool d4, .int .i64 d5, .bool d6, .slice da dn dc, .string d8, .string d9, .bool d10, .bool d11] := by unfold adrVal; rw [hxd]
 rw [hvd]
 obtain ⟨W2, hW2⟩ : ∃ X, (w1.alloc (.cells #[.string d0, .string d1, .string d2, .string d3, .bool d4, .int .i64 d5, .bool d6, .slice da dn dc, .string d8, .string d9, .bool d10, .bool d11] 45)) = X := ⟨_, rfl⟩
 have hbW2 : Below w1.heap.size w1 W2 := by rw [← hW2]; exact (Below.refl _ w1).alloc (Nat.le_refl _) _
 have hsW2 : W2.heap.size = w1.heap.size + 1 := by rw [← hW2]; simp
 have hAW2 : AdrIn W2 w1.heap.size A (.slice da dn dc) := by
  unfold AdrIn
  rw [hxd, ← hW2]
  exact heap_alloc_new w1 _
 have HI2 := hid (show NumI w1 A (.slice da dn dc) W2 from ⟨hbW2, A.port, hAW2⟩)
 have HB1 := hid hb1
 have HG1 := hid (HG0.out.kept hb1)
 have HP1 := hid (own_path hown)
 have HXd := hid hxd
 have HX5 := hid hx5
 clear hown hb1 hbW2 hAW2 hxd hvd hsW2 hx5
 go_wp2_with fail
 go_loopw [3] (fun i wr => ∃ k : Nat, k ≤ 11000 ∧ i = .int .i64 k ∧ NumI w1 A (.slice da dn dc) wr) (fun i _ => 11000 - (intOf i).toNat)
 case atStart => exact ⟨0, by omega, rfl, HI2.out⟩
 case round =>
  obtain ⟨k, hk, rfl, hbr, P, hAr⟩ := hrel
  by_cases hlt : k < 11000
  ·have hlt' : (k : Int) < 11000 := by omega
   have k5 := hAr.cell 5 _ (show (adrCells { A with port := P } (.slice da dn dc))[5]? = some (.int .i64 P) from rfl)
   have f5 := hAr.frozen 5
   obtain ⟨W5, hW5⟩ : ∃ X, wr.setCell ⟨w1.heap.size, 5, none⟩ (.int .i64 k) = X := ⟨_, rfl⟩
   have hA5 : AdrIn W5 w1.heap.size { A with port := (k : Int) } (.slice da dn dc) := by rw [← hW5]; exact hAr.set 5 _ rfl
   have hb5 : Below w1.heap.size w1 W5 := by rw [← hW5]; exact hbr.setCell (p := ⟨w1.heap.size, 5, none⟩) (Nat.le_refl _) _
   have hP5 := HP1.out.kept hb5
   have hxk : adrCells { A with port := (k : Int) } (.slice da dn dc) = [.string d0, .string d1, .string d2, .string d3, .bool d4, .int .i64 (k : Int), .bool d6, .slice da dn dc, .string d8, .string d9, .bool d10, .bool d11] := by
    have : adrCells { A with port := (k : Int) } (.slice da dn dc) = (adrCells A (.slice da dn dc)).set 5 (.int .i64 k) := rfl
    rw [this, HXd.out]
    rfl
   have hvk : adrVal { A with port := (k : Int) } (.slice da dn dc) = .agg #[.string d0, .string d1, .string d2, .string d3, .bool d4, .int .i64 (k : Int), .bool d6, .slice da dn dc, .string d8, .string d9, .bool d10, .bool d11] := by unfold adrVal; rw [hxk]
   have HRu := hid (show ∀ Z, Below W5.heap.size W5 Z → Z.rangeAt (w1.heap.size) 0 [.string d0, .string d1, .string d2, .string d3, .bool d4, .int .i64 (k : Int), .bool d6, .slice da dn dc, .string d8, .string d9, .bool d10, .bool d11] from fun Z hZ => by
    have := range_row (show Z.heap[w1.heap.size]? = some (.cells (adrCells { A with port := (k : Int) } (.slice da dn dc)).toArray 45 (0, 0)) from hA5.kept hZ)
    rw [hxk] at this
    exact this)
   have H1 := hid (fun (Z : World) (hZ : Below W5.heap.size W5 Z) => bad14_any { A with port := (k : Int) } (.slice da dn dc) Z (hP5.kept hZ))
   have H2 := hid (fun (Z : World) (hZ : Below W5.heap.size W5 Z) => rbad14_any { A with port := (k : Int) } (.slice da dn dc) Z (hP5.kept hZ))
   rw [hvk] at H1 H2
   generalize badU { A with port := (k : Int) } = bu at H1 H2
   have HA5 := hid hA5
   have HB5 := hid hb5
   have HQ0 := hid ((Below.refl W5.heap.size W5).drew)
   clear hAr hbr hA5 hb5 hP5 hxk hvk
   by_cases h80 : k = 80
   ·have h80' : ((k : Int) != 80) = false := by rw [h80]; rfl
    clear h80
    go_upto_region 6 with fail
    refine wp_region_held_drew (S := (fun wx => Below W5.heap.size W5 wx)) (by kernel_rfl) HQ0.out (fun hHeld => ?_)
    refine wpAnyH_to (fuel' := 9) (listed' := #[false, false, false, false, false, false, false, false, false]) rfl rfl ?_
    refine' wpAnyH_take (i := 0) (oi := ⟨some 14, _, _, _, _, _⟩) (v := _) rfl (by kernel_rfl) (by kernel_rfl) (by kernel_rfl) (fun _ _ _ h => h) (Or.inl ⟨by kernel_rfl, ?hyW51⟩) (by assumption) ?restW51
    case hyW51 => (intro wx hSw; (try dsimp only at hSw); go_simp; first | done | with_reducible rfl)
    (try simp only [Act.put, List.setIfInBounds_toArray, List.set_cons_zero, List.set_cons_succ])
    refine' wpAnyH_take (i := 1) (oi := ⟨some 15, _, _, _, _, _⟩) (v := _) rfl (by kernel_rfl) (by kernel_rfl) (by kernel_rfl) (fun _ _ _ h => h) (Or.inl ⟨by kernel_rfl, ?hyW52⟩) (by assumption) ?restW52
    case hyW52 => (intro wx hSw; (try dsimp only at hSw); go_simp; first | done | with_reducible rfl)
    (try simp only [Act.put, List.setIfInBounds_toArray, List.set_cons_zero, List.set_cons_succ])
    refine' wpAnyH_take (i := 2) (oi := ⟨some 16, _, _, _, _, _⟩) (v := _) rfl (by kernel_rfl) (by kernel_rfl) (by kernel_rfl) (fun _ _ _ h => h) (Or.inl ⟨by kernel_rfl, ?hyW53⟩) (by assumption) ?restW53
    case hyW53 => (intro wx hSw; (try dsimp only at hSw); go_simp; first | done | with_reducible rfl)
    (try simp only [Act.put, List.setIfInBounds_toArray, List.set_cons_zero, List.set_cons_succ])
    refine wpAnyH_take (i := 3) (oi := ⟨some 17, _, _, _, _, _⟩) (v := undef) rfl (by kernel_rfl) (by kernel_rfl) (by kernel_rfl) (fun _ _ _ h => h) (Or.inr ⟨by kernel_rfl, by kernel_rfl⟩) (by assumption) ?_
    (try simp only [Act.put, List.setIfInBounds_toArray, List.set_cons_zero, List.set_cons_succ])
    refine wpAnyH_take (i := 4) (oi := ⟨some 18, _, _, _, _, _⟩) (v := undef) rfl (by kernel_rfl) (by kernel_rfl) (by kernel_rfl) (fun _ _ _ h => h) (Or.inr ⟨by kernel_rfl, by kernel_rfl⟩) (by assumption) ?_
    (try simp only [Act.put, List.setIfInBounds_toArray, List.set_cons_zero, List.set_cons_succ])
    refine wpAnyH_take (i := 5) (oi := ⟨some 19, _, _, _, _, _⟩) (v := undef) rfl (by kernel_rfl) (by kernel_rfl) (by kernel_rfl) (fun _ _ _ h => h) (Or.inr ⟨by kernel_rfl, by kernel_rfl⟩) (by assumption) ?_
    (try simp only [Act.put, List.setIfInBounds_toArray, List.set_cons_zero, List.set_cons_succ])
    refine wpAnyH_take (i := 6) (oi := ⟨some 20, _, _, _, _, _⟩) (v := undef) rfl (by kernel_rfl) (by kernel_rfl) (by kernel_rfl) (fun _ _ _ h => h) (Or.inr ⟨by kernel_rfl, by kernel_rfl⟩) (by assumption) ?_
    (try simp only [Act.put, List.setIfInBounds_toArray, List.set_cons_zero, List.set_cons_succ])
    refine wpAnyH_take (i := 7) (oi := ⟨some 21, _, _, _, _, _⟩) (v := undef) rfl (by kernel_rfl) (by kernel_rfl) (by kernel_rfl) (fun _ _ _ h => h) (Or.inr ⟨by kernel_rfl, by kernel_rfl⟩) (by assumption) ?_
    (try simp only [Act.put, List.setIfInBounds_toArray, List.set_cons_zero, List.set_cons_succ])
    refine' wpAnyH_take (i := 8) (oi := ⟨some 22, _, _, _, _, _⟩) (v := _) rfl (by kernel_rfl) (by kernel_rfl) (by kernel_rfl) (fun _ _ _ h => h) (Or.inl ⟨by kernel_rfl, ?hyW54⟩) (by assumption) ?restW54
    case hyW54 => (intro wx hSw; (try dsimp only at hSw); go_simp; first | done | with_reducible rfl)
    (try simp only [Act.put, List.setIfInBounds_toArray, List.set_cons_zero, List.set_cons_succ])
    refine wpAnyH_done (by kernel_rfl) ?_ _
    go_wp2_with fail
    go_roundw
    case rel => exact ⟨k + 1, by omega, by go_num, below2 HB5.out (Below.refl _ _).drew, _, HA5.out⟩
    case measure => simp [intOf]; omega
   ·have h80' : ((k : Int) != 80) = true := by rw [bne_iff_ne]; omega
    clear h80
    go_upto_region 6 with fail
    refine wp_region_held_drew (S := (fun wx => Below W5.heap.size W5 wx)) (by kernel_rfl) HQ0.out (fun hHeld => ?_)
    refine wpAnyH_to (fuel' := 9) (listed' := #[false, false, false, false, false, false, false, false, false]) rfl rfl ?_
    refine' wpAnyH_take (i := 0) (oi := ⟨some 14, _, _, _, _, _⟩) (v := _) rfl (by kernel_rfl) (by kernel_rfl) (by kernel_rfl) (fun _ _ _ h => h) (Or.inl ⟨by kernel_rfl, ?hyW551⟩) (by assumption) ?restW551
    case hyW551 => (intro wx hSw; (try dsimp only at hSw); go_simp; first | done | with_reducible rfl)
    (try simp only [Act.put, List.setIfInBounds_toArray, List.set_cons_zero, List.set_cons_succ])
    refine' wpAnyH_take (i := 1) (oi := ⟨some 15, _, _, _, _, _⟩) (v := _) rfl (by kernel_rfl) (by kernel_rfl) (by kernel_rfl) (fun _ _ _ h => h) (Or.inl ⟨by kernel_rfl, ?hyW552⟩) (by assumption) ?restW552
    case hyW552 => (intro wx hSw; (try dsimp only at hSw); go_simp; first | done | with_reducible rfl)
    (try simp only [Act.put, List.setIfInBounds_toArray, List.set_cons_zero, List.set_cons_succ])
    refine' wpAnyH_take (i := 2) (oi := ⟨some 16, _, _, _, _, _⟩) (v := _) rfl (by kernel_rfl) (by kernel_rfl) (by kernel_rfl) (fun _ _ _ h => h) (Or.inl ⟨by kernel_rfl, ?hyW553⟩) (by assumption) ?restW553
    case hyW553 => (intro wx hSw; (try dsimp only at hSw); go_simp; first | done | with_reducible rfl)
    (try simp only [Act.put, List.setIfInBounds_toArray, List.set_cons_zero, List.set_cons_succ])
    refine wpAnyH_take (i := 3) (oi := ⟨some 17, _, _, _, _, _⟩) rfl (by kernel_rfl) (by kernel_rfl) (by kernel_rfl) (fun _ _ _ h => h) (yieldsIf_load_mid (by kernel_rfl) 45 (.tmp 1) rfl (w1.heap.size) 0 rfl [.string d0, .string d1, .string d2, .string d3, .bool d4, .int .i64 (k : Int), .bool d6, .slice da dn dc, .string d8, .string d9, .bool d10, .bool d11] _ HRu.out Tryz.underlying45 rfl sizeU) (by assumption) ?_
    (try simp only [Act.put, List.setIfInBounds_toArray, List.set_cons_zero, List.set_cons_succ])
    refine wpAnyH_take (i := 5) (oi := ⟨some 19, _, _, _, _, _⟩) rfl (by kernel_rfl) (by kernel_rfl) (by kernel_rfl) (fun _ _ _ h => h) (yieldsIf_load_mid (by kernel_rfl) 45 (.tmp 1) rfl (w1.heap.size) 0 rfl [.string d0, .string d1, .string d2, .string d3, .bool d4, .int .i64 (k : Int), .bool d6, .slice da dn dc, .string d8, .string d9, .bool d10, .bool d11] _ HRu.out Tryz.underlying45 rfl sizeU) (by assumption) ?_
    (try simp only [Act.put, List.setIfInBounds_toArray, List.set_cons_zero, List.set_cons_succ])
    refine wpAnyH_ready (rs := [4]) (by kernel_rfl) (by simp) ?_
    refine AllReadyH.cons rfl (fun K9 hK => ?_) AllReadyH.nil
    rw [if_pos (by kernel_rfl)]
    go_simp
    go_wp2_with (go_at_call 24; refine (H1.out _ HQ0.out).mono ?_; rintro e w11 ⟨rfl, hba⟩)
    have HQ11 := hid (below2 HQ0.out hba)
    clear hba
    refine hK.out _ _ HQ11.out (fun hHeld2 => ?_)
    clear hK K9 hHeld
    rename _ => hHeld
    refine wpAnyH_ready (rs := [6]) (by kernel_rfl) (by simp) ?_
    refine AllReadyH.cons rfl (fun K9 hK => ?_) AllReadyH.nil
    rw [if_pos (by kernel_rfl)]
    go_simp
    go_wp2_with (go_at_call 25; refine (H2.out _ HQ11.out).mono ?_; rintro e w12 ⟨rfl, hba⟩)
    have HQ12 := hid (below2 HQ11.out hba)
    clear hba
    refine hK.out _ _ HQ12.out (fun hHeld2 => ?_)
    clear hK K9 hHeld
    rename _ => hHeld
    refine' wpAnyH_take (i := 7) (oi := ⟨some 21, _, _, _, _, _⟩) (v := _) rfl (by kernel_rfl) (by kernel_rfl) (by kernel_rfl) (fun _ _ _ h => h) (Or.inl ⟨by kernel_rfl, ?hyW554⟩) (by assumption) ?restW554
    case hyW554 => (intro wx hSw; (try dsimp only at hSw); go_simp; first | done | with_reducible rfl)
    (try simp only [Act.put, List.setIfInBounds_toArray, List.set_cons_zero, List.set_cons_succ])
    refine' wpAnyH_take (i := 8) (oi := ⟨some 22, _, _, _, _, _⟩) (v := _) rfl (by kernel_rfl) (by kernel_rfl) (by kernel_rfl) (fun _ _ _ h => h) (Or.inl ⟨by kernel_rfl, ?hyW555⟩) (by assumption) ?restW555
    case hyW555 => (intro wx hSw; (try dsimp only at hSw); go_simp; first | done | with_reducible rfl)
    (try simp only [Act.put, List.setIfInBounds_toArray, List.set_cons_zero, List.set_cons_succ])
    refine wpAnyH_done (by kernel_rfl) ?_ _
    go_wp2_with fail
    go_roundw
    case rel => exact ⟨k + 1, by omega, by go_num, below2 HB5.out HQ12.out, _, HA5.out.kept HQ12.out⟩
    case measure => simp [intOf]; omega
  ·have hlt' : decide ((k : Int) < 11000) = false := by rw [decide_eq_false_iff_not]; omega
   have HBr := hid (below2 HB1.out hbr)
   have HGr := hid (HG0.out.kept HBr.out)
   clear hbr hAr
   go_wp2_with fail
   refine (HK0.out _).mono ?_
   rintro e u1 ⟨rfl, hb1⟩
   have HB1x := hid (below2 HBr.out hb1)
   have HG1x := hid (HGr.out.kept hb1)
   clear hb1
   go_wp2_with fail
   refine (HK1.out _).mono ?_
   rintro e u2 ⟨rfl, hb2⟩
   have HB2x := hid (below2 HB1x.out hb2)
   have HG2x := hid (HG1x.out.kept hb2)
   clear hb2
   go_wp2_with fail
   refine (HK2.out _).mono ?_
   rintro e u3 ⟨rfl, hb3⟩
   have HB3x := hid (below2 HB2x.out hb3)
   have HG3x := hid (HG2x.out.kept hb3)
   clear hb3
   go_wp2_with fail
   refine (HJ0.out _ HG3x.out).mono ?_
   rintro e u4 ⟨rfl, hb4⟩
   have HB4x := hid (below2 HB3x.out hb4)
   have HG4x := hid (HG3x.out.kept hb4)
   clear hb4
   go_wp2_with fail
   refine (HJ1.out _ HG4x.out).mono ?_
   rintro e u5 ⟨rfl, hb5⟩
   have HB5x := hid (below2 HB4x.out hb5)
   have HG5x := hid (HG4x.out.kept hb5)
   clear hb5
   go_wp2_with fail
   refine (HJ2.out _ HG5x.out).mono ?_
   rintro e u6 ⟨rfl, hb6⟩
   have HB6x := hid (below2 HB5x.out hb6)
   have HG6x := hid (HG5x.out.kept hb6)
   clear hb6
   go_wp2_with fail
   refine (HJ3.out _ HG6x.out).mono ?_
   rintro e u7 ⟨rfl, hb7⟩
   have HB7x := hid (below2 HB6x.out hb7)
   have HG7x := hid (HG6x.out.kept hb7)
   clear hb7
   go_wp2_with fail
   refine (known14_any _ HG7x.out).mono ?_
   rintro e u8 ⟨rfl, hb8⟩
   go_wp2
   go_ret
   exact ⟨rfl, below2 HB7x.out hb8⟩

end Go.Proofs.YtmhooefajdndjaaGreatDoor

namespace Go.Proofs.YtmhooefajdndjaaGreatDoor
theorem hexD_facts : ∀ k, k < 16 → is16I (hexD k).toNat = true ∧ val16I (hexD k).toNat = k := by decide +kernel

theorem unpct_esc (c : UInt8) (r : List UInt8) : unpct (esc c ++ r) = c :: unpct r := by
 have hc := c.toNat_lt
 have h1 := hexD_facts (c.toNat / 16) (by omega)
 have h2 := hexD_facts (c.toNat % 16) (by omega)
 have e : pcd (37 :: hexD (c.toNat / 16) :: hexD (c.toNat % 16) :: r) = (c, true) := by
  rw [pcd_three, h1.1, h2.1, h1.2, h2.2]
  simp only [Bool.and_self, if_true]
  congr 1
  apply UInt8.toNat_inj.1
  simp
  omega
 show unpct (37 :: (hexD (c.toNat / 16) :: hexD (c.toNat % 16) :: r)) = _
 rw [unpct_cons, e]
 rfl

end Go.Proofs.YtmhooefajdndjaaGreatDoor
