/-
  Walks and plain facts that this claim leans on, put together out of 1 texts: Ern5.
-/
import Derived.Test.YtamockkjbkibdaaGreatDoorProg
import Derived.Test.YtamockkjbkibdaaGreatDoorQa1
import Derived.Test.YtamockkjbkibdaaGreatDoorQa2
import Derived.Test.YtamockkjbkibdaaGreatDoorQa3
import Derived.Test.YtamockkjbkibdaaGreatDoorQa4
import Derived.Test.YtamockkjbkibdaaGreatDoorQa5
import Derived.Test.YtamockkjbkibdaaGreatDoorQa6
import Derived.Test.YtamockkjbkibdaaGreatDoorQa7
import Derived.Test.YtamockkjbkibdaaGreatDoorQa8
import Derived.Test.YtamockkjbkibdaaGreatDoorQa9
import Derived.Test.YtamockkjbkibdaaGreatDoorQa10
import Derived.Test.YtamockkjbkibdaaGreatDoorQa11
import Derived.Test.YtamockkjbkibdaaGreatDoorQa12
import Derived.Test.YtamockkjbkibdaaGreatDoorQa13
import Derived.Test.YtamockkjbkibdaaGreatDoorQa14
import Derived.Test.YtamockkjbkibdaaGreatDoorQa15
import Derived.Test.YtamockkjbkibdaaGreatDoorQa16
import Derived.Test.YtamockkjbkibdaaGreatDoorQa17
import Derived.Test.YtamockkjbkibdaaGreatDoorQa18
import Derived.Test.YtamockkjbkibdaaGreatDoorQa19
import Derived.Test.YtamockkjbkibdaaGreatDoorQa20
import Derived.Test.YtamockkjbkibdaaGreatDoorQa21
import Derived.Test.YtamockkjbkibdaaGreatDoorQa22
import Derived.Test.YtamockkjbkibdaaGreatDoorQa23
import Derived.Test.YtamockkjbkibdaaGreatDoorQa24
import Derived.Test.YtamockkjbkibdaaGreatDoorQa25
import Derived.Test.YtamockkjbkibdaaGreatDoorQa26
import Derived.Test.YtamockkjbkibdaaGreatDoorQa27
import Derived.Test.YtamockkjbkibdaaGreatDoorQa28
import Derived.Test.YtamockkjbkibdaaGreatDoorQj1
import Derived.Test.YtamockkjbkibdaaGreatDoorQj2
import Derived.Test.YtamockkjbkibdaaGreatDoorQj3
import Derived.Test.YtamockkjbkibdaaGreatDoorQj4
import Derived.Test.YtamockkjbkibdaaGreatDoorQj5
import Derived.Test.YtamockkjbkibdaaGreatDoorQj6
import Derived.Test.YtamockkjbkibdaaGreatDoorQj7
import Derived.Deep.Cut
import Derived.Deep.QuietTactic
import Derived.BigQuiet
import Derived.BigRegion
import Derived.Deep.RegionHeld
import Derived.Deep.CutRange
import Derived.Lib.IndexMore
import Derived.Lib.Join
import Derived.Lib.LastIndexByte
import Derived.WalkKit
import Derived.Lib.Strings
import Derived.Lib.UnsafeStr
import Derived.Laws.IdiomStrings
import Derived.Laws.AppendOwn
import Derived.Laws.BitsAllLaws
import Derived.Lib.Bytealg
import Derived.Lib.BufferMore
import Derived.Lib.BufferRead
import Derived.Lib.RuneBytes
import Derived.Laws.RangeAny
import Derived.LoopN
import Derived.RegionTactic
import Derived.Deep.RegionWith
import Derived.OwnWalk
import Derived.Deep.RegionLaw
import Derived.Laws.OwnMore
import Derived.Deep.LoopGhost
import Derived.Shelf.Strings.Builder1
import Derived.Shelf.Strings.Builder2
import Derived.Shelf.Strings.OnBuilder
import Derived.Shelf.Strings.Trim
import Derived.Shelf.Small.Utf8
import Derived.Shelf.Small.Strs
import Derived.Shelf.Small.Wraps
import Derived.Shelf.Strings.BuilderF
import Derived.Shelf.Strings.BuilderK
import Derived.Shelf.Strings.BuilderRune
import Derived.Shelf.Utf8.AppendRune
import Derived.Shelf.Utf8.AppendRunePlain
import Derived.Shelf.Strings.Builder2Cap
import Derived.Shelf.Strconv.Itoa0
import Derived.Shelf.Strconv.Itoa1
import Derived.Shelf.LaysM
import Derived.Shelf.Strconv.Itoa2
import Derived.Shelf.Strconv.Itoa3
import Derived.Shelf.Strings.Search1
import Derived.Shelf.Strings.Search2
import Derived.Shelf.Strings.Search3
import Derived.Shelf.Strings.Cut
import Derived.Shelf.Strings.Count
import Derived.Shelf.Strings.Shaped
import Derived.Shelf.Strings.LastIndex
import Derived.Shelf.Strings.Prefix
import Derived.Shelf.Strings.Split
import Derived.Shelf.Strings.Replace
import Derived.Shelf.Strings.Runes
import Derived.Shelf.Strings.IndexAny
import Derived.Shelf.Strings.AsciiSet
import Derived.Shelf.Strings.IndexAnyAll
import Derived.Shelf.Unicode.DecodeSlow
import Derived.Ground.Names2Prog
import Derived.Shelf.Slices.Clone
import Derived.Ground.SlgnProg
import Derived.Shelf.SlicesE.Clone
import Derived.Laws.AppendOwnNone
import Derived.Scope
import Derived.ScopeJumps
import Derived.WalkMore
import Derived.Lib.IndexAny
import Derived.Lib.Replace
import Derived.Lib.TrimByte
import Derived.Lib.ItoaNum
import Derived.Lib.DecodeN
import Derived.Lib.OthersKept
import Derived.Laws.BytesString
import Derived.Deep.WholeRow
import Derived.Lib.AppendStr
import Derived.WalkSpells
import Derived.WalkLawsBesides
import Derived.Lib.AppendIntMem
import Derived.Lib.SmallJoins
import Derived.WalkSmall
import Derived.Laws.CopyOwn
import Derived.Laws.ResultCell
import Derived.Deep.MidRow
import Derived.Lib.FrozenHead2
import Derived.Lib.Builder
import Derived.Lib.SlTrimSet
import Derived.Below
set_option linter.unusedSimpArgs false
set_option linter.unusedVariables false

namespace Go.Proofs.YtamockkjbkibdaaGreatDoor
open Go.RowKit

set_option maxHeartbeats 16000000 in
set_option maxRecDepth 100000 in
theorem urlJoins_walk (s b : ByteArray) (w : World) (hs : s.size ≤ 140737488351232) (hb : b.size ≤ 140737488351232) (hg : Gd w) :
  Calls Tryz.prog 3 #[.string s, .string b] w fun e w' => e = .returned (.bool true) ∧ Below w.heap.size w w' := by
 have HUr := hid (fun w => url_k b w (by omega))
 have HG0 := hid hg
 obtain ⟨F, hF⟩ : ∃ F : ByteArray, ⟨(s.data.toList.take 500).toArray⟩ = F := ⟨_, rfl⟩
 have hFs : F.size ≤ 500 := by rw [← hF, Lib.size_eq]; show (s.data.toList.take 500).length ≤ _; rw [List.length_take]; omega
 have HFw := hid (fun w => few_any s 500 w (by omega) (by omega))
 rw [hF] at HFw
 unfold UPost at HUr
 obtain ⟨rb, hrb⟩ : ∃ r, urlV b.data.toList = r := ⟨_, rfl⟩
 rw [hrb] at HUr
 clear hF hg
 cases rb with
 | error x =>
  simp only [isOk, adrOf] at HUr
  go_enter Tryz.func3, Tryz.ntmps3
  go_wp2_with fail
  refine (HUr.out _).mono ?_
  rintro e w1 ⟨pv, rfl, hown, hb1⟩
  obtain ⟨da, dn, dc, rfl⟩ := own_sl hown
  obtain ⟨d0, d1, d2, d3, d4, d5, d6, d8, d9, d10, d11, hxd⟩ := adr_cells Adr.zero da dn dc
  have hvd : adrVal Adr.zero (.slice da dn dc) = .agg #[.string d0, .string d1, .string d2, .string d3, .bool d4, .int .i64 d5, .bool d6, .slice da dn dc, .string d8, .string d9, .bool d10, .bool d11] := by unfold adrVal; rw [hxd]
  rw [hvd]
  obtain ⟨W2, hW2⟩ : ∃ X, (w1.alloc (.cells #[.string d0, .string d1, .string d2, .string d3, .bool d4, .int .i64 d5, .bool d6, .slice da dn dc, .string d8, .string d9, .bool d10, .bool d11] 24)) = X := ⟨_, rfl⟩
  have hbW2 : Below w1.heap.size w1 W2 := by rw [← hW2]; exact (Below.refl _ w1).alloc (Nat.le_refl _) _
  have hsW2 : W2.heap.size = w1.heap.size + 1 := by rw [← hW2]; simp
  have hAW2 : AdrIn W2 w1.heap.size Adr.zero (.slice da dn dc) := by
   unfold AdrIn
   rw [hxd, ← hW2]
   exact heap_alloc_new w1 _
  have HB2 := hid (below2 hb1 hbW2)
  have HK2 := hid (known3_any W2 (HG0.out.kept HB2.out))
  clear hown hb1 hbW2 hAW2 hxd hvd hsW2
  go_wp2_with fail
  refine HK2.out.mono ?_
  rintro e w4 ⟨rfl, hb4⟩
  go_wp2
  go_ret
  exact ⟨rfl, below2 HB2.out hb4⟩
 | ok B =>
  simp only [isOk, adrOf] at HUr
  have hrB : readV (b.data.toList.take 300) none = .ok B := hrb
  have hfB := parse_fine hrB
  have hPl : B.path.length ≤ 100000 := by have := slim_path (parse_slim hrB) (by omega); omega
  have hfrB : B.fragment.length ≤ 1000000 := by have := parse_slim hrB; unfold Slim at this; omega
  have hBo : specV B.scheme = true → B.opq = false := fun h => ((read_good hrB).special h).2.2
  have HTb0 := hid (fun (pv : Value) (Z : World) (hp : PathAt Z pv B.path) => rtext3_any B pv Z hp hfB hfrB)
  obtain ⟨TB, hTB⟩ : ∃ X : ByteArray, (⟨(textV B).toArray⟩ : ByteArray) = X := ⟨_, rfl⟩
  rw [hTB] at HTb0
  have HJu0 := hid (fun (pv : Value) (Z : World) (hZ : Gd Z) (hp : PathAt Z pv B.path) => ujoin_any F B pv Z hZ (by omega) hp hPl)
  have HJv0 := hid (fun (pv : Value) (Z : World) (hp : PathAt Z pv B.path) => rjoin3_any F B pv Z (by omega) hp hPl hBo)
  unfold ReadPost at HJu0 HJv0
  obtain ⟨r, hr⟩ : ∃ r, readV F.data.toList (some B) = r := ⟨_, rfl⟩
  rw [hr] at HJu0 HJv0
  have HSl := hid (show ∀ A, r = .ok A → Slim 40000 A from fun A h => join_slim (parse_slim hrB) (by omega) (hr.trans h))
  have HEr := hid (show ∀ e, r = .error e → (e == 0) = false ∧ (e != 0) = true from fun e h => ⟨err_ne (join_err (hr.trans h)), err_bne (join_err (hr.trans h))⟩)
  clear hrb hrB hfB hfrB hBo hTB hr
  go_enter Tryz.func3, Tryz.ntmps3
  go_wp2_with fail
  refine (HUr.out _).mono ?_
  rintro e w1 ⟨pv, rfl, hown, hb1⟩
  obtain ⟨da, dn, dc, rfl⟩ := own_sl hown
  obtain ⟨d0, d1, d2, d3, d4, d5, d6, d8, d9, d10, d11, hxd⟩ := adr_cells B da dn dc
  have hvd : adrVal B (.slice da dn dc) = .agg #[.string d0, .string d1, .string d2, .string d3, .bool d4, .int .i64 d5, .bool d6, .slice da dn dc, .string d8, .string d9, .bool d10, .bool d11] := by unfold adrVal; rw [hxd]
  rw [hvd]
  obtain ⟨W2, hW2⟩ : ∃ X, (w1.alloc (.cells #[.string d0, .string d1, .string d2, .string d3, .bool d4, .int .i64 d5, .bool d6, .slice da dn dc, .string d8, .string d9, .bool d10, .bool d11] 24)) = X := ⟨_, rfl⟩
  have hbW2 : Below w1.heap.size w1 W2 := by rw [← hW2]; exact (Below.refl _ w1).alloc (Nat.le_refl _) _
  have hsW2 : W2.heap.size = w1.heap.size + 1 := by rw [← hW2]; simp
  have hAW2 : AdrIn W2 w1.heap.size B (.slice da dn dc) := by
   unfold AdrIn
   rw [hxd, ← hW2]
   exact heap_alloc_new w1 _
  have HB2 := hid (below2 hb1 hbW2)
  have HPb2 := hid ((own_path hown).kept hbW2)
  have HDb2 := hid hAW2
  have HXd := hid hxd
  have HTb := hid (fun (Z : World) (hp : PathAt Z (.slice da dn dc) B.path) => HTb0.out (.slice da dn dc) Z hp)
  have HJu := hid (fun (Z : World) (hZ : Gd Z) (hp : PathAt Z (.slice da dn dc) B.path) => HJu0.out (.slice da dn dc) Z hZ hp)
  have HJv := hid (fun (Z : World) (hp : PathAt Z (.slice da dn dc) B.path) => HJv0.out (.slice da dn dc) Z hp)
  rw [hvd] at HTb HJu HJv
  obtain ⟨y0, y1, y2, y3, y4, y5, y6, y7, y8, y9, y10, y11⟩ := adr_twelve hxd hAW2
  clear hown hb1 hbW2 hAW2 hxd hvd hsW2 HUr HTb0 HJu0 HJv0
  go_wp2_with fail
  refine (HFw.out _).mono ?_
  rintro e wz ⟨rfl, hwz⟩
  rw [← hwz]
  clear hwz
  go_wp2_with fail
  refine (HTb.out _ HPb2.out).mono ?_
  rintro e w3 ⟨rfl, hb3⟩
  have HB3 := hid (below2 HB2.out hb3)
  have HG3 := hid (HG0.out.kept HB3.out)
  have HPb3 := hid (HPb2.out.kept hb3)
  have HDb3 := hid (HDb2.out.kept hb3)
  clear hb3 y0 y1 y2 y3 y4 y5 y6 y7 y8 y9 y10 y11
  obtain ⟨y0, y1, y2, y3, y4, y5, y6, y7, y8, y9, y10, y11⟩ := adr_twelve HXd.out HDb3.out
  cases r with
  | error z =>
   obtain ⟨hy0, hy1⟩ := HEr.out z rfl
   simp only [numOf] at HJu HJv
   obtain ⟨A, hA⟩ : ∃ A, adrOf (.error z) = A := ⟨_, rfl⟩
   have HLn := hid (show A.path.length ≤ 1000000 by rw [← hA]; exact Nat.zero_le _)
   rw [hA] at HJu HJv
   clear hA
   go_wp2_with fail
   refine (HJu.out _ HG3.out HPb3.out).mono ?_
   rintro e w5 ⟨pv, rfl, hown, hb5⟩
   obtain ⟨ta, tn, tc, rfl⟩ := own_sl hown
   obtain ⟨t0, t1, t2, t3, t4, t5, t6, t8, t9, t10, t11, hxt⟩ := adr_cells A ta tn tc
   have hvt : adrVal A (.slice ta tn tc) = .agg #[.string t0, .string t1, .string t2, .string t3, .bool t4, .int .i64 t5, .bool t6, .slice ta tn tc, .string t8, .string t9, .bool t10, .bool t11] := by unfold adrVal; rw [hxt]
   rw [hvt]
   obtain ⟨W6, hW6⟩ : ∃ X, (w5.alloc (.cells #[.string t0, .string t1, .string t2, .string t3, .bool t4, .int .i64 t5, .bool t6, .slice ta tn tc, .string t8, .string t9, .bool t10, .bool t11] 24)) = X := ⟨_, rfl⟩
   have hbW6 : Below w5.heap.size w5 W6 := by rw [← hW6]; exact (Below.refl _ w5).alloc (Nat.le_refl _) _
   have hsW6 : W6.heap.size = w5.heap.size + 1 := by rw [← hW6]; simp
   have hAW6 : AdrIn W6 w5.heap.size A (.slice ta tn tc) := by
    unfold AdrIn
    rw [hxt, ← hW6]
    exact heap_alloc_new w5 _
   have hb56 := below2 hb5 hbW6
   have HPb6 := hid (HPb3.out.kept hb56)
   have HDb6 := hid (HDb3.out.kept hb56)
   have HPt6 := hid ((own_path hown).kept hbW6)
   have HAt6 := hid hAW6
   have HXt := hid hxt
   have HVt := hid hvt
   have HB6 := hid (below2 HB3.out hb56)
   have HG6 := hid (HG3.out.kept hb56)
   clear hown hb5 hbW6 hAW6 hxt hvt hsW6 hb56 y0 y1 y2 y3 y4 y5 y6 y7 y8 y9 y10 y11 HJu
   obtain ⟨y0, y1, y2, y3, y4, y5, y6, y7, y8, y9, y10, y11⟩ := adr_twelve HXd.out HDb6.out
   go_wp2_with fail
   refine (HJv.out _ HPb6.out).mono ?_
   rintro e w7 ⟨qv, rfl, hown, hb7⟩
   obtain ⟨va, vn, vc, rfl⟩ := own_sl hown
   obtain ⟨v0, v1, v2, v3, v4, v5, v6, v8, v9, v10, v11, hxv⟩ := adr_cells A va vn vc
   have hvv : adrVal A (.slice va vn vc) = .agg #[.string v0, .string v1, .string v2, .string v3, .bool v4, .int .i64 v5, .bool v6, .slice va vn vc, .string v8, .string v9, .bool v10, .bool v11] := by unfold adrVal; rw [hxv]
   rw [hvv]
   obtain ⟨W8, hW8⟩ : ∃ X, (w7.alloc (.cells #[.string v0, .string v1, .string v2, .string v3, .bool v4, .int .i64 v5, .bool v6, .slice va vn vc, .string v8, .string v9, .bool v10, .bool v11] 24)) = X := ⟨_, rfl⟩
   have hbW8 : Below w7.heap.size w7 W8 := by rw [← hW8]; exact (Below.refl _ w7).alloc (Nat.le_refl _) _
   have hsW8 : W8.heap.size = w7.heap.size + 1 := by rw [← hW8]; simp
   have hAW8 : AdrIn W8 w7.heap.size A (.slice va vn vc) := by
    unfold AdrIn
    rw [hxv, ← hW8]
    exact heap_alloc_new w7 _
   have hb78 := below2 hb7 hbW8
   have hPb8 := HPb6.out.kept hb78
   have hDb8 := HDb6.out.kept hb78
   have hPt8 := HPt6.out.kept hb78
   have hAt8 := HAt6.out.kept hb78
   have hPv8 := (own_path hown).kept hbW8
   have HB8 := hid (below2 HB6.out hb78)
   have HG8 := hid (HG6.out.kept hb78)
   have HRb := hid (show ∀ Z, Below W8.heap.size W8 Z → Z.rangeAt w1.heap.size 0 [.string d0, .string d1, .string d2, .string d3, .bool d4, .int .i64 d5, .bool d6, .slice da dn dc, .string d8, .string d9, .bool d10, .bool d11] from fun Z hZ => by
    have := range_row (show Z.heap[w1.heap.size]? = some (.cells (adrCells B (.slice da dn dc)).toArray 24 (0, 0)) from hDb8.kept hZ)
    rw [HXd.out] at this
    exact this)
   have HRt := hid (show ∀ Z, Below W8.heap.size W8 Z → Z.rangeAt w5.heap.size 0 [.string t0, .string t1, .string t2, .string t3, .bool t4, .int .i64 t5, .bool t6, .slice ta tn tc, .string t8, .string t9, .bool t10, .bool t11] from fun Z hZ => by
    have := range_row (show Z.heap[w5.heap.size]? = some (.cells (adrCells A (.slice ta tn tc)).toArray 24 (0, 0)) from hAt8.kept hZ)
    rw [HXt.out] at this
    exact this)
   have HRv := hid (show ∀ Z, Below W8.heap.size W8 Z → Z.rangeAt w7.heap.size 0 [.string v0, .string v1, .string v2, .string v3, .bool v4, .int .i64 v5, .bool v6, .slice va vn vc, .string v8, .string v9, .bool v10, .bool v11] from fun Z hZ => by
    have := range_row (show Z.heap[w7.heap.size]? = some (.cells (adrCells A (.slice va vn vc)).toArray 24 (0, 0)) from hAW8.kept hZ)
    rw [hxv] at this
    exact this)
   have HSm := hid (fun (Z : World) (hZ : Below W8.heap.size W8 Z) => same3_any A (.slice ta tn tc) (.slice va vn vc) Z (hPt8.kept hZ) (hPv8.kept hZ) HLn.out)
   rw [HVt.out, hvv] at HSm
   have HTb8 := hid (fun (Z : World) (hZ : Below W8.heap.size W8 Z) => HTb.out Z (hPb8.kept hZ))
   have HK8 := hid (fun (Z : World) (hZ : Below W8.heap.size W8 Z) => known3_any Z (HG8.out.kept hZ))
   have HQ0 := hid ((Below.refl W8.heap.size W8).drew)
   clear hown hb7 hbW8 hAW8 hxv hvv hsW8 hb78 hPb8 hDb8 hPt8 hAt8 hPv8 HJv y0 y1 y2 y3 y4 y5 y6 y7 y8 y9 y10 y11 HTb
   go_upto_region 8 with fail
   refine wp_region_held_drew (S := (fun wx => Below W8.heap.size W8 wx)) (by kernel_rfl) HQ0.out (fun hHeld => ?_)
   refine wpAnyH_to (fuel' := 29) (listed' := #[false, false, false, false, false, false, false, false, false, false, false, false, false, false, false, false, false, false, false, false, false, false, false, false, false, false, false, false, false]) rfl rfl ?_
   refine' wpAnyH_take (i := 0) (oi := ⟨some 36, _, _, _, _, _⟩) (v := _) rfl (by kernel_rfl) (by kernel_rfl) (by kernel_rfl) (fun _ _ _ h => h) (Or.inl ⟨by kernel_rfl, ?hy1⟩) (by assumption) ?rest1
   case hy1 => (intro wx hSw; (try dsimp only at hSw); go_simp; first | done | with_reducible rfl)
   (try simp only [Act.put, List.setIfInBounds_toArray, List.set_cons_zero, List.set_cons_succ])
   refine' wpAnyH_take (i := 1) (oi := ⟨some 37, _, _, _, _, _⟩) (v := _) rfl (by kernel_rfl) (by kernel_rfl) (by kernel_rfl) (fun _ _ _ h => h) (Or.inl ⟨by kernel_rfl, ?hy2⟩) (by assumption) ?rest2
   case hy2 => (intro wx hSw; (try dsimp only at hSw); go_simp; first | done | with_reducible rfl)
   (try simp only [Act.put, List.setIfInBounds_toArray, List.set_cons_zero, List.set_cons_succ])
   refine' wpAnyH_take (i := 2) (oi := ⟨some 38, _, _, _, _, _⟩) (v := _) rfl (by kernel_rfl) (by kernel_rfl) (by kernel_rfl) (fun _ _ _ h => h) (Or.inl ⟨by kernel_rfl, ?hy3⟩) (by assumption) ?rest3
   case hy3 => (intro wx hSw; (try dsimp only at hSw); go_simp; first | done | with_reducible rfl)
   (try simp only [Act.put, List.setIfInBounds_toArray, List.set_cons_zero, List.set_cons_succ])
   refine' wpAnyH_take (i := 3) (oi := ⟨some 39, _, _, _, _, _⟩) (v := _) rfl (by kernel_rfl) (by kernel_rfl) (by kernel_rfl) (fun _ _ _ h => h) (Or.inl ⟨by kernel_rfl, ?hy4⟩) (by assumption) ?rest4
   case hy4 => (intro wx hSw; (try dsimp only at hSw); go_simp; first | done | with_reducible rfl)
   (try simp only [Act.put, List.setIfInBounds_toArray, List.set_cons_zero, List.set_cons_succ])
   refine wpAnyH_take (i := 4) (oi := ⟨some 40, _, _, _, _, _⟩) rfl (by kernel_rfl) (by kernel_rfl) (by kernel_rfl) (fun _ _ _ h => h) (yieldsIf_load_mid (by kernel_rfl) 24 (.tmp 8) rfl (w5.heap.size) 0 rfl [.string t0, .string t1, .string t2, .string t3, .bool t4, .int .i64 t5, .bool t6, .slice ta tn tc, .string t8, .string t9, .bool t10, .bool t11] _ HRt.out Tryz.underlying24 rfl sizeU) (by assumption) ?_
   (try simp only [Act.put, List.setIfInBounds_toArray, List.set_cons_zero, List.set_cons_succ])
   refine wpAnyH_take (i := 5) (oi := ⟨some 41, _, _, _, _, _⟩) rfl (by kernel_rfl) (by kernel_rfl) (by kernel_rfl) (fun _ _ _ h => h) (yieldsIf_load_mid (by kernel_rfl) 24 (.tmp 10) rfl (w7.heap.size) 0 rfl [.string v0, .string v1, .string v2, .string v3, .bool v4, .int .i64 v5, .bool v6, .slice va vn vc, .string v8, .string v9, .bool v10, .bool v11] _ HRv.out Tryz.underlying24 rfl sizeU) (by assumption) ?_
   (try simp only [Act.put, List.setIfInBounds_toArray, List.set_cons_zero, List.set_cons_succ])
   refine wpAnyH_ready (rs := [6]) (by kernel_rfl) (by simp) ?_
   refine AllReadyH.cons rfl (fun K9 hK => ?_) AllReadyH.nil
   rw [if_pos (by kernel_rfl)]
   go_simp
   go_wp2_with (go_at_call 19; refine (HSm.out _ HQ0.out).mono ?_; rintro e w11 ⟨rfl, hba⟩)
   have HQ11 := hid (below2 HQ0.out hba)
   clear hba
   refine hK.out _ _ HQ11.out (fun hHeld2 => ?_)
   clear hK K9 hHeld
   rename _ => hHeld
   refine' wpAnyH_take (i := 7) (oi := ⟨some 43, _, _, _, _, _⟩) (v := _) rfl (by kernel_rfl) (by kernel_rfl) (by kernel_rfl) (fun _ _ _ h => h) (Or.inl ⟨by kernel_rfl, ?hy5⟩) (by assumption) ?rest5
   case hy5 => (intro wx hSw; (try dsimp only at hSw); go_simp; first | done | with_reducible rfl)
   (try simp only [Act.put, List.setIfInBounds_toArray, List.set_cons_zero, List.set_cons_succ])
   refine' wpAnyH_take (i := 8) (oi := ⟨some 44, _, _, _, _, _⟩) (v := _) rfl (by kernel_rfl) (by kernel_rfl) (by kernel_rfl) (fun _ _ _ h => h) (Or.inl ⟨by kernel_rfl, ?hy6⟩) (by assumption) ?rest6
   case hy6 => (intro wx hSw; (try dsimp only at hSw); go_simp; first | done | with_reducible rfl)
   (try simp only [Act.put, List.setIfInBounds_toArray, List.set_cons_zero, List.set_cons_succ])
   refine' wpAnyH_take (i := 9) (oi := ⟨some 45, _, _, _, _, _⟩) (v := _) rfl (by kernel_rfl) (by kernel_rfl) (by kernel_rfl) (fun _ _ _ h => h) (Or.inl ⟨by kernel_rfl, ?hy7⟩) (by assumption) ?rest7
   case hy7 => (intro wx hSw; (try dsimp only at hSw); go_simp; first | done | with_reducible rfl)
   (try simp only [Act.put, List.setIfInBounds_toArray, List.set_cons_zero, List.set_cons_succ])
   refine' wpAnyH_take (i := 10) (oi := ⟨some 46, _, _, _, _, _⟩) (v := _) rfl (by kernel_rfl) (by kernel_rfl) (by kernel_rfl) (fun _ _ _ h => h) (Or.inl ⟨by kernel_rfl, ?hy8⟩) (by assumption) ?rest8
   case hy8 => (intro wx hSw; (try dsimp only at hSw); go_simp; first | done | with_reducible rfl)
   (try simp only [Act.put, List.setIfInBounds_toArray, List.set_cons_zero, List.set_cons_succ])
   refine' wpAnyH_take (i := 11) (oi := ⟨some 47, _, _, _, _, _⟩) (v := _) rfl (by kernel_rfl) (by kernel_rfl) (by kernel_rfl) (fun _ _ _ h => h) (Or.inl ⟨by kernel_rfl, ?hy9⟩) (by assumption) ?rest9
   case hy9 => (intro wx hSw; (try dsimp only at hSw); go_simp; first | done | with_reducible rfl)
   (try simp only [Act.put, List.setIfInBounds_toArray, List.set_cons_zero, List.set_cons_succ])
   refine wpAnyH_take (i := 12) (oi := ⟨some 48, _, _, _, _, _⟩) (v := undef) rfl (by kernel_rfl) (by kernel_rfl) (by kernel_rfl) (fun _ _ _ h => h) (Or.inr ⟨by kernel_rfl, by kernel_rfl⟩) (by assumption) ?_
   (try simp only [Act.put, List.setIfInBounds_toArray, List.set_cons_zero, List.set_cons_succ])
   refine wpAnyH_take (i := 13) (oi := ⟨some 49, _, _, _, _, _⟩) (v := undef) rfl (by kernel_rfl) (by kernel_rfl) (by kernel_rfl) (fun _ _ _ h => h) (Or.inr ⟨by kernel_rfl, by kernel_rfl⟩) (by assumption) ?_
   (try simp only [Act.put, List.setIfInBounds_toArray, List.set_cons_zero, List.set_cons_succ])
   refine wpAnyH_take (i := 14) (oi := ⟨some 50, _, _, _, _, _⟩) (v := undef) rfl (by kernel_rfl) (by kernel_rfl) (by kernel_rfl) (fun _ _ _ h => h) (Or.inr ⟨by kernel_rfl, by kernel_rfl⟩) (by assumption) ?_
   (try simp only [Act.put, List.setIfInBounds_toArray, List.set_cons_zero, List.set_cons_succ])
   refine wpAnyH_take (i := 15) (oi := ⟨some 51, _, _, _, _, _⟩) (v := undef) rfl (by kernel_rfl) (by kernel_rfl) (by kernel_rfl) (fun _ _ _ h => h) (Or.inr ⟨by kernel_rfl, by kernel_rfl⟩) (by assumption) ?_
   (try simp only [Act.put, List.setIfInBounds_toArray, List.set_cons_zero, List.set_cons_succ])
   refine wpAnyH_take (i := 16) (oi := ⟨some 52, _, _, _, _, _⟩) (v := undef) rfl (by kernel_rfl) (by kernel_rfl) (by kernel_rfl) (fun _ _ _ h => h) (Or.inr ⟨by kernel_rfl, by kernel_rfl⟩) (by assumption) ?_
   (try simp only [Act.put, List.setIfInBounds_toArray, List.set_cons_zero, List.set_cons_succ])
   refine' wpAnyH_take (i := 17) (oi := ⟨some 53, _, _, _, _, _⟩) (v := _) rfl (by kernel_rfl) (by kernel_rfl) (by kernel_rfl) (fun _ _ _ h => h) (Or.inl ⟨by kernel_rfl, ?hy10⟩) (by assumption) ?rest10
   case hy10 => (intro wx hSw; (try dsimp only at hSw); go_simp; first | done | with_reducible rfl)
   (try simp only [Act.put, List.setIfInBounds_toArray, List.set_cons_zero, List.set_cons_succ])
   refine' wpAnyH_take (i := 18) (oi := ⟨some 54, _, _, _, _, _⟩) (v := _) rfl (by kernel_rfl) (by kernel_rfl) (by kernel_rfl) (fun _ _ _ h => h) (Or.inl ⟨by kernel_rfl, ?hy11⟩) (by assumption) ?rest11
   case hy11 => (intro wx hSw; (try dsimp only at hSw); go_simp; first | done | with_reducible rfl)
   (try simp only [Act.put, List.setIfInBounds_toArray, List.set_cons_zero, List.set_cons_succ])
   refine' wpAnyH_take (i := 19) (oi := ⟨some 55, _, _, _, _, _⟩) (v := _) rfl (by kernel_rfl) (by kernel_rfl) (by kernel_rfl) (fun _ _ _ h => h) (Or.inl ⟨by kernel_rfl, ?hy12⟩) (by assumption) ?rest12
   case hy12 => (intro wx hSw; (try dsimp only at hSw); go_simp; first | done | with_reducible rfl)
   (try simp only [Act.put, List.setIfInBounds_toArray, List.set_cons_zero, List.set_cons_succ])
   refine wpAnyH_take (i := 20) (oi := ⟨some 56, _, _, _, _, _⟩) rfl (by kernel_rfl) (by kernel_rfl) (by kernel_rfl) (fun _ _ _ h => h) (yieldsIf_load_mid (by kernel_rfl) 24 (.tmp 5) rfl (w1.heap.size) 0 rfl [.string d0, .string d1, .string d2, .string d3, .bool d4, .int .i64 d5, .bool d6, .slice da dn dc, .string d8, .string d9, .bool d10, .bool d11] _ HRb.out Tryz.underlying24 rfl sizeU) (by assumption) ?_
   (try simp only [Act.put, List.setIfInBounds_toArray, List.set_cons_zero, List.set_cons_succ])
   refine' wpAnyH_take (i := 22) (oi := ⟨some 58, _, _, _, _, _⟩) (v := _) rfl (by kernel_rfl) (by kernel_rfl) (by kernel_rfl) (fun _ _ _ h => h) (Or.inl ⟨by kernel_rfl, ?hy13⟩) (by assumption) ?rest13
   case hy13 => (intro wx hSw; (try dsimp only at hSw); go_simp; first | done | with_reducible rfl)
   (try simp only [Act.put, List.setIfInBounds_toArray, List.set_cons_zero, List.set_cons_succ])
   refine wpAnyH_ready (rs := [21]) (by kernel_rfl) (by simp) ?_
   refine AllReadyH.cons rfl (fun K9 hK => ?_) AllReadyH.nil
   rw [if_pos (by kernel_rfl)]
   go_simp
   go_wp2_with (go_at_call 16; refine (HTb8.out _ HQ11.out).mono ?_; rintro e w14 ⟨rfl, hba⟩)
   have HQ14 := hid (below2 HQ11.out hba)
   clear hba
   refine hK.out _ _ HQ14.out (fun hHeld2 => ?_)
   clear hK K9 hHeld
   rename _ => hHeld
   refine' wpAnyH_take (i := 23) (oi := ⟨some 59, _, _, _, _, _⟩) (v := _) rfl (by kernel_rfl) (by kernel_rfl) (by kernel_rfl) (fun _ _ _ h => h) (Or.inl ⟨by kernel_rfl, ?hy14⟩) (by assumption) ?rest14
   case hy14 => (intro wx hSw; (try dsimp only at hSw); go_simp; first | done | with_reducible rfl)
   (try simp only [Act.put, List.setIfInBounds_toArray, List.set_cons_zero, List.set_cons_succ])
   refine' wpAnyH_take (i := 24) (oi := ⟨some 60, _, _, _, _, _⟩) (v := _) rfl (by kernel_rfl) (by kernel_rfl) (by kernel_rfl) (fun _ _ _ h => h) (Or.inl ⟨by kernel_rfl, ?hy15⟩) (by assumption) ?rest15
   case hy15 => (intro wx hSw; (try dsimp only at hSw); go_simp; first | done | with_reducible rfl)
   (try simp only [Act.put, List.setIfInBounds_toArray, List.set_cons_zero, List.set_cons_succ])
   refine' wpAnyH_take (i := 25) (oi := ⟨some 61, _, _, _, _, _⟩) (v := _) rfl (by kernel_rfl) (by kernel_rfl) (by kernel_rfl) (fun _ _ _ h => h) (Or.inl ⟨by kernel_rfl, ?hy16⟩) (by assumption) ?rest16
   case hy16 => (intro wx hSw; (try dsimp only at hSw); go_simp; first | done | with_reducible rfl)
   (try simp only [Act.put, List.setIfInBounds_toArray, List.set_cons_zero, List.set_cons_succ])
   refine wpAnyH_ready (rs := [26]) (by kernel_rfl) (by simp) ?_
   refine AllReadyH.cons rfl (fun K9 hK => ?_) AllReadyH.nil
   rw [if_pos (by kernel_rfl)]
   go_simp
   go_wp2_with (go_at_call 14; refine (HK8.out _ HQ14.out).mono ?_; rintro e w16 ⟨rfl, hba⟩)
   have HQ16 := hid (below2 HQ14.out hba)
   clear hba
   refine hK.out _ _ HQ16.out (fun hHeld2 => ?_)
   clear hK K9 hHeld
   rename _ => hHeld
   refine' wpAnyH_take (i := 27) (oi := ⟨some 63, _, _, _, _, _⟩) (v := _) rfl (by kernel_rfl) (by kernel_rfl) (by kernel_rfl) (fun _ _ _ h => h) (Or.inl ⟨by kernel_rfl, ?hy17⟩) (by assumption) ?rest17
   case hy17 => (intro wx hSw; (try dsimp only at hSw); go_simp; first | done | with_reducible rfl)
   (try simp only [Act.put, List.setIfInBounds_toArray, List.set_cons_zero, List.set_cons_succ])
   refine' wpAnyH_take (i := 28) (oi := ⟨some 4, _, _, _, _, _⟩) (v := _) rfl (by kernel_rfl) (by kernel_rfl) (by kernel_rfl) (fun _ _ _ h => h) (Or.inl ⟨by kernel_rfl, ?hy18⟩) (by assumption) ?rest18
   case hy18 => (intro wx hSw; (try dsimp only at hSw); go_simp; first | done | with_reducible rfl)
   (try simp only [Act.put, List.setIfInBounds_toArray, List.set_cons_zero, List.set_cons_succ])
   refine wpAnyH_done (by kernel_rfl) ?_ _
   go_wp2
   go_ret
   exact ⟨rfl, below2 HB8.out HQ16.out⟩
  | ok A =>
   have hsl := HSl.out A rfl
   have HFi := hid (hsl.fine (by omega))
   have HLn := hid (show A.path.length ≤ 1000000 by have := slim_path hsl (by omega); omega)
   have HFr := hid (show A.fragment.length ≤ 1000000 by unfold Slim at hsl; omega)
   clear hsl
   simp only [numOf, adrOf] at HJu HJv
   go_wp2_with fail
   refine (HJu.out _ HG3.out HPb3.out).mono ?_
   rintro e w5 ⟨pv, rfl, hown, hb5⟩
   obtain ⟨ta, tn, tc, rfl⟩ := own_sl hown
   obtain ⟨t0, t1, t2, t3, t4, t5, t6, t8, t9, t10, t11, hxt⟩ := adr_cells A ta tn tc
   have hvt : adrVal A (.slice ta tn tc) = .agg #[.string t0, .string t1, .string t2, .string t3, .bool t4, .int .i64 t5, .bool t6, .slice ta tn tc, .string t8, .string t9, .bool t10, .bool t11] := by unfold adrVal; rw [hxt]
   rw [hvt]
   obtain ⟨W6, hW6⟩ : ∃ X, (w5.alloc (.cells #[.string t0, .string t1, .string t2, .string t3, .bool t4, .int .i64 t5, .bool t6, .slice ta tn tc, .string t8, .string t9, .bool t10, .bool t11] 24)) = X := ⟨_, rfl⟩
   have hbW6 : Below w5.heap.size w5 W6 := by rw [← hW6]; exact (Below.refl _ w5).alloc (Nat.le_refl _) _
   have hsW6 : W6.heap.size = w5.heap.size + 1 := by rw [← hW6]; simp
   have hAW6 : AdrIn W6 w5.heap.size A (.slice ta tn tc) := by
    unfold AdrIn
    rw [hxt, ← hW6]
    exact heap_alloc_new w5 _
   have hb56 := below2 hb5 hbW6
   have HPb6 := hid (HPb3.out.kept hb56)
   have HDb6 := hid (HDb3.out.kept hb56)
   have HPt6 := hid ((own_path hown).kept hbW6)
   have HAt6 := hid hAW6
   have HXt := hid hxt
   have HVt := hid hvt
   have HB6 := hid (below2 HB3.out hb56)
   have HG6 := hid (HG3.out.kept hb56)
   clear hown hb5 hbW6 hAW6 hxt hvt hsW6 hb56 y0 y1 y2 y3 y4 y5 y6 y7 y8 y9 y10 y11 HJu
   obtain ⟨y0, y1, y2, y3, y4, y5, y6, y7, y8, y9, y10, y11⟩ := adr_twelve HXd.out HDb6.out
   go_wp2_with fail
   refine (HJv.out _ HPb6.out).mono ?_
   rintro e w7 ⟨qv, rfl, hown, hb7⟩
   obtain ⟨va, vn, vc, rfl⟩ := own_sl hown
   obtain ⟨v0, v1, v2, v3, v4, v5, v6, v8, v9, v10, v11, hxv⟩ := adr_cells A va vn vc
   have hvv : adrVal A (.slice va vn vc) = .agg #[.string v0, .string v1, .string v2, .string v3, .bool v4, .int .i64 v5, .bool v6, .slice va vn vc, .string v8, .string v9, .bool v10, .bool v11] := by unfold adrVal; rw [hxv]
   rw [hvv]
   obtain ⟨W8, hW8⟩ : ∃ X, (w7.alloc (.cells #[.string v0, .string v1, .string v2, .string v3, .bool v4, .int .i64 v5, .bool v6, .slice va vn vc, .string v8, .string v9, .bool v10, .bool v11] 24)) = X := ⟨_, rfl⟩
   have hbW8 : Below w7.heap.size w7 W8 := by rw [← hW8]; exact (Below.refl _ w7).alloc (Nat.le_refl _) _
   have hsW8 : W8.heap.size = w7.heap.size + 1 := by rw [← hW8]; simp
   have hAW8 : AdrIn W8 w7.heap.size A (.slice va vn vc) := by
    unfold AdrIn
    rw [hxv, ← hW8]
    exact heap_alloc_new w7 _
   have hb78 := below2 hb7 hbW8
   have hPb8 := HPb6.out.kept hb78
   have hDb8 := HDb6.out.kept hb78
   have hPt8 := HPt6.out.kept hb78
   have hAt8 := HAt6.out.kept hb78
   have hPv8 := (own_path hown).kept hbW8
   have HB8 := hid (below2 HB6.out hb78)
   have HG8 := hid (HG6.out.kept hb78)
   have HRb := hid (show ∀ Z, Below W8.heap.size W8 Z → Z.rangeAt w1.heap.size 0 [.string d0, .string d1, .string d2, .string d3, .bool d4, .int .i64 d5, .bool d6, .slice da dn dc, .string d8, .string d9, .bool d10, .bool d11] from fun Z hZ => by
    have := range_row (show Z.heap[w1.heap.size]? = some (.cells (adrCells B (.slice da dn dc)).toArray 24 (0, 0)) from hDb8.kept hZ)
    rw [HXd.out] at this
    exact this)
   have HRt := hid (show ∀ Z, Below W8.heap.size W8 Z → Z.rangeAt w5.heap.size 0 [.string t0, .string t1, .string t2, .string t3, .bool t4, .int .i64 t5, .bool t6, .slice ta tn tc, .string t8, .string t9, .bool t10, .bool t11] from fun Z hZ => by
    have := range_row (show Z.heap[w5.heap.size]? = some (.cells (adrCells A (.slice ta tn tc)).toArray 24 (0, 0)) from hAt8.kept hZ)
    rw [HXt.out] at this
    exact this)
   have HRv := hid (show ∀ Z, Below W8.heap.size W8 Z → Z.rangeAt w7.heap.size 0 [.string v0, .string v1, .string v2, .string v3, .bool v4, .int .i64 v5, .bool v6, .slice va vn vc, .string v8, .string v9, .bool v10, .bool v11] from fun Z hZ => by
    have := range_row (show Z.heap[w7.heap.size]? = some (.cells (adrCells A (.slice va vn vc)).toArray 24 (0, 0)) from hAW8.kept hZ)
    rw [hxv] at this
    exact this)
   have HSm := hid (fun (Z : World) (hZ : Below W8.heap.size W8 Z) => same3_any A (.slice ta tn tc) (.slice va vn vc) Z (hPt8.kept hZ) (hPv8.kept hZ) HLn.out)
   rw [HVt.out, hvv] at HSm
   have HTb8 := hid (fun (Z : World) (hZ : Below W8.heap.size W8 Z) => HTb.out Z (hPb8.kept hZ))
   have HK8 := hid (fun (Z : World) (hZ : Below W8.heap.size W8 Z) => known3_any Z (HG8.out.kept hZ))
   have HT1 := hid (fun (Z : World) (hZ : Below W8.heap.size W8 Z) => text_any A (.slice ta tn tc) Z (HG8.out.kept hZ) (hPt8.kept hZ) HFi.out)
   have HT2 := hid (fun (Z : World) (hZ : Below W8.heap.size W8 Z) => rtext3_any A (.slice va vn vc) Z (hPv8.kept hZ) HFi.out HFr.out)
   obtain ⟨TT, hTT⟩ : ∃ X : ByteArray, (⟨(textV A).toArray⟩ : ByteArray) = X := ⟨_, rfl⟩
   rw [hTT, HVt.out] at HT1
   rw [hTT, hvv] at HT2
   clear hTT
   have HQ0 := hid ((Below.refl W8.heap.size W8).drew)
   clear hown hb7 hbW8 hAW8 hxv hvv hsW8 hb78 hPb8 hDb8 hPt8 hAt8 hPv8 HJv y0 y1 y2 y3 y4 y5 y6 y7 y8 y9 y10 y11 HTb
   go_upto_region 8 with fail
   refine wp_region_held_drew (S := (fun wx => Below W8.heap.size W8 wx)) (by kernel_rfl) HQ0.out (fun hHeld => ?_)
   refine wpAnyH_to (fuel' := 29) (listed' := #[false, false, false, false, false, false, false, false, false, false, false, false, false, false, false, false, false, false, false, false, false, false, false, false, false, false, false, false, false]) rfl rfl ?_
   refine' wpAnyH_take (i := 0) (oi := ⟨some 36, _, _, _, _, _⟩) (v := _) rfl (by kernel_rfl) (by kernel_rfl) (by kernel_rfl) (fun _ _ _ h => h) (Or.inl ⟨by kernel_rfl, ?hy19⟩) (by assumption) ?rest19
   case hy19 => (intro wx hSw; (try dsimp only at hSw); go_simp; first | done | with_reducible rfl)
   (try simp only [Act.put, List.setIfInBounds_toArray, List.set_cons_zero, List.set_cons_succ])
   refine' wpAnyH_take (i := 1) (oi := ⟨some 37, _, _, _, _, _⟩) (v := _) rfl (by kernel_rfl) (by kernel_rfl) (by kernel_rfl) (fun _ _ _ h => h) (Or.inl ⟨by kernel_rfl, ?hy20⟩) (by assumption) ?rest20
   case hy20 => (intro wx hSw; (try dsimp only at hSw); go_simp; first | done | with_reducible rfl)
   (try simp only [Act.put, List.setIfInBounds_toArray, List.set_cons_zero, List.set_cons_succ])
   refine' wpAnyH_take (i := 2) (oi := ⟨some 38, _, _, _, _, _⟩) (v := _) rfl (by kernel_rfl) (by kernel_rfl) (by kernel_rfl) (fun _ _ _ h => h) (Or.inl ⟨by kernel_rfl, ?hy21⟩) (by assumption) ?rest21
   case hy21 => (intro wx hSw; (try dsimp only at hSw); go_simp; first | done | with_reducible rfl)
   (try simp only [Act.put, List.setIfInBounds_toArray, List.set_cons_zero, List.set_cons_succ])
   refine' wpAnyH_take (i := 3) (oi := ⟨some 39, _, _, _, _, _⟩) (v := _) rfl (by kernel_rfl) (by kernel_rfl) (by kernel_rfl) (fun _ _ _ h => h) (Or.inl ⟨by kernel_rfl, ?hy22⟩) (by assumption) ?rest22
   case hy22 => (intro wx hSw; (try dsimp only at hSw); go_simp; first | done | with_reducible rfl)
   (try simp only [Act.put, List.setIfInBounds_toArray, List.set_cons_zero, List.set_cons_succ])
   refine wpAnyH_take (i := 4) (oi := ⟨some 40, _, _, _, _, _⟩) rfl (by kernel_rfl) (by kernel_rfl) (by kernel_rfl) (fun _ _ _ h => h) (yieldsIf_load_mid (by kernel_rfl) 24 (.tmp 8) rfl (w5.heap.size) 0 rfl [.string t0, .string t1, .string t2, .string t3, .bool t4, .int .i64 t5, .bool t6, .slice ta tn tc, .string t8, .string t9, .bool t10, .bool t11] _ HRt.out Tryz.underlying24 rfl sizeU) (by assumption) ?_
   (try simp only [Act.put, List.setIfInBounds_toArray, List.set_cons_zero, List.set_cons_succ])
   refine wpAnyH_take (i := 5) (oi := ⟨some 41, _, _, _, _, _⟩) rfl (by kernel_rfl) (by kernel_rfl) (by kernel_rfl) (fun _ _ _ h => h) (yieldsIf_load_mid (by kernel_rfl) 24 (.tmp 10) rfl (w7.heap.size) 0 rfl [.string v0, .string v1, .string v2, .string v3, .bool v4, .int .i64 v5, .bool v6, .slice va vn vc, .string v8, .string v9, .bool v10, .bool v11] _ HRv.out Tryz.underlying24 rfl sizeU) (by assumption) ?_
   (try simp only [Act.put, List.setIfInBounds_toArray, List.set_cons_zero, List.set_cons_succ])
   refine wpAnyH_ready (rs := [6]) (by kernel_rfl) (by simp) ?_
   refine AllReadyH.cons rfl (fun K9 hK => ?_) AllReadyH.nil
   rw [if_pos (by kernel_rfl)]
   go_simp
   go_wp2_with (go_at_call 19; refine (HSm.out _ HQ0.out).mono ?_; rintro e w11 ⟨rfl, hba⟩)
   have HQ11 := hid (below2 HQ0.out hba)
   clear hba
   refine hK.out _ _ HQ11.out (fun hHeld2 => ?_)
   clear hK K9 hHeld
   rename _ => hHeld
   refine' wpAnyH_take (i := 7) (oi := ⟨some 43, _, _, _, _, _⟩) (v := _) rfl (by kernel_rfl) (by kernel_rfl) (by kernel_rfl) (fun _ _ _ h => h) (Or.inl ⟨by kernel_rfl, ?hy23⟩) (by assumption) ?rest23
   case hy23 => (intro wx hSw; (try dsimp only at hSw); go_simp; first | done | with_reducible rfl)
   (try simp only [Act.put, List.setIfInBounds_toArray, List.set_cons_zero, List.set_cons_succ])
   refine' wpAnyH_take (i := 8) (oi := ⟨some 44, _, _, _, _, _⟩) (v := _) rfl (by kernel_rfl) (by kernel_rfl) (by kernel_rfl) (fun _ _ _ h => h) (Or.inl ⟨by kernel_rfl, ?hy24⟩) (by assumption) ?rest24
   case hy24 => (intro wx hSw; (try dsimp only at hSw); go_simp; first | done | with_reducible rfl)
   (try simp only [Act.put, List.setIfInBounds_toArray, List.set_cons_zero, List.set_cons_succ])
   refine' wpAnyH_take (i := 9) (oi := ⟨some 45, _, _, _, _, _⟩) (v := _) rfl (by kernel_rfl) (by kernel_rfl) (by kernel_rfl) (fun _ _ _ h => h) (Or.inl ⟨by kernel_rfl, ?hy25⟩) (by assumption) ?rest25
   case hy25 => (intro wx hSw; (try dsimp only at hSw); go_simp; first | done | with_reducible rfl)
   (try simp only [Act.put, List.setIfInBounds_toArray, List.set_cons_zero, List.set_cons_succ])
   refine' wpAnyH_take (i := 10) (oi := ⟨some 46, _, _, _, _, _⟩) (v := _) rfl (by kernel_rfl) (by kernel_rfl) (by kernel_rfl) (fun _ _ _ h => h) (Or.inl ⟨by kernel_rfl, ?hy26⟩) (by assumption) ?rest26
   case hy26 => (intro wx hSw; (try dsimp only at hSw); go_simp; first | done | with_reducible rfl)
   (try simp only [Act.put, List.setIfInBounds_toArray, List.set_cons_zero, List.set_cons_succ])
   refine' wpAnyH_take (i := 11) (oi := ⟨some 47, _, _, _, _, _⟩) (v := _) rfl (by kernel_rfl) (by kernel_rfl) (by kernel_rfl) (fun _ _ _ h => h) (Or.inl ⟨by kernel_rfl, ?hy27⟩) (by assumption) ?rest27
   case hy27 => (intro wx hSw; (try dsimp only at hSw); go_simp; first | done | with_reducible rfl)
   (try simp only [Act.put, List.setIfInBounds_toArray, List.set_cons_zero, List.set_cons_succ])
   refine wpAnyH_take (i := 12) (oi := ⟨some 48, _, _, _, _, _⟩) rfl (by kernel_rfl) (by kernel_rfl) (by kernel_rfl) (fun _ _ _ h => h) (yieldsIf_load_mid (by kernel_rfl) 24 (.tmp 8) rfl (w5.heap.size) 0 rfl [.string t0, .string t1, .string t2, .string t3, .bool t4, .int .i64 t5, .bool t6, .slice ta tn tc, .string t8, .string t9, .bool t10, .bool t11] _ HRt.out Tryz.underlying24 rfl sizeU) (by assumption) ?_
   (try simp only [Act.put, List.setIfInBounds_toArray, List.set_cons_zero, List.set_cons_succ])
   refine wpAnyH_take (i := 14) (oi := ⟨some 50, _, _, _, _, _⟩) rfl (by kernel_rfl) (by kernel_rfl) (by kernel_rfl) (fun _ _ _ h => h) (yieldsIf_load_mid (by kernel_rfl) 24 (.tmp 10) rfl (w7.heap.size) 0 rfl [.string v0, .string v1, .string v2, .string v3, .bool v4, .int .i64 v5, .bool v6, .slice va vn vc, .string v8, .string v9, .bool v10, .bool v11] _ HRv.out Tryz.underlying24 rfl sizeU) (by assumption) ?_
   (try simp only [Act.put, List.setIfInBounds_toArray, List.set_cons_zero, List.set_cons_succ])
   refine wpAnyH_ready (rs := [13]) (by kernel_rfl) (by simp) ?_
   refine AllReadyH.cons rfl (fun K9 hK => ?_) AllReadyH.nil
   rw [if_pos (by kernel_rfl)]
   go_simp
   go_wp2_with (go_at_call 20; refine (HT1.out _ HQ11.out).mono ?_; rintro e w12 ⟨rfl, hba⟩)
   have HQ12 := hid (below2 HQ11.out hba)
   clear hba
   refine hK.out _ _ HQ12.out (fun hHeld2 => ?_)
   clear hK K9 hHeld
   rename _ => hHeld
   refine wpAnyH_ready (rs := [15]) (by kernel_rfl) (by simp) ?_
   refine AllReadyH.cons rfl (fun K9 hK => ?_) AllReadyH.nil
   rw [if_pos (by kernel_rfl)]
   go_simp
   go_wp2_with (go_at_call 16; refine (HT2.out _ HQ12.out).mono ?_; rintro e w13 ⟨rfl, hba⟩)
   have HQ13 := hid (below2 HQ12.out hba)
   clear hba
   refine hK.out _ _ HQ13.out (fun hHeld2 => ?_)
   clear hK K9 hHeld
   rename _ => hHeld
   refine' wpAnyH_take (i := 16) (oi := ⟨some 52, _, _, _, _, _⟩) (v := _) rfl (by kernel_rfl) (by kernel_rfl) (by kernel_rfl) (fun _ _ _ h => h) (Or.inl ⟨by kernel_rfl, ?hy28⟩) (by assumption) ?rest28
   case hy28 => (intro wx hSw; (try dsimp only at hSw); go_simp; first | done | with_reducible rfl)
   (try simp only [Act.put, List.setIfInBounds_toArray, List.set_cons_zero, List.set_cons_succ])
   refine' wpAnyH_take (i := 17) (oi := ⟨some 53, _, _, _, _, _⟩) (v := _) rfl (by kernel_rfl) (by kernel_rfl) (by kernel_rfl) (fun _ _ _ h => h) (Or.inl ⟨by kernel_rfl, ?hy29⟩) (by assumption) ?rest29
   case hy29 => (intro wx hSw; (try dsimp only at hSw); go_simp; first | done | with_reducible rfl)
   (try simp only [Act.put, List.setIfInBounds_toArray, List.set_cons_zero, List.set_cons_succ])
   refine' wpAnyH_take (i := 18) (oi := ⟨some 54, _, _, _, _, _⟩) (v := _) rfl (by kernel_rfl) (by kernel_rfl) (by kernel_rfl) (fun _ _ _ h => h) (Or.inl ⟨by kernel_rfl, ?hy30⟩) (by assumption) ?rest30
   case hy30 => (intro wx hSw; (try dsimp only at hSw); go_simp; first | done | with_reducible rfl)
   (try simp only [Act.put, List.setIfInBounds_toArray, List.set_cons_zero, List.set_cons_succ])
   refine' wpAnyH_take (i := 19) (oi := ⟨some 55, _, _, _, _, _⟩) (v := _) rfl (by kernel_rfl) (by kernel_rfl) (by kernel_rfl) (fun _ _ _ h => h) (Or.inl ⟨by kernel_rfl, ?hy31⟩) (by assumption) ?rest31
   case hy31 => (intro wx hSw; (try dsimp only at hSw); go_simp; first | done | with_reducible rfl)
   (try simp only [Act.put, List.setIfInBounds_toArray, List.set_cons_zero, List.set_cons_succ])
   refine wpAnyH_take (i := 20) (oi := ⟨some 56, _, _, _, _, _⟩) rfl (by kernel_rfl) (by kernel_rfl) (by kernel_rfl) (fun _ _ _ h => h) (yieldsIf_load_mid (by kernel_rfl) 24 (.tmp 5) rfl (w1.heap.size) 0 rfl [.string d0, .string d1, .string d2, .string d3, .bool d4, .int .i64 d5, .bool d6, .slice da dn dc, .string d8, .string d9, .bool d10, .bool d11] _ HRb.out Tryz.underlying24 rfl sizeU) (by assumption) ?_
   (try simp only [Act.put, List.setIfInBounds_toArray, List.set_cons_zero, List.set_cons_succ])
   refine' wpAnyH_take (i := 22) (oi := ⟨some 58, _, _, _, _, _⟩) (v := _) rfl (by kernel_rfl) (by kernel_rfl) (by kernel_rfl) (fun _ _ _ h => h) (Or.inl ⟨by kernel_rfl, ?hy32⟩) (by assumption) ?rest32
   case hy32 => (intro wx hSw; (try dsimp only at hSw); go_simp; first | done | with_reducible rfl)
   (try simp only [Act.put, List.setIfInBounds_toArray, List.set_cons_zero, List.set_cons_succ])
   refine wpAnyH_ready (rs := [21]) (by kernel_rfl) (by simp) ?_
   refine AllReadyH.cons rfl (fun K9 hK => ?_) AllReadyH.nil
   rw [if_pos (by kernel_rfl)]
   go_simp
   go_wp2_with (go_at_call 16; refine (HTb8.out _ HQ13.out).mono ?_; rintro e w14 ⟨rfl, hba⟩)
   have HQ14 := hid (below2 HQ13.out hba)
   clear hba
   refine hK.out _ _ HQ14.out (fun hHeld2 => ?_)
   clear hK K9 hHeld
   rename _ => hHeld
   refine' wpAnyH_take (i := 23) (oi := ⟨some 59, _, _, _, _, _⟩) (v := _) rfl (by kernel_rfl) (by kernel_rfl) (by kernel_rfl) (fun _ _ _ h => h) (Or.inl ⟨by kernel_rfl, ?hy33⟩) (by assumption) ?rest33
   case hy33 => (intro wx hSw; (try dsimp only at hSw); go_simp; first | done | with_reducible rfl)
   (try simp only [Act.put, List.setIfInBounds_toArray, List.set_cons_zero, List.set_cons_succ])
   refine' wpAnyH_take (i := 24) (oi := ⟨some 60, _, _, _, _, _⟩) (v := _) rfl (by kernel_rfl) (by kernel_rfl) (by kernel_rfl) (fun _ _ _ h => h) (Or.inl ⟨by kernel_rfl, ?hy34⟩) (by assumption) ?rest34
   case hy34 => (intro wx hSw; (try dsimp only at hSw); go_simp; first | done | with_reducible rfl)
   (try simp only [Act.put, List.setIfInBounds_toArray, List.set_cons_zero, List.set_cons_succ])
   refine' wpAnyH_take (i := 25) (oi := ⟨some 61, _, _, _, _, _⟩) (v := _) rfl (by kernel_rfl) (by kernel_rfl) (by kernel_rfl) (fun _ _ _ h => h) (Or.inl ⟨by kernel_rfl, ?hy35⟩) (by assumption) ?rest35
   case hy35 => (intro wx hSw; (try dsimp only at hSw); go_simp; first | done | with_reducible rfl)
   (try simp only [Act.put, List.setIfInBounds_toArray, List.set_cons_zero, List.set_cons_succ])
   refine wpAnyH_ready (rs := [26]) (by kernel_rfl) (by simp) ?_
   refine AllReadyH.cons rfl (fun K9 hK => ?_) AllReadyH.nil
   rw [if_pos (by kernel_rfl)]
   go_simp
   go_wp2_with (go_at_call 14; refine (HK8.out _ HQ14.out).mono ?_; rintro e w16 ⟨rfl, hba⟩)
   have HQ16 := hid (below2 HQ14.out hba)
   clear hba
   refine hK.out _ _ HQ16.out (fun hHeld2 => ?_)
   clear hK K9 hHeld
   rename _ => hHeld
   refine' wpAnyH_take (i := 27) (oi := ⟨some 63, _, _, _, _, _⟩) (v := _) rfl (by kernel_rfl) (by kernel_rfl) (by kernel_rfl) (fun _ _ _ h => h) (Or.inl ⟨by kernel_rfl, ?hy36⟩) (by assumption) ?rest36
   case hy36 => (intro wx hSw; (try dsimp only at hSw); go_simp; first | done | with_reducible rfl)
   (try simp only [Act.put, List.setIfInBounds_toArray, List.set_cons_zero, List.set_cons_succ])
   refine' wpAnyH_take (i := 28) (oi := ⟨some 4, _, _, _, _, _⟩) (v := _) rfl (by kernel_rfl) (by kernel_rfl) (by kernel_rfl) (fun _ _ _ h => h) (Or.inl ⟨by kernel_rfl, ?hy37⟩) (by assumption) ?rest37
   case hy37 => (intro wx hSw; (try dsimp only at hSw); go_simp; first | done | with_reducible rfl)
   (try simp only [Act.put, List.setIfInBounds_toArray, List.set_cons_zero, List.set_cons_succ])
   refine wpAnyH_done (by kernel_rfl) ?_ _
   go_wp2
   go_ret
   exact ⟨rfl, below2 HB8.out HQ16.out⟩

end Go.Proofs.YtamockkjbkibdaaGreatDoor
