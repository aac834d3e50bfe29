/-
  Walks and plain facts that this claim leans on, put together out of 3 texts: Eyk, Ere, Eyr.
-/
import Derived.Test.YtmhooefajdndjaaGreatDoorProg
import Derived.Test.YtmhooefajdndjaaGreatDoorQa1
import Derived.Test.YtmhooefajdndjaaGreatDoorQa3
import Derived.Test.YtmhooefajdndjaaGreatDoorQa6
import Derived.Test.YtmhooefajdndjaaGreatDoorQa7
import Derived.Test.YtmhooefajdndjaaGreatDoorQa8
import Derived.Test.YtmhooefajdndjaaGreatDoorQa11
import Derived.Test.YtmhooefajdndjaaGreatDoorQa12
import Derived.Test.YtmhooefajdndjaaGreatDoorQa13
import Derived.Test.YtmhooefajdndjaaGreatDoorQa18
import Derived.Test.YtmhooefajdndjaaGreatDoorQa22
import Derived.Test.YtmhooefajdndjaaGreatDoorQa24
import Derived.Test.YtmhooefajdndjaaGreatDoorQa25
import Derived.Test.YtmhooefajdndjaaGreatDoorQa26
import Derived.Test.YtmhooefajdndjaaGreatDoorQa27
import Derived.Test.YtmhooefajdndjaaGreatDoorQa28
import Derived.Deep.Cut
import Derived.Deep.QuietTactic
import Derived.BigQuiet
import Derived.BigRegion
import Derived.Deep.RegionHeld
import Derived.Lib.IndexMore
import Derived.Lib.Join
import Derived.Lib.LastIndexByte
import Derived.WalkKit
import Derived.Lib.Strings
import Derived.Lib.UnsafeStr
import Derived.Laws.IdiomStrings
import Derived.Laws.AppendOwn
import Derived.Laws.BitsAllLaws
import Derived.Lib.Bytealg
import Derived.Lib.BufferMore
import Derived.Lib.BufferRead
import Derived.Lib.RuneBytes
import Derived.Laws.RangeAny
import Derived.LoopN
import Derived.RegionTactic
import Derived.Deep.RegionWith
import Derived.OwnWalk
import Derived.Deep.RegionLaw
import Derived.Laws.OwnMore
import Derived.Deep.LoopGhost
import Derived.Shelf.Strings.Builder1
import Derived.Shelf.Strings.Builder2
import Derived.Shelf.Strings.OnBuilder
import Derived.Shelf.Strings.Trim
import Derived.Shelf.Small.Utf8
import Derived.Shelf.Small.Strs
import Derived.Shelf.Small.Wraps
import Derived.Shelf.Strings.BuilderF
import Derived.Shelf.Strings.BuilderK
import Derived.Shelf.Strings.BuilderRune
import Derived.Shelf.Utf8.AppendRune
import Derived.Shelf.Utf8.AppendRunePlain
import Derived.Shelf.Strings.Builder2Cap
import Derived.Shelf.Strconv.Itoa0
import Derived.Shelf.Strconv.Itoa1
import Derived.Shelf.LaysM
import Derived.Shelf.Strconv.Itoa2
import Derived.Shelf.Strconv.Itoa3
import Derived.Shelf.Strings.Search1
import Derived.Shelf.Strings.Search2
import Derived.Shelf.Strings.Search3
import Derived.Shelf.Strings.Cut
import Derived.Shelf.Strings.Count
import Derived.Shelf.Strings.Shaped
import Derived.Shelf.Strings.LastIndex
import Derived.Shelf.Strings.Prefix
import Derived.Shelf.Strings.Split
import Derived.Shelf.Strings.Replace
import Derived.Shelf.Strings.Runes
import Derived.Shelf.Strings.IndexAny
import Derived.Shelf.Strings.AsciiSet
import Derived.Shelf.Strings.IndexAnyAll
import Derived.Shelf.Unicode.DecodeSlow
import Derived.Ground.Names2Prog
import Derived.Shelf.Slices.Clone
import Derived.Ground.SlgnProg
import Derived.Shelf.SlicesE.Clone
import Derived.Laws.AppendOwnNone
import Derived.Scope
import Derived.ScopeJumps
import Derived.WalkMore
import Derived.Lib.IndexAny
import Derived.Lib.Replace
import Derived.Lib.TrimByte
import Derived.Lib.ItoaNum
import Derived.Lib.DecodeN
import Derived.Lib.OthersKept
import Derived.Laws.BytesString
import Derived.Deep.WholeRow
import Derived.Lib.AppendStr
import Derived.WalkSpells
import Derived.WalkLawsBesides
import Derived.Lib.AppendIntMem
import Derived.Lib.SmallJoins
import Derived.WalkSmall
import Derived.Laws.CopyOwn
import Derived.Laws.ResultCell
import Derived.Deep.MidRow
import Derived.Lib.FrozenHead2
import Derived.Lib.Builder
import Derived.Lib.SlTrimSet
import Derived.Below
import Derived.Shelf.Strings.SlTrimAscii
import Derived.Laws.Runes
set_option linter.unusedSimpArgs false
set_option linter.unusedVariables false

namespace Go.Proofs.YtmhooefajdndjaaGreatDoor
open Go.RowKit

def judA (p s : List UInt8) (d : Int) : Int := judV (adrOf (urlV p)) (adrOf (urlV s)) d

def badA (s : List UInt8) : Bool := isOk (urlV s) && badU (adrOf (urlV s))

set_option maxHeartbeats 8000000 in
set_option maxRecDepth 100000 in
theorem judgeL_any (S T : ByteArray) (dest : Int) (w : World) (hg : Gd w) (hs : S.size ≤ 9223372036854775807) (ht : T.size ≤ 9223372036854775807) :
  Calls Tryz.prog 27 #[.string S, .string T, .int .i64 dest] w fun e w' => e = .returned (.int .i64 (judA S.data.toList T.data.toList dest)) ∧ Below w.heap.size w w' := by
 have HU := hid (fun w => url_k S w hs)
 have HV := hid (fun w => url_k T w ht)
 have h2 : TrOk (adrOf (urlV T.data.toList)) := tr_read _
 unfold judA
 have HOf := hid (fun (pv qv : Value) (X : World) (hX : Gd X) (hp : PathAt X pv (adrOf (urlV S.data.toList)).path) (hq : PathAt X qv (adrOf (urlV T.data.toList)).path) => judge14_any (adrOf (urlV S.data.toList)) (adrOf (urlV T.data.toList)) pv qv dest X hX hp hq h2)
 generalize urlV S.data.toList = ru at HU HOf ⊢
 generalize urlV T.data.toList = rv at HV HOf ⊢
 unfold UPost at HU HV
 generalize adrOf ru = A at HU HOf ⊢
 generalize adrOf rv = B at HV HOf ⊢
 have HG := hid hg
 clear h2 hg
 go_enter Tryz.func27, Tryz.ntmps27
 go_wp2_with fail
 refine (HU.out _).mono ?_
 rintro e w1 ⟨pv, rfl, hown, hb1⟩
 obtain ⟨da, dn, dc, rfl⟩ := own_sl hown
 obtain ⟨d0, d1, d2, d3, d4, d5, d6, d8, d9, d10, d11, hxd⟩ := adr_cells A da dn dc
 have hvd : adrVal A (.slice da dn dc) = .agg #[.string d0, .string d1, .string d2, .string d3, .bool d4, .int .i64 d5, .bool d6, .slice da dn dc, .string d8, .string d9, .bool d10, .bool d11] := by unfold adrVal; rw [hxd]
 rw [hvd]
 obtain ⟨W2, hW2⟩ : ∃ X, (w1.alloc (.cells #[.string d0, .string d1, .string d2, .string d3, .bool d4, .int .i64 d5, .bool d6, .slice da dn dc, .string d8, .string d9, .bool d10, .bool d11] 45)) = X := ⟨_, rfl⟩
 have hbW2 : Below w1.heap.size w1 W2 := by rw [← hW2]; exact (Below.refl _ w1).alloc (Nat.le_refl _) _
 have hsW2 : W2.heap.size = w1.heap.size + 1 := by rw [← hW2]; simp
 have hAW2 : AdrIn W2 w1.heap.size A (.slice da dn dc) := by
  unfold AdrIn
  rw [hxd, ← hW2]
  exact heap_alloc_new w1 _
 have HPP2 := hid ((own_path hown).kept hbW2)
 have HB2 := hid (below2 hb1 hbW2)
 have HA2 := hid hAW2
 have HXd := hid hxd
 have HVd := hid hvd
 clear hown hb1 hbW2 hAW2 hxd hvd hsW2
 go_wp2_with fail
 refine (HV.out _).mono ?_
 rintro e w3 ⟨qv, rfl, hown, hb3⟩
 obtain ⟨va, vn, vc, rfl⟩ := own_sl hown
 obtain ⟨v0, v1, v2, v3, v4, v5, v6, v8, v9, v10, v11, hxv⟩ := adr_cells B va vn vc
 have hvv : adrVal B (.slice va vn vc) = .agg #[.string v0, .string v1, .string v2, .string v3, .bool v4, .int .i64 v5, .bool v6, .slice va vn vc, .string v8, .string v9, .bool v10, .bool v11] := by unfold adrVal; rw [hxv]
 rw [hvv]
 obtain ⟨W4, hW4⟩ : ∃ X, (w3.alloc (.cells #[.string v0, .string v1, .string v2, .string v3, .bool v4, .int .i64 v5, .bool v6, .slice va vn vc, .string v8, .string v9, .bool v10, .bool v11] 45)) = X := ⟨_, rfl⟩
 have hbW4 : Below w3.heap.size w3 W4 := by rw [← hW4]; exact (Below.refl _ w3).alloc (Nat.le_refl _) _
 have hsW4 : W4.heap.size = w3.heap.size + 1 := by rw [← hW4]; simp
 have hAW4 : AdrIn W4 w3.heap.size B (.slice va vn vc) := by
  unfold AdrIn
  rw [hxv, ← hW4]
  exact heap_alloc_new w3 _
 have hb34 := below2 hb3 hbW4
 have HB4 := hid (below2 HB2.out hb34)
 have HOc := hid (HOf.out _ _ W4 (HG.out.kept HB4.out) (HPP2.out.kept hb34) ((own_path hown).kept hbW4))
 rw [HVd.out, hvv] at HOc
 obtain ⟨y0, y1, y2, y3, y4, y5, y6, y7, y8, y9, y10, y11⟩ := adr_twelve HXd.out (HA2.out.kept hb34)
 obtain ⟨z0, z1, z2, z3, z4, z5, z6, z7, z8, z9, z10, z11⟩ := adr_twelve hxv hAW4
 clear hown hb3 hbW4 hAW4 hxv hvv hb34 hsW4
 go_wp2_with fail
 refine HOc.out.mono ?_
 rintro e w5 ⟨rfl, hb5⟩
 go_wp2
 go_ret
 exact ⟨rfl, below2 HB4.out hb5⟩

set_option maxHeartbeats 8000000 in
set_option maxRecDepth 100000 in
theorem badL_any (S : ByteArray) (w : World) (hs : S.size ≤ 9223372036854775807) :
  Calls Tryz.prog 26 #[.string S] w fun e w' => e = .returned (.bool (badA S.data.toList)) ∧ Below w.heap.size w w' := by
 have HU := hid (fun w => url_k S w hs)
 unfold badA
 have HOf := hid (fun (pv : Value) (X : World) (hp : PathAt X pv (adrOf (urlV S.data.toList)).path) => bad14_any (adrOf (urlV S.data.toList)) pv X hp)
 generalize urlV S.data.toList = ru at HU HOf ⊢
 unfold UPost at HU
 generalize isOk ru = ok at HU ⊢
 generalize adrOf ru = A at HU HOf ⊢
 generalize badU A = bu at HOf ⊢
 cases ok with
 | false =>
  go_enter Tryz.func26, Tryz.ntmps26
  go_wp2_with fail
  refine (HU.out _).mono ?_
  rintro e w1 ⟨pv, rfl, hown, hb1⟩
  obtain ⟨da, dn, dc, rfl⟩ := own_sl hown
  obtain ⟨d0, d1, d2, d3, d4, d5, d6, d8, d9, d10, d11, hxd⟩ := adr_cells A da dn dc
  have hvd : adrVal A (.slice da dn dc) = .agg #[.string d0, .string d1, .string d2, .string d3, .bool d4, .int .i64 d5, .bool d6, .slice da dn dc, .string d8, .string d9, .bool d10, .bool d11] := by unfold adrVal; rw [hxd]
  rw [hvd]
  obtain ⟨W2, hW2⟩ : ∃ X, (w1.alloc (.cells #[.string d0, .string d1, .string d2, .string d3, .bool d4, .int .i64 d5, .bool d6, .slice da dn dc, .string d8, .string d9, .bool d10, .bool d11] 45)) = X := ⟨_, rfl⟩
  have hbW2 : Below w1.heap.size w1 W2 := by rw [← hW2]; exact (Below.refl _ w1).alloc (Nat.le_refl _) _
  have hsW2 : W2.heap.size = w1.heap.size + 1 := by rw [← hW2]; simp
  have hAW2 : AdrIn W2 w1.heap.size A (.slice da dn dc) := by
   unfold AdrIn
   rw [hxd, ← hW2]
   exact heap_alloc_new w1 _
  have HB2 := hid (below2 hb1 hbW2)
  clear hown hb1 hbW2 hAW2 hxd hvd hsW2
  go_wp2
  go_ret
  exact ⟨rfl, HB2.out⟩
 | true =>
  go_enter Tryz.func26, Tryz.ntmps26
  go_wp2_with fail
  refine (HU.out _).mono ?_
  rintro e w1 ⟨pv, rfl, hown, hb1⟩
  obtain ⟨da, dn, dc, rfl⟩ := own_sl hown
  obtain ⟨d0, d1, d2, d3, d4, d5, d6, d8, d9, d10, d11, hxd⟩ := adr_cells A da dn dc
  have hvd : adrVal A (.slice da dn dc) = .agg #[.string d0, .string d1, .string d2, .string d3, .bool d4, .int .i64 d5, .bool d6, .slice da dn dc, .string d8, .string d9, .bool d10, .bool d11] := by unfold adrVal; rw [hxd]
  rw [hvd]
  obtain ⟨W2, hW2⟩ : ∃ X, (w1.alloc (.cells #[.string d0, .string d1, .string d2, .string d3, .bool d4, .int .i64 d5, .bool d6, .slice da dn dc, .string d8, .string d9, .bool d10, .bool d11] 45)) = X := ⟨_, rfl⟩
  have hbW2 : Below w1.heap.size w1 W2 := by rw [← hW2]; exact (Below.refl _ w1).alloc (Nat.le_refl _) _
  have hsW2 : W2.heap.size = w1.heap.size + 1 := by rw [← hW2]; simp
  have hAW2 : AdrIn W2 w1.heap.size A (.slice da dn dc) := by
   unfold AdrIn
   rw [hxd, ← hW2]
   exact heap_alloc_new w1 _
  have HB2 := hid (below2 hb1 hbW2)
  have HOc := hid (HOf.out _ W2 ((own_path hown).kept hbW2))
  rw [hvd] at HOc
  obtain ⟨y0, y1, y2, y3, y4, y5, y6, y7, y8, y9, y10, y11⟩ := adr_twelve hxd hAW2
  clear hown hb1 hbW2 hAW2 hxd hvd hsW2
  go_wp2_with fail
  refine HOc.out.mono ?_
  rintro e w3 ⟨rfl, hb3⟩
  go_wp2
  go_ret
  exact ⟨rfl, below2 HB2.out hb3⟩

theorem judgeL_at (S T : ByteArray) (l m : List UInt8) (dest v : Int) (hl : S.data.toList = l) (hm : T.data.toList = m) (h : judA l m dest = v) (hs : S.size ≤ 9223372036854775807) (ht : T.size ≤ 9223372036854775807) : ∀ w, Gd w → Calls Tryz.prog 27 #[.string S, .string T, .int .i64 dest] w fun e w' => e = .returned (.int .i64 v) ∧ Below w.heap.size w w' := fun w hg => by
 have := judgeL_any S T dest w hg hs ht
 rw [hl, hm, h] at this
 exact this

theorem badL_at (S : ByteArray) (l : List UInt8) (v : Bool) (hl : S.data.toList = l) (h : badA l = v) (hs : S.size ≤ 9223372036854775807) : ∀ w, Calls Tryz.prog 26 #[.string S] w fun e w' => e = .returned (.bool v) ∧ Below w.heap.size w w' := fun w => by
 have := badL_any S w hs
 rw [hl, h] at this
 exact this

theorem kj_0 : judA [104, 116, 116, 112, 115, 58, 47, 47, 97, 47] [104, 116, 116, 112, 58, 47, 47, 98, 47] 2 = 3 := by decide +kernel

theorem kj_1 : judA [104, 116, 116, 112, 115, 58, 47, 47, 97, 47] [104, 116, 116, 112, 58, 47, 47, 98, 47] 4 = 2 := by decide +kernel

theorem kj_2 : judA [104, 116, 116, 112, 58, 47, 47, 97, 47] [104, 116, 116, 112, 58, 47, 47, 98, 47] 2 = 1 := by decide +kernel

theorem kb_0 : badA [104, 116, 116, 112, 58, 47, 47, 104, 58, 54, 54, 54, 55, 47] = true := by decide +kernel

theorem kb_1 : badA [104, 116, 116, 112, 58, 47, 47, 104, 47] = false := by decide +kernel

set_option maxHeartbeats 8000000 in
set_option maxRecDepth 100000 in
theorem known14_any (w : World) (hg : Gd w) : Calls Tryz.prog 28 #[] w fun e w' => e = .returned (.bool true) ∧ Below w.heap.size w w' := by
 have HG0 := hid hg
 have HB0 := hid (Below.refl w.heap.size w)
 clear hg
 have HJ0 := hid (judgeL_at (⟨#[104, 116, 116, 112, 115, 58, 47, 47, 97, 47]⟩ : ByteArray) (⟨#[104, 116, 116, 112, 58, 47, 47, 98, 47]⟩ : ByteArray) _ _ 2 3 rfl rfl kj_0 (by decide) (by decide))
 have HJ1 := hid (judgeL_at (⟨#[104, 116, 116, 112, 115, 58, 47, 47, 97, 47]⟩ : ByteArray) (⟨#[104, 116, 116, 112, 58, 47, 47, 98, 47]⟩ : ByteArray) _ _ 4 2 rfl rfl kj_1 (by decide) (by decide))
 have HJ2 := hid (judgeL_at (⟨#[104, 116, 116, 112, 58, 47, 47, 97, 47]⟩ : ByteArray) (⟨#[104, 116, 116, 112, 58, 47, 47, 98, 47]⟩ : ByteArray) _ _ 2 1 rfl rfl kj_2 (by decide) (by decide))
 have HK0 := hid (badL_at (⟨#[104, 116, 116, 112, 58, 47, 47, 104, 58, 54, 54, 54, 55, 47]⟩ : ByteArray) _ true rfl kb_0 (by decide))
 have HK1 := hid (badL_at (⟨#[104, 116, 116, 112, 58, 47, 47, 104, 47]⟩ : ByteArray) _ false rfl kb_1 (by decide))
 go_enter Tryz.func28, Tryz.ntmps28
 go_wp2_with fail
 refine (HJ0.out _ HG0.out).mono ?_
 rintro e w1 ⟨rfl, hb1⟩
 have HB1 := hid (below2 HB0.out hb1)
 have HG1 := hid (HG0.out.kept hb1)
 clear hb1
 go_wp2_with fail
 refine (HJ1.out _ HG1.out).mono ?_
 rintro e w2 ⟨rfl, hb2⟩
 have HB2 := hid (below2 HB1.out hb2)
 have HG2 := hid (HG1.out.kept hb2)
 clear hb2
 go_wp2_with fail
 refine (HJ2.out _ HG2.out).mono ?_
 rintro e w3 ⟨rfl, hb3⟩
 have HB3 := hid (below2 HB2.out hb3)
 have HG3 := hid (HG2.out.kept hb3)
 clear hb3
 go_wp2_with fail
 refine (HK0.out _).mono ?_
 rintro e w4 ⟨rfl, hb4⟩
 have HB4 := hid (below2 HB3.out hb4)
 have HG4 := hid (HG3.out.kept hb4)
 clear hb4
 go_wp2_with fail
 refine (HK1.out _).mono ?_
 rintro e w5 ⟨rfl, hb5⟩
 have HB5 := hid (below2 HB4.out hb5)
 have HG5 := hid (HG4.out.kept hb5)
 clear hb5
 go_wp2
 go_ret
 exact ⟨rfl, HB5.out⟩

end Go.Proofs.YtmhooefajdndjaaGreatDoor

namespace Go.Proofs.YtmhooefajdndjaaGreatDoor
open Go.RowKit

theorem path_tx {w : World} {v : Value} {L : List (List UInt8)} (h : PathAt w v L) : TxAt w v L := by
 rcases h with ⟨rfl, rfl⟩ | ⟨b, cap, rfl, h2, h3, h4, h5⟩
 ·exact tx_nil _
 ·exact ⟨some ⟨b, 0, none⟩, cap, rfl, h3, h4, fun j hj => ⟨b, 0, rfl, by rw [Nat.zero_add]; exact h5 j hj⟩⟩

set_option maxHeartbeats 8000000 in
set_option maxRecDepth 100000 in
theorem same3_any (A : Adr) (av bv : Value) (w : World) (ha : PathAt w av A.path) (hb : PathAt w bv A.path) (hl : A.path.length ≤ 1000000) :
  Calls Tryz.prog 31 #[adrVal A av, adrVal A bv] w fun e w' => e = .returned (.bool true) ∧ Below w.heap.size w w' := by
 obtain ⟨ua, un, uc, rfl⟩ := path_sl ha
 obtain ⟨va, vn, vc, rfl⟩ := path_sl hb
 obtain ⟨u0, u1, u2, u3, u4, u5, u6, u8, u9, u10, u11, hxu, hxv⟩ : ∃ u0 u1 u2 u3 u4 u5 u6 u8 u9 u10 u11, adrCells A (.slice ua un uc) = [.string u0, .string u1, .string u2, .string u3, .bool u4, .int .i64 u5, .bool u6, .slice ua un uc, .string u8, .string u9, .bool u10, .bool u11] ∧ adrCells A (.slice va vn vc) = [.string u0, .string u1, .string u2, .string u3, .bool u4, .int .i64 u5, .bool u6, .slice va vn vc, .string u8, .string u9, .bool u10, .bool u11] := ⟨_, _, _, _, _, _, _, _, _, _, _, rfl, rfl⟩
 have hvu : adrVal A (.slice ua un uc) = .agg #[.string u0, .string u1, .string u2, .string u3, .bool u4, .int .i64 u5, .bool u6, .slice ua un uc, .string u8, .string u9, .bool u10, .bool u11] := by unfold adrVal; rw [hxu]
 have hvv : adrVal A (.slice va vn vc) = .agg #[.string u0, .string u1, .string u2, .string u3, .bool u4, .int .i64 u5, .bool u6, .slice va vn vc, .string u8, .string u9, .bool u10, .bool u11] := by unfold adrVal; rw [hxv]
 rw [hvu, hvv]
 obtain ⟨W1, hW1⟩ : ∃ X, (w.alloc (.cells #[.string u0, .string u1, .string u2, .string u3, .bool u4, .int .i64 u5, .bool u6, .slice ua un uc, .string u8, .string u9, .bool u10, .bool u11] 45)) = X := ⟨_, rfl⟩
 have hbW1 : Below w.heap.size w W1 := by rw [← hW1]; exact (Below.refl _ w).alloc (Nat.le_refl _) _
 have hsW1 : W1.heap.size = w.heap.size + 1 := by rw [← hW1]; simp
 have hAW1 : AdrIn W1 w.heap.size A (.slice ua un uc) := by
  unfold AdrIn
  rw [hxu, ← hW1]
  exact heap_alloc_new w _
 obtain ⟨W2, hW2⟩ : ∃ X, (W1.alloc (.cells #[.string u0, .string u1, .string u2, .string u3, .bool u4, .int .i64 u5, .bool u6, .slice va vn vc, .string u8, .string u9, .bool u10, .bool u11] 45)) = X := ⟨_, rfl⟩
 have hbW2 : Below W1.heap.size W1 W2 := by rw [← hW2]; exact (Below.refl _ W1).alloc (Nat.le_refl _) _
 have hsW2 : W2.heap.size = W1.heap.size + 1 := by rw [← hW2]; simp
 have hAW2 : AdrIn W2 W1.heap.size A (.slice va vn vc) := by
  unfold AdrIn
  rw [hxv, ← hW2]
  exact heap_alloc_new W1 _
 have HSm := hid (fun (Z : World) (hZ : Below W2.heap.size W2 Z) => sameT_any (.slice ua un uc) (.slice va vn vc) A.path A.path Z (path_tx (((ha.kept hbW1).kept hbW2).kept hZ)) (path_tx (((hb.kept hbW1).kept hbW2).kept hZ)) hl hl)
 rw [show decide (A.path = A.path) = true by simp] at HSm
 have HBW := hid (below2 hbW1 hbW2)
 have hAW1' := hAW1.kept hbW2
 rw [hsW1] at hAW2
 have HCu := hid (fun (Z : World) (hZ : Below W2.heap.size W2 Z) => adr_twelve hxu (hAW1'.kept hZ))
 have HCv := hid (fun (Z : World) (hZ : Below W2.heap.size W2 Z) => adr_twelve hxv (hAW2.kept hZ))
 have HQ0 := hid ((Below.refl W2.heap.size W2).drew)
 clear hAW1 hAW1' hAW2 hxu hxv hvu hvv hbW1 hbW2 ha hb hl
 go_enter Tryz.func31, Tryz.ntmps31
 obtain ⟨y0, y1, y2, y3, y4, y5, y6, y7, y8, y9, y10, y11⟩ := HCu.out W2 (Below.refl _ _)
 obtain ⟨z0, z1, z2, z3, z4, z5, z6, z7, z8, z9, z10, z11⟩ := HCv.out W2 (Below.refl _ _)
 go_wp2_with fail
 refine (HSm.out _ (Below.refl _ _)).mono ?_
 rintro e w3 ⟨rfl, hb3⟩
 clear y0 z0 y1 z1 y2 z2 y3 z3 y4 z4 y5 z5 y6 z6 y7 z7 y8 z8 y9 z9 y10 z10 y11 z11
 obtain ⟨y0, y1, y2, y3, y4, y5, y6, y7, y8, y9, y10, y11⟩ := HCu.out w3 hb3
 obtain ⟨z0, z1, z2, z3, z4, z5, z6, z7, z8, z9, z10, z11⟩ := HCv.out w3 hb3
 go_wp2
 go_ret
 exact ⟨by simp, below2 HBW.out hb3⟩

end Go.Proofs.YtmhooefajdndjaaGreatDoor

namespace Go.Proofs.YtmhooefajdndjaaGreatDoor
open Go.RowKit

set_option maxHeartbeats 16000000 in
set_option maxRecDepth 100000 in
theorem mixedRaised_walk (p s : ByteArray) (dest : Int) (w : World) (hp : p.size ≤ 140737488351232) (hs : s.size ≤ 140737488351232) (hg : Gd w) :
  Calls Tryz.prog 8 #[.string p, .string s, .int .i64 dest] w fun e w' => e = .returned (.bool true) ∧ Below w.heap.size w w' := by
 have HU := hid (fun w => url_k p w (by omega))
 have HV := hid (fun w => url_k s w (by omega))
 have h2 : TrOk (adrOf (urlV s.data.toList)) := tr_read _
 have HG0 := hid hg
 generalize urlV p.data.toList = ru at HU
 generalize urlV s.data.toList = rv at HV h2
 unfold UPost at HU HV
 generalize isOk ru = ok1 at HU
 generalize isOk rv = ok2 at HV
 generalize adrOf ru = A at HU
 generalize adrOf rv = B at HV h2
 have HLn := hid h2.1
 have HRa := hid (fun (pv : Value) (X : World) (h : PathAt X pv B.path) => raise14_any B pv X h h2.1)
 have HRb := hid (fun (pv : Value) (X : World) (h : PathAt X pv (raiV B).path) => raise14_any (raiV B) pv X h h2.1)
 rw [rai_again] at HRb
 unfold AnPost at HRa HRb
 have HJu := hid (fun (pv qv : Value) (X : World) (hX : Gd X) (h : PathAt X pv A.path) (h' : PathAt X qv (raiV B).path) => judge14_any A (raiV B) pv qv dest X hX h h' h2)
 rw [jud_raised] at HJu
 clear h2 hg
 cases ok1 with
 | false =>
  go_enter Tryz.func8, Tryz.ntmps8
  go_wp2_with fail
  refine (HU.out _).mono ?_
  rintro e w1 ⟨pv, rfl, hown, hb1⟩
  obtain ⟨da, dn, dc, rfl⟩ := own_sl hown
  obtain ⟨d0, d1, d2, d3, d4, d5, d6, d8, d9, d10, d11, hxd⟩ := adr_cells A da dn dc
  have hvd : adrVal A (.slice da dn dc) = .agg #[.string d0, .string d1, .string d2, .string d3, .bool d4, .int .i64 d5, .bool d6, .slice da dn dc, .string d8, .string d9, .bool d10, .bool d11] := by unfold adrVal; rw [hxd]
  rw [hvd]
  obtain ⟨W2, hW2⟩ : ∃ X, (w1.alloc (.cells #[.string d0, .string d1, .string d2, .string d3, .bool d4, .int .i64 d5, .bool d6, .slice da dn dc, .string d8, .string d9, .bool d10, .bool d11] 45)) = X := ⟨_, rfl⟩
  have hbW2 : Below w1.heap.size w1 W2 := by rw [← hW2]; exact (Below.refl _ w1).alloc (Nat.le_refl _) _
  have hsW2 : W2.heap.size = w1.heap.size + 1 := by rw [← hW2]; simp
  have hAW2 : AdrIn W2 w1.heap.size A (.slice da dn dc) := by
   unfold AdrIn
   rw [hxd, ← hW2]
   exact heap_alloc_new w1 _
  have HB2 := hid (below2 hb1 hbW2)
  have HP2 := hid ((own_path hown).kept hbW2)
  have HA2 := hid hAW2
  have HXd := hid hxd
  have HVd := hid hvd
  clear hown hb1 hbW2 hAW2 hxd hvd hsW2
  go_wp2_with fail
  refine (HV.out _).mono ?_
  rintro e w3 ⟨qv, rfl, hown, hb3⟩
  obtain ⟨ua, un, uc, rfl⟩ := own_sl hown
  obtain ⟨u0, u1, u2, u3, u4, u5, u6, u8, u9, u10, u11, hxu, hz0, -, hz5, -⟩ := adr_named B ua un uc
  have hvu : adrVal B (.slice ua un uc) = .agg #[.string u0, .string u1, .string u2, .string u3, .bool u4, .int .i64 u5, .bool u6, .slice ua un uc, .string u8, .string u9, .bool u10, .bool u11] := by unfold adrVal; rw [hxu]
  rw [hvu]
  obtain ⟨W4, hW4⟩ : ∃ X, (w3.alloc (.cells #[.string u0, .string u1, .string u2, .string u3, .bool u4, .int .i64 u5, .bool u6, .slice ua un uc, .string u8, .string u9, .bool u10, .bool u11] 45)) = X := ⟨_, rfl⟩
  have hbW4 : Below w3.heap.size w3 W4 := by rw [← hW4]; exact (Below.refl _ w3).alloc (Nat.le_refl _) _
  have hsW4 : W4.heap.size = w3.heap.size + 1 := by rw [← hW4]; simp
  have hAW4 : AdrIn W4 w3.heap.size B (.slice ua un uc) := by
   unfold AdrIn
   rw [hxu, ← hW4]
   exact heap_alloc_new w3 _
  have hb34 := below2 hb3 hbW4
  have HB4 := hid (below2 HB2.out hb34)
  have HPp4 := hid (HP2.out.kept hb34)
  have HAp4 := hid (HA2.out.kept hb34)
  have HPu4 := hid ((own_path hown).kept hbW4)
  have HAu4 := hid hAW4
  have HXu := hid hxu
  have HVu := hid hvu
  have HZ0 := hid hz0
  have HZ5 := hid hz5
  obtain ⟨y0, y1, y2, y3, y4, y5, y6, y7, y8, y9, y10, y11⟩ := adr_twelve hxu hAW4
  clear hown hb3 hbW4 hAW4 hxu hvu hb34 hsW4 hz0 hz5
  have HK := hid (known14_any W4 (HG0.out.kept HB4.out))
  go_wp2_with fail
  refine HK.out.mono ?_
  rintro e w5 ⟨rfl, hb5⟩
  go_wp2
  go_ret
  exact ⟨rfl, below2 HB4.out hb5⟩
 | true =>
  cases ok2 with
  | false =>
   go_enter Tryz.func8, Tryz.ntmps8
   go_wp2_with fail
   refine (HU.out _).mono ?_
   rintro e w1 ⟨pv, rfl, hown, hb1⟩
   obtain ⟨da, dn, dc, rfl⟩ := own_sl hown
   obtain ⟨d0, d1, d2, d3, d4, d5, d6, d8, d9, d10, d11, hxd⟩ := adr_cells A da dn dc
   have hvd : adrVal A (.slice da dn dc) = .agg #[.string d0, .string d1, .string d2, .string d3, .bool d4, .int .i64 d5, .bool d6, .slice da dn dc, .string d8, .string d9, .bool d10, .bool d11] := by unfold adrVal; rw [hxd]
   rw [hvd]
   obtain ⟨W2, hW2⟩ : ∃ X, (w1.alloc (.cells #[.string d0, .string d1, .string d2, .string d3, .bool d4, .int .i64 d5, .bool d6, .slice da dn dc, .string d8, .string d9, .bool d10, .bool d11] 45)) = X := ⟨_, rfl⟩
   have hbW2 : Below w1.heap.size w1 W2 := by rw [← hW2]; exact (Below.refl _ w1).alloc (Nat.le_refl _) _
   have hsW2 : W2.heap.size = w1.heap.size + 1 := by rw [← hW2]; simp
   have hAW2 : AdrIn W2 w1.heap.size A (.slice da dn dc) := by
    unfold AdrIn
    rw [hxd, ← hW2]
    exact heap_alloc_new w1 _
   have HB2 := hid (below2 hb1 hbW2)
   have HP2 := hid ((own_path hown).kept hbW2)
   have HA2 := hid hAW2
   have HXd := hid hxd
   have HVd := hid hvd
   clear hown hb1 hbW2 hAW2 hxd hvd hsW2
   go_wp2_with fail
   refine (HV.out _).mono ?_
   rintro e w3 ⟨qv, rfl, hown, hb3⟩
   obtain ⟨ua, un, uc, rfl⟩ := own_sl hown
   obtain ⟨u0, u1, u2, u3, u4, u5, u6, u8, u9, u10, u11, hxu, hz0, -, hz5, -⟩ := adr_named B ua un uc
   have hvu : adrVal B (.slice ua un uc) = .agg #[.string u0, .string u1, .string u2, .string u3, .bool u4, .int .i64 u5, .bool u6, .slice ua un uc, .string u8, .string u9, .bool u10, .bool u11] := by unfold adrVal; rw [hxu]
   rw [hvu]
   obtain ⟨W4, hW4⟩ : ∃ X, (w3.alloc (.cells #[.string u0, .string u1, .string u2, .string u3, .bool u4, .int .i64 u5, .bool u6, .slice ua un uc, .string u8, .string u9, .bool u10, .bool u11] 45)) = X := ⟨_, rfl⟩
   have hbW4 : Below w3.heap.size w3 W4 := by rw [← hW4]; exact (Below.refl _ w3).alloc (Nat.le_refl _) _
   have hsW4 : W4.heap.size = w3.heap.size + 1 := by rw [← hW4]; simp
   have hAW4 : AdrIn W4 w3.heap.size B (.slice ua un uc) := by
    unfold AdrIn
    rw [hxu, ← hW4]
    exact heap_alloc_new w3 _
   have hb34 := below2 hb3 hbW4
   have HB4 := hid (below2 HB2.out hb34)
   have HPp4 := hid (HP2.out.kept hb34)
   have HAp4 := hid (HA2.out.kept hb34)
   have HPu4 := hid ((own_path hown).kept hbW4)
   have HAu4 := hid hAW4
   have HXu := hid hxu
   have HVu := hid hvu
   have HZ0 := hid hz0
   have HZ5 := hid hz5
   obtain ⟨y0, y1, y2, y3, y4, y5, y6, y7, y8, y9, y10, y11⟩ := adr_twelve hxu hAW4
   clear hown hb3 hbW4 hAW4 hxu hvu hb34 hsW4 hz0 hz5
   have HK := hid (known14_any W4 (HG0.out.kept HB4.out))
   go_wp2_with fail
   refine HK.out.mono ?_
   rintro e w5 ⟨rfl, hb5⟩
   go_wp2
   go_ret
   exact ⟨rfl, below2 HB4.out hb5⟩
  | true =>
   go_enter Tryz.func8, Tryz.ntmps8
   go_wp2_with fail
   refine (HU.out _).mono ?_
   rintro e w1 ⟨pv, rfl, hown, hb1⟩
   obtain ⟨da, dn, dc, rfl⟩ := own_sl hown
   obtain ⟨d0, d1, d2, d3, d4, d5, d6, d8, d9, d10, d11, hxd⟩ := adr_cells A da dn dc
   have hvd : adrVal A (.slice da dn dc) = .agg #[.string d0, .string d1, .string d2, .string d3, .bool d4, .int .i64 d5, .bool d6, .slice da dn dc, .string d8, .string d9, .bool d10, .bool d11] := by unfold adrVal; rw [hxd]
   rw [hvd]
   obtain ⟨W2, hW2⟩ : ∃ X, (w1.alloc (.cells #[.string d0, .string d1, .string d2, .string d3, .bool d4, .int .i64 d5, .bool d6, .slice da dn dc, .string d8, .string d9, .bool d10, .bool d11] 45)) = X := ⟨_, rfl⟩
   have hbW2 : Below w1.heap.size w1 W2 := by rw [← hW2]; exact (Below.refl _ w1).alloc (Nat.le_refl _) _
   have hsW2 : W2.heap.size = w1.heap.size + 1 := by rw [← hW2]; simp
   have hAW2 : AdrIn W2 w1.heap.size A (.slice da dn dc) := by
    unfold AdrIn
    rw [hxd, ← hW2]
    exact heap_alloc_new w1 _
   have HB2 := hid (below2 hb1 hbW2)
   have HP2 := hid ((own_path hown).kept hbW2)
   have HA2 := hid hAW2
   have HXd := hid hxd
   have HVd := hid hvd
   clear hown hb1 hbW2 hAW2 hxd hvd hsW2
   go_wp2_with fail
   refine (HV.out _).mono ?_
   rintro e w3 ⟨qv, rfl, hown, hb3⟩
   obtain ⟨ua, un, uc, rfl⟩ := own_sl hown
   obtain ⟨u0, u1, u2, u3, u4, u5, u6, u8, u9, u10, u11, hxu, hz0, -, hz5, -⟩ := adr_named B ua un uc
   have hvu : adrVal B (.slice ua un uc) = .agg #[.string u0, .string u1, .string u2, .string u3, .bool u4, .int .i64 u5, .bool u6, .slice ua un uc, .string u8, .string u9, .bool u10, .bool u11] := by unfold adrVal; rw [hxu]
   rw [hvu]
   obtain ⟨W4, hW4⟩ : ∃ X, (w3.alloc (.cells #[.string u0, .string u1, .string u2, .string u3, .bool u4, .int .i64 u5, .bool u6, .slice ua un uc, .string u8, .string u9, .bool u10, .bool u11] 45)) = X := ⟨_, rfl⟩
   have hbW4 : Below w3.heap.size w3 W4 := by rw [← hW4]; exact (Below.refl _ w3).alloc (Nat.le_refl _) _
   have hsW4 : W4.heap.size = w3.heap.size + 1 := by rw [← hW4]; simp
   have hAW4 : AdrIn W4 w3.heap.size B (.slice ua un uc) := by
    unfold AdrIn
    rw [hxu, ← hW4]
    exact heap_alloc_new w3 _
   have hb34 := below2 hb3 hbW4
   have HB4 := hid (below2 HB2.out hb34)
   have HPp4 := hid (HP2.out.kept hb34)
   have HAp4 := hid (HA2.out.kept hb34)
   have HPu4 := hid ((own_path hown).kept hbW4)
   have HAu4 := hid hAW4
   have HXu := hid hxu
   have HVu := hid hvu
   have HZ0 := hid hz0
   have HZ5 := hid hz5
   obtain ⟨y0, y1, y2, y3, y4, y5, y6, y7, y8, y9, y10, y11⟩ := adr_twelve hxu hAW4
   clear hown hb3 hbW4 hAW4 hxu hvu hb34 hsW4 hz0 hz5
   have HRc := hid (HRa.out _ W4 HPu4.out)
   rw [HVu.out] at HRc
   go_wp2_with fail
   refine HRc.out.mono ?_
   rintro e w5 ⟨gv, rfl, hpg, hb5⟩
   obtain ⟨va, vn, vc, rfl⟩ := path_sl hpg
   obtain ⟨v0, v1, v2, v3, v4, v5, v6, v8, v9, v10, v11, hxv⟩ := adr_cells (raiV B) va vn vc
   have hvv : adrVal (raiV B) (.slice va vn vc) = .agg #[.string v0, .string v1, .string v2, .string v3, .bool v4, .int .i64 v5, .bool v6, .slice va vn vc, .string v8, .string v9, .bool v10, .bool v11] := by unfold adrVal; rw [hxv]
   rw [hvv]
   obtain ⟨W6, hW6⟩ : ∃ X, (w5.alloc (.cells #[.string v0, .string v1, .string v2, .string v3, .bool v4, .int .i64 v5, .bool v6, .slice va vn vc, .string v8, .string v9, .bool v10, .bool v11] 45)) = X := ⟨_, rfl⟩
   have hbW6 : Below w5.heap.size w5 W6 := by rw [← hW6]; exact (Below.refl _ w5).alloc (Nat.le_refl _) _
   have hsW6 : W6.heap.size = w5.heap.size + 1 := by rw [← hW6]; simp
   have hAW6 : AdrIn W6 w5.heap.size (raiV B) (.slice va vn vc) := by
    unfold AdrIn
    rw [hxv, ← hW6]
    exact heap_alloc_new w5 _
   have hb56 := below2 hb5 hbW6
   obtain ⟨W7, hW7⟩ : ∃ X, (W6.alloc (.cells #[.string v0, .string v1, .string v2, .string v3, .bool v4, .int .i64 v5, .bool v6, .slice va vn vc, .string v8, .string v9, .bool v10, .bool v11] 45)) = X := ⟨_, rfl⟩
   have hbW7 : Below W6.heap.size W6 W7 := by rw [← hW7]; exact (Below.refl _ W6).alloc (Nat.le_refl _) _
   have hA7 : AdrIn W7 W6.heap.size (raiV B) (.slice va vn vc) := by
    unfold AdrIn
    rw [hxv, ← hW7]
    exact heap_alloc_new W6 _
   have hAp6 := HAp4.out.kept hb56
   have hAu6 := HAu4.out.kept hb56
   have hPp6 := HPp4.out.kept hb56
   have hPu6 := HPu4.out.kept hb56
   have hPv6 := hpg.kept hbW6
   obtain ⟨W8, hW8⟩ : ∃ X, W7.setCell ⟨W6.heap.size, 0, none⟩ (.string u0) = X := ⟨_, rfl⟩
   obtain ⟨W9, hW9⟩ : ∃ X, W8.setCell ⟨W6.heap.size, 5, none⟩ (.int .i64 u5) = X := ⟨_, rfl⟩
   have hA8 : AdrIn W8 W6.heap.size { raiV B with scheme := B.scheme } (.slice va vn vc) := by rw [← hW8]; exact hA7.set 0 _ (by rw [ext_ba HZ0.out]; rfl)
   have hA9 : AdrIn W9 W6.heap.size B (.slice va vn vc) := by rw [← hW9]; exact hA8.set 5 _ (by rw [HZ5.out]; rfl)
   have hb68 : Below W6.heap.size W6 W8 := by rw [← hW8]; exact hbW7.setCell (p := ⟨W6.heap.size, 0, none⟩) (Nat.le_refl _) _
   have hb69 : Below W6.heap.size W6 W9 := by rw [← hW9]; exact hb68.setCell (p := ⟨W6.heap.size, 5, none⟩) (Nat.le_refl _) _
   have hAp9 := hAp6.kept hb69
   have hAu9 := hAu6.kept hb69
   have hAv9 := hAW6.kept hb69
   have hPp9 := hPp6.kept hb69
   have hPu9 := hPu6.kept hb69
   have hPv9 : PathAt W9 (.slice va vn vc) (raiV B).path := hPv6.kept hb69
   have hB9 : Below w.heap.size w W9 := below2 (below2 HB4.out hb56) hb69
   have hxw : adrCells B (.slice va vn vc) = [.string u0, .string u1, .string u2, .string u3, .bool u4, .int .i64 u5, .bool u6, .slice va vn vc, .string u8, .string u9, .bool u10, .bool u11] := by
    have : adrCells B (.slice va vn vc) = (adrCells B (.slice ua un uc)).set 7 (.slice va vn vc) := rfl
    rw [this, HXu.out]
    rfl
   have hvw : adrVal B (.slice va vn vc) = .agg #[.string u0, .string u1, .string u2, .string u3, .bool u4, .int .i64 u5, .bool u6, .slice va vn vc, .string u8, .string u9, .bool u10, .bool u11] := by unfold adrVal; rw [hxw]
   have HRp := hid (show ∀ Z, Below W9.heap.size W9 Z → Z.rangeAt (w1.heap.size) 0 [.string d0, .string d1, .string d2, .string d3, .bool d4, .int .i64 d5, .bool d6, .slice da dn dc, .string d8, .string d9, .bool d10, .bool d11] from fun Z hZ => by
    have := range_row (show Z.heap[w1.heap.size]? = some (.cells (adrCells A (.slice da dn dc)).toArray 45 (0, 0)) from hAp9.kept hZ)
    rw [HXd.out] at this
    exact this)
   have HRu := hid (show ∀ Z, Below W9.heap.size W9 Z → Z.rangeAt (w3.heap.size) 0 [.string u0, .string u1, .string u2, .string u3, .bool u4, .int .i64 u5, .bool u6, .slice ua un uc, .string u8, .string u9, .bool u10, .bool u11] from fun Z hZ => by
    have := range_row (show Z.heap[w3.heap.size]? = some (.cells (adrCells B (.slice ua un uc)).toArray 45 (0, 0)) from hAu9.kept hZ)
    rw [HXu.out] at this
    exact this)
   have HRv := hid (show ∀ Z, Below W9.heap.size W9 Z → Z.rangeAt (w5.heap.size) 0 [.string v0, .string v1, .string v2, .string v3, .bool v4, .int .i64 v5, .bool v6, .slice va vn vc, .string v8, .string v9, .bool v10, .bool v11] from fun Z hZ => by
    have := range_row (show Z.heap[w5.heap.size]? = some (.cells (adrCells (raiV B) (.slice va vn vc)).toArray 45 (0, 0)) from hAv9.kept hZ)
    rw [hxv] at this
    exact this)
   have HRw := hid (show ∀ Z, Below W9.heap.size W9 Z → Z.rangeAt (W6.heap.size) 0 [.string u0, .string u1, .string u2, .string u3, .bool u4, .int .i64 u5, .bool u6, .slice va vn vc, .string u8, .string u9, .bool u10, .bool u11] from fun Z hZ => by
    have := range_row (show Z.heap[W6.heap.size]? = some (.cells (adrCells B (.slice va vn vc)).toArray 45 (0, 0)) from hA9.kept hZ)
    rw [hxw] at this
    exact this)
   have HG9 := hid (HG0.out.kept hB9)
   have HB9 := hid hB9
   have HJc := hid (fun (Z : World) (hZ : Below W9.heap.size W9 Z) => HJu.out (.slice da dn dc) (.slice va vn vc) Z (HG9.out.kept hZ) (hPp9.kept hZ) (hPv9.kept hZ))
   rw [HVd.out, hvv] at HJc
   have HRc2 := hid (fun (Z : World) (hZ : Below W9.heap.size W9 Z) => HRb.out (.slice va vn vc) Z (hPv9.kept hZ))
   rw [hvv] at HRc2
   have HVv := hid hvv
   have HPv9 := hid hPv9
   have HSw := hid (fun (Z : World) (hZ : Below W9.heap.size W9 Z) => same3_any B (.slice va vn vc) (.slice ua un uc) Z (hPv9.kept hZ) (hPu9.kept hZ) HLn.out)
   rw [hvw, HVu.out] at HSw
   have HK9 := hid (fun (Z : World) (hZ : Below W9.heap.size W9 Z) => known14_any Z (HG9.out.kept hZ))
   obtain ⟨x0, x1, x2, x3, x4, x5, x6, x7, x8, x9, x10, x11⟩ := adr_twelve hxv hAW6
   have k0 := hA7.cell 0 _ (by rw [hxv]; rfl)
   have f0 := hA7.frozen 0
   have k5 : W8.cell? ⟨W6.heap.size, 5, none⟩ = some (.int .i64 v5) := hA8.cell 5 _ (by
    have : adrCells { raiV B with scheme := B.scheme } (.slice va vn vc) = (adrCells (raiV B) (.slice va vn vc)).set 0 (.string ⟨B.scheme.toArray⟩) := rfl
    rw [this, hxv]; rfl)
   have f5 := hA8.frozen 5
   have z0 := (hAu6.kept hbW7).cell 0 _ (by rw [HXu.out]; rfl)
   have z5 := (hAu6.kept hb68).cell 5 _ (by rw [HXu.out]; rfl)
   have HQ0 := hid ((Below.refl W9.heap.size W9).drew)
   clear hb5 hbW6 hAW6 hsW6 hb56 hbW7 hA7 hAp6 hAu6 hPp6 hPu6 hPv6 hb68 hb69 hA8 hA9 hAp9 hAu9 hAv9 hPp9 hPu9 hPv9 hB9 hxw hvw hxv hvv hpg HRc HRa HRb HJu
   go_upto_region 9 with fail
   refine wp_region_held_drew (S := (fun wx => Below W9.heap.size W9 wx)) (by kernel_rfl) HQ0.out (fun hHeld => ?_)
   refine wpAnyH_to (fuel' := 20) (listed' := #[false, false, false, false, false, false, false, false, false, false, false, false, false, false, false, false, false, false, false, false]) rfl rfl ?_
   refine wpAnyH_take (i := 0) (oi := ⟨some 39, _, _, _, _, _⟩) rfl (by kernel_rfl) (by kernel_rfl) (by kernel_rfl) (fun _ _ _ h => h) (yieldsIf_load_mid (by kernel_rfl) 45 (.tmp 7) rfl (w1.heap.size) 0 rfl [.string d0, .string d1, .string d2, .string d3, .bool d4, .int .i64 d5, .bool d6, .slice da dn dc, .string d8, .string d9, .bool d10, .bool d11] _ HRp.out Tryz.underlying45 rfl sizeU) (by assumption) ?_
   (try simp only [Act.put, List.setIfInBounds_toArray, List.set_cons_zero, List.set_cons_succ])
   refine wpAnyH_take (i := 1) (oi := ⟨some 40, _, _, _, _, _⟩) rfl (by kernel_rfl) (by kernel_rfl) (by kernel_rfl) (fun _ _ _ h => h) (yieldsIf_load_mid (by kernel_rfl) 45 (.tmp 11) rfl (w5.heap.size) 0 rfl [.string v0, .string v1, .string v2, .string v3, .bool v4, .int .i64 v5, .bool v6, .slice va vn vc, .string v8, .string v9, .bool v10, .bool v11] _ HRv.out Tryz.underlying45 rfl sizeU) (by assumption) ?_
   (try simp only [Act.put, List.setIfInBounds_toArray, List.set_cons_zero, List.set_cons_succ])
   refine' wpAnyH_take (i := 2) (oi := ⟨some 41, _, _, _, _, _⟩) (v := _) rfl (by kernel_rfl) (by kernel_rfl) (by kernel_rfl) (fun _ _ _ h => h) (Or.inl ⟨by kernel_rfl, ?hyW91⟩) (by assumption) ?restW91
   case hyW91 => (intro wx hSw; (try dsimp only at hSw); go_simp; first | done | with_reducible rfl)
   (try simp only [Act.put, List.setIfInBounds_toArray, List.set_cons_zero, List.set_cons_succ])
   refine wpAnyH_ready (rs := [3]) (by kernel_rfl) (by simp) ?_
   refine AllReadyH.cons rfl (fun K9 hK => ?_) AllReadyH.nil
   rw [if_pos (by kernel_rfl)]
   go_simp
   go_wp2_with (go_at_call 29; refine (HJc.out _ HQ0.out).mono ?_; rintro e w11 ⟨rfl, hba⟩)
   have HQ11 := hid (below2 HQ0.out hba)
   clear hba
   refine hK.out _ _ HQ11.out (fun hHeld2 => ?_)
   clear hK K9 hHeld
   rename _ => hHeld
   refine' wpAnyH_take (i := 4) (oi := ⟨some 43, _, _, _, _, _⟩) (v := _) rfl (by kernel_rfl) (by kernel_rfl) (by kernel_rfl) (fun _ _ _ h => h) (Or.inl ⟨by kernel_rfl, ?hyW92⟩) (by assumption) ?restW92
   case hyW92 => (intro wx hSw; (try dsimp only at hSw); go_simp; first | done | with_reducible rfl)
   (try simp only [Act.put, List.setIfInBounds_toArray, List.set_cons_zero, List.set_cons_succ])
   refine' wpAnyH_take (i := 5) (oi := ⟨some 44, _, _, _, _, _⟩) (v := _) rfl (by kernel_rfl) (by kernel_rfl) (by kernel_rfl) (fun _ _ _ h => h) (Or.inl ⟨by kernel_rfl, ?hyW93⟩) (by assumption) ?restW93
   case hyW93 => (intro wx hSw; (try dsimp only at hSw); go_simp; first | done | with_reducible rfl)
   (try simp only [Act.put, List.setIfInBounds_toArray, List.set_cons_zero, List.set_cons_succ])
   refine wpAnyH_take (i := 6) (oi := ⟨some 45, _, _, _, _, _⟩) rfl (by kernel_rfl) (by kernel_rfl) (by kernel_rfl) (fun _ _ _ h => h) (yieldsIf_load_mid (by kernel_rfl) 45 (.tmp 11) rfl (w5.heap.size) 0 rfl [.string v0, .string v1, .string v2, .string v3, .bool v4, .int .i64 v5, .bool v6, .slice va vn vc, .string v8, .string v9, .bool v10, .bool v11] _ HRv.out Tryz.underlying45 rfl sizeU) (by assumption) ?_
   (try simp only [Act.put, List.setIfInBounds_toArray, List.set_cons_zero, List.set_cons_succ])
   refine wpAnyH_take (i := 8) (oi := ⟨some 47, _, _, _, _, _⟩) rfl (by kernel_rfl) (by kernel_rfl) (by kernel_rfl) (fun _ _ _ h => h) (yieldsIf_load_mid (by kernel_rfl) 45 (.tmp 11) rfl (w5.heap.size) 0 rfl [.string v0, .string v1, .string v2, .string v3, .bool v4, .int .i64 v5, .bool v6, .slice va vn vc, .string v8, .string v9, .bool v10, .bool v11] _ HRv.out Tryz.underlying45 rfl sizeU) (by assumption) ?_
   (try simp only [Act.put, List.setIfInBounds_toArray, List.set_cons_zero, List.set_cons_succ])
   refine wpAnyH_ready (rs := [7]) (by kernel_rfl) (by simp) ?_
   refine AllReadyH.cons rfl (fun K9 hK => ?_) AllReadyH.nil
   rw [if_pos (by kernel_rfl)]
   go_simp
   go_wp2_with (go_at_call 32; refine (HRc2.out _ HQ11.out).mono ?_; rintro e w12 ⟨gv, rfl, hpg, hba⟩)
   have HQ12 := hid (below2 HQ11.out hba)
   have HSg := hid (same3_any (raiV B) gv (.slice va vn vc) w12 hpg (HPv9.out.kept HQ12.out) HLn.out)
   rw [HVv.out] at HSg
   clear hpg
   clear hba
   refine hK.out _ _ HQ12.out (fun hHeld2 => ?_)
   clear hK K9 hHeld
   rename _ => hHeld
   refine wpAnyH_ready (rs := [9]) (by kernel_rfl) (by simp) ?_
   refine AllReadyH.cons rfl (fun K9 hK => ?_) AllReadyH.nil
   rw [if_pos (by kernel_rfl)]
   go_simp
   go_wp2_with (go_at_call 31; refine (HSg.out).mono ?_; rintro e w13 ⟨rfl, hba⟩)
   have HQ13 := hid (below2 HQ12.out hba)
   clear hba
   refine hK.out _ _ HQ13.out (fun hHeld2 => ?_)
   clear hK K9 hHeld
   rename _ => hHeld
   refine' wpAnyH_take (i := 10) (oi := ⟨some 49, _, _, _, _, _⟩) (v := _) rfl (by kernel_rfl) (by kernel_rfl) (by kernel_rfl) (fun _ _ _ h => h) (Or.inl ⟨by kernel_rfl, ?hyW94⟩) (by assumption) ?restW94
   case hyW94 => (intro wx hSw; (try dsimp only at hSw); go_simp; first | done | with_reducible rfl)
   (try simp only [Act.put, List.setIfInBounds_toArray, List.set_cons_zero, List.set_cons_succ])
   refine' wpAnyH_take (i := 11) (oi := ⟨some 50, _, _, _, _, _⟩) (v := _) rfl (by kernel_rfl) (by kernel_rfl) (by kernel_rfl) (fun _ _ _ h => h) (Or.inl ⟨by kernel_rfl, ?hyW95⟩) (by assumption) ?restW95
   case hyW95 => (intro wx hSw; (try dsimp only at hSw); go_simp; first | done | with_reducible rfl)
   (try simp only [Act.put, List.setIfInBounds_toArray, List.set_cons_zero, List.set_cons_succ])
   refine wpAnyH_take (i := 12) (oi := ⟨some 51, _, _, _, _, _⟩) rfl (by kernel_rfl) (by kernel_rfl) (by kernel_rfl) (fun _ _ _ h => h) (yieldsIf_load_mid (by kernel_rfl) 45 (.tmp 12) rfl (W6.heap.size) 0 rfl [.string u0, .string u1, .string u2, .string u3, .bool u4, .int .i64 u5, .bool u6, .slice va vn vc, .string u8, .string u9, .bool u10, .bool u11] _ HRw.out Tryz.underlying45 rfl sizeU) (by assumption) ?_
   (try simp only [Act.put, List.setIfInBounds_toArray, List.set_cons_zero, List.set_cons_succ])
   refine wpAnyH_take (i := 13) (oi := ⟨some 52, _, _, _, _, _⟩) rfl (by kernel_rfl) (by kernel_rfl) (by kernel_rfl) (fun _ _ _ h => h) (yieldsIf_load_mid (by kernel_rfl) 45 (.tmp 9) rfl (w3.heap.size) 0 rfl [.string u0, .string u1, .string u2, .string u3, .bool u4, .int .i64 u5, .bool u6, .slice ua un uc, .string u8, .string u9, .bool u10, .bool u11] _ HRu.out Tryz.underlying45 rfl sizeU) (by assumption) ?_
   (try simp only [Act.put, List.setIfInBounds_toArray, List.set_cons_zero, List.set_cons_succ])
   refine wpAnyH_ready (rs := [14]) (by kernel_rfl) (by simp) ?_
   refine AllReadyH.cons rfl (fun K9 hK => ?_) AllReadyH.nil
   rw [if_pos (by kernel_rfl)]
   go_simp
   go_wp2_with (go_at_call 31; refine (HSw.out _ HQ13.out).mono ?_; rintro e w14 ⟨rfl, hba⟩)
   have HQ14 := hid (below2 HQ13.out hba)
   clear hba
   refine hK.out _ _ HQ14.out (fun hHeld2 => ?_)
   clear hK K9 hHeld
   rename _ => hHeld
   refine' wpAnyH_take (i := 15) (oi := ⟨some 54, _, _, _, _, _⟩) (v := _) rfl (by kernel_rfl) (by kernel_rfl) (by kernel_rfl) (fun _ _ _ h => h) (Or.inl ⟨by kernel_rfl, ?hyW96⟩) (by assumption) ?restW96
   case hyW96 => (intro wx hSw; (try dsimp only at hSw); go_simp; first | done | with_reducible rfl)
   (try simp only [Act.put, List.setIfInBounds_toArray, List.set_cons_zero, List.set_cons_succ])
   refine' wpAnyH_take (i := 16) (oi := ⟨some 55, _, _, _, _, _⟩) (v := _) rfl (by kernel_rfl) (by kernel_rfl) (by kernel_rfl) (fun _ _ _ h => h) (Or.inl ⟨by kernel_rfl, ?hyW97⟩) (by assumption) ?restW97
   case hyW97 => (intro wx hSw; (try dsimp only at hSw); go_simp; first | done | with_reducible rfl)
   (try simp only [Act.put, List.setIfInBounds_toArray, List.set_cons_zero, List.set_cons_succ])
   refine wpAnyH_ready (rs := [17]) (by kernel_rfl) (by simp) ?_
   refine AllReadyH.cons rfl (fun K9 hK => ?_) AllReadyH.nil
   rw [if_pos (by kernel_rfl)]
   go_simp
   go_wp2_with (go_at_call 28; refine (HK9.out _ HQ14.out).mono ?_; rintro e w15 ⟨rfl, hba⟩)
   have HQ15 := hid (below2 HQ14.out hba)
   clear hba
   refine hK.out _ _ HQ15.out (fun hHeld2 => ?_)
   clear hK K9 hHeld
   rename _ => hHeld
   refine' wpAnyH_take (i := 18) (oi := ⟨some 57, _, _, _, _, _⟩) (v := _) rfl (by kernel_rfl) (by kernel_rfl) (by kernel_rfl) (fun _ _ _ h => h) (Or.inl ⟨by kernel_rfl, ?hyW98⟩) (by assumption) ?restW98
   case hyW98 => (intro wx hSw; (try dsimp only at hSw); go_simp; first | done | with_reducible rfl)
   (try simp only [Act.put, List.setIfInBounds_toArray, List.set_cons_zero, List.set_cons_succ])
   refine' wpAnyH_take (i := 19) (oi := ⟨some 6, _, _, _, _, _⟩) (v := _) rfl (by kernel_rfl) (by kernel_rfl) (by kernel_rfl) (fun _ _ _ h => h) (Or.inl ⟨by kernel_rfl, ?hyW99⟩) (by assumption) ?restW99
   case hyW99 => (intro wx hSw; (try dsimp only at hSw); go_simp; first | done | with_reducible rfl)
   (try simp only [Act.put, List.setIfInBounds_toArray, List.set_cons_zero, List.set_cons_succ])
   refine wpAnyH_done (by kernel_rfl) ?_ _
   go_wp2
   go_ret
   exact ⟨rfl, below2 HB9.out HQ15.out⟩

end Go.Proofs.YtmhooefajdndjaaGreatDoor
