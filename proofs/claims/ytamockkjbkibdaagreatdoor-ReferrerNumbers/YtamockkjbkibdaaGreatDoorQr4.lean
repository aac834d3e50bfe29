/-
  Walks and plain facts that this claim leans on, put together out of 3 texts: Exe, Exk, Exp.
-/
import Derived.Test.YtamockkjbkibdaaGreatDoorProg
import Derived.Test.YtamockkjbkibdaaGreatDoorQa1
import Derived.Test.YtamockkjbkibdaaGreatDoorQa2
import Derived.Test.YtamockkjbkibdaaGreatDoorQa3
import Derived.Test.YtamockkjbkibdaaGreatDoorQa4
import Derived.Test.YtamockkjbkibdaaGreatDoorQa5
import Derived.Test.YtamockkjbkibdaaGreatDoorQa6
import Derived.Test.YtamockkjbkibdaaGreatDoorQa7
import Derived.Test.YtamockkjbkibdaaGreatDoorQa8
import Derived.Test.YtamockkjbkibdaaGreatDoorQa9
import Derived.Test.YtamockkjbkibdaaGreatDoorQa10
import Derived.Test.YtamockkjbkibdaaGreatDoorQa11
import Derived.Test.YtamockkjbkibdaaGreatDoorQa12
import Derived.Test.YtamockkjbkibdaaGreatDoorQa13
import Derived.Test.YtamockkjbkibdaaGreatDoorQa14
import Derived.Test.YtamockkjbkibdaaGreatDoorQa15
import Derived.Test.YtamockkjbkibdaaGreatDoorQa16
import Derived.Test.YtamockkjbkibdaaGreatDoorQa17
import Derived.Test.YtamockkjbkibdaaGreatDoorQa18
import Derived.Test.YtamockkjbkibdaaGreatDoorQa19
import Derived.Test.YtamockkjbkibdaaGreatDoorQa20
import Derived.Test.YtamockkjbkibdaaGreatDoorQa21
import Derived.Test.YtamockkjbkibdaaGreatDoorQa22
import Derived.Test.YtamockkjbkibdaaGreatDoorQa23
import Derived.Test.YtamockkjbkibdaaGreatDoorQa24
import Derived.Test.YtamockkjbkibdaaGreatDoorQa25
import Derived.Test.YtamockkjbkibdaaGreatDoorQa26
import Derived.Test.YtamockkjbkibdaaGreatDoorQa27
import Derived.Test.YtamockkjbkibdaaGreatDoorQa28
import Derived.Test.YtamockkjbkibdaaGreatDoorQa29
import Derived.Test.YtamockkjbkibdaaGreatDoorQa30
import Derived.Test.YtamockkjbkibdaaGreatDoorQa31
import Derived.Test.YtamockkjbkibdaaGreatDoorQa32
import Derived.Test.YtamockkjbkibdaaGreatDoorQr1
import Derived.Test.YtamockkjbkibdaaGreatDoorQr2
import Derived.Test.YtamockkjbkibdaaGreatDoorQr3
import Derived.Deep.Cut
import Derived.Deep.QuietTactic
import Derived.BigQuiet
import Derived.BigRegion
import Derived.Deep.RegionHeld
import Derived.Deep.CutRange
import Derived.Lib.IndexMore
import Derived.Lib.Join
import Derived.Lib.LastIndexByte
import Derived.WalkKit
import Derived.Lib.Strings
import Derived.Lib.UnsafeStr
import Derived.Laws.IdiomStrings
import Derived.Laws.AppendOwn
import Derived.Laws.BitsAllLaws
import Derived.Lib.Bytealg
import Derived.Lib.BufferMore
import Derived.Lib.BufferRead
import Derived.Lib.RuneBytes
import Derived.Laws.RangeAny
import Derived.LoopN
import Derived.RegionTactic
import Derived.Deep.RegionWith
import Derived.OwnWalk
import Derived.Deep.RegionLaw
import Derived.Laws.OwnMore
import Derived.Deep.LoopGhost
import Derived.Shelf.Strings.Builder1
import Derived.Shelf.Strings.Builder2
import Derived.Shelf.Strings.OnBuilder
import Derived.Shelf.Strings.Trim
import Derived.Shelf.Small.Utf8
import Derived.Shelf.Small.Strs
import Derived.Shelf.Small.Wraps
import Derived.Shelf.Strings.BuilderF
import Derived.Shelf.Strings.BuilderK
import Derived.Shelf.Strings.BuilderRune
import Derived.Shelf.Utf8.AppendRune
import Derived.Shelf.Utf8.AppendRunePlain
import Derived.Shelf.Strings.Builder2Cap
import Derived.Shelf.Strconv.Itoa0
import Derived.Shelf.Strconv.Itoa1
import Derived.Shelf.LaysM
import Derived.Shelf.Strconv.Itoa2
import Derived.Shelf.Strconv.Itoa3
import Derived.Shelf.Strings.Search1
import Derived.Shelf.Strings.Search2
import Derived.Shelf.Strings.Search3
import Derived.Shelf.Strings.Cut
import Derived.Shelf.Strings.Count
import Derived.Shelf.Strings.Shaped
import Derived.Shelf.Strings.LastIndex
import Derived.Shelf.Strings.Prefix
import Derived.Shelf.Strings.Split
import Derived.Shelf.Strings.Replace
import Derived.Shelf.Strings.Runes
import Derived.Shelf.Strings.IndexAny
import Derived.Shelf.Strings.AsciiSet
import Derived.Shelf.Strings.IndexAnyAll
import Derived.Shelf.Unicode.DecodeSlow
import Derived.Ground.Names2Prog
import Derived.Shelf.Slices.Clone
import Derived.Ground.SlgnProg
import Derived.Shelf.SlicesE.Clone
import Derived.Laws.AppendOwnNone
import Derived.Scope
import Derived.ScopeJumps
import Derived.WalkMore
import Derived.Lib.IndexAny
import Derived.Lib.Replace
import Derived.Lib.TrimByte
import Derived.Lib.ItoaNum
import Derived.Lib.DecodeN
import Derived.Lib.OthersKept
import Derived.Laws.BytesString
import Derived.Deep.WholeRow
import Derived.Lib.AppendStr
import Derived.WalkSpells
import Derived.WalkLawsBesides
import Derived.Lib.AppendIntMem
import Derived.Lib.SmallJoins
import Derived.WalkSmall
import Derived.Laws.CopyOwn
import Derived.Laws.ResultCell
import Derived.Deep.MidRow
import Derived.Lib.FrozenHead2
import Derived.Lib.Builder
import Derived.Lib.SlTrimSet
import Derived.Below
import Derived.Shelf.Strings.SlTrimAscii
import Derived.Laws.Runes
set_option linter.unusedSimpArgs false
set_option linter.unusedVariables false

namespace Go.Proofs.YtamockkjbkibdaaGreatDoor
open Go.RowKit

theorem st_zero : StOk Adr.zero := ⟨⟨.inr ⟨by decide, by decide⟩, ⟨by decide, by decide, by decide, by decide⟩, ⟨by decide, by decide, by decide⟩, by decide, by decide⟩, by decide, by decide, by decide⟩

theorem st_read (s : List UInt8) : StOk (adrOf (readV s none)) := by
 cases hr : readV s none with
 | ok v => exact slim_st (parse_slim hr)
 | error e => exact st_zero

set_option maxHeartbeats 8000000 in
set_option maxRecDepth 100000 in
theorem of13_any (P S T : ByteArray) (w : World) (hg : Gd w) (hs : S.size ≤ 9223372036854775807) (ht : T.size ≤ 9223372036854775807) :
  Calls Tryz.prog 38 #[.string P, .string S, .string T] w fun e w' => e = .returned (.string ⟨(ofR P.data.toList (adrOf (urlV S.data.toList)) (adrOf (urlV T.data.toList))).toArray⟩) ∧ Below w.heap.size w w' := by
 have HU := hid (fun w => url_k S w hs)
 have HV := hid (fun w => url_k T w ht)
 have h1 : StOk (adrOf (urlV S.data.toList)) := st_read _
 have h2 : StOk (adrOf (urlV T.data.toList)) := st_read _
 have HOf := hid (fun (pv qv : Value) (X : World) (hX : Gd X) (hp : PathAt X pv (adrOf (urlV S.data.toList)).path) (hq : PathAt X qv (adrOf (urlV T.data.toList)).path) => ofR_any P (adrOf (urlV S.data.toList)) pv (adrOf (urlV T.data.toList)) qv X hX hp hq h1 h2)
 generalize urlV S.data.toList = ru at HU HOf ⊢
 generalize urlV T.data.toList = rv at HV HOf ⊢
 unfold UPost at HU HV
 generalize adrOf ru = A at HU HOf ⊢
 generalize adrOf rv = B at HV HOf ⊢
 have HG := hid hg
 clear h1 h2 hg
 go_enter Tryz.func38, Tryz.ntmps38
 go_wp2_with fail
 refine (HU.out _).mono ?_
 rintro e w1 ⟨pv, rfl, hown, hb1⟩
 obtain ⟨da, dn, dc, rfl⟩ := own_sl hown
 obtain ⟨d0, d1, d2, d3, d4, d5, d6, d8, d9, d10, d11, hxd⟩ := adr_cells A da dn dc
 have hvd : adrVal A (.slice da dn dc) = .agg #[.string d0, .string d1, .string d2, .string d3, .bool d4, .int .i64 d5, .bool d6, .slice da dn dc, .string d8, .string d9, .bool d10, .bool d11] := by unfold adrVal; rw [hxd]
 rw [hvd]
 obtain ⟨W2, hW2⟩ : ∃ X, (w1.alloc (.cells #[.string d0, .string d1, .string d2, .string d3, .bool d4, .int .i64 d5, .bool d6, .slice da dn dc, .string d8, .string d9, .bool d10, .bool d11] 24)) = X := ⟨_, rfl⟩
 have hbW2 : Below w1.heap.size w1 W2 := by rw [← hW2]; exact (Below.refl _ w1).alloc (Nat.le_refl _) _
 have hsW2 : W2.heap.size = w1.heap.size + 1 := by rw [← hW2]; simp
 have hAW2 : AdrIn W2 w1.heap.size A (.slice da dn dc) := by
  unfold AdrIn
  rw [hxd, ← hW2]
  exact heap_alloc_new w1 _
 have HPP2 := hid ((own_path hown).kept hbW2)
 have HB2 := hid (below2 hb1 hbW2)
 have HA2 := hid hAW2
 have HXd := hid hxd
 have HVd := hid hvd
 clear hown hb1 hbW2 hAW2 hxd hvd hsW2
 go_wp2_with fail
 refine (HV.out _).mono ?_
 rintro e w3 ⟨qv, rfl, hown, hb3⟩
 obtain ⟨va, vn, vc, rfl⟩ := own_sl hown
 obtain ⟨v0, v1, v2, v3, v4, v5, v6, v8, v9, v10, v11, hxv⟩ := adr_cells B va vn vc
 have hvv : adrVal B (.slice va vn vc) = .agg #[.string v0, .string v1, .string v2, .string v3, .bool v4, .int .i64 v5, .bool v6, .slice va vn vc, .string v8, .string v9, .bool v10, .bool v11] := by unfold adrVal; rw [hxv]
 rw [hvv]
 obtain ⟨W4, hW4⟩ : ∃ X, (w3.alloc (.cells #[.string v0, .string v1, .string v2, .string v3, .bool v4, .int .i64 v5, .bool v6, .slice va vn vc, .string v8, .string v9, .bool v10, .bool v11] 24)) = X := ⟨_, rfl⟩
 have hbW4 : Below w3.heap.size w3 W4 := by rw [← hW4]; exact (Below.refl _ w3).alloc (Nat.le_refl _) _
 have hsW4 : W4.heap.size = w3.heap.size + 1 := by rw [← hW4]; simp
 have hAW4 : AdrIn W4 w3.heap.size B (.slice va vn vc) := by
  unfold AdrIn
  rw [hxv, ← hW4]
  exact heap_alloc_new w3 _
 have hb34 := below2 hb3 hbW4
 have HB4 := hid (below2 HB2.out hb34)
 have HOc := hid (HOf.out _ _ W4 (HG.out.kept HB4.out) (HPP2.out.kept hb34) ((own_path hown).kept hbW4))
 rw [HVd.out, hvv] at HOc
 obtain ⟨y0, y1, y2, y3, y4, y5, y6, y7, y8, y9, y10, y11⟩ := adr_twelve HXd.out (HA2.out.kept hb34)
 obtain ⟨z0, z1, z2, z3, z4, z5, z6, z7, z8, z9, z10, z11⟩ := adr_twelve hxv hAW4
 clear hown hb3 hbW4 hAW4 hxv hvv hb34 hsW4
 go_wp2_with fail
 refine HOc.out.mono ?_
 rintro e w5 ⟨rfl, hb5⟩
 go_wp2
 go_ret
 exact ⟨rfl, below2 HB4.out hb5⟩

def pageD : List UInt8 := [104, 116, 116, 112, 115, 58, 47, 47, 97, 46, 101, 120, 97, 109, 112, 108, 101, 47, 112, 63, 113]

def pageT (s : List UInt8) : List UInt8 := match urlV s with
 | .ok u => if webV u.scheme then s.take 300 else pageD
 | .error _ => pageD

def pageV (s : List UInt8) : Adr := adrOf (readV (pageT s) none)

theorem pageD_ok : isOk (readV pageD none) = true ∧ webV (adrOf (readV pageD none)).scheme = true := by decide +kernel

theorem isOk_of {r : Except Int Adr} (h : isOk r = true) : r = .ok (adrOf r) := by
 cases r with
 | ok u => rfl
 | error e => cases h

theorem page_web (s : List UInt8) : readV (pageT s) none = .ok (pageV s) ∧ webV (pageV s).scheme = true ∧ (pageT s).length ≤ 300 := by
 unfold pageV pageT
 cases hu : urlV s with
 | error e => exact ⟨isOk_of pageD_ok.1, pageD_ok.2, (show pageD.length ≤ 300 by decide)⟩
 | ok u =>
  simp only
  split
  ·rename_i hw
   have : readV (s.take 300) none = .ok u := hu
   rw [this]
   exact ⟨rfl, hw, by rw [List.length_take]; omega⟩
  ·exact ⟨isOk_of pageD_ok.1, pageD_ok.2, (show pageD.length ≤ 300 by decide)⟩

def PgPost (A : Adr) (w : World) (e : Ending) (w' : World) : Prop := ∃ pv, e = .returned (adrVal A pv) ∧ PathAt w' pv A.path ∧ Below w.heap.size w w'

end Go.Proofs.YtamockkjbkibdaaGreatDoor

namespace Go.Proofs.YtamockkjbkibdaaGreatDoor
open Go.RowKit

theorem hd_new13 (w : World) (L : List Hd) (t : TypeId) (hl : L.length ≤ 1000) : HdAt (w.alloc (.cells (cellsH L).toArray t)) (.slice (some ⟨w.heap.size, 0, none⟩) L.length L.length) L := by
 refine hd_of (Nat.le_refl _) (by unfold maxLen; omega) fun j hj => ?_
 have h := cellsH_at L j hj
 have hc : ∀ i, (w.alloc (.cells (cellsH L).toArray t)).cell? ⟨w.heap.size, i, none⟩ = (cellsH L)[i]? := fun i => by
  rw [Lib.cell_of_heap (heap_alloc_new w _)]; simp
 rw [Nat.zero_add, hc, hc]
 exact h

def knF : List Hd := [⟨[82, 101, 102, 101, 114, 114, 101, 114, 45, 80, 111, 108, 105, 99, 121], [111, 114, 105, 103, 105, 110, 44, 32, 120]⟩]

theorem of13_1 : ofR [] (adrOf (urlV [104, 116, 116, 112, 115, 58, 47, 47, 97, 47, 120, 35, 121])) (adrOf (urlV [104, 116, 116, 112, 115, 58, 47, 47, 97, 47, 122])) = [104, 116, 116, 112, 115, 58, 47, 47, 97, 47, 120] := by decide +kernel

theorem of13_2 : ofR [] (adrOf (urlV [104, 116, 116, 112, 115, 58, 47, 47, 97, 47, 120])) (adrOf (urlV [104, 116, 116, 112, 115, 58, 47, 47, 98, 47])) = [104, 116, 116, 112, 115, 58, 47, 47, 97, 47] := by decide +kernel

theorem of13_3 : ofR [] (adrOf (urlV [104, 116, 116, 112, 115, 58, 47, 47, 97, 47, 120])) (adrOf (urlV [104, 116, 116, 112, 58, 47, 47, 98, 47])) = [] := by decide +kernel

theorem from13_1 : fromR (pcsV13 knF [114, 101, 102, 101, 114, 114, 101, 114, 45, 112, 111, 108, 105, 99, 121]) [121] = [111, 114, 105, 103, 105, 110] := by decide +kernel

set_option maxHeartbeats 4000000 in
set_option maxRecDepth 100000 in
theorem knownL13_any (w : World) (hg : Gd w) : Calls Tryz.prog 40 #[] w fun e w' => e = .returned (.bool true) ∧ Below w.heap.size w w' := by
 have HG0 := hid hg
 have HB0 := hid (Below.refl w.heap.size w)
 clear hg
 obtain ⟨X1, hX1⟩ : ∃ X : ByteArray, X = ⟨#[104, 116, 116, 112, 115, 58, 47, 47, 97, 47, 120]⟩ := ⟨_, rfl⟩
 have b1 : (X1.toList == [104, 116, 116, 112, 115, 58, 47, 47, 97, 47, 120]) = true := by rw [hX1]; decide +kernel
 have H1 : Hid (∀ w, Gd w → Calls Tryz.prog 38 #[.string ⟨#[]⟩, .string ⟨#[104, 116, 116, 112, 115, 58, 47, 47, 97, 47, 120, 35, 121]⟩, .string ⟨#[104, 116, 116, 112, 115, 58, 47, 47, 97, 47, 122]⟩] w fun e w' => e = .returned (.string X1) ∧ Below w.heap.size w w') := fun w hg => by
  have := of13_any ⟨#[]⟩ ⟨#[104, 116, 116, 112, 115, 58, 47, 47, 97, 47, 120, 35, 121]⟩ ⟨#[104, 116, 116, 112, 115, 58, 47, 47, 97, 47, 122]⟩ w hg (by decide) (by decide)
  have e : ofR (⟨#[]⟩ : ByteArray).data.toList (adrOf (urlV (⟨#[104, 116, 116, 112, 115, 58, 47, 47, 97, 47, 120, 35, 121]⟩ : ByteArray).data.toList)) (adrOf (urlV (⟨#[104, 116, 116, 112, 115, 58, 47, 47, 97, 47, 122]⟩ : ByteArray).data.toList)) = [104, 116, 116, 112, 115, 58, 47, 47, 97, 47, 120] := of13_1
  rw [e] at this
  rw [hX1]
  exact this
 clear hX1
 obtain ⟨X2, hX2⟩ : ∃ X : ByteArray, X = ⟨#[104, 116, 116, 112, 115, 58, 47, 47, 97, 47]⟩ := ⟨_, rfl⟩
 have b2 : (X2.toList == [104, 116, 116, 112, 115, 58, 47, 47, 97, 47]) = true := by rw [hX2]; decide +kernel
 have H2 : Hid (∀ w, Gd w → Calls Tryz.prog 38 #[.string ⟨#[]⟩, .string ⟨#[104, 116, 116, 112, 115, 58, 47, 47, 97, 47, 120]⟩, .string ⟨#[104, 116, 116, 112, 115, 58, 47, 47, 98, 47]⟩] w fun e w' => e = .returned (.string X2) ∧ Below w.heap.size w w') := fun w hg => by
  have := of13_any ⟨#[]⟩ ⟨#[104, 116, 116, 112, 115, 58, 47, 47, 97, 47, 120]⟩ ⟨#[104, 116, 116, 112, 115, 58, 47, 47, 98, 47]⟩ w hg (by decide) (by decide)
  have e : ofR (⟨#[]⟩ : ByteArray).data.toList (adrOf (urlV (⟨#[104, 116, 116, 112, 115, 58, 47, 47, 97, 47, 120]⟩ : ByteArray).data.toList)) (adrOf (urlV (⟨#[104, 116, 116, 112, 115, 58, 47, 47, 98, 47]⟩ : ByteArray).data.toList)) = [104, 116, 116, 112, 115, 58, 47, 47, 97, 47] := of13_2
  rw [e] at this
  rw [hX2]
  exact this
 clear hX2
 obtain ⟨X3, hX3⟩ : ∃ X : ByteArray, X = ⟨#[]⟩ := ⟨_, rfl⟩
 have b3 : (X3.toList == []) = true := by rw [hX3]; decide +kernel
 have H3 : Hid (∀ w, Gd w → Calls Tryz.prog 38 #[.string ⟨#[]⟩, .string ⟨#[104, 116, 116, 112, 115, 58, 47, 47, 97, 47, 120]⟩, .string ⟨#[104, 116, 116, 112, 58, 47, 47, 98, 47]⟩] w fun e w' => e = .returned (.string X3) ∧ Below w.heap.size w w') := fun w hg => by
  have := of13_any ⟨#[]⟩ ⟨#[104, 116, 116, 112, 115, 58, 47, 47, 97, 47, 120]⟩ ⟨#[104, 116, 116, 112, 58, 47, 47, 98, 47]⟩ w hg (by decide) (by decide)
  have e : ofR (⟨#[]⟩ : ByteArray).data.toList (adrOf (urlV (⟨#[104, 116, 116, 112, 115, 58, 47, 47, 97, 47, 120]⟩ : ByteArray).data.toList)) (adrOf (urlV (⟨#[104, 116, 116, 112, 58, 47, 47, 98, 47]⟩ : ByteArray).data.toList)) = [] := of13_3
  rw [e] at this
  rw [hX3]
  exact this
 clear hX3
 obtain ⟨XF, hXF⟩ : ∃ X : ByteArray, X = ⟨#[111, 114, 105, 103, 105, 110]⟩ := ⟨_, rfl⟩
 have bF : (XF.toList == [111, 114, 105, 103, 105, 110]) = true := by rw [hXF]; decide +kernel
 have HF : Hid (∀ (v : Value) (w : World), HdAt w v knF → Calls Tryz.prog 39 #[v, .string ⟨#[121]⟩] w fun e w' => e = .returned (.string XF) ∧ Below w.heap.size w w') := fun v w h => by
  have := from13_any v knF ⟨#[121]⟩ w h (fun h hh => by simp [knF] at hh; subst hh; decide) (by decide) (by decide)
  rw [show (⟨#[121]⟩ : ByteArray).data.toList = [121] from rfl, from13_1] at this
  rw [hXF]
  exact this
 clear hXF
 go_enter Tryz.func40, Tryz.ntmps40
 go_wp2_with fail
 refine (H1.out _ HG0.out).mono ?_
 rintro e w1 ⟨rfl, hb1⟩
 have HG1 := hid (HG0.out.kept hb1)
 have HB1 := hid (below2 HB0.out hb1)
 clear hb1
 go_wp2_with fail
 refine (H2.out _ HG1.out).mono ?_
 rintro e w2 ⟨rfl, hb2⟩
 have HG2 := hid (HG1.out.kept hb2)
 have HB2 := hid (below2 HB1.out hb2)
 clear hb2
 go_wp2_with fail
 refine (H3.out _ HG2.out).mono ?_
 rintro e w3 ⟨rfl, hb3⟩
 have HG3 := hid (HG2.out.kept hb3)
 have HB3 := hid (below2 HB2.out hb3)
 clear hb3
 have hh := hd_new13 w3 knF 94 (by decide)
 have hb34 := (Below.refl w3.heap.size w3).alloc (Nat.le_refl _) (.cells (cellsH knF).toArray 94)
 go_wp2_with fail
 refine (HF.out _ _ hh).mono ?_
 rintro e w5 ⟨rfl, hb5⟩
 go_wp2
 go_ret
 exact ⟨rfl, below2 HB3.out (below2 hb34 hb5)⟩

theorem of13_4 : ofR [117, 110, 115, 97, 102, 101, 45, 117, 114, 108] (adrOf (urlV [104, 116, 116, 112, 115, 58, 47, 47, 117, 58, 112, 64, 97, 47, 120, 63, 121, 35, 122])) (adrOf (urlV [104, 116, 116, 112, 58, 47, 47, 98, 47])) = [104, 116, 116, 112, 115, 58, 47, 47, 97, 47, 120, 63, 121] := by decide +kernel

theorem of13_5 : ofR [110, 111, 45, 114, 101, 102, 101, 114, 114, 101, 114] (adrOf (urlV [104, 116, 116, 112, 115, 58, 47, 47, 97, 47])) (adrOf (urlV [104, 116, 116, 112, 115, 58, 47, 47, 97, 47])) = [] := by decide +kernel

theorem of13_6 : ofR [115, 97, 109, 101, 45, 111, 114, 105, 103, 105, 110] (adrOf (urlV [104, 116, 116, 112, 115, 58, 47, 47, 97, 47, 120])) (adrOf (urlV [104, 116, 116, 112, 115, 58, 47, 47, 98, 47])) = [] := by decide +kernel

theorem of13_7 : ofR [115, 116, 114, 105, 99, 116, 45, 111, 114, 105, 103, 105, 110] (adrOf (urlV [104, 116, 116, 112, 115, 58, 47, 47, 97, 47, 120])) (adrOf (urlV [104, 116, 116, 112, 115, 58, 47, 47, 97, 47])) = [104, 116, 116, 112, 115, 58, 47, 47, 97, 47] := by decide +kernel

theorem of13_8 : ofR [110, 111, 45, 114, 101, 102, 101, 114, 114, 101, 114, 45, 119, 104, 101, 110, 45, 100, 111, 119, 110, 103, 114, 97, 100, 101] (adrOf (urlV [104, 116, 116, 112, 115, 58, 47, 47, 97, 47, 120])) (adrOf (urlV [104, 116, 116, 112, 58, 47, 47, 98, 47])) = [] := by decide +kernel

theorem of13_9 : ofR [110, 111, 45, 114, 101, 102, 101, 114, 114, 101, 114, 45, 119, 104, 101, 110, 45, 100, 111, 119, 110, 103, 114, 97, 100, 101] (adrOf (urlV [104, 116, 116, 112, 115, 58, 47, 47, 97, 47, 120])) (adrOf (urlV [104, 116, 116, 112, 58, 47, 47, 108, 111, 99, 97, 108, 104, 111, 115, 116, 47])) = [104, 116, 116, 112, 115, 58, 47, 47, 97, 47, 120] := by decide +kernel

theorem of13_10 : ofR [111, 114, 105, 103, 105, 110, 45, 119, 104, 101, 110, 45, 99, 114, 111, 115, 115, 45, 111, 114, 105, 103, 105, 110] (adrOf (urlV [104, 116, 116, 112, 115, 58, 47, 47, 97, 47, 120])) (adrOf (urlV [104, 116, 116, 112, 58, 47, 47, 98, 47])) = [104, 116, 116, 112, 115, 58, 47, 47, 97, 47] := by decide +kernel

theorem strip13_d : stripV (adrOf (urlV [100, 97, 116, 97, 58, 120])) false = [] := by decide +kernel

theorem known13_o : knownR [79, 114, 105, 103, 105, 110] = false := by decide +kernel

theorem known13_u : knownR [117, 110, 115, 97, 102, 101, 45, 117, 114, 108] = true := by decide +kernel

set_option maxHeartbeats 8000000 in
set_option maxRecDepth 100000 in
theorem referrerNumbers_walk (w : World) (hg : Gd w) : Calls Tryz.prog 10 #[] w fun e w' => e = .returned (.bool true) ∧ Below w.heap.size w w' := by
 have HG0 := hid hg
 clear hg
 obtain ⟨X4, hX4⟩ : ∃ X : ByteArray, X = ⟨#[104, 116, 116, 112, 115, 58, 47, 47, 97, 47, 120, 63, 121]⟩ := ⟨_, rfl⟩
 have b4 : (X4.toList == [104, 116, 116, 112, 115, 58, 47, 47, 97, 47, 120, 63, 121]) = true := by rw [hX4]; decide +kernel
 have H4 : Hid (∀ w, Gd w → Calls Tryz.prog 38 #[.string ⟨#[117, 110, 115, 97, 102, 101, 45, 117, 114, 108]⟩, .string ⟨#[104, 116, 116, 112, 115, 58, 47, 47, 117, 58, 112, 64, 97, 47, 120, 63, 121, 35, 122]⟩, .string ⟨#[104, 116, 116, 112, 58, 47, 47, 98, 47]⟩] w fun e w' => e = .returned (.string X4) ∧ Below w.heap.size w w') := fun w hg => by
  have := of13_any ⟨#[117, 110, 115, 97, 102, 101, 45, 117, 114, 108]⟩ ⟨#[104, 116, 116, 112, 115, 58, 47, 47, 117, 58, 112, 64, 97, 47, 120, 63, 121, 35, 122]⟩ ⟨#[104, 116, 116, 112, 58, 47, 47, 98, 47]⟩ w hg (by decide) (by decide)
  have e : ofR (⟨#[117, 110, 115, 97, 102, 101, 45, 117, 114, 108]⟩ : ByteArray).data.toList (adrOf (urlV (⟨#[104, 116, 116, 112, 115, 58, 47, 47, 117, 58, 112, 64, 97, 47, 120, 63, 121, 35, 122]⟩ : ByteArray).data.toList)) (adrOf (urlV (⟨#[104, 116, 116, 112, 58, 47, 47, 98, 47]⟩ : ByteArray).data.toList)) = [104, 116, 116, 112, 115, 58, 47, 47, 97, 47, 120, 63, 121] := of13_4
  rw [e] at this
  rw [hX4]
  exact this
 clear hX4
 obtain ⟨X5, hX5⟩ : ∃ X : ByteArray, X = ⟨#[]⟩ := ⟨_, rfl⟩
 have b5 : (X5.toList == []) = true := by rw [hX5]; decide +kernel
 have H5 : Hid (∀ w, Gd w → Calls Tryz.prog 38 #[.string ⟨#[110, 111, 45, 114, 101, 102, 101, 114, 114, 101, 114]⟩, .string ⟨#[104, 116, 116, 112, 115, 58, 47, 47, 97, 47]⟩, .string ⟨#[104, 116, 116, 112, 115, 58, 47, 47, 97, 47]⟩] w fun e w' => e = .returned (.string X5) ∧ Below w.heap.size w w') := fun w hg => by
  have := of13_any ⟨#[110, 111, 45, 114, 101, 102, 101, 114, 114, 101, 114]⟩ ⟨#[104, 116, 116, 112, 115, 58, 47, 47, 97, 47]⟩ ⟨#[104, 116, 116, 112, 115, 58, 47, 47, 97, 47]⟩ w hg (by decide) (by decide)
  have e : ofR (⟨#[110, 111, 45, 114, 101, 102, 101, 114, 114, 101, 114]⟩ : ByteArray).data.toList (adrOf (urlV (⟨#[104, 116, 116, 112, 115, 58, 47, 47, 97, 47]⟩ : ByteArray).data.toList)) (adrOf (urlV (⟨#[104, 116, 116, 112, 115, 58, 47, 47, 97, 47]⟩ : ByteArray).data.toList)) = [] := of13_5
  rw [e] at this
  rw [hX5]
  exact this
 clear hX5
 obtain ⟨X6, hX6⟩ : ∃ X : ByteArray, X = ⟨#[]⟩ := ⟨_, rfl⟩
 have b6 : (X6.toList == []) = true := by rw [hX6]; decide +kernel
 have H6 : Hid (∀ w, Gd w → Calls Tryz.prog 38 #[.string ⟨#[115, 97, 109, 101, 45, 111, 114, 105, 103, 105, 110]⟩, .string ⟨#[104, 116, 116, 112, 115, 58, 47, 47, 97, 47, 120]⟩, .string ⟨#[104, 116, 116, 112, 115, 58, 47, 47, 98, 47]⟩] w fun e w' => e = .returned (.string X6) ∧ Below w.heap.size w w') := fun w hg => by
  have := of13_any ⟨#[115, 97, 109, 101, 45, 111, 114, 105, 103, 105, 110]⟩ ⟨#[104, 116, 116, 112, 115, 58, 47, 47, 97, 47, 120]⟩ ⟨#[104, 116, 116, 112, 115, 58, 47, 47, 98, 47]⟩ w hg (by decide) (by decide)
  have e : ofR (⟨#[115, 97, 109, 101, 45, 111, 114, 105, 103, 105, 110]⟩ : ByteArray).data.toList (adrOf (urlV (⟨#[104, 116, 116, 112, 115, 58, 47, 47, 97, 47, 120]⟩ : ByteArray).data.toList)) (adrOf (urlV (⟨#[104, 116, 116, 112, 115, 58, 47, 47, 98, 47]⟩ : ByteArray).data.toList)) = [] := of13_6
  rw [e] at this
  rw [hX6]
  exact this
 clear hX6
 obtain ⟨X7, hX7⟩ : ∃ X : ByteArray, X = ⟨#[104, 116, 116, 112, 115, 58, 47, 47, 97, 47]⟩ := ⟨_, rfl⟩
 have b7 : (X7.toList == [104, 116, 116, 112, 115, 58, 47, 47, 97, 47]) = true := by rw [hX7]; decide +kernel
 have H7 : Hid (∀ w, Gd w → Calls Tryz.prog 38 #[.string ⟨#[115, 116, 114, 105, 99, 116, 45, 111, 114, 105, 103, 105, 110]⟩, .string ⟨#[104, 116, 116, 112, 115, 58, 47, 47, 97, 47, 120]⟩, .string ⟨#[104, 116, 116, 112, 115, 58, 47, 47, 97, 47]⟩] w fun e w' => e = .returned (.string X7) ∧ Below w.heap.size w w') := fun w hg => by
  have := of13_any ⟨#[115, 116, 114, 105, 99, 116, 45, 111, 114, 105, 103, 105, 110]⟩ ⟨#[104, 116, 116, 112, 115, 58, 47, 47, 97, 47, 120]⟩ ⟨#[104, 116, 116, 112, 115, 58, 47, 47, 97, 47]⟩ w hg (by decide) (by decide)
  have e : ofR (⟨#[115, 116, 114, 105, 99, 116, 45, 111, 114, 105, 103, 105, 110]⟩ : ByteArray).data.toList (adrOf (urlV (⟨#[104, 116, 116, 112, 115, 58, 47, 47, 97, 47, 120]⟩ : ByteArray).data.toList)) (adrOf (urlV (⟨#[104, 116, 116, 112, 115, 58, 47, 47, 97, 47]⟩ : ByteArray).data.toList)) = [104, 116, 116, 112, 115, 58, 47, 47, 97, 47] := of13_7
  rw [e] at this
  rw [hX7]
  exact this
 clear hX7
 obtain ⟨X8, hX8⟩ : ∃ X : ByteArray, X = ⟨#[]⟩ := ⟨_, rfl⟩
 have b8 : (X8.toList == []) = true := by rw [hX8]; decide +kernel
 have H8 : Hid (∀ w, Gd w → Calls Tryz.prog 38 #[.string ⟨#[110, 111, 45, 114, 101, 102, 101, 114, 114, 101, 114, 45, 119, 104, 101, 110, 45, 100, 111, 119, 110, 103, 114, 97, 100, 101]⟩, .string ⟨#[104, 116, 116, 112, 115, 58, 47, 47, 97, 47, 120]⟩, .string ⟨#[104, 116, 116, 112, 58, 47, 47, 98, 47]⟩] w fun e w' => e = .returned (.string X8) ∧ Below w.heap.size w w') := fun w hg => by
  have := of13_any ⟨#[110, 111, 45, 114, 101, 102, 101, 114, 114, 101, 114, 45, 119, 104, 101, 110, 45, 100, 111, 119, 110, 103, 114, 97, 100, 101]⟩ ⟨#[104, 116, 116, 112, 115, 58, 47, 47, 97, 47, 120]⟩ ⟨#[104, 116, 116, 112, 58, 47, 47, 98, 47]⟩ w hg (by decide) (by decide)
  have e : ofR (⟨#[110, 111, 45, 114, 101, 102, 101, 114, 114, 101, 114, 45, 119, 104, 101, 110, 45, 100, 111, 119, 110, 103, 114, 97, 100, 101]⟩ : ByteArray).data.toList (adrOf (urlV (⟨#[104, 116, 116, 112, 115, 58, 47, 47, 97, 47, 120]⟩ : ByteArray).data.toList)) (adrOf (urlV (⟨#[104, 116, 116, 112, 58, 47, 47, 98, 47]⟩ : ByteArray).data.toList)) = [] := of13_8
  rw [e] at this
  rw [hX8]
  exact this
 clear hX8
 obtain ⟨X9, hX9⟩ : ∃ X : ByteArray, X = ⟨#[104, 116, 116, 112, 115, 58, 47, 47, 97, 47, 120]⟩ := ⟨_, rfl⟩
 have b9 : (X9.toList == [104, 116, 116, 112, 115, 58, 47, 47, 97, 47, 120]) = true := by rw [hX9]; decide +kernel
 have H9 : Hid (∀ w, Gd w → Calls Tryz.prog 38 #[.string ⟨#[110, 111, 45, 114, 101, 102, 101, 114, 114, 101, 114, 45, 119, 104, 101, 110, 45, 100, 111, 119, 110, 103, 114, 97, 100, 101]⟩, .string ⟨#[104, 116, 116, 112, 115, 58, 47, 47, 97, 47, 120]⟩, .string ⟨#[104, 116, 116, 112, 58, 47, 47, 108, 111, 99, 97, 108, 104, 111, 115, 116, 47]⟩] w fun e w' => e = .returned (.string X9) ∧ Below w.heap.size w w') := fun w hg => by
  have := of13_any ⟨#[110, 111, 45, 114, 101, 102, 101, 114, 114, 101, 114, 45, 119, 104, 101, 110, 45, 100, 111, 119, 110, 103, 114, 97, 100, 101]⟩ ⟨#[104, 116, 116, 112, 115, 58, 47, 47, 97, 47, 120]⟩ ⟨#[104, 116, 116, 112, 58, 47, 47, 108, 111, 99, 97, 108, 104, 111, 115, 116, 47]⟩ w hg (by decide) (by decide)
  have e : ofR (⟨#[110, 111, 45, 114, 101, 102, 101, 114, 114, 101, 114, 45, 119, 104, 101, 110, 45, 100, 111, 119, 110, 103, 114, 97, 100, 101]⟩ : ByteArray).data.toList (adrOf (urlV (⟨#[104, 116, 116, 112, 115, 58, 47, 47, 97, 47, 120]⟩ : ByteArray).data.toList)) (adrOf (urlV (⟨#[104, 116, 116, 112, 58, 47, 47, 108, 111, 99, 97, 108, 104, 111, 115, 116, 47]⟩ : ByteArray).data.toList)) = [104, 116, 116, 112, 115, 58, 47, 47, 97, 47, 120] := of13_9
  rw [e] at this
  rw [hX9]
  exact this
 clear hX9
 obtain ⟨X10, hX10⟩ : ∃ X : ByteArray, X = ⟨#[104, 116, 116, 112, 115, 58, 47, 47, 97, 47]⟩ := ⟨_, rfl⟩
 have b10 : (X10.toList == [104, 116, 116, 112, 115, 58, 47, 47, 97, 47]) = true := by rw [hX10]; decide +kernel
 have H10 : Hid (∀ w, Gd w → Calls Tryz.prog 38 #[.string ⟨#[111, 114, 105, 103, 105, 110, 45, 119, 104, 101, 110, 45, 99, 114, 111, 115, 115, 45, 111, 114, 105, 103, 105, 110]⟩, .string ⟨#[104, 116, 116, 112, 115, 58, 47, 47, 97, 47, 120]⟩, .string ⟨#[104, 116, 116, 112, 58, 47, 47, 98, 47]⟩] w fun e w' => e = .returned (.string X10) ∧ Below w.heap.size w w') := fun w hg => by
  have := of13_any ⟨#[111, 114, 105, 103, 105, 110, 45, 119, 104, 101, 110, 45, 99, 114, 111, 115, 115, 45, 111, 114, 105, 103, 105, 110]⟩ ⟨#[104, 116, 116, 112, 115, 58, 47, 47, 97, 47, 120]⟩ ⟨#[104, 116, 116, 112, 58, 47, 47, 98, 47]⟩ w hg (by decide) (by decide)
  have e : ofR (⟨#[111, 114, 105, 103, 105, 110, 45, 119, 104, 101, 110, 45, 99, 114, 111, 115, 115, 45, 111, 114, 105, 103, 105, 110]⟩ : ByteArray).data.toList (adrOf (urlV (⟨#[104, 116, 116, 112, 115, 58, 47, 47, 97, 47, 120]⟩ : ByteArray).data.toList)) (adrOf (urlV (⟨#[104, 116, 116, 112, 58, 47, 47, 98, 47]⟩ : ByteArray).data.toList)) = [104, 116, 116, 112, 115, 58, 47, 47, 97, 47] := of13_10
  rw [e] at this
  rw [hX10]
  exact this
 clear hX10
 obtain ⟨XF, hXF⟩ : ∃ X : ByteArray, X = ⟨#[121]⟩ := ⟨_, rfl⟩
 have bF : (XF.toList == [121]) = true := by rw [hXF]; decide +kernel
 have HF : Hid (∀ (w : World), Calls Tryz.prog 39 #[.slice none 0 0, .string ⟨#[121]⟩] w fun e w' => e = .returned (.string XF) ∧ Below w.heap.size w w') := fun w => by
  have := from13_any (.slice none 0 0) [] ⟨#[121]⟩ w ⟨none, 0, rfl, Nat.le_refl _, Nat.zero_le _, fun j hj => absurd hj (by simp)⟩ (fun h hh => by simp at hh) (by decide) (by decide)
  rw [hXF]
  exact this
 clear hXF
 obtain ⟨XS, hXS⟩ : ∃ X : ByteArray, X = ⟨#[]⟩ := ⟨_, rfl⟩
 have bS : (XS.toList == []) = true := by rw [hXS]; decide +kernel
 have HU := hid (fun w => url_k ⟨#[100, 97, 116, 97, 58, 120]⟩ w (by decide))
 rw [show (⟨#[100, 97, 116, 97, 58, 120]⟩ : ByteArray).data.toList = [100, 97, 116, 97, 58, 120] from rfl] at HU
 have hst : StOk (adrOf (urlV [100, 97, 116, 97, 58, 120])) := st_read _
 have HS : Hid (∀ (pv : Value) (w : World), Gd w → PathAt w pv (adrOf (urlV [100, 97, 116, 97, 58, 120])).path → Calls Tryz.prog 36 #[adrVal (adrOf (urlV [100, 97, 116, 97, 58, 120])) pv, .bool false] w fun e w' => e = .returned (.string XS) ∧ Below w.heap.size w w') := fun pv w hg hp => by
  have := strip13_any (adrOf (urlV [100, 97, 116, 97, 58, 120])) pv false w hg hp hst
  rw [strip13_d] at this
  rw [hXS]
  exact this
 clear hXS hst
 unfold UPost at HU
 generalize urlV [100, 97, 116, 97, 58, 120] = r at HU HS
 obtain ⟨ok, hok⟩ : ∃ q, isOk r = q := ⟨_, rfl⟩
 rw [hok] at HU
 generalize adrOf r = A at HU HS
 clear hok
 have HK1 := hid (fun w => known13_any ⟨#[79, 114, 105, 103, 105, 110]⟩ w)
 have HK2 := hid (fun w => known13_any ⟨#[117, 110, 115, 97, 102, 101, 45, 117, 114, 108]⟩ w)
 rw [show (⟨#[79, 114, 105, 103, 105, 110]⟩ : ByteArray).data.toList = [79, 114, 105, 103, 105, 110] from rfl, known13_o] at HK1
 rw [show (⟨#[117, 110, 115, 97, 102, 101, 45, 117, 114, 108]⟩ : ByteArray).data.toList = [117, 110, 115, 97, 102, 101, 45, 117, 114, 108] from rfl, known13_u] at HK2
 have HKn := hid (fun (w : World) (hg : Gd w) => knownL13_any w hg)
 go_enter Tryz.func10, Tryz.ntmps10
 go_wp2_with fail
 refine (HU.out _).mono ?_
 rintro e w1 ⟨pv, rfl, hown, hb1⟩
 obtain ⟨da, dn, dc, rfl⟩ := own_sl hown
 obtain ⟨d0, d1, d2, d3, d4, d5, d6, d8, d9, d10, d11, hxd⟩ := adr_cells A da dn dc
 have hvd : adrVal A (.slice da dn dc) = .agg #[.string d0, .string d1, .string d2, .string d3, .bool d4, .int .i64 d5, .bool d6, .slice da dn dc, .string d8, .string d9, .bool d10, .bool d11] := by unfold adrVal; rw [hxd]
 rw [hvd]
 obtain ⟨W2, hW2⟩ : ∃ X, (w1.alloc (.cells #[.string d0, .string d1, .string d2, .string d3, .bool d4, .int .i64 d5, .bool d6, .slice da dn dc, .string d8, .string d9, .bool d10, .bool d11] 24)) = X := ⟨_, rfl⟩
 have hbW2 : Below w1.heap.size w1 W2 := by rw [← hW2]; exact (Below.refl _ w1).alloc (Nat.le_refl _) _
 have hsW2 : W2.heap.size = w1.heap.size + 1 := by rw [← hW2]; simp
 have hAW2 : AdrIn W2 w1.heap.size A (.slice da dn dc) := by
  unfold AdrIn
  rw [hxd, ← hW2]
  exact heap_alloc_new w1 _
 have hbb := below2 hb1 hbW2
 have HGa := hid (HG0.out.kept hbb)
 have HBa := hid hbb
 have HSt := hid (HS.out _ W2 HGa.out ((own_path hown).kept hbW2))
 rw [hvd] at HSt
 obtain ⟨y0, y1, y2, y3, y4, y5, y6, y7, y8, y9, y10, y11⟩ := adr_twelve hxd hAW2
 clear hown hb1 hbW2 hAW2 hxd hvd hsW2 hbb HS HU
 go_wp2_with fail
 refine HSt.out.mono ?_
 rintro e w10 ⟨rfl, hb10⟩
 have HG10 := hid (HGa.out.kept hb10)
 have HB10 := hid (below2 HBa.out hb10)
 clear hb10 y0 y1 y2 y3 y4 y5 y6 y7 y8 y9 y10 y11 HSt
 go_wp2_with fail
 refine (HK1.out _).mono ?_
 rintro e wz ⟨rfl, hwz⟩
 rw [← hwz]
 clear hwz
 go_wp2_with fail
 refine (HK2.out _).mono ?_
 rintro e wz ⟨rfl, hwz⟩
 rw [← hwz]
 clear hwz
 go_wp2_with fail
 refine (H4.out _ HG10.out).mono ?_
 rintro e w11 ⟨rfl, hb11⟩
 have HG11 := hid (HG10.out.kept hb11)
 have HB11 := hid (below2 HB10.out hb11)
 clear hb11
 go_wp2_with fail
 refine (H5.out _ HG11.out).mono ?_
 rintro e w12 ⟨rfl, hb12⟩
 have HG12 := hid (HG11.out.kept hb12)
 have HB12 := hid (below2 HB11.out hb12)
 clear hb12
 go_wp2_with fail
 refine (H6.out _ HG12.out).mono ?_
 rintro e w13 ⟨rfl, hb13⟩
 have HG13 := hid (HG12.out.kept hb13)
 have HB13 := hid (below2 HB12.out hb13)
 clear hb13
 go_wp2_with fail
 refine (H7.out _ HG13.out).mono ?_
 rintro e w14 ⟨rfl, hb14⟩
 have HG14 := hid (HG13.out.kept hb14)
 have HB14 := hid (below2 HB13.out hb14)
 clear hb14
 go_wp2_with fail
 refine (H8.out _ HG14.out).mono ?_
 rintro e w15 ⟨rfl, hb15⟩
 have HG15 := hid (HG14.out.kept hb15)
 have HB15 := hid (below2 HB14.out hb15)
 clear hb15
 go_wp2_with fail
 refine (H9.out _ HG15.out).mono ?_
 rintro e w16 ⟨rfl, hb16⟩
 have HG16 := hid (HG15.out.kept hb16)
 have HB16 := hid (below2 HB15.out hb16)
 clear hb16
 go_wp2_with fail
 refine (H10.out _ HG16.out).mono ?_
 rintro e w17 ⟨rfl, hb17⟩
 have HG17 := hid (HG16.out.kept hb17)
 have HB17 := hid (below2 HB16.out hb17)
 clear hb17
 go_wp2_with fail
 refine (HF.out _).mono ?_
 rintro e w18 ⟨rfl, hb18⟩
 have HG18 := hid (HG17.out.kept hb18)
 have HB18 := hid (below2 HB17.out hb18)
 clear hb18
 go_wp2_with fail
 refine (HKn.out _ HG18.out).mono ?_
 rintro e w19 ⟨rfl, hb19⟩
 go_wp2
 go_ret
 exact ⟨rfl, below2 HB18.out hb19⟩

end Go.Proofs.YtamockkjbkibdaaGreatDoor

namespace Go.Proofs.YtamockkjbkibdaaGreatDoor
open Go.RowKit

theorem page_yes {s : List UInt8} (h : isOk (urlV s) = true) (hw : webV (adrOf (urlV s)).scheme = true) : pageV s = adrOf (urlV s) := by
 unfold pageV pageT
 cases hu : urlV s with
 | error e => rw [hu] at h; cases h
 | ok u =>
  rw [hu] at hw
  simp only
  rw [if_pos (show webV u.scheme = true from hw), show readV (s.take 300) none = .ok u from hu]

theorem page_no {s : List UInt8} (h : isOk (urlV s) = false ∨ webV (adrOf (urlV s)).scheme = false) : pageV s = adrOf (urlV pageD) := by
 unfold pageV pageT
 cases hu : urlV s with
 | error e => rfl
 | ok u =>
  rw [hu] at h
  simp only
  rcases h with h | h
  ·cases h
  ·rw [if_neg (by rw [show u.scheme = (adrOf (Except.ok u)).scheme from rfl, h]; decide)]
   rfl

set_option maxHeartbeats 8000000 in
set_option maxRecDepth 100000 in
theorem page_any (S : ByteArray) (w : World) (hs : S.size ≤ 9223372036854775807) :
  Calls Tryz.prog 41 #[.string S] w (PgPost (pageV S.data.toList) w) := by
 have HU := hid (fun w => url_k S w hs)
 have HD := hid (fun w => url_k ⟨#[104, 116, 116, 112, 115, 58, 47, 47, 97, 46, 101, 120, 97, 109, 112, 108, 101, 47, 112, 63, 113]⟩ w (by decide))
 rw [show (⟨#[104, 116, 116, 112, 115, 58, 47, 47, 97, 46, 101, 120, 97, 109, 112, 108, 101, 47, 112, 63, 113]⟩ : ByteArray).data.toList = pageD from rfl] at HD
 have HY := hid (fun h hw => page_yes (s := S.data.toList) h hw)
 have HN := hid (fun h => page_no (s := S.data.toList) h)
 generalize pageV S.data.toList = PV at HY HN ⊢
 generalize urlV S.data.toList = r at HU HY HN
 generalize urlV pageD = rd at HD HN
 unfold UPost at HU HD
 unfold PgPost
 obtain ⟨ok, hok⟩ : ∃ q, isOk r = q := ⟨_, rfl⟩
 obtain ⟨okd, hokd⟩ : ∃ q, isOk rd = q := ⟨_, rfl⟩
 rw [hok] at HU HY HN
 rw [hokd] at HD
 generalize adrOf r = A at HU HY HN
 generalize adrOf rd = B at HD HN
 clear hok hokd hs
 have h0 : AdrIn (w.alloc (.cells (adrCells Adr.zero (.slice none 0 0)).toArray 24)) w.heap.size Adr.zero (.slice none 0 0) := heap_alloc_new w _
 have hb0 : Below w.heap.size w (w.alloc (.cells (adrCells Adr.zero (.slice none 0 0)).toArray 24)) := (Below.refl _ w).alloc (Nat.le_refl _) _
 have H0 := hid h0
 have HB0 := hid hb0
 clear h0 hb0
 go_enter Tryz.func41, Tryz.ntmps41
 go_wp2_with fail
 refine (HU.out _).mono ?_
 rintro e w1 ⟨pv, rfl, hown, hb1⟩
 have HO1 := hid hown
 have HS1 := hid hb1.size
 obtain ⟨da, dn, dc, rfl⟩ := own_sl hown
 obtain ⟨d0, d1, d2, d3, d4, d5, d6, d8, d9, d10, d11, hxd, hx0, -, -, -⟩ := adr_named A da dn dc
 have hvd : adrVal A (.slice da dn dc) = .agg #[.string d0, .string d1, .string d2, .string d3, .bool d4, .int .i64 d5, .bool d6, .slice da dn dc, .string d8, .string d9, .bool d10, .bool d11] := by unfold adrVal; rw [hxd]
 rw [hvd]
 obtain ⟨W2, hW2⟩ : ∃ X, (w1.alloc (.cells #[.string d0, .string d1, .string d2, .string d3, .bool d4, .int .i64 d5, .bool d6, .slice da dn dc, .string d8, .string d9, .bool d10, .bool d11] 24)) = X := ⟨_, rfl⟩
 have hbW2 : Below w1.heap.size w1 W2 := by rw [← hW2]; exact (Below.refl _ w1).alloc (Nat.le_refl _) _
 have hsW2 : W2.heap.size = w1.heap.size + 1 := by rw [← hW2]; simp
 have hAW2 : AdrIn W2 w1.heap.size A (.slice da dn dc) := by
  unfold AdrIn
  rw [hxd, ← hW2]
  exact heap_alloc_new w1 _
 have HA02 := hid ((H0.out.kept hb1).kept hbW2)
 have HB2 := hid (below2 (below2 HB0.out hb1) hbW2)
 have HA2 := hid hAW2
 have HXd := hid hxd
 have HO2 := hid (ownsRow_same hown fun g hg => hbW2.block g (hown.lt g hg).2)
 have c0 := hAW2.cell 0 (.string d0) (by rw [hxd]; rfl)
 obtain ⟨q1, eq1⟩ : ∃ q, (d0.toList == [104, 116, 116, 112]) = q := ⟨_, rfl⟩
 obtain ⟨q2, eq2⟩ : ∃ q, (d0.toList == [104, 116, 116, 112, 115]) = q := ⟨_, rfl⟩
 have nq1 : (d0.toList != [104, 116, 116, 112]) = !q1 := by rw [← eq1]; rfl
 have nq2 : (d0.toList != [104, 116, 116, 112, 115]) = !q2 := by rw [← eq2]; rfl
 have HW := hid (show webV A.scheme = (q1 || q2) by unfold webV; rw [← eq1, ← eq2, Lib.toList_data, hx0]; rfl)
 clear hown hb1 hbW2 hAW2 hxd hvd hsW2 hx0 HU HO1
 have hcs : (ok = true ∧ q1 = true) ∨ (ok = true ∧ q1 = false ∧ q2 = true) ∨ ok = false ∨ (ok = true ∧ q1 = false ∧ q2 = false) := by
  cases ok <;> cases q1 <;> cases q2 <;> simp
 rcases hcs with ⟨rfl, rfl⟩ | ⟨rfl, rfl, rfl⟩ | rfl | ⟨rfl, rfl, rfl⟩
 ·have HE := hid (HY.out rfl (by rw [HW.out]; rfl))
  obtain ⟨Wz, hWz⟩ : ∃ X, X = W2.setCells w.heap.size 0 [.string d0, .string d1, .string d2, .string d3, .bool d4, .int .i64 d5, .bool d6, .slice da dn dc, .string d8, .string d9, .bool d10, .bool d11] := ⟨_, rfl⟩
  have HAz := hid (show AdrIn Wz w.heap.size A (.slice da dn dc) by
   have := HA02.out.store (v := A) (qv := .slice da dn dc)
   rw [HXd.out] at this
   rw [hWz]; exact this)
  have HBz := hid (show Below w.heap.size w Wz by rw [hWz]; exact below_setCells (Nat.le_refl _) _ _ _ HB2.out)
  have HPz := hid (show PathAt Wz (.slice da dn dc) A.path by rw [hWz]; exact own_path (own_cells HO2.out HA02.out _ 0))
  have HTz := hid (show W2.there w.heap.size 0 12 from HA02.out.there)
  have HWz := hid hWz
  have honz : (#[.string d0, .string d1, .string d2, .string d3, .bool d4, .int .i64 d5, .bool d6, .slice da dn dc, .string d8, .string d9, .bool d10, .bool d11] : Array Value).all (·.oneCell') = true := by
   have := all_oneCell_toArray (adrCells_one A (.slice da dn dc) ⟨_, _, _, rfl⟩)
   rw [HXd.out] at this
   exact this
  clear hWz
  obtain ⟨y0, y1, y2, y3, y4, y5, y6, y7, y8, y9, y10, y11⟩ := adr_twelve HXd.out HA2.out
  go_wp2_with (refine wpList_store_mid rfl 24 (.tmp 2) (.tmp 26) rfl w.heap.size 0 #[.string d0, .string d1, .string d2, .string d3, .bool d4, .int .i64 d5, .bool d6, .slice da dn dc, .string d8, .string d9, .bool d10, .bool d11] rfl rfl HTz.out (sizeUa A (.slice da dn dc)) honz ?_; refine wpList_worldO HWz.out ?_)
  have hrg := range_row HAz.out
  refine bodyPost_ret (results_u1 rfl _ _ w.heap.size A (.slice da dn dc) rfl ?_) rfl ⟨.slice da dn dc, ?_, ?_, HBz.out⟩
  ·rw [HXd.out] at hrg ⊢; exact hrg
  ·rw [HE.out]
  ·rw [HE.out]; exact HPz.out
 ·have HE := hid (HY.out rfl (by rw [HW.out]; rfl))
  obtain ⟨Wz, hWz⟩ : ∃ X, X = W2.setCells w.heap.size 0 [.string d0, .string d1, .string d2, .string d3, .bool d4, .int .i64 d5, .bool d6, .slice da dn dc, .string d8, .string d9, .bool d10, .bool d11] := ⟨_, rfl⟩
  have HAz := hid (show AdrIn Wz w.heap.size A (.slice da dn dc) by
   have := HA02.out.store (v := A) (qv := .slice da dn dc)
   rw [HXd.out] at this
   rw [hWz]; exact this)
  have HBz := hid (show Below w.heap.size w Wz by rw [hWz]; exact below_setCells (Nat.le_refl _) _ _ _ HB2.out)
  have HPz := hid (show PathAt Wz (.slice da dn dc) A.path by rw [hWz]; exact own_path (own_cells HO2.out HA02.out _ 0))
  have HTz := hid (show W2.there w.heap.size 0 12 from HA02.out.there)
  have HWz := hid hWz
  have honz : (#[.string d0, .string d1, .string d2, .string d3, .bool d4, .int .i64 d5, .bool d6, .slice da dn dc, .string d8, .string d9, .bool d10, .bool d11] : Array Value).all (·.oneCell') = true := by
   have := all_oneCell_toArray (adrCells_one A (.slice da dn dc) ⟨_, _, _, rfl⟩)
   rw [HXd.out] at this
   exact this
  clear hWz
  obtain ⟨y0, y1, y2, y3, y4, y5, y6, y7, y8, y9, y10, y11⟩ := adr_twelve HXd.out HA2.out
  go_wp2_with (refine wpList_store_mid rfl 24 (.tmp 2) (.tmp 26) rfl w.heap.size 0 #[.string d0, .string d1, .string d2, .string d3, .bool d4, .int .i64 d5, .bool d6, .slice da dn dc, .string d8, .string d9, .bool d10, .bool d11] rfl rfl HTz.out (sizeUa A (.slice da dn dc)) honz ?_; refine wpList_worldO HWz.out ?_)
  have hrg := range_row HAz.out
  refine bodyPost_ret (results_u1 rfl _ _ w.heap.size A (.slice da dn dc) rfl ?_) rfl ⟨.slice da dn dc, ?_, ?_, HBz.out⟩
  ·rw [HXd.out] at hrg ⊢; exact hrg
  ·rw [HE.out]
  ·rw [HE.out]; exact HPz.out
 ·have HE := hid (HN.out (.inl rfl))
  go_wp2_with fail
  refine (HD.out _).mono ?_
  rintro e w3 ⟨qv, rfl, hown, hb3⟩
  obtain ⟨va, vn, vc, rfl⟩ := own_sl hown
  obtain ⟨v0, v1, v2, v3, v4, v5, v6, v8, v9, v10, v11, hxv⟩ := adr_cells B va vn vc
  have hvv : adrVal B (.slice va vn vc) = .agg #[.string v0, .string v1, .string v2, .string v3, .bool v4, .int .i64 v5, .bool v6, .slice va vn vc, .string v8, .string v9, .bool v10, .bool v11] := by unfold adrVal; rw [hxv]
  rw [hvv]
  have HXv := hid hxv
  have HA03 := hid (HA02.out.kept hb3)
  have hA3 := HA2.out.kept hb3
  have HB3 := hid (below2 HB2.out hb3)
  obtain ⟨W4, hW4⟩ : ∃ X, X = w3.setCells w1.heap.size 0 [.string v0, .string v1, .string v2, .string v3, .bool v4, .int .i64 v5, .bool v6, .slice va vn vc, .string v8, .string v9, .bool v10, .bool v11] := ⟨_, rfl⟩
  have hlt : w.heap.size ≠ w1.heap.size := Nat.ne_of_lt (Nat.lt_of_lt_of_le (show w.heap.size < (w.alloc (.cells (adrCells Adr.zero (.slice none 0 0)).toArray 24)).heap.size by simp) HS1.out)
  have HA4 := hid (show AdrIn W4 w1.heap.size B (.slice va vn vc) by
   have := hA3.store (v := B) (qv := .slice va vn vc)
   rw [hxv] at this
   rw [hW4]; exact this)
  have HA04 := hid (show AdrIn W4 w.heap.size Adr.zero (.slice none 0 0) by rw [hW4]; unfold AdrIn; rw [setCells_other hlt]; exact HA03.out)
  have HB4 := hid (show Below w.heap.size w W4 by rw [hW4]; exact below_setCells (Nat.le_trans (Nat.le_of_lt (by simp)) HS1.out) _ _ _ HB3.out)
  have HO4 := hid (show W4.ownsRow W2.heap.size 9 1 (.slice va vn vc) B.path.length (cellsS B.path) by rw [hW4]; exact own_cells hown hA3 _ 0)
  have HT4 := hid (show w3.there w1.heap.size 0 12 from hA3.there)
  have HW4 := hid hW4
  have hone : (#[.string v0, .string v1, .string v2, .string v3, .bool v4, .int .i64 v5, .bool v6, .slice va vn vc, .string v8, .string v9, .bool v10, .bool v11] : Array Value).all (·.oneCell') = true := by
   have := all_oneCell_toArray (adrCells_one B (.slice va vn vc) ⟨_, _, _, rfl⟩)
   rw [hxv] at this
   exact this
  clear hown hb3 hxv hvv hA3 hW4 hlt c0
  obtain ⟨Wz, hWz⟩ : ∃ X, X = W4.setCells w.heap.size 0 [.string v0, .string v1, .string v2, .string v3, .bool v4, .int .i64 v5, .bool v6, .slice va vn vc, .string v8, .string v9, .bool v10, .bool v11] := ⟨_, rfl⟩
  have HAz := hid (show AdrIn Wz w.heap.size B (.slice va vn vc) by
   have := HA04.out.store (v := B) (qv := .slice va vn vc)
   rw [HXv.out] at this
   rw [hWz]; exact this)
  have HBz := hid (show Below w.heap.size w Wz by rw [hWz]; exact below_setCells (Nat.le_refl _) _ _ _ HB4.out)
  have HPz := hid (show PathAt Wz (.slice va vn vc) B.path by rw [hWz]; exact own_path (own_cells HO4.out HA04.out _ 0))
  have HTz := hid (show W4.there w.heap.size 0 12 from HA04.out.there)
  have HWz := hid hWz
  have honz : (#[.string v0, .string v1, .string v2, .string v3, .bool v4, .int .i64 v5, .bool v6, .slice va vn vc, .string v8, .string v9, .bool v10, .bool v11] : Array Value).all (·.oneCell') = true := by
   have := all_oneCell_toArray (adrCells_one B (.slice va vn vc) ⟨_, _, _, rfl⟩)
   rw [HXv.out] at this
   exact this
  clear hWz
  obtain ⟨y0, y1, y2, y3, y4, y5, y6, y7, y8, y9, y10, y11⟩ := adr_twelve HXv.out HA4.out
  go_wp2_with (first | (refine wpList_store_mid rfl 24 (.tmp 3) (.tmp 24) rfl w1.heap.size 0 #[.string v0, .string v1, .string v2, .string v3, .bool v4, .int .i64 v5, .bool v6, .slice va vn vc, .string v8, .string v9, .bool v10, .bool v11] rfl rfl HT4.out (sizeUa B (.slice va vn vc)) hone ?_; refine wpList_worldO HW4.out ?_) | (refine wpList_store_mid rfl 24 (.tmp 2) (.tmp 26) rfl w.heap.size 0 #[.string v0, .string v1, .string v2, .string v3, .bool v4, .int .i64 v5, .bool v6, .slice va vn vc, .string v8, .string v9, .bool v10, .bool v11] rfl rfl HTz.out (sizeUa B (.slice va vn vc)) honz ?_; refine wpList_worldO HWz.out ?_))
  have hrg := range_row HAz.out
  refine bodyPost_ret (results_u1 rfl _ _ w.heap.size B (.slice va vn vc) rfl ?_) rfl ⟨.slice va vn vc, ?_, ?_, HBz.out⟩
  ·rw [HXv.out] at hrg ⊢; exact hrg
  ·rw [HE.out]
  ·rw [HE.out]; exact HPz.out
 ·have HE := hid (HN.out (.inr (by rw [HW.out]; rfl)))
  go_wp2_with fail
  refine (HD.out _).mono ?_
  rintro e w3 ⟨qv, rfl, hown, hb3⟩
  obtain ⟨va, vn, vc, rfl⟩ := own_sl hown
  obtain ⟨v0, v1, v2, v3, v4, v5, v6, v8, v9, v10, v11, hxv⟩ := adr_cells B va vn vc
  have hvv : adrVal B (.slice va vn vc) = .agg #[.string v0, .string v1, .string v2, .string v3, .bool v4, .int .i64 v5, .bool v6, .slice va vn vc, .string v8, .string v9, .bool v10, .bool v11] := by unfold adrVal; rw [hxv]
  rw [hvv]
  have HXv := hid hxv
  have HA03 := hid (HA02.out.kept hb3)
  have hA3 := HA2.out.kept hb3
  have HB3 := hid (below2 HB2.out hb3)
  obtain ⟨W4, hW4⟩ : ∃ X, X = w3.setCells w1.heap.size 0 [.string v0, .string v1, .string v2, .string v3, .bool v4, .int .i64 v5, .bool v6, .slice va vn vc, .string v8, .string v9, .bool v10, .bool v11] := ⟨_, rfl⟩
  have hlt : w.heap.size ≠ w1.heap.size := Nat.ne_of_lt (Nat.lt_of_lt_of_le (show w.heap.size < (w.alloc (.cells (adrCells Adr.zero (.slice none 0 0)).toArray 24)).heap.size by simp) HS1.out)
  have HA4 := hid (show AdrIn W4 w1.heap.size B (.slice va vn vc) by
   have := hA3.store (v := B) (qv := .slice va vn vc)
   rw [hxv] at this
   rw [hW4]; exact this)
  have HA04 := hid (show AdrIn W4 w.heap.size Adr.zero (.slice none 0 0) by rw [hW4]; unfold AdrIn; rw [setCells_other hlt]; exact HA03.out)
  have HB4 := hid (show Below w.heap.size w W4 by rw [hW4]; exact below_setCells (Nat.le_trans (Nat.le_of_lt (by simp)) HS1.out) _ _ _ HB3.out)
  have HO4 := hid (show W4.ownsRow W2.heap.size 9 1 (.slice va vn vc) B.path.length (cellsS B.path) by rw [hW4]; exact own_cells hown hA3 _ 0)
  have HT4 := hid (show w3.there w1.heap.size 0 12 from hA3.there)
  have HW4 := hid hW4
  have hone : (#[.string v0, .string v1, .string v2, .string v3, .bool v4, .int .i64 v5, .bool v6, .slice va vn vc, .string v8, .string v9, .bool v10, .bool v11] : Array Value).all (·.oneCell') = true := by
   have := all_oneCell_toArray (adrCells_one B (.slice va vn vc) ⟨_, _, _, rfl⟩)
   rw [hxv] at this
   exact this
  clear hown hb3 hxv hvv hA3 hW4 hlt c0
  obtain ⟨Wz, hWz⟩ : ∃ X, X = W4.setCells w.heap.size 0 [.string v0, .string v1, .string v2, .string v3, .bool v4, .int .i64 v5, .bool v6, .slice va vn vc, .string v8, .string v9, .bool v10, .bool v11] := ⟨_, rfl⟩
  have HAz := hid (show AdrIn Wz w.heap.size B (.slice va vn vc) by
   have := HA04.out.store (v := B) (qv := .slice va vn vc)
   rw [HXv.out] at this
   rw [hWz]; exact this)
  have HBz := hid (show Below w.heap.size w Wz by rw [hWz]; exact below_setCells (Nat.le_refl _) _ _ _ HB4.out)
  have HPz := hid (show PathAt Wz (.slice va vn vc) B.path by rw [hWz]; exact own_path (own_cells HO4.out HA04.out _ 0))
  have HTz := hid (show W4.there w.heap.size 0 12 from HA04.out.there)
  have HWz := hid hWz
  have honz : (#[.string v0, .string v1, .string v2, .string v3, .bool v4, .int .i64 v5, .bool v6, .slice va vn vc, .string v8, .string v9, .bool v10, .bool v11] : Array Value).all (·.oneCell') = true := by
   have := all_oneCell_toArray (adrCells_one B (.slice va vn vc) ⟨_, _, _, rfl⟩)
   rw [HXv.out] at this
   exact this
  clear hWz
  obtain ⟨y0, y1, y2, y3, y4, y5, y6, y7, y8, y9, y10, y11⟩ := adr_twelve HXv.out HA4.out
  go_wp2_with (first | (refine wpList_store_mid rfl 24 (.tmp 3) (.tmp 24) rfl w1.heap.size 0 #[.string v0, .string v1, .string v2, .string v3, .bool v4, .int .i64 v5, .bool v6, .slice va vn vc, .string v8, .string v9, .bool v10, .bool v11] rfl rfl HT4.out (sizeUa B (.slice va vn vc)) hone ?_; refine wpList_worldO HW4.out ?_) | (refine wpList_store_mid rfl 24 (.tmp 2) (.tmp 26) rfl w.heap.size 0 #[.string v0, .string v1, .string v2, .string v3, .bool v4, .int .i64 v5, .bool v6, .slice va vn vc, .string v8, .string v9, .bool v10, .bool v11] rfl rfl HTz.out (sizeUa B (.slice va vn vc)) honz ?_; refine wpList_worldO HWz.out ?_))
  have hrg := range_row HAz.out
  refine bodyPost_ret (results_u1 rfl _ _ w.heap.size B (.slice va vn vc) rfl ?_) rfl ⟨.slice va vn vc, ?_, ?_, HBz.out⟩
  ·rw [HXv.out] at hrg ⊢; exact hrg
  ·rw [HE.out]
  ·rw [HE.out]; exact HPz.out

end Go.Proofs.YtamockkjbkibdaaGreatDoor
