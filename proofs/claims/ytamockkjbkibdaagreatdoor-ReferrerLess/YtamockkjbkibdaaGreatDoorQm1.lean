/-
  Walks and plain facts that this claim leans on, put together out of 1 texts: Exm.
-/
import Derived.Test.YtamockkjbkibdaaGreatDoorProg
import Derived.Test.YtamockkjbkibdaaGreatDoorQa1
import Derived.Test.YtamockkjbkibdaaGreatDoorQa2
import Derived.Test.YtamockkjbkibdaaGreatDoorQa3
import Derived.Test.YtamockkjbkibdaaGreatDoorQa4
import Derived.Test.YtamockkjbkibdaaGreatDoorQa5
import Derived.Test.YtamockkjbkibdaaGreatDoorQa6
import Derived.Test.YtamockkjbkibdaaGreatDoorQa7
import Derived.Test.YtamockkjbkibdaaGreatDoorQa8
import Derived.Test.YtamockkjbkibdaaGreatDoorQa9
import Derived.Test.YtamockkjbkibdaaGreatDoorQa10
import Derived.Test.YtamockkjbkibdaaGreatDoorQa11
import Derived.Test.YtamockkjbkibdaaGreatDoorQa12
import Derived.Test.YtamockkjbkibdaaGreatDoorQa13
import Derived.Test.YtamockkjbkibdaaGreatDoorQa14
import Derived.Test.YtamockkjbkibdaaGreatDoorQa15
import Derived.Test.YtamockkjbkibdaaGreatDoorQa16
import Derived.Test.YtamockkjbkibdaaGreatDoorQa17
import Derived.Test.YtamockkjbkibdaaGreatDoorQa18
import Derived.Test.YtamockkjbkibdaaGreatDoorQa19
import Derived.Test.YtamockkjbkibdaaGreatDoorQa20
import Derived.Test.YtamockkjbkibdaaGreatDoorQa21
import Derived.Test.YtamockkjbkibdaaGreatDoorQa22
import Derived.Test.YtamockkjbkibdaaGreatDoorQa23
import Derived.Test.YtamockkjbkibdaaGreatDoorQa24
import Derived.Test.YtamockkjbkibdaaGreatDoorQa25
import Derived.Test.YtamockkjbkibdaaGreatDoorQa26
import Derived.Test.YtamockkjbkibdaaGreatDoorQa27
import Derived.Test.YtamockkjbkibdaaGreatDoorQa28
import Derived.Test.YtamockkjbkibdaaGreatDoorQa29
import Derived.Test.YtamockkjbkibdaaGreatDoorQa30
import Derived.Test.YtamockkjbkibdaaGreatDoorQa31
import Derived.Test.YtamockkjbkibdaaGreatDoorQa32
import Derived.Test.YtamockkjbkibdaaGreatDoorQr1
import Derived.Test.YtamockkjbkibdaaGreatDoorQr2
import Derived.Test.YtamockkjbkibdaaGreatDoorQr3
import Derived.Test.YtamockkjbkibdaaGreatDoorQr4
import Derived.Test.YtamockkjbkibdaaGreatDoorQr5
import Derived.Deep.Cut
import Derived.Deep.QuietTactic
import Derived.BigQuiet
import Derived.BigRegion
import Derived.Deep.RegionHeld
import Derived.Deep.CutRange
import Derived.Lib.IndexMore
import Derived.Lib.Join
import Derived.Lib.LastIndexByte
import Derived.WalkKit
import Derived.Lib.Strings
import Derived.Lib.UnsafeStr
import Derived.Laws.IdiomStrings
import Derived.Laws.AppendOwn
import Derived.Laws.BitsAllLaws
import Derived.Lib.Bytealg
import Derived.Lib.BufferMore
import Derived.Lib.BufferRead
import Derived.Lib.RuneBytes
import Derived.Laws.RangeAny
import Derived.LoopN
import Derived.RegionTactic
import Derived.Deep.RegionWith
import Derived.OwnWalk
import Derived.Deep.RegionLaw
import Derived.Laws.OwnMore
import Derived.Deep.LoopGhost
import Derived.Shelf.Strings.Builder1
import Derived.Shelf.Strings.Builder2
import Derived.Shelf.Strings.OnBuilder
import Derived.Shelf.Strings.Trim
import Derived.Shelf.Small.Utf8
import Derived.Shelf.Small.Strs
import Derived.Shelf.Small.Wraps
import Derived.Shelf.Strings.BuilderF
import Derived.Shelf.Strings.BuilderK
import Derived.Shelf.Strings.BuilderRune
import Derived.Shelf.Utf8.AppendRune
import Derived.Shelf.Utf8.AppendRunePlain
import Derived.Shelf.Strings.Builder2Cap
import Derived.Shelf.Strconv.Itoa0
import Derived.Shelf.Strconv.Itoa1
import Derived.Shelf.LaysM
import Derived.Shelf.Strconv.Itoa2
import Derived.Shelf.Strconv.Itoa3
import Derived.Shelf.Strings.Search1
import Derived.Shelf.Strings.Search2
import Derived.Shelf.Strings.Search3
import Derived.Shelf.Strings.Cut
import Derived.Shelf.Strings.Count
import Derived.Shelf.Strings.Shaped
import Derived.Shelf.Strings.LastIndex
import Derived.Shelf.Strings.Prefix
import Derived.Shelf.Strings.Split
import Derived.Shelf.Strings.Replace
import Derived.Shelf.Strings.Runes
import Derived.Shelf.Strings.IndexAny
import Derived.Shelf.Strings.AsciiSet
import Derived.Shelf.Strings.IndexAnyAll
import Derived.Shelf.Unicode.DecodeSlow
import Derived.Ground.Names2Prog
import Derived.Shelf.Slices.Clone
import Derived.Ground.SlgnProg
import Derived.Shelf.SlicesE.Clone
import Derived.Laws.AppendOwnNone
import Derived.Scope
import Derived.ScopeJumps
import Derived.WalkMore
import Derived.Lib.IndexAny
import Derived.Lib.Replace
import Derived.Lib.TrimByte
import Derived.Lib.ItoaNum
import Derived.Lib.DecodeN
import Derived.Lib.OthersKept
import Derived.Laws.BytesString
import Derived.Deep.WholeRow
import Derived.Lib.AppendStr
import Derived.WalkSpells
import Derived.WalkLawsBesides
import Derived.Lib.AppendIntMem
import Derived.Lib.SmallJoins
import Derived.WalkSmall
import Derived.Laws.CopyOwn
import Derived.Laws.ResultCell
import Derived.Deep.MidRow
import Derived.Lib.FrozenHead2
import Derived.Lib.Builder
import Derived.Lib.SlTrimSet
import Derived.Below
import Derived.Shelf.Strings.SlTrimAscii
import Derived.Laws.Runes
set_option linter.unusedSimpArgs false
set_option linter.unusedVariables false

namespace Go.Proofs.YtamockkjbkibdaaGreatDoor
open Go.RowKit

theorem bne_of {a b : List UInt8} {q : Bool} (h : (a == b) = q) : (a != b) = !q := by rw [← h]; rfl

set_option maxHeartbeats 32000000 in
set_option maxRecDepth 100000 in
theorem referrerLess_walk (P S T : ByteArray) (w : World) (hp : P.size ≤ 140737488351232) (hs : S.size ≤ 140737488351232) (ht : T.size ≤ 140737488351232) (hg : Gd w) :
  Calls Tryz.prog 11 #[.string P, .string S, .string T] w fun e w' => e = .returned (.bool true) ∧ Below w.heap.size w w' := by
 have HPg := hid (fun w => page_any S w (by omega))
 have HUr := hid (fun w => url_k T w (by omega))
 have HKn := hid (fun (w : World) (hg : Gd w) => knownL13_any w hg)
 have HG0 := hid hg
 obtain ⟨F, hF⟩ : ∃ F : ByteArray, ⟨(P.data.toList.take 60).toArray⟩ = F := ⟨_, rfl⟩
 have HFw := hid (fun w => few_any P 60 w (by omega) (by omega))
 rw [hF] at HFw
 have HWu := hid (page_wu S.data.toList)
 have HSu := hid (page_st S.data.toList)
 generalize pageV S.data.toList = A at HPg HWu HSu
 have HSv := hid (show StOk (adrOf (urlV T.data.toList)) from st_read _)
 unfold PgPost at HPg
 unfold UPost at HUr
 have HRd := hid (show ∀ B, urlV T.data.toList = .ok B → ∃ X, readV X none = .ok B from fun B h => ⟨_, h⟩)
 generalize urlV T.data.toList = r at HUr HSv HRd
 clear hF hg
 cases r with
 | error x =>
  simp only [isOk, adrOf] at HUr
  go_enter Tryz.func11, Tryz.ntmps11
  go_wp2_with fail
  refine (HPg.out _).mono ?_
  rintro e w1 ⟨pv, rfl, hpp, hb1⟩
  obtain ⟨da, dn, dc, rfl⟩ := path_sl hpp
  obtain ⟨d0, d1, d2, d3, d4, d5, d6, d8, d9, d10, d11, hxd⟩ := adr_cells A da dn dc
  have hvd : adrVal A (.slice da dn dc) = .agg #[.string d0, .string d1, .string d2, .string d3, .bool d4, .int .i64 d5, .bool d6, .slice da dn dc, .string d8, .string d9, .bool d10, .bool d11] := by unfold adrVal; rw [hxd]
  rw [hvd]
  obtain ⟨W2, hW2⟩ : ∃ X, (w1.alloc (.cells #[.string d0, .string d1, .string d2, .string d3, .bool d4, .int .i64 d5, .bool d6, .slice da dn dc, .string d8, .string d9, .bool d10, .bool d11] 24)) = X := ⟨_, rfl⟩
  have hbW2 : Below w1.heap.size w1 W2 := by rw [← hW2]; exact (Below.refl _ w1).alloc (Nat.le_refl _) _
  have hsW2 : W2.heap.size = w1.heap.size + 1 := by rw [← hW2]; simp
  have hAW2 : AdrIn W2 w1.heap.size A (.slice da dn dc) := by
   unfold AdrIn
   rw [hxd, ← hW2]
   exact heap_alloc_new w1 _
  have HB2 := hid (below2 hb1 hbW2)
  clear hpp hb1 hbW2 hAW2 hxd hvd hsW2
  go_wp2_with fail
  refine (HUr.out _).mono ?_
  rintro e w3 ⟨qv, rfl, hown, hb3⟩
  obtain ⟨va, vn, vc, rfl⟩ := own_sl hown
  obtain ⟨v0, v1, v2, v3, v4, v5, v6, v8, v9, v10, v11, hxv⟩ := adr_cells Adr.zero va vn vc
  have hvv : adrVal Adr.zero (.slice va vn vc) = .agg #[.string v0, .string v1, .string v2, .string v3, .bool v4, .int .i64 v5, .bool v6, .slice va vn vc, .string v8, .string v9, .bool v10, .bool v11] := by unfold adrVal; rw [hxv]
  rw [hvv]
  obtain ⟨W4, hW4⟩ : ∃ X, (w3.alloc (.cells #[.string v0, .string v1, .string v2, .string v3, .bool v4, .int .i64 v5, .bool v6, .slice va vn vc, .string v8, .string v9, .bool v10, .bool v11] 24)) = X := ⟨_, rfl⟩
  have hbW4 : Below w3.heap.size w3 W4 := by rw [← hW4]; exact (Below.refl _ w3).alloc (Nat.le_refl _) _
  have hsW4 : W4.heap.size = w3.heap.size + 1 := by rw [← hW4]; simp
  have hAW4 : AdrIn W4 w3.heap.size Adr.zero (.slice va vn vc) := by
   unfold AdrIn
   rw [hxv, ← hW4]
   exact heap_alloc_new w3 _
  have HB4 := hid (below2 HB2.out (below2 hb3 hbW4))
  clear hown hb3 hbW4 hAW4 hxv hvv hsW4
  go_wp2_with fail
  refine (HKn.out _ (HG0.out.kept HB4.out)).mono ?_
  rintro e w5 ⟨rfl, hb5⟩
  go_wp2
  go_ret
  exact ⟨rfl, below2 HB4.out hb5⟩
 | ok B =>
  simp only [isOk, adrOf] at HUr HSv
  obtain ⟨TX, hTX⟩ := HRd.out B rfl
  have HOf := hid (fun (pv qv : Value) (X : World) (hX : Gd X) (hp : PathAt X pv A.path) (hq : PathAt X qv B.path) => ofR_any F A pv B qv X hX hp hq HSu.out HSv.out)
  have HSt := hid (fun (b : Bool) (pv : Value) (X : World) (hX : Gd X) (hp : PathAt X pv A.path) => strip13_any A pv b X hX hp HSu.out)
  obtain ⟨XX, hXX⟩ : ∃ X : ByteArray, X = ⟨(ofR F.data.toList A B).toArray⟩ := ⟨_, rfl⟩
  obtain ⟨SF, hSF⟩ : ∃ X : ByteArray, X = ⟨(stripV A false).toArray⟩ := ⟨_, rfl⟩
  obtain ⟨ST, hST⟩ : ∃ X : ByteArray, X = ⟨(stripV A true).toArray⟩ := ⟨_, rfl⟩
  rw [← hXX] at HOf
  have hXl : XX.data.toList = ofR F.data.toList A B := by rw [hXX]
  have hXs : XX.size ≤ 3000001 := by rw [Lib.size_eq, hXl]; exact of_le HSu.out _ _
  have HSf := hid (fun (pv : Value) (X : World) (hX : Gd X) (hp : PathAt X pv A.path) => HSt.out false pv X hX hp)
  have HStt := hid (fun (pv : Value) (X : World) (hX : Gd X) (hp : PathAt X pv A.path) => HSt.out true pv X hX hp)
  rw [← hSF] at HSf
  rw [← hST] at HStt
  have hcs : (XX.toList == []) = true ∨ ((XX.toList == []) = false ∧ (XX.toList == SF.toList) = true) ∨ ((XX.toList == []) = false ∧ (XX.toList == SF.toList) = false ∧ (XX.toList == ST.toList) = true) := by
   have h1 : SF.toList = stripV A false := by rw [Lib.toList_data, hSF]
   have h2 : ST.toList = stripV A true := by rw [Lib.toList_data, hST]
   have h3 : XX.toList = ofR F.data.toList A B := by rw [Lib.toList_data, hXl]
   rw [h1, h2, h3]
   rcases of_one F.data.toList A B with e | e | e
   ·left; rw [e]; decide
   ·cases hz : (ofR F.data.toList A B == []) with
    | true => exact .inl rfl
    | false => right; left; exact ⟨rfl, by rw [e]; exact beq_self_eq_true _⟩
   ·cases hz : (ofR F.data.toList A B == []) with
    | true => exact .inl rfl
    | false =>
     cases hy : (ofR F.data.toList A B == stripV A false) with
     | true => right; left; exact ⟨rfl, rfl⟩
     | false => right; right; exact ⟨rfl, rfl, by rw [e]; exact beq_self_eq_true _⟩
  have HCs := hid hcs
  have HRx := hid (show ∀ r, urlV XX.data.toList = r → (XX.toList == []) = false → XX.size < 300 → ∃ x, r = .ok x ∧ x.user = [] ∧ x.pass = [] ∧ x.hasFragment = false from fun r hr h0 hl => by
   rw [← hr, hXl]
   refine of_read HWu.out _ _ (fun e => ?_) (by rw [← hXl, ← Lib.size_eq]; exact hl)
   rw [Lib.toList_data, hXl, e] at h0
   exact absurd h0 (by decide))
  have HUx := hid (fun w => url_k XX w (by omega))
  unfold UPost at HUx
  generalize hrx : urlV XX.data.toList = rx at HUx HRx
  obtain ⟨okx, hokx⟩ : ∃ q, isOk rx = q := ⟨_, rfl⟩
  have HOk := hid hokx
  rw [hokx] at HUx
  obtain ⟨st, hst⟩ : ∃ q, strictB F.data.toList = q := ⟨_, rfl⟩
  have HStr := hid (show st = true → A.scheme = sHttps → B.scheme = sHttp → B.host ≠ [] → localV B.host = false → (XX.toList == []) = true from fun h1 h2 h3 h4 h5 => by
   rw [Lib.toList_data, hXl, of_strict hTX (hst.trans h1) h2 h3 h4 h5]
   decide)
  obtain ⟨c1, ec1⟩ : ∃ q, (F.toList == [115, 116, 114, 105, 99, 116, 45, 111, 114, 105, 103, 105, 110]) = q := ⟨_, rfl⟩
  obtain ⟨c2, ec2⟩ : ∃ q, (F.toList == [115, 116, 114, 105, 99, 116, 45, 111, 114, 105, 103, 105, 110, 45, 119, 104, 101, 110, 45, 99, 114, 111, 115, 115, 45, 111, 114, 105, 103, 105, 110]) = q := ⟨_, rfl⟩
  obtain ⟨c3, ec3⟩ : ∃ q, (F.toList == [110, 111, 45, 114, 101, 102, 101, 114, 114, 101, 114, 45, 119, 104, 101, 110, 45, 100, 111, 119, 110, 103, 114, 97, 100, 101]) = q := ⟨_, rfl⟩
  obtain ⟨c4, ec4⟩ : ∃ q, (F.toList == [110, 111, 45, 114, 101, 102, 101, 114, 114, 101, 114]) = q := ⟨_, rfl⟩
  have HS4 := hid (show st = (c1 || (c2 || (c3 || c4))) by rw [← hst, ← ec1, ← ec2, ← ec3, ← ec4, Lib.toList_data]; rfl)
  have HC := hid (And.intro ec1 (And.intro ec2 (And.intro ec3 ec4)))
  clear hTX hXX hXl hSF hST hcs hrx hokx hst HSt HRd ec1 ec2 ec3 ec4
  go_enter Tryz.func11, Tryz.ntmps11
  go_wp2_with fail
  refine (HPg.out _).mono ?_
  rintro e w1 ⟨pv, rfl, hpp, hb1⟩
  obtain ⟨da, dn, dc, rfl⟩ := path_sl hpp
  obtain ⟨d0, d1, d2, d3, d4, d5, d6, d8, d9, d10, d11, hxd, hd0, -, -, -⟩ := adr_named A da dn dc
  have hvd : adrVal A (.slice da dn dc) = .agg #[.string d0, .string d1, .string d2, .string d3, .bool d4, .int .i64 d5, .bool d6, .slice da dn dc, .string d8, .string d9, .bool d10, .bool d11] := by unfold adrVal; rw [hxd]
  rw [hvd]
  obtain ⟨W2, hW2⟩ : ∃ X, (w1.alloc (.cells #[.string d0, .string d1, .string d2, .string d3, .bool d4, .int .i64 d5, .bool d6, .slice da dn dc, .string d8, .string d9, .bool d10, .bool d11] 24)) = X := ⟨_, rfl⟩
  have hbW2 : Below w1.heap.size w1 W2 := by rw [← hW2]; exact (Below.refl _ w1).alloc (Nat.le_refl _) _
  have hsW2 : W2.heap.size = w1.heap.size + 1 := by rw [← hW2]; simp
  have hAW2 : AdrIn W2 w1.heap.size A (.slice da dn dc) := by
   unfold AdrIn
   rw [hxd, ← hW2]
   exact heap_alloc_new w1 _
  have HPP2 := hid (hpp.kept hbW2)
  have HB2 := hid (below2 hb1 hbW2)
  have HA2 := hid hAW2
  have HXd := hid hxd
  have HVd := hid hvd
  obtain ⟨qa, eqa⟩ : ∃ q, (d0.toList == [104, 116, 116, 112, 115]) = q := ⟨_, rfl⟩
  have nqa := bne_of eqa
  have HQa := hid (show qa = true → A.scheme = sHttps from fun h => by rw [h, Lib.toList_data, hd0] at eqa; exact beq_iff_eq.1 eqa)
  clear hpp hb1 hbW2 hAW2 hxd hvd hsW2 hd0
  go_wp2_with fail
  refine (HUr.out _).mono ?_
  rintro e w3 ⟨qv, rfl, hown, hb3⟩
  obtain ⟨va, vn, vc, rfl⟩ := own_sl hown
  obtain ⟨v0, v1, v2, v3, v4, v5, v6, v8, v9, v10, v11, hxv, hv0, hv3, -, -⟩ := adr_named B va vn vc
  have hvv : adrVal B (.slice va vn vc) = .agg #[.string v0, .string v1, .string v2, .string v3, .bool v4, .int .i64 v5, .bool v6, .slice va vn vc, .string v8, .string v9, .bool v10, .bool v11] := by unfold adrVal; rw [hxv]
  rw [hvv]
  obtain ⟨W4, hW4⟩ : ∃ X, (w3.alloc (.cells #[.string v0, .string v1, .string v2, .string v3, .bool v4, .int .i64 v5, .bool v6, .slice va vn vc, .string v8, .string v9, .bool v10, .bool v11] 24)) = X := ⟨_, rfl⟩
  have hbW4 : Below w3.heap.size w3 W4 := by rw [← hW4]; exact (Below.refl _ w3).alloc (Nat.le_refl _) _
  have hsW4 : W4.heap.size = w3.heap.size + 1 := by rw [← hW4]; simp
  have hAW4 : AdrIn W4 w3.heap.size B (.slice va vn vc) := by
   unfold AdrIn
   rw [hxv, ← hW4]
   exact heap_alloc_new w3 _
  have hb34 := below2 hb3 hbW4
  have HB4 := hid (below2 HB2.out hb34)
  have HPa4 := hid (HPP2.out.kept hb34)
  have HPb4 := hid ((own_path hown).kept hbW4)
  have HA4 := hid (HA2.out.kept hb34)
  have HAb4 := hid hAW4
  have HXv := hid hxv
  obtain ⟨qb, eqb⟩ : ∃ q, (v0.toList == [104, 116, 116, 112]) = q := ⟨_, rfl⟩
  have nqb := bne_of eqb
  obtain ⟨qc, eqc⟩ : ∃ q, (v3.toList == []) = q := ⟨_, rfl⟩
  obtain ⟨lc, hlc⟩ : ∃ q, localV v3.data.toList = q := ⟨_, rfl⟩
  have HLo := hid (fun w => local13_any v3 w (by rw [Lib.size_eq, hv3]; have := HSv.out.2.2.2; omega))
  rw [hlc] at HLo
  have HQb := hid (show st = true → qa = true → qb = true → qc = false → lc = false → (XX.toList == []) = true from fun h1 h2 h3 h4 h5 => by
   refine HStr.out h1 (HQa.out h2) ?_ ?_ ?_
   ·rw [h3, Lib.toList_data, hv0] at eqb; exact beq_iff_eq.1 eqb
   ·rw [h4, Lib.toList_data, hv3] at eqc; exact beq_eq_false_iff_ne.1 eqc
   ·rw [← hv3, hlc]; exact h5)
  have HOc := hid (fun (X : World) (hX : Below W4.heap.size W4 X) => HOf.out _ _ X (HG0.out.kept (below2 HB4.out hX)) (HPa4.out.kept hX) (HPb4.out.kept hX))
  rw [HVd.out, hvv] at HOc
  have HSfc := hid (fun (X : World) (hX : Below W4.heap.size W4 X) => HSf.out _ X (HG0.out.kept (below2 HB4.out hX)) (HPa4.out.kept hX))
  have HStc := hid (fun (X : World) (hX : Below W4.heap.size W4 X) => HStt.out _ X (HG0.out.kept (below2 HB4.out hX)) (HPa4.out.kept hX))
  rw [HVd.out] at HSfc HStc
  have HKc := hid (fun (X : World) (hX : Below W4.heap.size W4 X) => HKn.out X (HG0.out.kept (below2 HB4.out hX)))
  have HQ4 := hid (Below.refl W4.heap.size W4)
  obtain ⟨y0, y1, y2, y3, y4, y5, y6, y7, y8, y9, y10, y11⟩ := adr_twelve HXd.out HA4.out
  obtain ⟨z0, z1, z2, z3, z4, z5, z6, z7, z8, z9, z10, z11⟩ := adr_twelve hxv hAW4
  clear hown hb3 hbW4 hAW4 hxv hvv hb34 hsW4 hv0 hv3 hlc HPg HUr HOf HSf HStt HKn HStr HQa HWu HSu HSv
  go_wp2_with fail
  refine (HFw.out _).mono ?_
  rintro e w' ⟨rfl, hw'⟩
  rw [← hw']
  clear hw'
  go_wp2_with fail
  refine (HOc.out _ HQ4.out).mono ?_
  rintro e w6 ⟨rfl, hb6⟩
  have HQ6 := hid (below2 HQ4.out hb6)
  clear hb6 y0 y1 y2 y3 y4 y5 y6 y7 y8 y9 y10 y11 z0 z1 z2 z3 z4 z5 z6 z7 z8 z9 z10 z11 HOc
  go_upto_region 7 with fail
  go_cut [43] from 30 to 42 (fun x wx => x = .bool false ∧ Hid (Below W4.heap.size W4 wx))
  case first =>
   obtain ⟨y0, y1, y2, y3, y4, y5, y6, y7, y8, y9, y10, y11⟩ := adr_twelve HXd.out (HA4.out.kept HQ6.out)
   rcases HCs.out with n1 | ⟨n1, n2⟩ | ⟨n1, n2, n3⟩
   ·have m1 := bne_of n1
    go_wp2_with fail
    go_meet
    exact ⟨rfl, HQ6.out⟩
   ·have m1 := bne_of n1
    have m2 := bne_of n2
    go_wp2_with fail
    refine (HSfc.out _ HQ6.out).mono ?_
    rintro e w7 ⟨rfl, hb7⟩
    go_wp2_with fail
    go_meet
    exact ⟨rfl, below2 HQ6.out hb7⟩
   ·have m1 := bne_of n1
    have m2 := bne_of n2
    have m3 := bne_of n3
    go_wp2_with fail
    refine (HSfc.out _ HQ6.out).mono ?_
    rintro e w7 ⟨rfl, hb7⟩
    have HQ7 := hid (below2 HQ6.out hb7)
    clear hb7 y0 y1 y2 y3 y4 y5 y6 y7 y8 y9 y10 y11
    obtain ⟨y0, y1, y2, y3, y4, y5, y6, y7, y8, y9, y10, y11⟩ := adr_twelve HXd.out (HA4.out.kept HQ7.out)
    go_wp2_with fail
    refine (HStc.out _ HQ7.out).mono ?_
    rintro e w8 ⟨rfl, hb8⟩
    go_wp2_with fail
    go_meet
    exact ⟨rfl, below2 HQ7.out hb8⟩
  case rest =>
   obtain ⟨rfl, HQ8⟩ := hcut
   rename World => w8
   go_wp2_with fail
   refine (HUx.out _).mono ?_
   rintro e w9 ⟨tv, rfl, hown, hb9⟩
   obtain ⟨ta, tn, tc, rfl⟩ := own_sl hown
   obtain ⟨t0, t1, t2, t3, t4, t5, t6, t8, t9, t10, t11, hxt⟩ := adr_cells (adrOf rx) ta tn tc
   have hvt : adrVal (adrOf rx) (.slice ta tn tc) = .agg #[.string t0, .string t1, .string t2, .string t3, .bool t4, .int .i64 t5, .bool t6, .slice ta tn tc, .string t8, .string t9, .bool t10, .bool t11] := by unfold adrVal; rw [hxt]
   rw [hvt]
   obtain ⟨W10, hW10⟩ : ∃ X, (w9.alloc (.cells #[.string t0, .string t1, .string t2, .string t3, .bool t4, .int .i64 t5, .bool t6, .slice ta tn tc, .string t8, .string t9, .bool t10, .bool t11] 24)) = X := ⟨_, rfl⟩
   have hbW10 : Below w9.heap.size w9 W10 := by rw [← hW10]; exact (Below.refl _ w9).alloc (Nat.le_refl _) _
   have hsW10 : W10.heap.size = w9.heap.size + 1 := by rw [← hW10]; simp
   have hAW10 : AdrIn W10 w9.heap.size (adrOf rx) (.slice ta tn tc) := by
    unfold AdrIn
    rw [hxt, ← hW10]
    exact heap_alloc_new w9 _
   have HAx := hid hAW10
   have HQ10 := hid (below2 HQ8.out (below2 hb9 hbW10))
   have HXt := hid hxt
   clear hown hb9 hbW10 hAW10 hxt hvt hsW10 HUx
   go_upto_region 10 with fail
   go_cut [73] from 49 to 72 (fun x wx => x = .bool false ∧ wx = W10)
   case first =>
    cases n1 : (XX.toList == []) with
    | true =>
     have m1 := bne_of n1
     go_wp2_with fail
     go_meet
     exact ⟨rfl, rfl⟩
    | false =>
     have m1 := bne_of n1
     by_cases hl : XX.size < 300
     ·have hl' : (XX.size : Int) < 300 := by omega
      obtain ⟨x, hx, hx1, hx2, hx3⟩ := HRx.out _ rfl n1 hl
      obtain rfl : okx = true := by rw [← HOk.out, hx]; rfl
      have k1 : W10.cell? ⟨w9.heap.size, 1, none⟩ = some (.string ⟨#[]⟩) := HAx.out.cell 1 _ (by rw [hx]; show some (Value.string ⟨x.user.toArray⟩) = _; rw [hx1])
      have k2 : W10.cell? ⟨w9.heap.size, 2, none⟩ = some (.string ⟨#[]⟩) := HAx.out.cell 2 _ (by rw [hx]; show some (Value.string ⟨x.pass.toArray⟩) = _; rw [hx2])
      have k3 : W10.cell? ⟨w9.heap.size, 11, none⟩ = some (.bool false) := HAx.out.cell 11 _ (by rw [hx]; show some (Value.bool x.hasFragment) = _; rw [hx3])
      clear hx hx1 hx2 hx3
      go_wp2_with fail
      go_meet
      exact ⟨rfl, rfl⟩
     ·have hl' : ¬ (XX.size : Int) < 300 := by omega
      go_wp2_with fail
      go_meet
      exact ⟨rfl, rfl⟩
   case rest =>
    obtain ⟨rfl, hwx⟩ := hcut
    have hwx := hwx.symm
    subst hwx
    go_upto_region 12 with fail
    go_cut [13] from 74 to 87 (fun x wx => x = .bool st ∧ wx = W10)
    case first =>
     obtain ⟨ec1, ec2, ec3, ec4⟩ := HC.out
     have hs4 := HS4.out
     cases c1 with
     | true =>
      go_wp2_with fail
      go_meet
      exact ⟨by rw [HS4.out]; rfl, rfl⟩
     | false =>
      cases c2 with
      | true =>
       go_wp2_with fail
       go_meet
       exact ⟨by rw [HS4.out]; rfl, rfl⟩
      | false =>
       cases c3 with
       | true =>
        go_wp2_with fail
        go_meet
        exact ⟨by rw [HS4.out]; rfl, rfl⟩
       | false =>
        clear hs4
        cases c4 with
        | true =>
         go_wp2_with fail
         go_meet
         exact ⟨by rw [HS4.out]; rfl, rfl⟩
        | false =>
         go_wp2_with fail
         go_meet
         exact ⟨by rw [HS4.out]; rfl, rfl⟩
    case rest =>
     obtain ⟨rfl, hwx⟩ := hcut
     have hwx := hwx.symm
     subst hwx
     have y0 : W10.cell? ⟨w1.heap.size, 0, none⟩ = some (.string d0) := (HA4.out.kept HQ10.out).cell 0 _ (by rw [HXd.out]; rfl)
     have z0 : W10.cell? ⟨w3.heap.size, 0, none⟩ = some (.string v0) := (HAb4.out.kept HQ10.out).cell 0 _ (by rw [HXv.out]; rfl)
     have z3 : W10.cell? ⟨w3.heap.size, 3, none⟩ = some (.string v3) := (HAb4.out.kept HQ10.out).cell 3 _ (by rw [HXv.out]; rfl)
     have HK10 := hid (HKc.out _ HQ10.out)
     have HB10 := hid (below2 HB4.out HQ10.out)
     clear HC HS4 HCs HRx HAx HXt HKc HSfc HStc
     cases st with
     | false =>
      go_wp2_with fail
      refine HK10.out.mono ?_
      rintro e w12 ⟨rfl, hb12⟩
      go_wp2
      go_ret
      exact ⟨rfl, below2 HB10.out hb12⟩
     | true =>
      cases qa with
      | false =>
       go_wp2_with fail
       refine HK10.out.mono ?_
       rintro e w12 ⟨rfl, hb12⟩
       go_wp2
       go_ret
       exact ⟨rfl, below2 HB10.out hb12⟩
      | true =>
       cases qb with
       | false =>
        go_wp2_with fail
        refine HK10.out.mono ?_
        rintro e w12 ⟨rfl, hb12⟩
        go_wp2
        go_ret
        exact ⟨rfl, below2 HB10.out hb12⟩
       | true =>
        cases qc with
        | true =>
         go_wp2_with fail
         refine HK10.out.mono ?_
         rintro e w12 ⟨rfl, hb12⟩
         go_wp2
         go_ret
         exact ⟨rfl, below2 HB10.out hb12⟩
        | false =>
         cases lc with
         | true =>
          go_wp2_with fail
          refine (HLo.out _).mono ?_
          rintro e wl ⟨rfl, hwl⟩
          rw [← hwl]
          clear hwl
          go_wp2_with fail
          refine HK10.out.mono ?_
          rintro e w12 ⟨rfl, hb12⟩
          go_wp2
          go_ret
          exact ⟨rfl, below2 HB10.out hb12⟩
         | false =>
          have n1 := HQb.out rfl rfl rfl rfl rfl
          go_wp2_with fail
          refine (HLo.out _).mono ?_
          rintro e wl ⟨rfl, hwl⟩
          rw [← hwl]
          clear hwl
          go_wp2_with fail
          refine HK10.out.mono ?_
          rintro e w12 ⟨rfl, hb12⟩
          go_wp2
          go_ret
          exact ⟨rfl, below2 HB10.out hb12⟩

end Go.Proofs.YtamockkjbkibdaaGreatDoor
