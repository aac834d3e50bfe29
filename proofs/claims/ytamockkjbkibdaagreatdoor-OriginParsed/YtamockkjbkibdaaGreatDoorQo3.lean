/-
  Walks and plain facts that this claim leans on, put together out of 1 texts: Ewo.
-/
import Derived.Test.YtamockkjbkibdaaGreatDoorProg
import Derived.Test.YtamockkjbkibdaaGreatDoorQa1
import Derived.Test.YtamockkjbkibdaaGreatDoorQa2
import Derived.Test.YtamockkjbkibdaaGreatDoorQa3
import Derived.Test.YtamockkjbkibdaaGreatDoorQa4
import Derived.Test.YtamockkjbkibdaaGreatDoorQa5
import Derived.Test.YtamockkjbkibdaaGreatDoorQa6
import Derived.Test.YtamockkjbkibdaaGreatDoorQa7
import Derived.Test.YtamockkjbkibdaaGreatDoorQa8
import Derived.Test.YtamockkjbkibdaaGreatDoorQa9
import Derived.Test.YtamockkjbkibdaaGreatDoorQa10
import Derived.Test.YtamockkjbkibdaaGreatDoorQa11
import Derived.Test.YtamockkjbkibdaaGreatDoorQa12
import Derived.Test.YtamockkjbkibdaaGreatDoorQa13
import Derived.Test.YtamockkjbkibdaaGreatDoorQa14
import Derived.Test.YtamockkjbkibdaaGreatDoorQa15
import Derived.Test.YtamockkjbkibdaaGreatDoorQa16
import Derived.Test.YtamockkjbkibdaaGreatDoorQa17
import Derived.Test.YtamockkjbkibdaaGreatDoorQa18
import Derived.Test.YtamockkjbkibdaaGreatDoorQa19
import Derived.Test.YtamockkjbkibdaaGreatDoorQa20
import Derived.Test.YtamockkjbkibdaaGreatDoorQa21
import Derived.Test.YtamockkjbkibdaaGreatDoorQa22
import Derived.Test.YtamockkjbkibdaaGreatDoorQa23
import Derived.Test.YtamockkjbkibdaaGreatDoorQa24
import Derived.Test.YtamockkjbkibdaaGreatDoorQa25
import Derived.Test.YtamockkjbkibdaaGreatDoorQa26
import Derived.Test.YtamockkjbkibdaaGreatDoorQa27
import Derived.Test.YtamockkjbkibdaaGreatDoorQa28
import Derived.Test.YtamockkjbkibdaaGreatDoorQa29
import Derived.Test.YtamockkjbkibdaaGreatDoorQa30
import Derived.Test.YtamockkjbkibdaaGreatDoorQa31
import Derived.Test.YtamockkjbkibdaaGreatDoorQa32
import Derived.Test.YtamockkjbkibdaaGreatDoorQo1
import Derived.Test.YtamockkjbkibdaaGreatDoorQo2
import Derived.Deep.Cut
import Derived.Deep.QuietTactic
import Derived.BigQuiet
import Derived.BigRegion
import Derived.Deep.RegionHeld
import Derived.Deep.CutRange
import Derived.Lib.IndexMore
import Derived.Lib.Join
import Derived.Lib.LastIndexByte
import Derived.WalkKit
import Derived.Lib.Strings
import Derived.Lib.UnsafeStr
import Derived.Laws.IdiomStrings
import Derived.Laws.AppendOwn
import Derived.Laws.BitsAllLaws
import Derived.Lib.Bytealg
import Derived.Lib.BufferMore
import Derived.Lib.BufferRead
import Derived.Lib.RuneBytes
import Derived.Laws.RangeAny
import Derived.LoopN
import Derived.RegionTactic
import Derived.Deep.RegionWith
import Derived.OwnWalk
import Derived.Deep.RegionLaw
import Derived.Laws.OwnMore
import Derived.Deep.LoopGhost
import Derived.Shelf.Strings.Builder1
import Derived.Shelf.Strings.Builder2
import Derived.Shelf.Strings.OnBuilder
import Derived.Shelf.Strings.Trim
import Derived.Shelf.Small.Utf8
import Derived.Shelf.Small.Strs
import Derived.Shelf.Small.Wraps
import Derived.Shelf.Strings.BuilderF
import Derived.Shelf.Strings.BuilderK
import Derived.Shelf.Strings.BuilderRune
import Derived.Shelf.Utf8.AppendRune
import Derived.Shelf.Utf8.AppendRunePlain
import Derived.Shelf.Strings.Builder2Cap
import Derived.Shelf.Strconv.Itoa0
import Derived.Shelf.Strconv.Itoa1
import Derived.Shelf.LaysM
import Derived.Shelf.Strconv.Itoa2
import Derived.Shelf.Strconv.Itoa3
import Derived.Shelf.Strings.Search1
import Derived.Shelf.Strings.Search2
import Derived.Shelf.Strings.Search3
import Derived.Shelf.Strings.Cut
import Derived.Shelf.Strings.Count
import Derived.Shelf.Strings.Shaped
import Derived.Shelf.Strings.LastIndex
import Derived.Shelf.Strings.Prefix
import Derived.Shelf.Strings.Split
import Derived.Shelf.Strings.Replace
import Derived.Shelf.Strings.Runes
import Derived.Shelf.Strings.IndexAny
import Derived.Shelf.Strings.AsciiSet
import Derived.Shelf.Strings.IndexAnyAll
import Derived.Shelf.Unicode.DecodeSlow
import Derived.Ground.Names2Prog
import Derived.Shelf.Slices.Clone
import Derived.Ground.SlgnProg
import Derived.Shelf.SlicesE.Clone
import Derived.Laws.AppendOwnNone
import Derived.Scope
import Derived.ScopeJumps
import Derived.WalkMore
import Derived.Lib.IndexAny
import Derived.Lib.Replace
import Derived.Lib.TrimByte
import Derived.Lib.ItoaNum
import Derived.Lib.DecodeN
import Derived.Lib.OthersKept
import Derived.Laws.BytesString
import Derived.Deep.WholeRow
import Derived.Lib.AppendStr
import Derived.WalkSpells
import Derived.WalkLawsBesides
import Derived.Lib.AppendIntMem
import Derived.Lib.SmallJoins
import Derived.WalkSmall
import Derived.Laws.CopyOwn
import Derived.Laws.ResultCell
import Derived.Deep.MidRow
import Derived.Lib.FrozenHead2
import Derived.Lib.Builder
import Derived.Lib.SlTrimSet
import Derived.Below
import Derived.Shelf.Strings.SlTrimAscii
import Derived.Laws.Runes
set_option linter.unusedSimpArgs false
set_option linter.unusedVariables false

namespace Go.Proofs.YtamockkjbkibdaaGreatDoor
open Go.RowKit

theorem bne_of4 {a b : List UInt8} {q : Bool} (h : (a == b) = q) : (a != b) = !q := by rw [← h]; rfl

def badO (ok q1 q2 f q : Bool) (n : Nat) : Bool := !ok || ((!q1 && !q2) || (f || (q || decide (250 < n))))

theorem url_blob {s : List UInt8} {A : Adr} (hr : urlV s = .ok A) (hw : webV A.scheme = true) (hl : s.length ≤ 250) (BB : ByteArray) (hB : BB.data.toList = [98, 108, 111, 98, 58] ++ (textO (orgV A) ++ [47, 53])) :
  urlV BB.data.toList = .ok (blobU (blobT A)) := by
 have hr' : readV (s.take 300) none = .ok A := hr
 have hl' : (s.take 300).length ≤ 250 := by rw [List.length_take]; omega
 obtain ⟨h1, -, -, -, h5, -⟩ := blobs_facts hr' hw (by omega)
 unfold urlV
 rw [hB, List.take_of_length_le]
 ·exact h1
 ·simp only [List.length_append, List.length_cons, List.length_nil]
  omega

set_option maxHeartbeats 16000000 in
set_option maxRecDepth 100000 in
theorem originBlobs_walk (S : ByteArray) (w : World) (hs : S.size ≤ 140737488351232) (hg : Gd w) :
  Calls Tryz.prog 9 #[.string S] w fun e w' => e = .returned (.bool true) ∧ Below w.heap.size w w' := by
 have HUr := hid (fun w => url_k S w (by omega))
 have HG0 := hid hg
 have HTA := hid (show TrOk (adrOf (urlV S.data.toList)) from tr_read _)
 have HUB := hid (show ∀ A, urlV S.data.toList = .ok A → webV A.scheme = true → S.size ≤ 250 → (∀ BB : ByteArray, BB.data.toList = [98, 108, 111, 98, 58] ++ (textO (orgV A) ++ [47, 53]) → urlV BB.data.toList = .ok (blobU (blobT A))) ∧ orgV (blobU (blobT A)) = orgV A ∧ trustV (blobU (blobT A)) = trustV A ∧ (textO (orgV A)).length ≤ 265 ∧ sameO (orgV A) (orgV A) = true ∧ SpU A ∧ TrOk (blobU (blobT A)) from fun A hr hw hl => by
  have hl' : S.data.toList.length ≤ 250 := by rw [← Lib.size_eq]; exact hl
  have hr' : readV (S.data.toList.take 300) none = .ok A := hr
  have hl2 : (S.data.toList.take 300).length ≤ 250 := by rw [List.length_take]; omega
  obtain ⟨h1, h2, h3, h4, h5, h6⟩ := blobs_facts hr' hw (by omega)
  refine ⟨fun BB hB => url_blob hr hw hl' BB hB, h2, h3, by omega, h6, read_sp hr' (by rcases web_two hw with e | e <;> rw [e] <;> decide), slim_tr (parse_slim h1)⟩)
 unfold UPost at HUr
 generalize urlV S.data.toList = r at HUr HTA HUB
 obtain ⟨ok, hok⟩ : ∃ q, isOk r = q := ⟨_, rfl⟩
 have HRo := hid (show ok = true → r = .ok (adrOf r) from fun h => by rw [h] at hok; cases r with | ok u => rfl | error e => cases hok)
 rw [hok] at HUr
 obtain ⟨A, hA⟩ : ∃ A, adrOf r = A := ⟨_, rfl⟩
 rw [hA] at HUr HTA HRo
 clear hok hA hg
 go_enter Tryz.func9, Tryz.ntmps9
 go_wp2_with fail
 refine (HUr.out _).mono ?_
 rintro e w1 ⟨pv, rfl, hown, hb1⟩
 obtain ⟨da, dn, dc, rfl⟩ := own_sl hown
 obtain ⟨d0, d1, d2, d3, d4, d5, d6, d8, d9, d10, d11, hxd, hd0, -, -, -⟩ := adr_named A da dn dc
 have hvd : adrVal A (.slice da dn dc) = .agg #[.string d0, .string d1, .string d2, .string d3, .bool d4, .int .i64 d5, .bool d6, .slice da dn dc, .string d8, .string d9, .bool d10, .bool d11] := by unfold adrVal; rw [hxd]
 rw [hvd]
 obtain ⟨W2, hW2⟩ : ∃ X, (w1.alloc (.cells #[.string d0, .string d1, .string d2, .string d3, .bool d4, .int .i64 d5, .bool d6, .slice da dn dc, .string d8, .string d9, .bool d10, .bool d11] 24)) = X := ⟨_, rfl⟩
 have hbW2 : Below w1.heap.size w1 W2 := by rw [← hW2]; exact (Below.refl _ w1).alloc (Nat.le_refl _) _
 have hsW2 : W2.heap.size = w1.heap.size + 1 := by rw [← hW2]; simp
 have hAW2 : AdrIn W2 w1.heap.size A (.slice da dn dc) := by
  unfold AdrIn
  rw [hxd, ← hW2]
  exact heap_alloc_new w1 _
 have HPP2 := hid ((own_path hown).kept hbW2)
 have HB2 := hid (below2 hb1 hbW2)
 have HA2 := hid hAW2
 have HXd := hid hxd
 have HVd := hid hvd
 have HG2 := hid (HG0.out.kept HB2.out)
 obtain ⟨q1, eq1⟩ : ∃ q, (d0.toList == [104, 116, 116, 112]) = q := ⟨_, rfl⟩
 obtain ⟨q2, eq2⟩ : ∃ q, (d0.toList == [104, 116, 116, 112, 115]) = q := ⟨_, rfl⟩
 have nq1 := bne_of4 eq1
 have nq2 := bne_of4 eq2
 have HW := hid (show webV A.scheme = (q1 || q2) by unfold webV; rw [← eq1, ← eq2, Lib.toList_data, hd0]; rfl)
 have HKn := hid (fun (X : World) (hX : Below W2.heap.size W2 X) => known4_any X (HG2.out.kept hX))
 obtain ⟨y0, y1, y2, y3, y4, y5, y6, y7, y8, y9, y10, y11⟩ := adr_twelve hxd hAW2
 clear hown hb1 hbW2 hAW2 hxd hvd hsW2 hd0 HUr HG0
 go_upto_region 2 with fail
 go_cut [36] from 12 to 35 (fun x wx => x = .bool (badO ok q1 q2 d11 d10 S.size) ∧ wx = W2)
 case first =>
  cases ok with
  | false =>
   go_wp2_with fail
   go_meet
   exact ⟨rfl, rfl⟩
  | true =>
   have hw3 : (q1 = true) ∨ (q1 = false ∧ q2 = true) ∨ (q1 = false ∧ q2 = false) := by cases q1 <;> cases q2 <;> simp
   rcases hw3 with rfl | ⟨rfl, rfl⟩ | ⟨rfl, rfl⟩
   ·cases d11 with
    | true =>
     go_wp2_with fail
     go_meet
     exact ⟨rfl, rfl⟩
    | false =>
     cases d10 with
     | true =>
      go_wp2_with fail
      go_meet
      exact ⟨rfl, rfl⟩
     | false =>
      by_cases hl : 250 < S.size
      ·have hl' : (250 : Int) < (S.size : Int) := by omega
       go_wp2_with fail
       go_meet
       exact ⟨by simp [badO, hl], rfl⟩
      ·have hl' : ¬ (250 : Int) < (S.size : Int) := by omega
       go_wp2_with fail
       go_meet
       exact ⟨by simp [badO, hl], rfl⟩
   ·cases d11 with
    | true =>
     go_wp2_with fail
     go_meet
     exact ⟨rfl, rfl⟩
    | false =>
     cases d10 with
     | true =>
      go_wp2_with fail
      go_meet
      exact ⟨rfl, rfl⟩
     | false =>
      by_cases hl : 250 < S.size
      ·have hl' : (250 : Int) < (S.size : Int) := by omega
       go_wp2_with fail
       go_meet
       exact ⟨by simp [badO, hl], rfl⟩
      ·have hl' : ¬ (250 : Int) < (S.size : Int) := by omega
       go_wp2_with fail
       go_meet
       exact ⟨by simp [badO, hl], rfl⟩
   ·go_wp2_with fail
    go_meet
    exact ⟨rfl, rfl⟩
 case rest =>
  obtain ⟨rfl, hwx⟩ := hcut
  have hwx := hwx.symm
  subst hwx
  have HQ2 := hid (Below.refl W2.heap.size W2)
  obtain ⟨bd, hbd⟩ : ∃ q, badO ok q1 q2 d11 d10 S.size = q := ⟨_, rfl⟩
  rw [hbd]
  have HBd := hid hbd
  clear hbd nq1 nq2 eq1 eq2
  cases bd with
  | true =>
   go_wp2_with fail
   refine (HKn.out _ HQ2.out).mono ?_
   rintro e w12 ⟨rfl, hb12⟩
   go_wp2
   go_ret
   exact ⟨rfl, below2 HB2.out hb12⟩
  | false =>
   have hbd := HBd.out
   unfold badO at hbd
   rw [Bool.or_eq_false_iff, Bool.or_eq_false_iff, Bool.or_eq_false_iff, Bool.or_eq_false_iff] at hbd
   obtain ⟨hb1, hb2, -, -, hb5⟩ := hbd
   have hok : ok = true := by cases ok with | true => rfl | false => cases hb1
   have hweb : webV A.scheme = true := by rw [HW.out]; revert hb2; cases q1 <;> cases q2 <;> decide
   have hsz : S.size ≤ 250 := by have := of_decide_eq_false hb5; omega
   obtain ⟨g1, g2, g3, g4, g5, g6, g7⟩ := HUB.out A (HRo.out hok) hweb hsz
   have HOa := hid (fun (X : World) (hX : Gd X) (hp : PathAt X (.slice da dn dc) A.path) => of_any A (.slice da dn dc) X hX hp HTA.out.1 HTA.out.2.1)
   have HTr := hid (fun (X : World) (hX : Gd X) (hp : PathAt X (.slice da dn dc) A.path) => trusted_any A (.slice da dn dc) X hX hp HTA.out)
   have eo : orgV A = ⟨A.scheme, A.host, hasP A, false⟩ := org_spec g6.spec
   have HTx := hid (fun (X : World) (hX : Gd X) => textO_any (orgV A) X hX (by rw [eo]; have := (spec_len g6.spec).1; show A.scheme.length ≤ _; omega) (by rw [eo]; exact HTA.out.2.2) (by rw [eo]; exact fun _ => hasP_port g6.str g6.spec))
   obtain ⟨TT, hTT⟩ : ∃ X : ByteArray, X = ⟨(textO (orgV A)).toArray⟩ := ⟨_, rfl⟩
   rw [← hTT] at HTx
   have hTl : TT.data.toList = textO (orgV A) := by rw [hTT]
   have hTs : TT.size ≤ 265 := by rw [Lib.size_eq, hTl]; exact g4
   obtain ⟨B1, hB1⟩ : ∃ X : ByteArray, (⟨#[98, 108, 111, 98, 58]⟩ : ByteArray) ++ TT = X := ⟨_, rfl⟩
   have hB1s : B1.size ≤ 270 := by rw [Lib.size_eq, ← hB1, ByteArray.data_append, Array.toList_append, List.length_append, ← Lib.size_eq TT]; simp; omega
   obtain ⟨B2, hB2⟩ : ∃ X : ByteArray, B1 ++ (⟨#[47, 53]⟩ : ByteArray) = X := ⟨_, rfl⟩
   have hB2s : B2.size ≤ 272 := by rw [Lib.size_eq, ← hB2, ByteArray.data_append, Array.toList_append, List.length_append, ← Lib.size_eq B1]; simp; omega
   have hB2l : B2.data.toList = [98, 108, 111, 98, 58] ++ (textO (orgV A) ++ [47, 53]) := by
    rw [← hB2, ← hB1, ByteArray.data_append, ByteArray.data_append, Array.toList_append, Array.toList_append, hTl, List.append_assoc]
   have HUv := hid (fun w => url_k B2 w (by omega))
   rw [g1 B2 hB2l] at HUv
   unfold UPost at HUv
   simp only [isOk, adrOf] at HUv
   generalize blobU (blobT A) = V at HUv g2 g3 g7
   have HOv := hid (fun (pv : Value) (X : World) (hX : Gd X) (hp : PathAt X pv V.path) => of_any V pv X hX hp g7.1 g7.2.1)
   have HTv := hid (fun (pv : Value) (X : World) (hX : Gd X) (hp : PathAt X pv V.path) => trusted_any V pv X hX hp g7)
   have HSa := hid (fun X => same4_any (orgV A) (orgV A) X)
   rw [g2] at HOv
   rw [g3] at HTv
   rw [g5] at HSa
   unfold OfPost at HOa HOv
   generalize orgV A = OO at HOa HOv HTx HSa
   generalize trustV A = tr at HTr HTv
   obtain ⟨OV, hOV⟩ : ∃ X, orgVal OO = X := ⟨_, rfl⟩
   rw [hOV] at HOa HOv HTx HSa
   rw [HVd.out] at HOa HTr
   clear hb1 hb2 hb5 hok hweb g1 g2 g3 g4 g5 g6 g7 eo hTT hTl hB2l HBd HUB HRo HW HTA hOV
   go_wp2_with fail
   refine (HOa.out _ HG2.out HPP2.out).mono ?_
   rintro e w3 ⟨rfl, hb3⟩
   have HQ3 := hid hb3
   clear hb3
   go_wp2_with fail
   refine (HTx.out _ (HG2.out.kept HQ3.out)).mono ?_
   rintro e w4 ⟨rfl, hb4⟩
   have HQ4 := hid (below2 HQ3.out hb4)
   clear hb4 y0 y1 y2 y3 y4 y5 y6 y7 y8 y9 y10 y11
   go_wp2_with fail
   refine (HUv.out _).mono ?_
   rintro e w5 ⟨qv, rfl, hown, hb5⟩
   obtain ⟨va, vn, vc, rfl⟩ := own_sl hown
   obtain ⟨v0, v1, v2, v3, v4, v5, v6, v8, v9, v10, v11, hxv⟩ := adr_cells V va vn vc
   have hvv : adrVal V (.slice va vn vc) = .agg #[.string v0, .string v1, .string v2, .string v3, .bool v4, .int .i64 v5, .bool v6, .slice va vn vc, .string v8, .string v9, .bool v10, .bool v11] := by unfold adrVal; rw [hxv]
   rw [hvv]
   obtain ⟨W6, hW6⟩ : ∃ X, (w5.alloc (.cells #[.string v0, .string v1, .string v2, .string v3, .bool v4, .int .i64 v5, .bool v6, .slice va vn vc, .string v8, .string v9, .bool v10, .bool v11] 24)) = X := ⟨_, rfl⟩
   have hbW6 : Below w5.heap.size w5 W6 := by rw [← hW6]; exact (Below.refl _ w5).alloc (Nat.le_refl _) _
   have hsW6 : W6.heap.size = w5.heap.size + 1 := by rw [← hW6]; simp
   have hAW6 : AdrIn W6 w5.heap.size V (.slice va vn vc) := by
    unfold AdrIn
    rw [hxv, ← hW6]
    exact heap_alloc_new w5 _
   have hb56 := below2 hb5 hbW6
   have HQ6 := hid (below2 HQ4.out hb56)
   have hA6 := HA2.out.kept HQ6.out
   have HPv6 := hid ((own_path hown).kept hbW6)
   have HPa6 := hid (HPP2.out.kept HQ6.out)
   have HB6 := hid (below2 HB2.out HQ6.out)
   have HG6 := hid (HG2.out.kept HQ6.out)
   have HRu := hid (show ∀ Z, Below W6.heap.size W6 Z → Z.rangeAt w1.heap.size 0 [.string d0, .string d1, .string d2, .string d3, .bool d4, .int .i64 d5, .bool d6, .slice da dn dc, .string d8, .string d9, .bool d10, .bool d11] from fun Z hZ => by
    have := range_row (show Z.heap[w1.heap.size]? = some (.cells (adrCells A (.slice da dn dc)).toArray 24 (0, 0)) from hA6.kept hZ)
    rw [HXd.out] at this
    exact this)
   have HRv := hid (show ∀ Z, Below W6.heap.size W6 Z → Z.rangeAt w5.heap.size 0 [.string v0, .string v1, .string v2, .string v3, .bool v4, .int .i64 v5, .bool v6, .slice va vn vc, .string v8, .string v9, .bool v10, .bool v11] from fun Z hZ => by
    have := range_row (show Z.heap[w5.heap.size]? = some (.cells (adrCells V (.slice va vn vc)).toArray 24 (0, 0)) from hAW6.kept hZ)
    rw [hxv] at this
    exact this)
   have HOa6 := hid (fun (Z : World) (hZ : Below W6.heap.size W6 Z) => HOa.out Z (HG6.out.kept hZ) (HPa6.out.kept hZ))
   have HTr6 := hid (fun (Z : World) (hZ : Below W6.heap.size W6 Z) => HTr.out Z (HG6.out.kept hZ) (HPa6.out.kept hZ))
   have HOv6 := hid (fun (Z : World) (hZ : Below W6.heap.size W6 Z) => HOv.out _ Z (HG6.out.kept hZ) (HPv6.out.kept hZ))
   have HTv6 := hid (fun (Z : World) (hZ : Below W6.heap.size W6 Z) => HTv.out _ Z (HG6.out.kept hZ) (HPv6.out.kept hZ))
   rw [hvv] at HOv6 HTv6
   have HSa6 := hid (fun (Z : World) (hZ : Below W6.heap.size W6 Z) => HSa.out Z)
   have HKn6 := hid (fun (Z : World) (hZ : Below W6.heap.size W6 Z) => HKn.out Z (below2 HQ6.out hZ))
   have HZ0 := hid ((Below.refl W6.heap.size W6).drew)
   clear hown hb5 hbW6 hAW6 hxv hvv hsW6 hb56 hA6 HOa HTr HOv HTv HSa HKn HUv HTx
   go_upto_region 5 with fail
   refine wp_region_held_drew (S := (fun wx => Below W6.heap.size W6 wx)) (by kernel_rfl) HZ0.out (fun hHeld => ?_)
   refine wpAnyH_to (fuel' := 19) (listed' := #[false, false, false, false, false, false, false, false, false, false, false, false, false, false, false, false, false, false, false]) rfl rfl ?_
   refine' wpAnyH_take (i := 0) (oi := ⟨some 47, _, _, _, _, _⟩) (v := _) rfl (by kernel_rfl) (by kernel_rfl) (by kernel_rfl) (fun _ _ _ h => h) (Or.inl ⟨by kernel_rfl, ?hy1⟩) (by assumption) ?rest1
   case hy1 => (intro wx hSw; (try dsimp only at hSw); go_simp; first | done | with_reducible rfl)
   (try simp only [Act.put, List.setIfInBounds_toArray, List.set_cons_zero, List.set_cons_succ])
   refine' wpAnyH_take (i := 1) (oi := ⟨some 48, _, _, _, _, _⟩) (v := _) rfl (by kernel_rfl) (by kernel_rfl) (by kernel_rfl) (fun _ _ _ h => h) (Or.inl ⟨by kernel_rfl, ?hy2⟩) (by assumption) ?rest2
   case hy2 => (intro wx hSw; (try dsimp only at hSw); go_simp; first | done | with_reducible rfl)
   (try simp only [Act.put, List.setIfInBounds_toArray, List.set_cons_zero, List.set_cons_succ])
   refine wpAnyH_take (i := 2) (oi := ⟨some 49, _, _, _, _, _⟩) rfl (by kernel_rfl) (by kernel_rfl) (by kernel_rfl) (fun _ _ _ h => h) (yieldsIf_load_mid (by kernel_rfl) 24 (.tmp 5) rfl (w5.heap.size) 0 rfl [.string v0, .string v1, .string v2, .string v3, .bool v4, .int .i64 v5, .bool v6, .slice va vn vc, .string v8, .string v9, .bool v10, .bool v11] _ HRv.out Tryz.underlying24 rfl sizeU) (by assumption) ?_
   (try simp only [Act.put, List.setIfInBounds_toArray, List.set_cons_zero, List.set_cons_succ])
   refine wpAnyH_take (i := 4) (oi := ⟨some 51, _, _, _, _, _⟩) rfl (by kernel_rfl) (by kernel_rfl) (by kernel_rfl) (fun _ _ _ h => h) (yieldsIf_load_mid (by kernel_rfl) 24 (.tmp 3) rfl (w1.heap.size) 0 rfl [.string d0, .string d1, .string d2, .string d3, .bool d4, .int .i64 d5, .bool d6, .slice da dn dc, .string d8, .string d9, .bool d10, .bool d11] _ HRu.out Tryz.underlying24 rfl sizeU) (by assumption) ?_
   (try simp only [Act.put, List.setIfInBounds_toArray, List.set_cons_zero, List.set_cons_succ])
   refine wpAnyH_ready (rs := [3]) (by kernel_rfl) (by simp) ?_
   refine AllReadyH.cons rfl (fun K9 hK => ?_) AllReadyH.nil
   rw [if_pos (by kernel_rfl)]
   go_simp
   go_wp2_with (go_at_call 33; refine (HOv6.out _ HZ0.out).mono ?_; rintro e w21 ⟨rfl, hba⟩)
   have HQ21 := hid (below2 HZ0.out hba)
   clear hba
   refine hK.out _ _ HQ21.out (fun hHeld2 => ?_)
   clear hK K9 hHeld
   rename _ => hHeld
   refine wpAnyH_ready (rs := [5]) (by kernel_rfl) (by simp) ?_
   refine AllReadyH.cons rfl (fun K9 hK => ?_) AllReadyH.nil
   rw [if_pos (by kernel_rfl)]
   go_simp
   go_wp2_with (go_at_call 33; refine (HOa6.out _ HQ21.out).mono ?_; rintro e w22 ⟨rfl, hba⟩)
   have HQ22 := hid (below2 HQ21.out hba)
   clear hba
   refine hK.out _ _ HQ22.out (fun hHeld2 => ?_)
   clear hK K9 hHeld
   rename _ => hHeld
   refine wpAnyH_ready (rs := [6]) (by kernel_rfl) (by simp) ?_
   refine AllReadyH.cons rfl (fun K9 hK => ?_) AllReadyH.nil
   rw [if_pos (by kernel_rfl)]
   go_simp
   go_wp2_with (go_at_call 24; refine (HSa6.out _ HQ22.out).mono ?_; rintro e w23 ⟨rfl, hba⟩)
   have HQ23 := hid (below2 HQ22.out hba)
   clear hba
   refine hK.out _ _ HQ23.out (fun hHeld2 => ?_)
   clear hK K9 hHeld
   rename _ => hHeld
   refine' wpAnyH_take (i := 7) (oi := ⟨some 54, _, _, _, _, _⟩) (v := _) rfl (by kernel_rfl) (by kernel_rfl) (by kernel_rfl) (fun _ _ _ h => h) (Or.inl ⟨by kernel_rfl, ?hy3⟩) (by assumption) ?rest3
   case hy3 => (intro wx hSw; (try dsimp only at hSw); go_simp; first | done | with_reducible rfl)
   (try simp only [Act.put, List.setIfInBounds_toArray, List.set_cons_zero, List.set_cons_succ])
   refine' wpAnyH_take (i := 8) (oi := ⟨some 55, _, _, _, _, _⟩) (v := _) rfl (by kernel_rfl) (by kernel_rfl) (by kernel_rfl) (fun _ _ _ h => h) (Or.inl ⟨by kernel_rfl, ?hy4⟩) (by assumption) ?rest4
   case hy4 => (intro wx hSw; (try dsimp only at hSw); go_simp; first | done | with_reducible rfl)
   (try simp only [Act.put, List.setIfInBounds_toArray, List.set_cons_zero, List.set_cons_succ])
   refine wpAnyH_take (i := 9) (oi := ⟨some 56, _, _, _, _, _⟩) rfl (by kernel_rfl) (by kernel_rfl) (by kernel_rfl) (fun _ _ _ h => h) (yieldsIf_load_mid (by kernel_rfl) 24 (.tmp 5) rfl (w5.heap.size) 0 rfl [.string v0, .string v1, .string v2, .string v3, .bool v4, .int .i64 v5, .bool v6, .slice va vn vc, .string v8, .string v9, .bool v10, .bool v11] _ HRv.out Tryz.underlying24 rfl sizeU) (by assumption) ?_
   (try simp only [Act.put, List.setIfInBounds_toArray, List.set_cons_zero, List.set_cons_succ])
   refine wpAnyH_take (i := 11) (oi := ⟨some 58, _, _, _, _, _⟩) rfl (by kernel_rfl) (by kernel_rfl) (by kernel_rfl) (fun _ _ _ h => h) (yieldsIf_load_mid (by kernel_rfl) 24 (.tmp 3) rfl (w1.heap.size) 0 rfl [.string d0, .string d1, .string d2, .string d3, .bool d4, .int .i64 d5, .bool d6, .slice da dn dc, .string d8, .string d9, .bool d10, .bool d11] _ HRu.out Tryz.underlying24 rfl sizeU) (by assumption) ?_
   (try simp only [Act.put, List.setIfInBounds_toArray, List.set_cons_zero, List.set_cons_succ])
   refine wpAnyH_ready (rs := [10]) (by kernel_rfl) (by simp) ?_
   refine AllReadyH.cons rfl (fun K9 hK => ?_) AllReadyH.nil
   rw [if_pos (by kernel_rfl)]
   go_simp
   go_wp2_with (go_at_call 35; refine (HTv6.out _ HQ23.out).mono ?_; rintro e w24 ⟨rfl, hba⟩)
   have HQ24 := hid (below2 HQ23.out hba)
   clear hba
   refine hK.out _ _ HQ24.out (fun hHeld2 => ?_)
   clear hK K9 hHeld
   rename _ => hHeld
   refine wpAnyH_ready (rs := [12]) (by kernel_rfl) (by simp) ?_
   refine AllReadyH.cons rfl (fun K9 hK => ?_) AllReadyH.nil
   rw [if_pos (by kernel_rfl)]
   go_simp
   go_wp2_with (go_at_call 35; refine (HTr6.out _ HQ24.out).mono ?_; rintro e w25 ⟨rfl, hba⟩)
   have HQ25 := hid (below2 HQ24.out hba)
   clear hba
   refine hK.out _ _ HQ25.out (fun hHeld2 => ?_)
   clear hK K9 hHeld
   rename _ => hHeld
   refine' wpAnyH_take (i := 13) (oi := ⟨some 60, _, _, _, _, _⟩) (v := _) rfl (by kernel_rfl) (by kernel_rfl) (by kernel_rfl) (fun _ _ _ h => h) (Or.inl ⟨by kernel_rfl, ?hy5⟩) (by assumption) ?rest5
   case hy5 => (intro wx hSw; (try dsimp only at hSw); go_simp; first | done | with_reducible rfl)
   (try simp only [Act.put, List.setIfInBounds_toArray, List.set_cons_zero, List.set_cons_succ])
   refine' wpAnyH_take (i := 14) (oi := ⟨some 61, _, _, _, _, _⟩) (v := _) rfl (by kernel_rfl) (by kernel_rfl) (by kernel_rfl) (fun _ _ _ h => h) (Or.inl ⟨by kernel_rfl, ?hy6⟩) (by assumption) ?rest6
   case hy6 => (intro wx hSw; (try dsimp only at hSw); go_simp; first | done | with_reducible rfl)
   (try simp only [Act.put, List.setIfInBounds_toArray, List.set_cons_zero, List.set_cons_succ])
   refine' wpAnyH_take (i := 15) (oi := ⟨some 62, _, _, _, _, _⟩) (v := _) rfl (by kernel_rfl) (by kernel_rfl) (by kernel_rfl) (fun _ _ _ h => h) (Or.inl ⟨by kernel_rfl, ?hy7⟩) (by assumption) ?rest7
   case hy7 => (intro wx hSw; (try dsimp only at hSw); go_simp; first | done | with_reducible rfl)
   (try simp only [Act.put, List.setIfInBounds_toArray, List.set_cons_zero, List.set_cons_succ])
   refine wpAnyH_ready (rs := [16]) (by kernel_rfl) (by simp) ?_
   refine AllReadyH.cons rfl (fun K9 hK => ?_) AllReadyH.nil
   rw [if_pos (by kernel_rfl)]
   go_simp
   go_wp2_with (go_at_call 28; refine (HKn6.out _ HQ25.out).mono ?_; rintro e w26 ⟨rfl, hba⟩)
   have HQ26 := hid (below2 HQ25.out hba)
   clear hba
   refine hK.out _ _ HQ26.out (fun hHeld2 => ?_)
   clear hK K9 hHeld
   rename _ => hHeld
   refine' wpAnyH_take (i := 17) (oi := ⟨some 64, _, _, _, _, _⟩) (v := _) rfl (by kernel_rfl) (by kernel_rfl) (by kernel_rfl) (fun _ _ _ h => h) (Or.inl ⟨by kernel_rfl, ?hy8⟩) (by assumption) ?rest8
   case hy8 => (intro wx hSw; (try dsimp only at hSw); go_simp; first | done | with_reducible rfl)
   (try simp only [Act.put, List.setIfInBounds_toArray, List.set_cons_zero, List.set_cons_succ])
   refine' wpAnyH_take (i := 18) (oi := ⟨some 2, _, _, _, _, _⟩) (v := _) rfl (by kernel_rfl) (by kernel_rfl) (by kernel_rfl) (fun _ _ _ h => h) (Or.inl ⟨by kernel_rfl, ?hy9⟩) (by assumption) ?rest9
   case hy9 => (intro wx hSw; (try dsimp only at hSw); go_simp; first | done | with_reducible rfl)
   (try simp only [Act.put, List.setIfInBounds_toArray, List.set_cons_zero, List.set_cons_succ])
   refine wpAnyH_done (by kernel_rfl) ?_ _
   go_wp2
   go_ret
   exact ⟨rfl, below2 HB6.out HQ26.out⟩

end Go.Proofs.YtamockkjbkibdaaGreatDoor
