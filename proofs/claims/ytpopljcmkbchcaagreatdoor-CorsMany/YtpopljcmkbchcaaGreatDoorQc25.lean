/-
  Walks and plain facts that this claim leans on, put together out of 6 texts: Eij, Eiu, Eis, Eib, It, Eik.
-/
import Derived.Test.YtpopljcmkbchcaaGreatDoorProg
import Derived.Test.YtpopljcmkbchcaaGreatDoorQc1
import Derived.Test.YtpopljcmkbchcaaGreatDoorQc2
import Derived.Test.YtpopljcmkbchcaaGreatDoorQc3
import Derived.Test.YtpopljcmkbchcaaGreatDoorQc4
import Derived.Test.YtpopljcmkbchcaaGreatDoorQc5
import Derived.Test.YtpopljcmkbchcaaGreatDoorQc6
import Derived.Test.YtpopljcmkbchcaaGreatDoorQc7
import Derived.Test.YtpopljcmkbchcaaGreatDoorQc8
import Derived.Test.YtpopljcmkbchcaaGreatDoorQc10
import Derived.Test.YtpopljcmkbchcaaGreatDoorQc11
import Derived.Test.YtpopljcmkbchcaaGreatDoorQc12
import Derived.Test.YtpopljcmkbchcaaGreatDoorQc16
import Derived.Test.YtpopljcmkbchcaaGreatDoorQc20
import Derived.Test.YtpopljcmkbchcaaGreatDoorQc22
import Derived.Test.YtpopljcmkbchcaaGreatDoorQc23
import Derived.Test.YtpopljcmkbchcaaGreatDoorQc24
import Derived.Deep.Cut
import Derived.Deep.QuietTactic
import Derived.BigQuiet
import Derived.BigRegion
import Derived.Deep.RegionHeld
import Derived.Lib.IndexMore
import Derived.Lib.Join
import Derived.Lib.LastIndexByte
import Derived.WalkKit
import Derived.Lib.Strings
import Derived.Lib.UnsafeStr
import Derived.Laws.IdiomStrings
import Derived.Laws.AppendOwn
import Derived.Laws.BitsAllLaws
import Derived.Lib.Bytealg
import Derived.Lib.BufferMore
import Derived.Lib.BufferRead
import Derived.Lib.RuneBytes
import Derived.Laws.RangeAny
import Derived.LoopN
import Derived.RegionTactic
import Derived.Deep.RegionWith
import Derived.OwnWalk
import Derived.Deep.RegionLaw
import Derived.Laws.OwnMore
import Derived.Deep.LoopGhost
import Derived.Shelf.Strings.Builder1
import Derived.Shelf.Strings.Builder2
import Derived.Shelf.Strings.OnBuilder
import Derived.Shelf.Strings.Trim
import Derived.Shelf.Small.Utf8
import Derived.Shelf.Small.Bits
import Derived.Shelf.Small.Strs
import Derived.Shelf.Small.Wraps
import Derived.Shelf.Strings.BuilderF
import Derived.Shelf.Strings.BuilderK
import Derived.Shelf.Strings.BuilderRune
import Derived.Shelf.Utf8.AppendRune
import Derived.Shelf.Utf8.AppendRunePlain
import Derived.Shelf.Strings.Builder2Cap
import Derived.Shelf.Strconv.Itoa0
import Derived.Shelf.Strconv.Itoa1
import Derived.Shelf.LaysM
import Derived.Shelf.Strconv.Itoa2
import Derived.Shelf.Strconv.Itoa3
import Derived.Shelf.Strings.Search1
import Derived.Shelf.Strings.Search2
import Derived.Shelf.Strings.Cut
import Derived.Shelf.Strings.Shaped
import Derived.Shelf.Sort.Plain
import Derived.Shelf.Strings.Prefix
import Derived.Shelf.Unicode.Latin
import Derived.Shelf.Strings.Runes
import Derived.Shelf.Strings.IndexAny
import Derived.Shelf.Strings.AsciiSet
import Derived.Shelf.Strings.IndexAnyAll
import Derived.Shelf.Unicode.DecodeSlow
import Derived.Shelf.Unicode.DecodeAny
import Derived.Shelf.Unicode.DecodeLast
import Derived.Shelf.Unicode.CaseLookup
import Derived.Shelf.Unicode.CaseConvert
import Derived.Shelf.Unicode.CaseTo
import Derived.Shelf.Unicode.CaseLaid
import Derived.Shelf.Slices.CompactS
import Derived.Shelf.Slices.In.SortNone
import Derived.Laws.AppendOwnNone
import Derived.Scope
import Derived.ScopeJumps
import Derived.WalkMore
import Derived.Lib.IndexAny
import Derived.Lib.Replace
import Derived.Lib.TrimByte
import Derived.Lib.ItoaNum
import Derived.Lib.DecodeN
import Derived.Lib.OthersKept
import Derived.Laws.BytesString
import Derived.Deep.WholeRow
import Derived.Lib.AppendStr
import Derived.WalkSpells
import Derived.WalkLawsBesides
import Derived.Lib.AppendIntMem
import Derived.Lib.SmallJoins
import Derived.WalkSmall
import Derived.Laws.CopyOwn
import Derived.Laws.ResultCell
import Derived.Deep.MidRow
import Derived.Lib.FrozenHead2
import Derived.Lib.Builder
import Derived.Lib.SlTrimSet
import Derived.Below
import Derived.Shelf.Strings.SlTrimAscii
import Derived.Laws.Runes
import Derived.Deep.RegionHeldLaw
import Derived.Maps.OwnSet
import Derived.Maps.OwnOps
import Derived.Maps.AppendAt
import Derived.StringKeys
import Derived.Lib.FieldsP
import Derived.Lib.LaidTab
import Derived.Shelf.GgClosure.GivesRunes
import Derived.Laws.BitsAll
import Derived.Laws.Shifts
import Derived.Deep.DeepAppendRoom
import Derived.Laws.CopyRow
import Derived.Sort.OwnSorted
import Derived.Lib.SlicesCompact
import Derived.Sort.KeysCollected
import Derived.Lib.Case
import Derived.Deep.CutRange
import Derived.Laws.Rows
import Derived.Laws.MakeOwn
import Derived.Maps.RangeWalk
import Derived.Lib.SlMapMerge
import Derived.Laws.IdiomRangeMap
import Derived.Shelf.SlIter.Nil
import Derived.Shelf.SortM.Plain
import Derived.Shelf.SortM.SortNone
set_option linter.unusedSimpArgs false
set_option linter.unusedVariables false

namespace Go.Proofs.YtpopljcmkbchcaaGreatDoor
open Go.RowKit

theorem one_read18 (s : List UInt8) : (adrOf (readV s none)).scheme = sBlob → (adrOf (readV s none)).opq = true → ∃ x, (adrOf (readV s none)).path = [x] := by
 cases hr : readV s none with
 | ok v =>
  intro _ h
  exact read_one hr h
 | error e => intro h; exact absurd (show Adr.zero.scheme = sBlob from h) (by decide)

set_option maxHeartbeats 8000000 in
set_option maxRecDepth 100000 in
theorem of18_any (S : ByteArray) (w : World) (hs : S.size ≤ 9223372036854775807) :
  Calls Tryz.prog 40 #[.string S] w fun e w' => e = .returned (orgVal (ofT S.data.toList)) ∧ Below w.heap.size w w' := by
 have HU := hid (fun w => url_k S w hs)
 have ht : TrOk (adrOf (urlV S.data.toList)) := tr_read _
 have HOf := hid (fun (pv : Value) (X : World) (hp : PathAt X pv (adrOf (urlV S.data.toList)).path) => rof4_any (adrOf (urlV S.data.toList)) pv X hp ht (one_read18 _))
 unfold ofT
 generalize urlV S.data.toList = ru at HU HOf ⊢
 unfold UPost at HU
 unfold OfPost at HOf
 generalize adrOf ru = A at HU HOf ⊢
 obtain ⟨O, hO⟩ : ∃ O, orgV A = O := ⟨_, rfl⟩
 rw [hO] at HOf ⊢
 obtain ⟨sa, ah, ap, ao⟩ := O
 obtain ⟨AS, rfl⟩ : ∃ X : ByteArray, sa = X.data.toList := ⟨⟨sa.toArray⟩, rfl⟩
 obtain ⟨AH, rfl⟩ : ∃ X : ByteArray, ah = X.data.toList := ⟨⟨ah.toArray⟩, rfl⟩
 have hval : orgVal ⟨AS.data.toList, AH.data.toList, ap, ao⟩ = .agg #[.string AS, .string AH, .int .i64 ap, .bool ao] := rfl
 have HVal := hid hval
 rw [hval] at HOf
 have h0 : OrgIn (w.alloc (.cells (orgCells Org.nil).toArray 71)) w.heap.size Org.nil := heap_alloc_new w _
 have hb0 : Below w.heap.size w (w.alloc (.cells (orgCells Org.nil).toArray 71)) := (Below.refl _ w).alloc (Nat.le_refl _) _
 have H0 := hid h0
 have HB0 := hid hb0
 clear ht hO h0 hb0 hval
 go_enter Tryz.func40, Tryz.ntmps40
 go_wp2_with fail
 refine (HU.out _).mono ?_
 rintro e w1 ⟨pv, rfl, hown, hb1⟩
 obtain ⟨da, dn, dc, rfl⟩ := own_sl hown
 obtain ⟨d0, d1, d2, d3, d4, d5, d6, d8, d9, d10, d11, hxd⟩ := adr_cells A da dn dc
 have hvd : adrVal A (.slice da dn dc) = .agg #[.string d0, .string d1, .string d2, .string d3, .bool d4, .int .i64 d5, .bool d6, .slice da dn dc, .string d8, .string d9, .bool d10, .bool d11] := by unfold adrVal; rw [hxd]
 rw [hvd]
 obtain ⟨W2, hW2⟩ : ∃ X, (w1.alloc (.cells #[.string d0, .string d1, .string d2, .string d3, .bool d4, .int .i64 d5, .bool d6, .slice da dn dc, .string d8, .string d9, .bool d10, .bool d11] 133)) = X := ⟨_, rfl⟩
 have hbW2 : Below w1.heap.size w1 W2 := by rw [← hW2]; exact (Below.refl _ w1).alloc (Nat.le_refl _) _
 have hsW2 : W2.heap.size = w1.heap.size + 1 := by rw [← hW2]; simp
 have hAW2 : AdrIn W2 w1.heap.size A (.slice da dn dc) := by
  unfold AdrIn
  rw [hxd, ← hW2]
  exact heap_alloc_new w1 _
 have hb12 := below2 hb1 hbW2
 have HB2 := hid (below2 HB0.out hb12)
 have H2 := hid (H0.out.kept hb12)
 have HOc := hid (HOf.out _ W2 ((own_path hown).kept hbW2))
 rw [hvd] at HOc
 obtain ⟨y0, y1, y2, y3, y4, y5, y6, y7, y8, y9, y10, y11⟩ := adr_twelve hxd hAW2
 clear hown hb1 hbW2 hAW2 hxd hvd hsW2 hb12 HU HOf
 go_wp2_with fail
 refine HOc.out.mono ?_
 rintro e w3 ⟨rfl, hb3⟩
 have HB3 := hid (below2 HB2.out hb3)
 have H3 := hid (H2.out.kept hb3)
 have ry0 := H3.out.cell 0 _ rfl
 have rz0 := H3.out.frozen 0
 have ry1 := H3.out.cell 1 _ rfl
 have rz1 := H3.out.frozen 1
 have ry2 := H3.out.cell 2 _ rfl
 have rz2 := H3.out.frozen 2
 have ry3 := H3.out.cell 3 _ rfl
 have rz3 := H3.out.frozen 3
 clear hb3 y0 y1 y2 y3 y4 y5 y6 y7 y8 y9 y10 y11
 go_wp2_with fail
 have hrg := range_row (H3.out.store (p := ⟨AS.data.toList, AH.data.toList, ap, ao⟩))
 have hbl := below_setCells (B := w.heap.size) (b := w.heap.size) (Nat.le_refl _) (orgCells ⟨AS.data.toList, AH.data.toList, ap, ao⟩) 0 _ HB3.out
 refine bodyPost_ret (results_o1 rfl _ _ w.heap.size ⟨AS.data.toList, AH.data.toList, ap, ao⟩ rfl ?_) rfl ⟨?_, ?_⟩
 ·exact hrg
 ·rfl
 ·exact hbl

theorem of18_at (S : ByteArray) (O : Org) (h : ofT S.data.toList = O) (hs : S.size ≤ 9223372036854775807) : ∀ w, Calls Tryz.prog 40 #[.string S] w fun e w' => e = .returned (orgVal O) ∧ Below w.heap.size w w' := fun w => by
 have := of18_any S w hs
 rw [h] at this
 exact this

end Go.Proofs.YtpopljcmkbchcaaGreatDoor

namespace Go.Proofs.YtpopljcmkbchcaaGreatDoor
open Go.RowKit

theorem chkC_a {t : List UInt8} {c : Bool} {L : List Hd} (h : getB L nAO = false) : chkC t c L = false := by unfold chkC; rw [if_pos h]

theorem chkC_b {t : List UInt8} {c : Bool} {L : List Hd} (h : getB L nAO = true) (h1 : getT L nAO = [42]) (h2 : c = false) : chkC t c L = true := by
 unfold chkC; rw [if_neg (by rw [h]; decide), if_pos ⟨h1, h2⟩]

theorem chkC_c {t : List UInt8} {c : Bool} {L : List Hd} (h : getB L nAO = true) (h1 : ¬ (getT L nAO = [42] ∧ c = false)) (h2 : ¬ getT L nAO = t) : chkC t c L = false := by
 unfold chkC; rw [if_neg (by rw [h]; decide), if_neg h1, if_neg h2]

theorem chkC_d {t : List UInt8} {c : Bool} {L : List Hd} (h : getB L nAO = true) (h1 : ¬ (getT L nAO = [42] ∧ c = false)) (h2 : getT L nAO = t) : chkC t c L = (!c || getT L nAC == tTru) := by
 unfold chkC; rw [if_neg (by rw [h]; decide), if_neg h1, if_pos h2]

def OrgOk (o : Org) : Prop := o.scheme.length ≤ 1000000 ∧ o.host.length ≤ 1000000 ∧ (o.opq = false → 0 ≤ o.port ∧ o.port ≤ 65535)

theorem tx_ne {S T : ByteArray} (h : ¬ S.data.toList = T.data.toList) : (S == T) = false ∧ (S.toList == T.toList) = false ∧ (S.data.toList == T.data.toList) = false := by
 refine ⟨?_, ?_, ?_⟩
 ·cases hb : S == T
  ·rfl
  ·exfalso; apply h; have := eq_of_beq (α := Array UInt8) (show (S.data == T.data) = true from hb); rw [this]
 ·rw [Lib.toList_data, Lib.toList_data, beq_eq_false_iff_ne]; exact h
 ·rw [beq_eq_false_iff_ne]; exact h

set_option maxHeartbeats 8000000 in
set_option maxRecDepth 100000 in
theorem check18_any (o : Org) (c : Bool) (v : Value) (L : List Hd) (w : World) (hg : Gd w) (ho : OrgOk o) (h : HdAt w v L) (hz : Szd 140737488351232 L) (hl : L.length ≤ 1000000) (hb : bulkV L ≤ 140737488355328) :
  Calls Tryz.prog 39 #[orgVal o, .bool c, v] w fun e w' => e = .returned (.bool (chkC (textO o) c L)) ∧ Below w.heap.size w w' := by
 have HT := hid (fun (Y : World) (hY : Below w.heap.size w Y) => textO_any o Y (hg.kept hY) ho.1 ho.2.1 ho.2.2)
 have HG1 := hid (fun (Y : World) (hY : Below w.heap.size w Y) => get_any v L ⟨nAO.toArray⟩ Y (h.kept hY) (by decide) hz hl hb)
 have HG2 := hid (fun (Y : World) (hY : Below w.heap.size w Y) => get_any v L ⟨nAC.toArray⟩ Y (h.kept hY) (by decide) hz hl hb)
 simp only [show (⟨nAO.toArray⟩ : ByteArray).data.toList = nAO from rfl] at HG1
 simp only [show (⟨nAC.toArray⟩ : ByteArray).data.toList = nAC from rfl] at HG2
 obtain ⟨a1, c1, rfl, hc1, hm1, hv1⟩ := h.view
 obtain ⟨nl, hnl⟩ : ∃ n, n = L.length := ⟨_, rfl⟩
 rw [← hnl] at HG1 HG2 ⊢
 have EA := hid (fun h => @chkC_a (textO o) c L h)
 have EB := hid (fun h h1 h2 => @chkC_b (textO o) c L h h1 h2)
 have EC := hid (fun h h1 h2 => @chkC_c (textO o) c L h h1 h2)
 have ED := hid (fun h h1 h2 => @chkC_d (textO o) c L h h1 h2)
 generalize chkC (textO o) c L = R at EA EB EC ED ⊢
 generalize getT L nAC = K at HG2 ED
 generalize getB L nAC = kb at HG2
 generalize getT L nAO = G at HG1 EB EC ED
 generalize getB L nAO = gb at HG1 EA EB EC ED
 obtain ⟨X, rfl⟩ : ∃ X : ByteArray, G = X.data.toList := ⟨⟨G.toArray⟩, rfl⟩
 obtain ⟨Y, rfl⟩ : ∃ X : ByteArray, K = X.data.toList := ⟨⟨K.toArray⟩, rfl⟩
 generalize textO o = U at HT EC ED
 obtain ⟨P, rfl⟩ : ∃ X : ByteArray, U = X.data.toList := ⟨⟨U.toArray⟩, rfl⟩
 simp only [Lib.mk_data] at HG1 HG2 HT
 obtain ⟨sa, ah, ap, ao⟩ := o
 obtain ⟨AS, rfl⟩ : ∃ X : ByteArray, sa = X.data.toList := ⟨⟨sa.toArray⟩, rfl⟩
 obtain ⟨AH, rfl⟩ : ∃ X : ByteArray, ah = X.data.toList := ⟨⟨ah.toArray⟩, rfl⟩
 have hval : orgVal ⟨AS.data.toList, AH.data.toList, ap, ao⟩ = .agg #[.string AS, .string AH, .int .i64 ap, .bool ao] := rfl
 rw [hval] at HT ⊢
 obtain ⟨W1, hW1⟩ : ∃ X, w.alloc (.cells #[.string AS, .string AH, .int .i64 ap, .bool ao] 71) = X := ⟨_, rfl⟩
 have hb1 : Below w.heap.size w W1 := by rw [← hW1]; exact (Below.refl _ w).alloc (Nat.le_refl _) _
 have h1 : OrgIn W1 w.heap.size ⟨AS.data.toList, AH.data.toList, ap, ao⟩ := by rw [← hW1]; exact heap_alloc_new w _
 have HB1 := hid hb1
 have HO1 := hid h1
 clear hg ho h hz hl hb hc1 hm1 hv1 hnl hval hb1 h1
 cases gb with
 | false =>
  obtain rfl : R = false := EA.out rfl
  clear EA EB EC ED
  go_enter Tryz.func39, Tryz.ntmps39
  go_wp2_with fail
  refine (HG1.out _ HB1.out).mono ?_
  rintro e w2 ⟨rfl, hb2⟩
  have HB2 := hid (below2 HB1.out hb2)
  have HO2 := hid (HO1.out.kept hb2)
  clear hb2
  go_wp2_with fail
  go_ret
  exact ⟨rfl, HB2.out⟩
 | true =>
  by_cases hs : X.data.toList = [42]
  ·cases c with
   | false =>
    obtain rfl : R = true := EB.out rfl hs rfl
    have e1 := lst_yes hs
    clear EA EB EC ED hs
    subst e1
    go_enter Tryz.func39, Tryz.ntmps39
    go_wp2_with fail
    refine (HG1.out _ HB1.out).mono ?_
    rintro e w2 ⟨rfl, hb2⟩
    have HB2 := hid (below2 HB1.out hb2)
    have HO2 := hid (HO1.out.kept hb2)
    clear hb2
    go_wp2_with fail
    go_ret
    exact ⟨rfl, HB2.out⟩
   | true =>
    have hn : ¬ (X.data.toList = [42] ∧ true = false) := fun e => by cases e.2
    have e1 := lst_yes hs
    by_cases hp : X = P
    ·have hR : R = (!true || Y.data.toList == tTru) := ED.out rfl hn (by rw [hp])
     subst hp
     clear EA EB EC ED hs hn
     subst e1
     go_enter Tryz.func39, Tryz.ntmps39
     go_wp2_with fail
     refine (HG1.out _ HB1.out).mono ?_
     rintro e w2 ⟨rfl, hb2⟩
     have HB2 := hid (below2 HB1.out hb2)
     have HO2 := hid (HO1.out.kept hb2)
     clear hb2
     have ry0 := HO2.out.cell 0 _ rfl
     have rz0 := HO2.out.frozen 0
     have ry1 := HO2.out.cell 1 _ rfl
     have rz1 := HO2.out.frozen 1
     have ry2 := HO2.out.cell 2 _ rfl
     have rz2 := HO2.out.frozen 2
     have ry3 := HO2.out.cell 3 _ rfl
     have rz3 := HO2.out.frozen 3
     go_wp2_with fail
     refine (HT.out _ HB2.out).mono ?_
     rintro e w3 ⟨rfl, hb3⟩
     have HB3 := hid (below2 HB2.out hb3)
     clear hb3 ry0 ry1 ry2 ry3 rz0 rz1 rz2 rz3
     by_cases hy : Y.data.toList = tTru
     ·obtain rfl : R = true := by rw [hR, hy]; rfl
      have e2 := lst_yes hy
      unfold tTru at e2
      clear hy hR
      subst e2
      go_wp2_with fail
      refine (HG2.out _ HB3.out).mono ?_
      rintro e w4 ⟨rfl, hb4⟩
      have HB4 := hid (below2 HB3.out hb4)
      clear hb4
      go_wp2_with fail
      go_ret
      exact ⟨rfl, HB4.out⟩
     ·obtain rfl : R = false := by rw [hR, beq_eq_false_iff_ne.2 hy]; rfl
      have e2 := lst_ne hy
      unfold tTru at e2
      clear hy hR
      go_wp2_with fail
      refine (HG2.out _ HB3.out).mono ?_
      rintro e w4 ⟨rfl, hb4⟩
      have HB4 := hid (below2 HB3.out hb4)
      clear hb4
      go_wp2_with fail
      go_ret
      exact ⟨rfl, HB4.out⟩
    ·obtain rfl : R = false := EC.out rfl hn (fun e => hp (xba e))
     have n1 := (tx_ne (S := X) (T := P) (fun e => hp (xba e))).1
     have n2 := (tx_ne (S := X) (T := P) (fun e => hp (xba e))).2.1
     have n3 := (tx_ne (S := X) (T := P) (fun e => hp (xba e))).2.2
     clear EA EB EC ED hs hn hp
     subst e1
     have n4 : (([42] : List UInt8) == P.toList) = false := by rw [Lib.toList_data]; exact n3
     go_enter Tryz.func39, Tryz.ntmps39
     go_wp2_with fail
     refine (HG1.out _ HB1.out).mono ?_
     rintro e w2 ⟨rfl, hb2⟩
     have HB2 := hid (below2 HB1.out hb2)
     have HO2 := hid (HO1.out.kept hb2)
     clear hb2
     have ry0 := HO2.out.cell 0 _ rfl
     have rz0 := HO2.out.frozen 0
     have ry1 := HO2.out.cell 1 _ rfl
     have rz1 := HO2.out.frozen 1
     have ry2 := HO2.out.cell 2 _ rfl
     have rz2 := HO2.out.frozen 2
     have ry3 := HO2.out.cell 3 _ rfl
     have rz3 := HO2.out.frozen 3
     go_wp2_with fail
     refine (HT.out _ HB2.out).mono ?_
     rintro e w3 ⟨rfl, hb3⟩
     have HB3 := hid (below2 HB2.out hb3)
     clear hb3 ry0 ry1 ry2 ry3 rz0 rz1 rz2 rz3
     go_wp2_with fail
     go_ret
     exact ⟨rfl, HB3.out⟩
  ·have hn : ¬ (X.data.toList = [42] ∧ c = false) := fun e => hs e.1
   have n0 := lst_ne hs
   by_cases hp : X = P
   ·have hR : R = (!c || Y.data.toList == tTru) := ED.out rfl hn (by rw [hp])
    subst hp
    clear EA EB EC ED hs hn
    go_enter Tryz.func39, Tryz.ntmps39
    go_wp2_with fail
    refine (HG1.out _ HB1.out).mono ?_
    rintro e w2 ⟨rfl, hb2⟩
    have HB2 := hid (below2 HB1.out hb2)
    have HO2 := hid (HO1.out.kept hb2)
    clear hb2
    have ry0 := HO2.out.cell 0 _ rfl
    have rz0 := HO2.out.frozen 0
    have ry1 := HO2.out.cell 1 _ rfl
    have rz1 := HO2.out.frozen 1
    have ry2 := HO2.out.cell 2 _ rfl
    have rz2 := HO2.out.frozen 2
    have ry3 := HO2.out.cell 3 _ rfl
    have rz3 := HO2.out.frozen 3
    go_wp2_with fail
    refine (HT.out _ HB2.out).mono ?_
    rintro e w3 ⟨rfl, hb3⟩
    have HB3 := hid (below2 HB2.out hb3)
    clear hb3 ry0 ry1 ry2 ry3 rz0 rz1 rz2 rz3
    cases c with
    | false =>
     obtain rfl : R = true := by rw [hR]; rfl
     clear hR
     go_wp2_with fail
     refine (HG2.out _ HB3.out).mono ?_
     rintro e w4 ⟨rfl, hb4⟩
     have HB4 := hid (below2 HB3.out hb4)
     clear hb4
     go_wp2_with fail
     go_ret
     exact ⟨rfl, HB4.out⟩
    | true =>
     by_cases hy : Y.data.toList = tTru
     ·obtain rfl : R = true := by rw [hR, hy]; rfl
      have e2 := lst_yes hy
      unfold tTru at e2
      clear hy hR
      subst e2
      go_wp2_with fail
      refine (HG2.out _ HB3.out).mono ?_
      rintro e w4 ⟨rfl, hb4⟩
      have HB4 := hid (below2 HB3.out hb4)
      clear hb4
      go_wp2_with fail
      go_ret
      exact ⟨rfl, HB4.out⟩
     ·obtain rfl : R = false := by rw [hR, beq_eq_false_iff_ne.2 hy]; rfl
      have e2 := lst_ne hy
      unfold tTru at e2
      clear hy hR
      go_wp2_with fail
      refine (HG2.out _ HB3.out).mono ?_
      rintro e w4 ⟨rfl, hb4⟩
      have HB4 := hid (below2 HB3.out hb4)
      clear hb4
      go_wp2_with fail
      go_ret
      exact ⟨rfl, HB4.out⟩
   ·obtain rfl : R = false := EC.out rfl hn (fun e => hp (xba e))
    have n1 := (tx_ne (S := X) (T := P) (fun e => hp (xba e))).1
    have n2 := (tx_ne (S := X) (T := P) (fun e => hp (xba e))).2.1
    have n3 := (tx_ne (S := X) (T := P) (fun e => hp (xba e))).2.2
    clear EA EB EC ED hs hn hp
    go_enter Tryz.func39, Tryz.ntmps39
    go_wp2_with fail
    refine (HG1.out _ HB1.out).mono ?_
    rintro e w2 ⟨rfl, hb2⟩
    have HB2 := hid (below2 HB1.out hb2)
    have HO2 := hid (HO1.out.kept hb2)
    clear hb2
    have ry0 := HO2.out.cell 0 _ rfl
    have rz0 := HO2.out.frozen 0
    have ry1 := HO2.out.cell 1 _ rfl
    have rz1 := HO2.out.frozen 1
    have ry2 := HO2.out.cell 2 _ rfl
    have rz2 := HO2.out.frozen 2
    have ry3 := HO2.out.cell 3 _ rfl
    have rz3 := HO2.out.frozen 3
    go_wp2_with fail
    refine (HT.out _ HB2.out).mono ?_
    rintro e w3 ⟨rfl, hb3⟩
    have HB3 := hid (below2 HB2.out hb3)
    clear hb3 ry0 ry1 ry2 ry3 rz0 rz1 rz2 rz3
    go_wp2_with fail
    go_ret
    exact ⟨rfl, HB3.out⟩

end Go.Proofs.YtpopljcmkbchcaaGreatDoor

namespace Go.Proofs.YtpopljcmkbchcaaGreatDoor
open Go.RowKit

def nAllow : List UInt8 := [65, 99, 99, 101, 115, 115, 45, 67, 111, 110, 116, 114, 111, 108, 45, 65, 108, 108, 111, 119, 45, 79, 114, 105, 103, 105, 110]

def AlP (s : List UInt8) (w : World) (e : Ending) (w' : World) : Prop :=
 ∃ a c, e = .returned (.slice a 1 c) ∧ w'.ownsRow w.heap.size 45 2 (.slice a 1 c) 1 (cellsH [⟨nAllow, s⟩]) ∧ Below w.heap.size w w'

theorem AlP.hd {s : List UInt8} {w w' : World} {a : Option Addr} {c : Nat} (h : w'.ownsRow w.heap.size 45 2 (.slice a 1 c) 1 (cellsH [⟨nAllow, s⟩])) : HdAt w' (.slice a 1 c) [⟨nAllow, s⟩] := own_hd h

theorem allow18_any (S : ByteArray) (w : World) : Calls Tryz.prog 36 #[.string S] w (AlP S.data.toList w) := by
 have h1 := World.ownsRow_lit (base := w.heap.size) (e := 45) (size := 2) w #[.string (⟨#[65, 99, 99, 101, 115, 115, 45, 67, 111, 110, 116, 114, 111, 108, 45, 65, 108, 108, 111, 119, 45, 79, 114, 105, 103, 105, 110]⟩ : ByteArray), .string S] 1 (Nat.le_refl _) (by decide) rfl
 have H1 := hid h1
 have HB := hid ((Below.refl w.heap.size w).alloc (Nat.le_refl _) (.cells #[.string (⟨#[65, 99, 99, 101, 115, 115, 45, 67, 111, 110, 116, 114, 111, 108, 45, 65, 108, 108, 111, 119, 45, 79, 114, 105, 103, 105, 110]⟩ : ByteArray), .string S] 45))
 clear h1
 go_enter Tryz.func36, Tryz.ntmps36
 go_wp2
 go_ret
 refine ⟨_, _, rfl, ?_, HB.out⟩
 have e : cellsH [⟨nAllow, S.data.toList⟩] = [.string (⟨#[65, 99, 99, 101, 115, 115, 45, 67, 111, 110, 116, 114, 111, 108, 45, 65, 108, 108, 111, 119, 45, 79, 114, 105, 103, 105, 110]⟩ : ByteArray), .string S] := by
  rw [cellsH_one]
  show [Value.string ⟨nAllow.toArray⟩, Value.string ⟨S.data.toList.toArray⟩] = _
  rw [Lib.mk_data]
  rfl
 rw [e]
 exact H1.out

theorem method18_at (S : ByteArray) (T : List UInt8) (b : Bool) (h1 : methT S.data.toList = T) (h2 : methB S.data.toList = b) (hs : S.size ≤ 1000000) : ∀ w, Calls Tryz.prog 35 #[.string S] w fun e w' => e = .returned (.tuple #[.string ⟨T.toArray⟩, .bool b]) ∧ Below w.heap.size w w' := fun w => by
 have := method18_any S w hs
 unfold MePost at this
 rw [h1, h2] at this
 exact this

theorem szd_all {n : Nat} {L : List Hd} (h : (L.all fun x => decide (x.name.length ≤ n) && decide (x.value.length ≤ n)) = true) : Szd n L := fun x hx => by
 have := List.all_eq_true.1 h x hx
 rw [Bool.and_eq_true, decide_eq_true_eq, decide_eq_true_eq] at this
 exact this

theorem check18_at (o : Org) (c : Bool) (L : List Hd) (r : Bool) (hr : chkC (textO o) c L = r) (ho : OrgOk o) (hz : (L.all fun x => decide (x.name.length ≤ 10000) && decide (x.value.length ≤ 10000)) = true) (hl : L.length ≤ 1000) :
  ∀ (v : Value) (w : World), Gd w → HdAt w v L → Calls Tryz.prog 39 #[orgVal o, .bool c, v] w fun e w' => e = .returned (.bool r) ∧ Below w.heap.size w w' := fun v w hg h => by
 have hs := szd_all hz
 have hb := hs.bulk
 have hm : (10000 + 2) * L.length ≤ 10002 * 1000 := Nat.mul_le_mul_left _ hl
 have := check18_any o c v L w hg ho h (hs.mono (by decide)) (by omega) (by omega)
 rw [hr] at this
 exact this

theorem orgOk_of {o : Org} (h : (decide (o.scheme.length ≤ 1000000) && decide (o.host.length ≤ 1000000) && (o.opq || (decide (0 ≤ o.port) && decide (o.port ≤ 65535)))) = true) : OrgOk o := by
 simp only [Bool.and_eq_true, Bool.or_eq_true, decide_eq_true_eq] at h
 refine ⟨h.1.1, h.1.2, fun ho => ?_⟩
 rcases h.2 with h2 | h2
 ·rw [ho] at h2; cases h2
 ·exact h2

theorem kn18_1 : chkC (textO (ofT [104, 116, 116, 112, 115, 58, 47, 47, 97])) true [⟨nAllow, [42]⟩] = false := by decide +kernel

theorem kn18_2 : chkC (textO (ofT [104, 116, 116, 112, 115, 58, 47, 47, 97])) false [⟨nAllow, [42]⟩] = true := by decide +kernel

theorem kn18_3 : OrgOk (ofT [104, 116, 116, 112, 115, 58, 47, 47, 97]) := orgOk_of (by decide +kernel)

set_option maxHeartbeats 8000000 in
set_option maxRecDepth 100000 in
theorem known18_any (w : World) (hg : Gd w) : Calls Tryz.prog 42 #[] w fun e w' => e = .returned (.bool true) ∧ Below w.heap.size w w' := by
 have HM1 := hid (method18_at (⟨#[112, 79, 115, 116]⟩ : ByteArray) [80, 79, 83, 84] true (by decide) (by decide) (by decide))
 have HM2 := hid (method18_at (⟨#[112, 97, 116, 99, 104]⟩ : ByteArray) [112, 97, 116, 99, 104] true (by decide) (by decide) (by decide))
 have HM3 := hid (method18_at (⟨#[84, 82, 65, 67, 69]⟩ : ByteArray) [] false (by decide) (by decide) (by decide))
 have HO := hid (of18_at (⟨#[104, 116, 116, 112, 115, 58, 47, 47, 97]⟩ : ByteArray) _ rfl (by decide))
 have k1 := kn18_1
 have k2 := kn18_2
 have k3 := kn18_3
 generalize ofT (⟨#[104, 116, 116, 112, 115, 58, 47, 47, 97]⟩ : ByteArray).data.toList = O at *
 have HC1 := hid (check18_at O true [⟨nAllow, [42]⟩] false k1 k3 (by decide) (by decide))
 have HC2 := hid (check18_at O false [⟨nAllow, [42]⟩] true k2 k3 (by decide) (by decide))
 have HA := hid (fun w => allow18_any (⟨#[42]⟩ : ByteArray) w)
 have HG := hid hg
 clear k1 k2 k3 hg
 go_enter Tryz.func42, Tryz.ntmps42
 go_wp2_with fail
 refine (HM1.out _).mono ?_
 rintro e w1 ⟨rfl, hb⟩
 have HB1 := hid (below2 (Below.refl w.heap.size w) hb)
 clear hb
 go_wp2_with fail
 refine (HM2.out _).mono ?_
 rintro e w2 ⟨rfl, hb⟩
 have HB2 := hid (below2 HB1.out hb)
 clear hb
 go_wp2_with fail
 refine (HM3.out _).mono ?_
 rintro e w3 ⟨rfl, hb⟩
 have HB3 := hid (below2 HB2.out hb)
 clear hb
 go_wp2_with fail
 refine (HO.out _).mono ?_
 rintro e w4 ⟨rfl, hb⟩
 have HB4 := hid (below2 HB3.out hb)
 clear hb
 go_wp2_with fail
 refine (HA.out _).mono ?_
 rintro e w5 ⟨a1, c1, rfl, hown, hb⟩
 have HB5 := hid (below2 HB4.out hb)
 have HH1 := hid (own_hd hown)
 clear hown
 clear hb
 go_wp2_with fail
 refine (HC1.out _ _ (HG.out.kept HB5.out) HH1.out).mono ?_
 rintro e w6 ⟨rfl, hb⟩
 have HB6 := hid (below2 HB5.out hb)
 clear hb
 go_wp2_with fail
 refine (HO.out _).mono ?_
 rintro e w7 ⟨rfl, hb⟩
 have HB7 := hid (below2 HB6.out hb)
 clear hb
 go_wp2_with fail
 refine (HA.out _).mono ?_
 rintro e w8 ⟨a2, c2, rfl, hown, hb⟩
 have HB8 := hid (below2 HB7.out hb)
 have HH2 := hid (own_hd hown)
 clear hown
 clear hb
 go_wp2_with fail
 refine (HC2.out _ _ (HG.out.kept HB8.out) HH2.out).mono ?_
 rintro e w9 ⟨rfl, hb⟩
 have HB9 := hid (below2 HB8.out hb)
 clear hb
 go_wp2_with fail
 go_ret
 exact ⟨rfl, HB9.out⟩

end Go.Proofs.YtpopljcmkbchcaaGreatDoor

namespace Go.Proofs.YtpopljcmkbchcaaGreatDoor
open Go.RowKit Go.Maps Go.WideMaps Go.Sort Go.Shelf

theorem law18 : Keyed Tryz.prog 9 := string_keyed Tryz.underlying9

def NmM (w : World) (b : Nat) (L : List (List UInt8)) : Prop := ∃ (D : DataW Unit) (n : Nat), w.ownsMap Tryz.prog 9 unitElem b n D ∧ n ≤ L.length ∧ ∀ x, Maps.has D (.string x) = true ↔ x ∈ L

theorem NmM.lt {w : World} {b : Nat} {L : List (List UInt8)} (h : NmM w b L) : b < w.heap.size := by
 obtain ⟨D, n, hm, _⟩ := h
 exact hm.lt

theorem NmM.same {w w1 : World} {b : Nat} {L : List (List UInt8)} (h : NmM w b L) (e : w1.heap[b]? = w.heap[b]?) : NmM w1 b L := by
 obtain ⟨D, n, hm, hn, hx⟩ := h
 obtain ⟨es, clock, hb, rest⟩ := hm
 exact ⟨D, n, ⟨es, clock, e.trans hb, rest⟩, hn, hx⟩

theorem NmM.kept {w w1 : World} {b c : Nat} {L : List (List UInt8)} (h : NmM w c L) (hb : But b w w1) (hne : c ≠ b) : NmM w1 c L := h.same (hb.block c h.lt hne)

theorem NmM.below {w w1 : World} {b : Nat} {L : List (List UInt8)} (h : NmM w b L) (hb : Below w.heap.size w w1) : NmM w1 b L := h.same (hb.block b h.lt)

theorem NmM.alloc {w : World} {b : Nat} {L : List (List UInt8)} (h : NmM w b L) (o : Obj) : NmM (w.alloc o) b L := h.below ((Below.refl _ w).alloc (Nat.le_refl _) o)

theorem but_grown {w w1 : World} {b : Nat} (hg : w.grownBy w1 (some b)) (hb : b < w.heap.size) : But b w w1 :=
 ⟨⟨hg.os, hg.tape, hg.output, hg.size, fun k hk => hg.block k (by omega) (fun e => by have := Option.some.inj e; omega)⟩, fun k hk hs => hg.block k hs (fun e => by have := Option.some.inj e; omega)⟩

theorem has_add (D : DataW Unit) (hD : IsMap D) (x y : List UInt8) : Maps.has (D.put (.string x) (.agg [])) (.string y) = true ↔ Maps.has D (.string y) = true ∨ y = x := by
 by_cases e : y = x
 ·subst e
  rw [has_put_same hD (show WideAt.IsKeyLit (.string y) by simp [WideAt.IsKeyLit])]
  simp
 ·rw [has_put_other (fun h => e (by injection h))]
  simp [e]

set_option maxHeartbeats 4000000 in
set_option maxRecDepth 100000 in
theorem add18_any (b : Nat) (L : List (List UInt8)) (s : ByteArray) (w : World) (h : NmM w b L) (hs : s.size ≤ 1000000) (hl : L.length ≤ 1000000) :
  Calls Tryz.prog 87 #[.map (some b), .string s] w fun e w' => e = .returned (.tuple #[]) ∧ NmM w' b (L ++ [low s.data.toList]) ∧ But b w w' := by
 have hlt := h.lt
 have HM := hid h
 have hll : (low s.data.toList).length ≤ 1000000 := by unfold low; rw [List.length_map, ← Lib.size_eq]; exact hs
 obtain ⟨X, hX⟩ : ∃ X : ByteArray, X = ⟨(low s.data.toList).toArray⟩ := ⟨_, rfl⟩
 have hXl : low s.data.toList = X.data.toList := by rw [hX]
 rw [hXl] at hll ⊢
 have hXs : X.size ≤ maxLen := by rw [Lib.size_eq]; unfold maxLen; omega
 have hkey : keyOf Tryz.prog 9 (.string X) = some (.string X.data.toList) := keyOf_string_mk Tryz.underlying9 hXs
 have HX := hid hX
 clear h hll hX hXl hXs
 go_enter Tryz.func87, Tryz.ntmps87
 go_wp2_with fail
 refine (lower_any s _ (by omega)).mono ?_
 rintro e w1 ⟨rfl, hb1⟩
 rw [← HX.out]
 obtain ⟨D, n, hm, hn, hx⟩ := HM.out.below hb1
 have HB1 := hid (But.of hb1 (Nat.le_of_lt hlt))
 have HMm := hid hm
 have HMi := hid (show IsMap D from hm.isMap)
 have HHx := hid hx
 have hw1 := hb1.size
 clear hm hx hb1
 go_wp2_with (first
  | (at_mapUpdate; refine wpList_mapUpdate_own _ rfl _ _ _ 126 rfl 9 130 law18 Tryz.underlying126 (unitElem (H := Unit)) b n _ rfl HMm.out (by unfold maxLen; omega) _ _ _ rfl rfl hkey _ [] unitElem_mk ?_; intro w3 hown1 hgrow1))
 go_end0
 refine ⟨rfl, ⟨_, n + 1, hown1, by simp; omega, fun y => ?_⟩, ?_⟩
 ·rw [has_add _ HMi.out, HHx.out y]
  simp
 ·refine HB1.out.trans (but_grown hgrow1 (by omega))

end Go.Proofs.YtpopljcmkbchcaaGreatDoor

namespace Go.Proofs
open Go.Shelf

def Tryz.itKeys_ren : Go.Shelf.Ren := ⟨fun | 7 => 136 | 10 => 189 | n => n, fun | 23 => 126 | 26 => 9 | 3 => 130 | 28 => 177 | 0 => 0 | 27 => 176 | 33 => 73 | 4 => 4 | n => n, fun | n => n⟩

theorem Tryz.itKeys : Go.Proofs.SlLaysZ.n7 Tryz.prog Tryz.itKeys_ren := {
 mixed := by kernel_rfl
 f7 := ⟨Tryz.f136.name, by decide, Tryz.func136.trans (congrArg some (by kernel_rfl))⟩
 f10 := ⟨Tryz.f189.name, by decide, Tryz.func189.trans (congrArg some (by kernel_rfl))⟩
 t0 := Tryz.underlying0
 a0 := Tryz.isAgg0
 z0 := Tryz.sizeOf0
 v0 := Tryz.zeroValue0
 t4 := Tryz.underlying4
 a4 := Tryz.isAgg4
 z4 := Tryz.sizeOf4
 v4 := Tryz.zeroValue4
 t23 := Tryz.underlying126
 a23 := Tryz.isAgg126
 z23 := Tryz.sizeOf126
 v23 := Tryz.zeroValue126
 t26 := Tryz.underlying9
 a26 := Tryz.isAgg9
 z26 := Tryz.sizeOf9
 v26 := Tryz.zeroValue9
 t27 := Tryz.underlying176
 a27 := Tryz.isAgg176
 z27 := Tryz.sizeOf176
 v27 := Tryz.zeroValue176
 t28 := Tryz.underlying177
 a28 := Tryz.isAgg177
 z28 := Tryz.sizeOf177
 v28 := Tryz.zeroValue177
 t33 := Tryz.underlying73
 a33 := Tryz.isAgg73
 z33 := Tryz.sizeOf73
 v33 := Tryz.zeroValue73 }

def Tryz.itSorted_ren : Go.Shelf.Ren := ⟨fun | 6 => 135 | 8 => 188 | 9 => 100 | 11 => 228 | 13 => 155 | 12 => 154 | 23 => 211 | 24 => 212 | 14 => 202 | 15 => 203 | 16 => 204 | 17 => 205 | 18 => 206 | 19 => 207 | 20 => 208 | 21 => 209 | 22 => 210 | 25 => 237 | 26 => 238 | 27 => 239 | 28 => 240 | 29 => 241 | 30 => 242 | 31 => 258 | n => n, fun | 26 => 9 | 28 => 177 | 24 => 50 | 0 => 0 | 3 => 3 | 37 => 123 | 48 => 229 | 50 => 195 | 4 => 4 | 40 => 222 | 39 => 221 | 45 => 226 | 5 => 5 | 9 => 9 | 51 => 246 | 55 => 250 | 57 => 264 | 58 => 265 | 33 => 73 | n => n, fun | n => n⟩

theorem Tryz.itSorted : Go.Proofs.SlLaysZ.n6 Tryz.prog Tryz.itSorted_ren := {
 mixed := by kernel_rfl
 f6 := ⟨Tryz.f135.name, by decide, Tryz.func135.trans (congrArg some (by kernel_rfl))⟩
 f8 := ⟨Tryz.f188.name, by decide, Tryz.func188.trans (congrArg some (by kernel_rfl))⟩
 f11 := ⟨Tryz.f228.name, by decide, Tryz.func228.trans (congrArg some (by kernel_rfl))⟩
 t0 := Tryz.underlying0
 a0 := Tryz.isAgg0
 z0 := Tryz.sizeOf0
 v0 := Tryz.zeroValue0
 t24 := Tryz.underlying50
 a24 := Tryz.isAgg50
 z24 := Tryz.sizeOf50
 v24 := Tryz.zeroValue50
 t26 := Tryz.underlying9
 a26 := Tryz.isAgg9
 z26 := Tryz.sizeOf9
 v26 := Tryz.zeroValue9
 t28 := Tryz.underlying177
 a28 := Tryz.isAgg177
 z28 := Tryz.sizeOf177
 v28 := Tryz.zeroValue177
 i26 := by kernel_rfl }

def Tryz.itSort_ren : Go.Shelf.Ren := ⟨fun | 6 => 100 | 8 => 155 | 9 => 154 | 19 => 211 | 20 => 212 | 21 => 202 | 22 => 203 | 23 => 204 | 24 => 205 | 25 => 206 | 26 => 207 | 27 => 208 | 28 => 209 | 29 => 210 | 36 => 237 | 31 => 238 | 32 => 239 | 37 => 240 | 38 => 241 | 39 => 242 | 41 => 258 | n => n, fun | 27 => 50 | 29 => 9 | 3 => 3 | 32 => 123 | 26 => 50 | 0 => 0 | 44 => 229 | 46 => 195 | 4 => 4 | 36 => 222 | 35 => 221 | 41 => 226 | 5 => 5 | 9 => 9 | 53 => 246 | 57 => 250 | 63 => 264 | 64 => 265 | n => n, fun | n => n⟩

theorem Tryz.itSort : Go.Proofs.SlLaysM.n6 Tryz.prog Tryz.itSort_ren := {
 mixed := by kernel_rfl
 f6 := ⟨Tryz.f100.name, by decide, Tryz.func100.trans (congrArg some (by kernel_rfl))⟩
 f8 := Tryz.func155.trans (congrArg some (by kernel_rfl))
 f9 := ⟨Tryz.f154.name, by decide, Tryz.func154.trans (congrArg some (by kernel_rfl))⟩
 f19 := Tryz.func211.trans (congrArg some (by kernel_rfl))
 f20 := Tryz.func212.trans (congrArg some (by kernel_rfl))
 f21 := ⟨Tryz.f202.name, by decide, Tryz.func202.trans (congrArg some (by kernel_rfl))⟩
 f22 := ⟨Tryz.f203.name, by decide, Tryz.func203.trans (congrArg some (by kernel_rfl))⟩
 f23 := ⟨Tryz.f204.name, by decide, Tryz.func204.trans (congrArg some (by kernel_rfl))⟩
 f24 := ⟨Tryz.f205.name, by decide, Tryz.func205.trans (congrArg some (by kernel_rfl))⟩
 f25 := ⟨Tryz.f206.name, by decide, Tryz.func206.trans (congrArg some (by kernel_rfl))⟩
 f26 := ⟨Tryz.f207.name, by decide, Tryz.func207.trans (congrArg some (by kernel_rfl))⟩
 f27 := ⟨Tryz.f208.name, by decide, Tryz.func208.trans (congrArg some (by kernel_rfl))⟩
 f28 := ⟨Tryz.f209.name, by decide, Tryz.func209.trans (congrArg some (by kernel_rfl))⟩
 f29 := ⟨Tryz.f210.name, by decide, Tryz.func210.trans (congrArg some (by kernel_rfl))⟩
 f31 := Tryz.func238.trans (congrArg some (by kernel_rfl))
 f32 := Tryz.func239.trans (congrArg some (by kernel_rfl))
 f36 := ⟨Tryz.f237.name, by decide, Tryz.func237.trans (congrArg some (by kernel_rfl))⟩
 f37 := ⟨Tryz.f240.name, by decide, Tryz.func240.trans (congrArg some (by kernel_rfl))⟩
 f38 := ⟨Tryz.f241.name, by decide, Tryz.func241.trans (congrArg some (by kernel_rfl))⟩
 f39 := ⟨Tryz.f242.name, by decide, Tryz.func242.trans (congrArg some (by kernel_rfl))⟩
 f41 := ⟨Tryz.f258.name, by decide, Tryz.func258.trans (congrArg some (by kernel_rfl))⟩
 t0 := Tryz.underlying0
 a0 := Tryz.isAgg0
 z0 := Tryz.sizeOf0
 v0 := Tryz.zeroValue0
 t3 := Tryz.underlying3
 a3 := Tryz.isAgg3
 z3 := Tryz.sizeOf3
 v3 := Tryz.zeroValue3
 t4 := Tryz.underlying4
 a4 := Tryz.isAgg4
 z4 := Tryz.sizeOf4
 v4 := Tryz.zeroValue4
 t5 := Tryz.underlying5
 a5 := Tryz.isAgg5
 z5 := Tryz.sizeOf5
 v5 := Tryz.zeroValue5
 t9 := Tryz.underlying9
 a9 := Tryz.isAgg9
 z9 := Tryz.sizeOf9
 v9 := Tryz.zeroValue9
 t26 := Tryz.underlying50
 a26 := Tryz.isAgg50
 z26 := Tryz.sizeOf50
 v26 := Tryz.zeroValue50
 t27 := Tryz.underlying50
 a27 := Tryz.isAgg50
 z27 := Tryz.sizeOf50
 v27 := Tryz.zeroValue50
 t29 := Tryz.underlying9
 a29 := Tryz.isAgg9
 z29 := Tryz.sizeOf9
 v29 := Tryz.zeroValue9
 t32 := Tryz.underlying123
 a32 := Tryz.isAgg123
 z32 := Tryz.sizeOf123
 v32 := Tryz.zeroValue123
 t35 := Tryz.underlying221
 a35 := Tryz.isAgg221
 z35 := Tryz.sizeOf221
 v35 := Tryz.zeroValue221
 t36 := Tryz.underlying222
 a36 := Tryz.isAgg222
 z36 := Tryz.sizeOf222
 v36 := Tryz.zeroValue222
 t41 := Tryz.underlying226
 a41 := Tryz.isAgg226
 z41 := Tryz.sizeOf226
 v41 := Tryz.zeroValue226
 t44 := Tryz.underlying229
 a44 := Tryz.isAgg229
 z44 := Tryz.sizeOf229
 v44 := Tryz.zeroValue229
 t46 := Tryz.underlying195
 a46 := Tryz.isAgg195
 z46 := Tryz.sizeOf195
 v46 := Tryz.zeroValue195
 t53 := Tryz.underlying246
 a53 := Tryz.isAgg246
 z53 := Tryz.sizeOf246
 v53 := Tryz.zeroValue246
 t57 := Tryz.underlying250
 a57 := Tryz.isAgg250
 z57 := Tryz.sizeOf250
 v57 := Tryz.zeroValue250
 t63 := Tryz.underlying264
 a63 := Tryz.isAgg264
 z63 := Tryz.sizeOf264
 v63 := Tryz.zeroValue264
 t64 := Tryz.underlying265
 a64 := Tryz.isAgg265
 z64 := Tryz.sizeOf265
 v64 := Tryz.zeroValue265 }

end Go.Proofs

namespace Go.Proofs.YtpopljcmkbchcaaGreatDoor
open Go.RowKit Go.Maps Go.WideMaps Go.Sort Go.Shelf

theorem it_sorts (m : Nat) : AnyZ.SortsIn Tryz.prog Tryz.itSorted_ren Fence.wide m :=
  ⟨fun blk off cap ss W hH hblk hsz => callsIn_wide.2 (AnyM.slices_Sort_string Tryz.itSort blk off cap ss W hH hblk hsz),
   fun p cap W => callsIn_wide.2 (AnyM.slices_Sort_string_none Tryz.itSort p cap W)⟩

theorem it_keys (mb : Option Nat) (W : World) : CallsIn Fence.wide 5 Tryz.prog 136 #[.map mb] W fun e w' => e = .returned (.func (.func 189) #[] #[.pointer (some ⟨W.heap.size, 0, none⟩)]) ∧ w' = W.alloc (.cells #[.map mb] 126) :=
 AnyZ.keys_in Tryz.itKeys Fence.wide 5 trivial rfl mb W

set_option maxHeartbeats 4000000 in
theorem it_sorted {H : Type} (b nn : Nat) (D0 : DataW H) (R : Value → Option (DataW H × List MemPlace)) (w : World) (hown : w.ownsMap Tryz.prog 9 R b nn D0) (hmax : Maps.size D0 ≤ maxLen) (hbytes : Maps.size D0 * 16 ≤ 140737488355328) :
  CallsIn Fence.wide 5 Tryz.prog 135 #[.func (.func 189) #[] #[.pointer (some ⟨w.heap.size, 0, none⟩)]] (w.alloc (.cells #[.map (some b)] 126)) fun e w' => ∃ (v : Value) (ss : List (List UInt8)), e = .returned v ∧ ss.Perm (strKeys D0) ∧
   w'.ownsRow (w.alloc (.cells #[.map (some b)] 126)).heap.size 9 1 v ss.length ((ss.mergeSort (fun x y => decide (x ≤ y))).map encStr) ∧ (v = .slice none 0 0 ↔ ss = []) ∧ Below (w.alloc (.cells #[.map (some b)] 126)).heap.size (w.alloc (.cells #[.map (some b)] 126)) w' := by
 have hbl := hown.lt
 have hseq : SeqGives Fence.wide 2 Tryz.prog 189 #[.pointer (some ⟨w.heap.size, 0, none⟩)] encStr (fun ss => ss.Perm (strKeys D0)) (Maps.size D0) (w.alloc (.cells #[.map (some b)] 126)) :=
  AnyZ.keys_gives (ρ := Tryz.itKeys_ren) { Tryz.itKeys with } Fence.wide _ trivial rfl (by omega) w.heap.size b nn D0 _ (by simp) (by simp) (by
   obtain ⟨es, clock, hb, Ft, hs, hD⟩ := hown
   exact ⟨es, clock, (Below.heap_alloc _ _ b hbl).trans hb, Ft, hs, hD⟩)
 exact AnyZ.sorted_in Tryz.itSorted Fence.wide 5 trivial trivial trivial trivial rfl (by omega) (it_sorts _) (enters_of Tryz.func100 (by kernel_rfl) rfl) 189 #[.pointer (some ⟨w.heap.size, 0, none⟩)] trivial (enters_of Tryz.func189 (by kernel_rfl) rfl) _ _ hmax hbytes _ hseq

set_option maxHeartbeats 4000000 in
theorem sorted18_any (b : Nat) (L : List (List UInt8)) (w : World) (h : NmM w b L) (hl : L.length ≤ 1000000) :
  Calls Tryz.prog 88 #[.map (some b)] w fun e w' => ∃ v, e = .returned v ∧ w'.ownsRow w.heap.size 9 1 v (srtN L).length (cellsT (srtN L)) ∧ Below w.heap.size w w' := by
 obtain ⟨D, n, hown, hn, hx⟩ := h
 have hsz := hown.size_le
 have hmax : Maps.size D ≤ maxLen := by unfold maxLen; omega
 have hbytes : Maps.size D * 16 ≤ 140737488355328 := by omega
 refine (callsIn_wide (n := 6)).1 ?_
 have hfK : Fence.wide.fn 136 := trivial
 have hfS : Fence.wide.fn 135 := trivial
 refine callsIn_of_wp Tryz.func88 rfl trivial ?_ rfl
 simp only [Tryz.ntmps88, List.size_toArray, List.length_cons, List.length_nil, Nat.reduceAdd, Nat.reduceSub, Array.replicate_succ, Array.replicate_zero, List.push_toArray, List.append_toArray, List.nil_append, List.cons_append]
 gi_wp2_with (first
  | (gi_at_call 136; refine (it_keys _ _).mono ?_; rintro e w' ⟨rfl, rfl⟩)
  | (gi_at_call 135; refine (it_sorted b n D _ w hown hmax hbytes).mono ?_; rintro e w' ⟨v, ss, rfl, hS, hrow, hnil, hb⟩))
 go_ret
 have hk : ss.mergeSort (fun x y => decide (x ≤ y)) = srtN L := keys_srt hown law18 Tryz.underlying9 hS hx
 have hln : ss.length = (srtN L).length := by rw [← hk]; exact (List.length_mergeSort ..).symm
 rw [hk, hln] at hrow
 exact ⟨v, rfl, ownsRow_base_a hrow (by simp), ((Below.refl _ w).alloc (Nat.le_refl _) _).trans (hb.mono (by simp))⟩

set_option maxHeartbeats 8000000 in
set_option maxRecDepth 100000 in
theorem copy18_any (b c : Nat) (A B : List (List UInt8)) (w : World) (ha : NmM w b A) (hc : NmM w c B) (hne : b ≠ c) (hla : A.length ≤ 1000000) (hlb : B.length ≤ 1000000) :
  Calls Tryz.prog 90 #[.map (some b), .map (some c)] w fun e w' => e = .returned (.tuple #[]) ∧ NmM w' b (A ++ B) ∧ But b w w' := by
 obtain ⟨Dd, nd, hd, hdn, hdx⟩ := ha
 obtain ⟨Ds, ns, hs, hsn, hsx⟩ := hc
 have hbd := hd.lt
 have hbs := hs.lt
 have hds := hs.size_le
 go_enter Tryz.func90, Tryz.ntmps90
 go_wp2_with (first
  | (at_range; refine wpList_range_own _ rfl _ 126 rfl 9 130 law18 Tryz.underlying126 (unitElem (H := Unit)) c ns _ rfl hs ?_; intro w0 hrg0 hg0 hs0)
  | go_in)
 go_frame
 go_loopw [8] (fun _ wr => ∃ (left : Lit → Bool) (cnt : Nat) (Dout : DataW Unit), wr.ranges Tryz.prog 9 (unitElem (H := Unit)) c w.heap.size ns Ds left cnt ∧ cnt ≤ Maps.size Ds ∧
   wr.ownsMap Tryz.prog 9 (unitElem (H := Unit)) b (nd + (Maps.size Ds - cnt)) Dout ∧ Merged Dout Dd Ds left ∧ w.grownBy wr (some b))
  (fun _ wr => wr.rangeLeft c w.heap.size)
 case atStart =>
  exact ⟨_, _, Dd, hrg0, Nat.le_refl _, (hd.kept hg0 (by simp)).mono (by omega), merged_start Dd Ds, hg0.but _⟩
 case round =>
  obtain ⟨left, cnt, Dout, hrg, hcs, hout, hM, hgw⟩ := hrel
  go_wp2_with (first
   | (at_next; refine wpList_next_ranges _ rfl _ rfl 9 law18 (unitElem (H := Unit)) id id (fun key _ _ => ⟨key, rfl⟩) (fun v _ _ => ⟨v, rfl⟩) c w.heap.size ns _ _ _ rfl hrg ?_ ?_)
   | go_in)
  ·intro hc0 hl0
   go_wp2
   go_end0
   subst hc0
   refine ⟨rfl, ⟨Dout, nd + (Maps.size Ds - 0), by simpa using hout, by rw [List.length_append]; omega, fun x => ?_⟩, ?_⟩
   ·rw [hM.1, hl0, Bool.not_false, Bool.and_true, Bool.or_eq_true, hdx, hsx, List.mem_append]
   ·exact but_grown hgw (by omega)
  ·intro x cc kl yd yp w1 cnt1 hkey hlx hv hat hrg1 hlt hg1 hs1 hen
   have hout1 := hout.kept hg1 (fun e => by have := Option.some.inj e; omega)
   obtain ⟨rfl, hyd⟩ := unitElem_inv hv
   have hrg1a := hrg1
   have HO1 := hid (hout1.alloc (.cells #[] 130))
   go_wp2_with (first
    | (at_mapUpdate; refine wpList_mapUpdate_own _ rfl _ _ _ 126 rfl 9 130 law18 Tryz.underlying126 (unitElem (H := Unit)) b _ _ rfl HO1.out (by unfold maxLen; omega) _ _ _ rfl rfl hkey _ _ hv ?_; intro w2 hout2 hg2; go_frame)
    | go_in)
   have hgA : w1.grownBy (w1.alloc (.cells #[] 130)) none := World.grownBy_alloc w1 _ none
   have hrgA := hrg1.kept hgA (by simp) (by simp)
   have hrg2 := hrgA.kept hg2 (fun e => hne (Option.some.inj e).symm) (fun e => by have := Option.some.inj e; omega)
   go_roundw
   case rel =>
    exact ⟨_, cnt1, _, hrg2, by omega, hout2.mono (by omega), merged_step hM hout.isMap (law18.key hkey) hat, ((hgw.andThen hg1 (fun j hj => .inl (by cases hj; exact Nat.le_refl _))).andThen hgA (fun j hj => by cases hj)).andThen hg2 (fun j hj => .inr hj)⟩
   case measure => rw [hrg2.left_eq, hrg.left_eq]; exact hlt

end Go.Proofs.YtpopljcmkbchcaaGreatDoor
