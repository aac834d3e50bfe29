/-
  Walks and plain facts that this claim leans on, put together out of 6 texts: Eij, Eiu, Eis, Pm, Ert, Eru.
-/
import Derived.Test.YtpopljcmkbchcaaDoorProg
import Derived.Test.YtpopljcmkbchcaaDoorQa1
import Derived.Test.YtpopljcmkbchcaaDoorQa2
import Derived.Test.YtpopljcmkbchcaaDoorQa3
import Derived.Test.YtpopljcmkbchcaaDoorQa4
import Derived.Test.YtpopljcmkbchcaaDoorQa5
import Derived.Test.YtpopljcmkbchcaaDoorQa6
import Derived.Test.YtpopljcmkbchcaaDoorQa7
import Derived.Test.YtpopljcmkbchcaaDoorQa10
import Derived.Test.YtpopljcmkbchcaaDoorQa14
import Derived.Test.YtpopljcmkbchcaaDoorQa16
import Derived.Test.YtpopljcmkbchcaaDoorQa17
import Derived.Test.YtpopljcmkbchcaaDoorQa18
import Derived.Deep.Cut
import Derived.Deep.QuietTactic
import Derived.BigQuiet
import Derived.BigRegion
import Derived.Deep.RegionHeld
import Derived.Lib.IndexMore
import Derived.Lib.Join
import Derived.Lib.LastIndexByte
import Derived.WalkKit
import Derived.Lib.Strings
import Derived.Lib.UnsafeStr
import Derived.Laws.IdiomStrings
import Derived.Laws.AppendOwn
import Derived.Laws.BitsAllLaws
import Derived.Lib.Bytealg
import Derived.Lib.BufferMore
import Derived.Lib.BufferRead
import Derived.Lib.RuneBytes
import Derived.Laws.RangeAny
import Derived.LoopN
import Derived.RegionTactic
import Derived.Deep.RegionWith
import Derived.OwnWalk
import Derived.Deep.RegionLaw
import Derived.Laws.OwnMore
import Derived.Deep.LoopGhost
import Derived.Shelf.Strings.Builder1
import Derived.Shelf.Strings.Builder2
import Derived.Shelf.Strings.OnBuilder
import Derived.Shelf.Small.Utf8
import Derived.Shelf.Strings.BuilderF
import Derived.Shelf.Strings.BuilderK
import Derived.Shelf.Strings.BuilderRune
import Derived.Shelf.Utf8.AppendRune
import Derived.Shelf.Utf8.AppendRunePlain
import Derived.Shelf.Strings.Builder2Cap
import Derived.Shelf.Strconv.Itoa0
import Derived.Shelf.Strconv.Itoa1
import Derived.Shelf.LaysM
import Derived.Shelf.Strconv.Itoa2
import Derived.Shelf.Strconv.Itoa3
import Derived.Shelf.Unicode.Latin
import Derived.Shelf.Unicode.Decode
import Derived.Shelf.Unicode.DecodeSlow
import Derived.Shelf.Unicode.DecodeAny
import Derived.Shelf.Unicode.CaseLookup
import Derived.Shelf.Unicode.CaseConvert
import Derived.Shelf.Unicode.CaseTo
import Derived.Shelf.Unicode.CaseLaid
import Derived.Laws.AppendOwnNone
import Derived.Scope
import Derived.ScopeJumps
import Derived.WalkMore
import Derived.Lib.IndexAny
import Derived.Lib.Replace
import Derived.Lib.TrimByte
import Derived.Lib.ItoaNum
import Derived.Lib.DecodeN
import Derived.Lib.OthersKept
import Derived.Laws.BytesString
import Derived.Deep.WholeRow
import Derived.Lib.AppendStr
import Derived.WalkSpells
import Derived.WalkLawsBesides
import Derived.Lib.AppendIntMem
import Derived.Lib.SmallJoins
import Derived.WalkSmall
import Derived.Laws.CopyOwn
import Derived.Laws.ResultCell
import Derived.Deep.MidRow
import Derived.Lib.FrozenHead2
import Derived.Lib.Builder
import Derived.Lib.SlTrimSet
import Derived.Below
import Derived.Shelf.Strings.SlTrimAscii
import Derived.Laws.Runes
import Derived.Deep.RegionHeldLaw
import Derived.Maps.OwnSet
import Derived.Maps.OwnOps
import Derived.Maps.AppendAt
import Derived.StringKeys
import Derived.Lib.FieldsP
import Derived.Lib.LaidTab
import Derived.Shelf.GgClosure.GivesRunes
import Derived.Laws.BitsAll
import Derived.Laws.Shifts
import Derived.Deep.DeepAppendRoom
import Derived.Laws.CopyRow
import Derived.Sort.OwnSorted
import Derived.Lib.SlicesCompact
import Derived.Sort.KeysCollected
import Derived.Lib.Case
import Derived.Deep.CutRange
import Derived.Laws.Rows
import Derived.Laws.MakeOwn
set_option linter.unusedSimpArgs false
set_option linter.unusedVariables false

namespace Go.Proofs.YtpopljcmkbchcaaDoor
open Go.RowKit

theorem one_read18 (s : List UInt8) : (adrOf (readV s none)).scheme = sBlob → (adrOf (readV s none)).opq = true → ∃ x, (adrOf (readV s none)).path = [x] := by
 cases hr : readV s none with
 | ok v =>
  intro _ h
  exact read_one hr h
 | error e => intro h; exact absurd (show Adr.zero.scheme = sBlob from h) (by decide)

set_option maxHeartbeats 8000000 in
set_option maxRecDepth 100000 in
theorem of18_any (S : ByteArray) (w : World) (hs : S.size ≤ 9223372036854775807) :
  Calls Tryd.prog 5 #[.string S] w fun e w' => e = .returned (orgVal (ofT S.data.toList)) ∧ Below w.heap.size w w' := by
 have HU := hid (fun w => url_k S w hs)
 have ht : TrOk (adrOf (urlV S.data.toList)) := tr_read _
 have HOf := hid (fun (pv : Value) (X : World) (hp : PathAt X pv (adrOf (urlV S.data.toList)).path) => rof4_any (adrOf (urlV S.data.toList)) pv X hp ht (one_read18 _))
 unfold ofT
 generalize urlV S.data.toList = ru at HU HOf ⊢
 unfold UPost at HU
 unfold OfPost at HOf
 generalize adrOf ru = A at HU HOf ⊢
 obtain ⟨O, hO⟩ : ∃ O, orgV A = O := ⟨_, rfl⟩
 rw [hO] at HOf ⊢
 obtain ⟨sa, ah, ap, ao⟩ := O
 obtain ⟨AS, rfl⟩ : ∃ X : ByteArray, sa = X.data.toList := ⟨⟨sa.toArray⟩, rfl⟩
 obtain ⟨AH, rfl⟩ : ∃ X : ByteArray, ah = X.data.toList := ⟨⟨ah.toArray⟩, rfl⟩
 have hval : orgVal ⟨AS.data.toList, AH.data.toList, ap, ao⟩ = .agg #[.string AS, .string AH, .int .i64 ap, .bool ao] := rfl
 have HVal := hid hval
 rw [hval] at HOf
 have h0 : OrgIn (w.alloc (.cells (orgCells Org.nil).toArray 25)) w.heap.size Org.nil := heap_alloc_new w _
 have hb0 : Below w.heap.size w (w.alloc (.cells (orgCells Org.nil).toArray 25)) := (Below.refl _ w).alloc (Nat.le_refl _) _
 have H0 := hid h0
 have HB0 := hid hb0
 clear ht hO h0 hb0 hval
 go_enter Tryd.func5, Tryd.ntmps5
 go_wp2_with fail
 refine (HU.out _).mono ?_
 rintro e w1 ⟨pv, rfl, hown, hb1⟩
 obtain ⟨da, dn, dc, rfl⟩ := own_sl hown
 obtain ⟨d0, d1, d2, d3, d4, d5, d6, d8, d9, d10, d11, hxd⟩ := adr_cells A da dn dc
 have hvd : adrVal A (.slice da dn dc) = .agg #[.string d0, .string d1, .string d2, .string d3, .bool d4, .int .i64 d5, .bool d6, .slice da dn dc, .string d8, .string d9, .bool d10, .bool d11] := by unfold adrVal; rw [hxd]
 rw [hvd]
 obtain ⟨W2, hW2⟩ : ∃ X, (w1.alloc (.cells #[.string d0, .string d1, .string d2, .string d3, .bool d4, .int .i64 d5, .bool d6, .slice da dn dc, .string d8, .string d9, .bool d10, .bool d11] 38)) = X := ⟨_, rfl⟩
 have hbW2 : Below w1.heap.size w1 W2 := by rw [← hW2]; exact (Below.refl _ w1).alloc (Nat.le_refl _) _
 have hsW2 : W2.heap.size = w1.heap.size + 1 := by rw [← hW2]; simp
 have hAW2 : AdrIn W2 w1.heap.size A (.slice da dn dc) := by
  unfold AdrIn
  rw [hxd, ← hW2]
  exact heap_alloc_new w1 _
 have hb12 := below2 hb1 hbW2
 have HB2 := hid (below2 HB0.out hb12)
 have H2 := hid (H0.out.kept hb12)
 have HOc := hid (HOf.out _ W2 ((own_path hown).kept hbW2))
 rw [hvd] at HOc
 obtain ⟨y0, y1, y2, y3, y4, y5, y6, y7, y8, y9, y10, y11⟩ := adr_twelve hxd hAW2
 clear hown hb1 hbW2 hAW2 hxd hvd hsW2 hb12 HU HOf
 go_wp2_with fail
 refine HOc.out.mono ?_
 rintro e w3 ⟨rfl, hb3⟩
 have HB3 := hid (below2 HB2.out hb3)
 have H3 := hid (H2.out.kept hb3)
 have ry0 := H3.out.cell 0 _ rfl
 have rz0 := H3.out.frozen 0
 have ry1 := H3.out.cell 1 _ rfl
 have rz1 := H3.out.frozen 1
 have ry2 := H3.out.cell 2 _ rfl
 have rz2 := H3.out.frozen 2
 have ry3 := H3.out.cell 3 _ rfl
 have rz3 := H3.out.frozen 3
 clear hb3 y0 y1 y2 y3 y4 y5 y6 y7 y8 y9 y10 y11
 go_wp2_with fail
 have hrg := range_row (H3.out.store (p := ⟨AS.data.toList, AH.data.toList, ap, ao⟩))
 have hbl := below_setCells (B := w.heap.size) (b := w.heap.size) (Nat.le_refl _) (orgCells ⟨AS.data.toList, AH.data.toList, ap, ao⟩) 0 _ HB3.out
 refine bodyPost_ret (results_o1 rfl _ _ w.heap.size ⟨AS.data.toList, AH.data.toList, ap, ao⟩ rfl ?_) rfl ⟨?_, ?_⟩
 ·exact hrg
 ·rfl
 ·exact hbl

theorem of18_at (S : ByteArray) (O : Org) (h : ofT S.data.toList = O) (hs : S.size ≤ 9223372036854775807) : ∀ w, Calls Tryd.prog 5 #[.string S] w fun e w' => e = .returned (orgVal O) ∧ Below w.heap.size w w' := fun w => by
 have := of18_any S w hs
 rw [h] at this
 exact this

end Go.Proofs.YtpopljcmkbchcaaDoor

namespace Go.Proofs.YtpopljcmkbchcaaDoor
open Go.RowKit

theorem chkC_a {t : List UInt8} {c : Bool} {L : List Hd} (h : getB L nAO = false) : chkC t c L = false := by unfold chkC; rw [if_pos h]

theorem chkC_b {t : List UInt8} {c : Bool} {L : List Hd} (h : getB L nAO = true) (h1 : getT L nAO = [42]) (h2 : c = false) : chkC t c L = true := by
 unfold chkC; rw [if_neg (by rw [h]; decide), if_pos ⟨h1, h2⟩]

theorem chkC_c {t : List UInt8} {c : Bool} {L : List Hd} (h : getB L nAO = true) (h1 : ¬ (getT L nAO = [42] ∧ c = false)) (h2 : ¬ getT L nAO = t) : chkC t c L = false := by
 unfold chkC; rw [if_neg (by rw [h]; decide), if_neg h1, if_neg h2]

theorem chkC_d {t : List UInt8} {c : Bool} {L : List Hd} (h : getB L nAO = true) (h1 : ¬ (getT L nAO = [42] ∧ c = false)) (h2 : getT L nAO = t) : chkC t c L = (!c || getT L nAC == tTru) := by
 unfold chkC; rw [if_neg (by rw [h]; decide), if_neg h1, if_pos h2]

def OrgOk (o : Org) : Prop := o.scheme.length ≤ 1000000 ∧ o.host.length ≤ 1000000 ∧ (o.opq = false → 0 ≤ o.port ∧ o.port ≤ 65535)

theorem tx_ne {S T : ByteArray} (h : ¬ S.data.toList = T.data.toList) : (S == T) = false ∧ (S.toList == T.toList) = false ∧ (S.data.toList == T.data.toList) = false := by
 refine ⟨?_, ?_, ?_⟩
 ·cases hb : S == T
  ·rfl
  ·exfalso; apply h; have := eq_of_beq (α := Array UInt8) (show (S.data == T.data) = true from hb); rw [this]
 ·rw [Lib.toList_data, Lib.toList_data, beq_eq_false_iff_ne]; exact h
 ·rw [beq_eq_false_iff_ne]; exact h

set_option maxHeartbeats 8000000 in
set_option maxRecDepth 100000 in
theorem check18_any (o : Org) (c : Bool) (v : Value) (L : List Hd) (w : World) (hg : Gd w) (ho : OrgOk o) (h : HdAt w v L) (hz : Szd 140737488351232 L) (hl : L.length ≤ 1000000) (hb : bulkV L ≤ 140737488355328) :
  Calls Tryd.prog 6 #[orgVal o, .bool c, v] w fun e w' => e = .returned (.bool (chkC (textO o) c L)) ∧ Below w.heap.size w w' := by
 have HT := hid (fun (Y : World) (hY : Below w.heap.size w Y) => textO_any o Y (hg.kept hY) ho.1 ho.2.1 ho.2.2)
 have HG1 := hid (fun (Y : World) (hY : Below w.heap.size w Y) => get_any v L ⟨nAO.toArray⟩ Y (h.kept hY) (by decide) hz hl hb)
 have HG2 := hid (fun (Y : World) (hY : Below w.heap.size w Y) => get_any v L ⟨nAC.toArray⟩ Y (h.kept hY) (by decide) hz hl hb)
 simp only [show (⟨nAO.toArray⟩ : ByteArray).data.toList = nAO from rfl] at HG1
 simp only [show (⟨nAC.toArray⟩ : ByteArray).data.toList = nAC from rfl] at HG2
 obtain ⟨a1, c1, rfl, hc1, hm1, hv1⟩ := h.view
 obtain ⟨nl, hnl⟩ : ∃ n, n = L.length := ⟨_, rfl⟩
 rw [← hnl] at HG1 HG2 ⊢
 have EA := hid (fun h => @chkC_a (textO o) c L h)
 have EB := hid (fun h h1 h2 => @chkC_b (textO o) c L h h1 h2)
 have EC := hid (fun h h1 h2 => @chkC_c (textO o) c L h h1 h2)
 have ED := hid (fun h h1 h2 => @chkC_d (textO o) c L h h1 h2)
 generalize chkC (textO o) c L = R at EA EB EC ED ⊢
 generalize getT L nAC = K at HG2 ED
 generalize getB L nAC = kb at HG2
 generalize getT L nAO = G at HG1 EB EC ED
 generalize getB L nAO = gb at HG1 EA EB EC ED
 obtain ⟨X, rfl⟩ : ∃ X : ByteArray, G = X.data.toList := ⟨⟨G.toArray⟩, rfl⟩
 obtain ⟨Y, rfl⟩ : ∃ X : ByteArray, K = X.data.toList := ⟨⟨K.toArray⟩, rfl⟩
 generalize textO o = U at HT EC ED
 obtain ⟨P, rfl⟩ : ∃ X : ByteArray, U = X.data.toList := ⟨⟨U.toArray⟩, rfl⟩
 simp only [Lib.mk_data] at HG1 HG2 HT
 obtain ⟨sa, ah, ap, ao⟩ := o
 obtain ⟨AS, rfl⟩ : ∃ X : ByteArray, sa = X.data.toList := ⟨⟨sa.toArray⟩, rfl⟩
 obtain ⟨AH, rfl⟩ : ∃ X : ByteArray, ah = X.data.toList := ⟨⟨ah.toArray⟩, rfl⟩
 have hval : orgVal ⟨AS.data.toList, AH.data.toList, ap, ao⟩ = .agg #[.string AS, .string AH, .int .i64 ap, .bool ao] := rfl
 rw [hval] at HT ⊢
 obtain ⟨W1, hW1⟩ : ∃ X, w.alloc (.cells #[.string AS, .string AH, .int .i64 ap, .bool ao] 25) = X := ⟨_, rfl⟩
 have hb1 : Below w.heap.size w W1 := by rw [← hW1]; exact (Below.refl _ w).alloc (Nat.le_refl _) _
 have h1 : OrgIn W1 w.heap.size ⟨AS.data.toList, AH.data.toList, ap, ao⟩ := by rw [← hW1]; exact heap_alloc_new w _
 have HB1 := hid hb1
 have HO1 := hid h1
 clear hg ho h hz hl hb hc1 hm1 hv1 hnl hval hb1 h1
 cases gb with
 | false =>
  obtain rfl : R = false := EA.out rfl
  clear EA EB EC ED
  go_enter Tryd.func6, Tryd.ntmps6
  go_wp2_with fail
  refine (HG1.out _ HB1.out).mono ?_
  rintro e w2 ⟨rfl, hb2⟩
  have HB2 := hid (below2 HB1.out hb2)
  have HO2 := hid (HO1.out.kept hb2)
  clear hb2
  go_wp2_with fail
  go_ret
  exact ⟨rfl, HB2.out⟩
 | true =>
  by_cases hs : X.data.toList = [42]
  ·cases c with
   | false =>
    obtain rfl : R = true := EB.out rfl hs rfl
    have e1 := lst_yes hs
    clear EA EB EC ED hs
    subst e1
    go_enter Tryd.func6, Tryd.ntmps6
    go_wp2_with fail
    refine (HG1.out _ HB1.out).mono ?_
    rintro e w2 ⟨rfl, hb2⟩
    have HB2 := hid (below2 HB1.out hb2)
    have HO2 := hid (HO1.out.kept hb2)
    clear hb2
    go_wp2_with fail
    go_ret
    exact ⟨rfl, HB2.out⟩
   | true =>
    have hn : ¬ (X.data.toList = [42] ∧ true = false) := fun e => by cases e.2
    have e1 := lst_yes hs
    by_cases hp : X = P
    ·have hR : R = (!true || Y.data.toList == tTru) := ED.out rfl hn (by rw [hp])
     subst hp
     clear EA EB EC ED hs hn
     subst e1
     go_enter Tryd.func6, Tryd.ntmps6
     go_wp2_with fail
     refine (HG1.out _ HB1.out).mono ?_
     rintro e w2 ⟨rfl, hb2⟩
     have HB2 := hid (below2 HB1.out hb2)
     have HO2 := hid (HO1.out.kept hb2)
     clear hb2
     have ry0 := HO2.out.cell 0 _ rfl
     have rz0 := HO2.out.frozen 0
     have ry1 := HO2.out.cell 1 _ rfl
     have rz1 := HO2.out.frozen 1
     have ry2 := HO2.out.cell 2 _ rfl
     have rz2 := HO2.out.frozen 2
     have ry3 := HO2.out.cell 3 _ rfl
     have rz3 := HO2.out.frozen 3
     go_wp2_with fail
     refine (HT.out _ HB2.out).mono ?_
     rintro e w3 ⟨rfl, hb3⟩
     have HB3 := hid (below2 HB2.out hb3)
     clear hb3 ry0 ry1 ry2 ry3 rz0 rz1 rz2 rz3
     by_cases hy : Y.data.toList = tTru
     ·obtain rfl : R = true := by rw [hR, hy]; rfl
      have e2 := lst_yes hy
      unfold tTru at e2
      clear hy hR
      subst e2
      go_wp2_with fail
      refine (HG2.out _ HB3.out).mono ?_
      rintro e w4 ⟨rfl, hb4⟩
      have HB4 := hid (below2 HB3.out hb4)
      clear hb4
      go_wp2_with fail
      go_ret
      exact ⟨rfl, HB4.out⟩
     ·obtain rfl : R = false := by rw [hR, beq_eq_false_iff_ne.2 hy]; rfl
      have e2 := lst_ne hy
      unfold tTru at e2
      clear hy hR
      go_wp2_with fail
      refine (HG2.out _ HB3.out).mono ?_
      rintro e w4 ⟨rfl, hb4⟩
      have HB4 := hid (below2 HB3.out hb4)
      clear hb4
      go_wp2_with fail
      go_ret
      exact ⟨rfl, HB4.out⟩
    ·obtain rfl : R = false := EC.out rfl hn (fun e => hp (xba e))
     have n1 := (tx_ne (S := X) (T := P) (fun e => hp (xba e))).1
     have n2 := (tx_ne (S := X) (T := P) (fun e => hp (xba e))).2.1
     have n3 := (tx_ne (S := X) (T := P) (fun e => hp (xba e))).2.2
     clear EA EB EC ED hs hn hp
     subst e1
     have n4 : (([42] : List UInt8) == P.toList) = false := by rw [Lib.toList_data]; exact n3
     go_enter Tryd.func6, Tryd.ntmps6
     go_wp2_with fail
     refine (HG1.out _ HB1.out).mono ?_
     rintro e w2 ⟨rfl, hb2⟩
     have HB2 := hid (below2 HB1.out hb2)
     have HO2 := hid (HO1.out.kept hb2)
     clear hb2
     have ry0 := HO2.out.cell 0 _ rfl
     have rz0 := HO2.out.frozen 0
     have ry1 := HO2.out.cell 1 _ rfl
     have rz1 := HO2.out.frozen 1
     have ry2 := HO2.out.cell 2 _ rfl
     have rz2 := HO2.out.frozen 2
     have ry3 := HO2.out.cell 3 _ rfl
     have rz3 := HO2.out.frozen 3
     go_wp2_with fail
     refine (HT.out _ HB2.out).mono ?_
     rintro e w3 ⟨rfl, hb3⟩
     have HB3 := hid (below2 HB2.out hb3)
     clear hb3 ry0 ry1 ry2 ry3 rz0 rz1 rz2 rz3
     go_wp2_with fail
     go_ret
     exact ⟨rfl, HB3.out⟩
  ·have hn : ¬ (X.data.toList = [42] ∧ c = false) := fun e => hs e.1
   have n0 := lst_ne hs
   by_cases hp : X = P
   ·have hR : R = (!c || Y.data.toList == tTru) := ED.out rfl hn (by rw [hp])
    subst hp
    clear EA EB EC ED hs hn
    go_enter Tryd.func6, Tryd.ntmps6
    go_wp2_with fail
    refine (HG1.out _ HB1.out).mono ?_
    rintro e w2 ⟨rfl, hb2⟩
    have HB2 := hid (below2 HB1.out hb2)
    have HO2 := hid (HO1.out.kept hb2)
    clear hb2
    have ry0 := HO2.out.cell 0 _ rfl
    have rz0 := HO2.out.frozen 0
    have ry1 := HO2.out.cell 1 _ rfl
    have rz1 := HO2.out.frozen 1
    have ry2 := HO2.out.cell 2 _ rfl
    have rz2 := HO2.out.frozen 2
    have ry3 := HO2.out.cell 3 _ rfl
    have rz3 := HO2.out.frozen 3
    go_wp2_with fail
    refine (HT.out _ HB2.out).mono ?_
    rintro e w3 ⟨rfl, hb3⟩
    have HB3 := hid (below2 HB2.out hb3)
    clear hb3 ry0 ry1 ry2 ry3 rz0 rz1 rz2 rz3
    cases c with
    | false =>
     obtain rfl : R = true := by rw [hR]; rfl
     clear hR
     go_wp2_with fail
     refine (HG2.out _ HB3.out).mono ?_
     rintro e w4 ⟨rfl, hb4⟩
     have HB4 := hid (below2 HB3.out hb4)
     clear hb4
     go_wp2_with fail
     go_ret
     exact ⟨rfl, HB4.out⟩
    | true =>
     by_cases hy : Y.data.toList = tTru
     ·obtain rfl : R = true := by rw [hR, hy]; rfl
      have e2 := lst_yes hy
      unfold tTru at e2
      clear hy hR
      subst e2
      go_wp2_with fail
      refine (HG2.out _ HB3.out).mono ?_
      rintro e w4 ⟨rfl, hb4⟩
      have HB4 := hid (below2 HB3.out hb4)
      clear hb4
      go_wp2_with fail
      go_ret
      exact ⟨rfl, HB4.out⟩
     ·obtain rfl : R = false := by rw [hR, beq_eq_false_iff_ne.2 hy]; rfl
      have e2 := lst_ne hy
      unfold tTru at e2
      clear hy hR
      go_wp2_with fail
      refine (HG2.out _ HB3.out).mono ?_
      rintro e w4 ⟨rfl, hb4⟩
      have HB4 := hid (below2 HB3.out hb4)
      clear hb4
      go_wp2_with fail
      go_ret
      exact ⟨rfl, HB4.out⟩
   ·obtain rfl : R = false := EC.out rfl hn (fun e => hp (xba e))
    have n1 := (tx_ne (S := X) (T := P) (fun e => hp (xba e))).1
    have n2 := (tx_ne (S := X) (T := P) (fun e => hp (xba e))).2.1
    have n3 := (tx_ne (S := X) (T := P) (fun e => hp (xba e))).2.2
    clear EA EB EC ED hs hn hp
    go_enter Tryd.func6, Tryd.ntmps6
    go_wp2_with fail
    refine (HG1.out _ HB1.out).mono ?_
    rintro e w2 ⟨rfl, hb2⟩
    have HB2 := hid (below2 HB1.out hb2)
    have HO2 := hid (HO1.out.kept hb2)
    clear hb2
    have ry0 := HO2.out.cell 0 _ rfl
    have rz0 := HO2.out.frozen 0
    have ry1 := HO2.out.cell 1 _ rfl
    have rz1 := HO2.out.frozen 1
    have ry2 := HO2.out.cell 2 _ rfl
    have rz2 := HO2.out.frozen 2
    have ry3 := HO2.out.cell 3 _ rfl
    have rz3 := HO2.out.frozen 3
    go_wp2_with fail
    refine (HT.out _ HB2.out).mono ?_
    rintro e w3 ⟨rfl, hb3⟩
    have HB3 := hid (below2 HB2.out hb3)
    clear hb3 ry0 ry1 ry2 ry3 rz0 rz1 rz2 rz3
    go_wp2_with fail
    go_ret
    exact ⟨rfl, HB3.out⟩

end Go.Proofs.YtpopljcmkbchcaaDoor

namespace Go.Proofs.YtpopljcmkbchcaaDoor
open Go.RowKit

def nAllow : List UInt8 := [65, 99, 99, 101, 115, 115, 45, 67, 111, 110, 116, 114, 111, 108, 45, 65, 108, 108, 111, 119, 45, 79, 114, 105, 103, 105, 110]

def AlP (s : List UInt8) (w : World) (e : Ending) (w' : World) : Prop :=
 ∃ a c, e = .returned (.slice a 1 c) ∧ w'.ownsRow w.heap.size 35 2 (.slice a 1 c) 1 (cellsH [⟨nAllow, s⟩]) ∧ Below w.heap.size w w'

theorem AlP.hd {s : List UInt8} {w w' : World} {a : Option Addr} {c : Nat} (h : w'.ownsRow w.heap.size 35 2 (.slice a 1 c) 1 (cellsH [⟨nAllow, s⟩])) : HdAt w' (.slice a 1 c) [⟨nAllow, s⟩] := own_hd h

theorem allow18_any (S : ByteArray) (w : World) : Calls Tryd.prog 20 #[.string S] w (AlP S.data.toList w) := by
 have h1 := World.ownsRow_lit (base := w.heap.size) (e := 35) (size := 2) w #[.string (⟨#[65, 99, 99, 101, 115, 115, 45, 67, 111, 110, 116, 114, 111, 108, 45, 65, 108, 108, 111, 119, 45, 79, 114, 105, 103, 105, 110]⟩ : ByteArray), .string S] 1 (Nat.le_refl _) (by decide) rfl
 have H1 := hid h1
 have HB := hid ((Below.refl w.heap.size w).alloc (Nat.le_refl _) (.cells #[.string (⟨#[65, 99, 99, 101, 115, 115, 45, 67, 111, 110, 116, 114, 111, 108, 45, 65, 108, 108, 111, 119, 45, 79, 114, 105, 103, 105, 110]⟩ : ByteArray), .string S] 35))
 clear h1
 go_enter Tryd.func20, Tryd.ntmps20
 go_wp2
 go_ret
 refine ⟨_, _, rfl, ?_, HB.out⟩
 have e : cellsH [⟨nAllow, S.data.toList⟩] = [.string (⟨#[65, 99, 99, 101, 115, 115, 45, 67, 111, 110, 116, 114, 111, 108, 45, 65, 108, 108, 111, 119, 45, 79, 114, 105, 103, 105, 110]⟩ : ByteArray), .string S] := by
  rw [cellsH_one]
  show [Value.string ⟨nAllow.toArray⟩, Value.string ⟨S.data.toList.toArray⟩] = _
  rw [Lib.mk_data]
  rfl
 rw [e]
 exact H1.out

theorem method18_at (S : ByteArray) (T : List UInt8) (b : Bool) (h1 : methT S.data.toList = T) (h2 : methB S.data.toList = b) (hs : S.size ≤ 1000000) : ∀ w, Calls Tryd.prog 8 #[.string S] w fun e w' => e = .returned (.tuple #[.string ⟨T.toArray⟩, .bool b]) ∧ Below w.heap.size w w' := fun w => by
 have := method18_any S w hs
 unfold MePost at this
 rw [h1, h2] at this
 exact this

theorem szd_all {n : Nat} {L : List Hd} (h : (L.all fun x => decide (x.name.length ≤ n) && decide (x.value.length ≤ n)) = true) : Szd n L := fun x hx => by
 have := List.all_eq_true.1 h x hx
 rw [Bool.and_eq_true, decide_eq_true_eq, decide_eq_true_eq] at this
 exact this

theorem check18_at (o : Org) (c : Bool) (L : List Hd) (r : Bool) (hr : chkC (textO o) c L = r) (ho : OrgOk o) (hz : (L.all fun x => decide (x.name.length ≤ 10000) && decide (x.value.length ≤ 10000)) = true) (hl : L.length ≤ 1000) :
  ∀ (v : Value) (w : World), Gd w → HdAt w v L → Calls Tryd.prog 6 #[orgVal o, .bool c, v] w fun e w' => e = .returned (.bool r) ∧ Below w.heap.size w w' := fun v w hg h => by
 have hs := szd_all hz
 have hb := hs.bulk
 have hm : (10000 + 2) * L.length ≤ 10002 * 1000 := Nat.mul_le_mul_left _ hl
 have := check18_any o c v L w hg ho h (hs.mono (by decide)) (by omega) (by omega)
 rw [hr] at this
 exact this

theorem orgOk_of {o : Org} (h : (decide (o.scheme.length ≤ 1000000) && decide (o.host.length ≤ 1000000) && (o.opq || (decide (0 ≤ o.port) && decide (o.port ≤ 65535)))) = true) : OrgOk o := by
 simp only [Bool.and_eq_true, Bool.or_eq_true, decide_eq_true_eq] at h
 refine ⟨h.1.1, h.1.2, fun ho => ?_⟩
 rcases h.2 with h2 | h2
 ·rw [ho] at h2; cases h2
 ·exact h2

theorem kn18_1 : chkC (textO (ofT [104, 116, 116, 112, 115, 58, 47, 47, 97])) true [⟨nAllow, [42]⟩] = false := by decide +kernel

theorem kn18_2 : chkC (textO (ofT [104, 116, 116, 112, 115, 58, 47, 47, 97])) false [⟨nAllow, [42]⟩] = true := by decide +kernel

theorem kn18_3 : OrgOk (ofT [104, 116, 116, 112, 115, 58, 47, 47, 97]) := orgOk_of (by decide +kernel)

set_option maxHeartbeats 8000000 in
set_option maxRecDepth 100000 in
theorem known18_any (w : World) (hg : Gd w) : Calls Tryd.prog 10 #[] w fun e w' => e = .returned (.bool true) ∧ Below w.heap.size w w' := by
 have HM1 := hid (method18_at (⟨#[112, 79, 115, 116]⟩ : ByteArray) [80, 79, 83, 84] true (by decide) (by decide) (by decide))
 have HM2 := hid (method18_at (⟨#[112, 97, 116, 99, 104]⟩ : ByteArray) [112, 97, 116, 99, 104] true (by decide) (by decide) (by decide))
 have HM3 := hid (method18_at (⟨#[84, 82, 65, 67, 69]⟩ : ByteArray) [] false (by decide) (by decide) (by decide))
 have HO := hid (of18_at (⟨#[104, 116, 116, 112, 115, 58, 47, 47, 97]⟩ : ByteArray) _ rfl (by decide))
 have k1 := kn18_1
 have k2 := kn18_2
 have k3 := kn18_3
 generalize ofT (⟨#[104, 116, 116, 112, 115, 58, 47, 47, 97]⟩ : ByteArray).data.toList = O at *
 have HC1 := hid (check18_at O true [⟨nAllow, [42]⟩] false k1 k3 (by decide) (by decide))
 have HC2 := hid (check18_at O false [⟨nAllow, [42]⟩] true k2 k3 (by decide) (by decide))
 have HA := hid (fun w => allow18_any (⟨#[42]⟩ : ByteArray) w)
 have HG := hid hg
 clear k1 k2 k3 hg
 go_enter Tryd.func10, Tryd.ntmps10
 go_wp2_with fail
 refine (HM1.out _).mono ?_
 rintro e w1 ⟨rfl, hb⟩
 have HB1 := hid (below2 (Below.refl w.heap.size w) hb)
 clear hb
 go_wp2_with fail
 refine (HM2.out _).mono ?_
 rintro e w2 ⟨rfl, hb⟩
 have HB2 := hid (below2 HB1.out hb)
 clear hb
 go_wp2_with fail
 refine (HM3.out _).mono ?_
 rintro e w3 ⟨rfl, hb⟩
 have HB3 := hid (below2 HB2.out hb)
 clear hb
 go_wp2_with fail
 refine (HO.out _).mono ?_
 rintro e w4 ⟨rfl, hb⟩
 have HB4 := hid (below2 HB3.out hb)
 clear hb
 go_wp2_with fail
 refine (HA.out _).mono ?_
 rintro e w5 ⟨a1, c1, rfl, hown, hb⟩
 have HB5 := hid (below2 HB4.out hb)
 have HH1 := hid (own_hd hown)
 clear hown
 clear hb
 go_wp2_with fail
 refine (HC1.out _ _ (HG.out.kept HB5.out) HH1.out).mono ?_
 rintro e w6 ⟨rfl, hb⟩
 have HB6 := hid (below2 HB5.out hb)
 clear hb
 go_wp2_with fail
 refine (HO.out _).mono ?_
 rintro e w7 ⟨rfl, hb⟩
 have HB7 := hid (below2 HB6.out hb)
 clear hb
 go_wp2_with fail
 refine (HA.out _).mono ?_
 rintro e w8 ⟨a2, c2, rfl, hown, hb⟩
 have HB8 := hid (below2 HB7.out hb)
 have HH2 := hid (own_hd hown)
 clear hown
 clear hb
 go_wp2_with fail
 refine (HC2.out _ _ (HG.out.kept HB8.out) HH2.out).mono ?_
 rintro e w9 ⟨rfl, hb⟩
 have HB9 := hid (below2 HB8.out hb)
 clear hb
 go_wp2_with fail
 go_ret
 exact ⟨rfl, HB9.out⟩

end Go.Proofs.YtpopljcmkbchcaaDoor

namespace Go.Proofs.YtpopljcmkbchcaaDoor
theorem hexD_facts : ∀ k, k < 16 → is16I (hexD k).toNat = true ∧ val16I (hexD k).toNat = k := by decide +kernel

theorem unpct_esc (c : UInt8) (r : List UInt8) : unpct (esc c ++ r) = c :: unpct r := by
 have hc := c.toNat_lt
 have h1 := hexD_facts (c.toNat / 16) (by omega)
 have h2 := hexD_facts (c.toNat % 16) (by omega)
 have e : pcd (37 :: hexD (c.toNat / 16) :: hexD (c.toNat % 16) :: r) = (c, true) := by
  rw [pcd_three, h1.1, h2.1, h1.2, h2.2]
  simp only [Bool.and_self, if_true]
  congr 1
  apply UInt8.toNat_inj.1
  simp
  omega
 show unpct (37 :: (hexD (c.toNat / 16) :: hexD (c.toNat % 16) :: r)) = _
 rw [unpct_cons, e]
 rfl

end Go.Proofs.YtpopljcmkbchcaaDoor

namespace Go.Proofs.YtpopljcmkbchcaaDoor
theorem is16_5 (c : UInt8) (h : is16I c.toNat = true) : inSetI c.toNat 5 = false := by
 have := u8_all (P := fun c => !is16I c.toNat || !inSetI c.toNat 5) (by decide +kernel) c
 simp only [Bool.or_eq_true, Bool.not_eq_true'] at this
 rcases this with h' | h'
 ·rw [h] at h'; cases h'
 ·exact h'

theorem is16_37 : is16I (37 : UInt8).toNat = false := by decide

theorem pct_cons (k : Int) (c : UInt8) (l : List UInt8) : pct k (c :: l) = pct1 k c ++ pct k l := rfl

theorem pct1_in {k : Int} {c : UInt8} (h : inSetI c.toNat k = true) : pct1 k c = [37, hexD (c.toNat / 16), hexD (c.toNat % 16)] := by unfold pct1; rw [if_pos h]; rfl

theorem pct1_out {k : Int} {c : UInt8} (h : inSetI c.toNat k = false) : pct1 k c = [c] := by unfold pct1; rw [h]; rfl

theorem unpct_ne {c : UInt8} {l : List UInt8} (h : c ≠ 37) : unpct (c :: l) = c :: unpct l := by rw [unpct_cons, pcd_other l c h]; rfl

theorem unpct_37_no {l : List UInt8} (h : pcd (37 :: l) = (37, false)) : unpct (37 :: l) = 37 :: unpct l := by
 rw [unpct_cons, h]; rfl

theorem unpct_pct5 : ∀ (n : Nat) (p : List UInt8), p.length ≤ n → unpct (pct 5 p) = unpct p := by
 intro n
 induction n with
 | zero =>
  intro p h
  have : p = [] := List.eq_nil_of_length_eq_zero (by omega)
  subst this; rfl
 | succ n ih =>
  intro p h
  match p, h with
  | [], _ => rfl
  | c :: l, h =>
   have hl : l.length ≤ n := by simp at h; omega
   by_cases hc : inSetI c.toNat 5 = true
   ·have hne : c ≠ 37 := fun e => by subst e; exact absurd hc (by decide)
    rw [pct_cons]
    unfold pct1
    rw [if_pos hc, unpct_esc, ih l hl, unpct_ne hne]
   ·have hc' : inSetI c.toNat 5 = false := by simpa using hc
    rw [pct_cons, pct1_out hc', List.singleton_append]
    by_cases h37 : c = 37
    ·subst h37
     by_cases hb : ∃ a b r, l = a :: b :: r ∧ (is16I a.toNat && is16I b.toNat) = true
     ·obtain ⟨a, b, r, rfl, hab⟩ := hb
      have hab' := hab
      rw [Bool.and_eq_true] at hab'
      rw [pct_cons, pct1_out (is16_5 a hab'.1), pct_cons, pct1_out (is16_5 b hab'.2), List.singleton_append, List.singleton_append]
      rw [unpct_cons, unpct_cons, pcd_three, pcd_three, hab]
      simp only [if_true]
      rw [List.drop_succ_cons, List.drop_succ_cons, List.drop_zero, List.drop_succ_cons, List.drop_succ_cons, List.drop_zero, ih r (by simp at hl; omega)]
     ·have h1 : pcd (37 :: l) = (37, false) := by
       match l, hb with
       | [], _ => exact pcd_short [] 37 (by simp)
       | [a], _ => exact pcd_short [a] 37 (by simp)
       | a :: b :: r, hb =>
        rw [pcd_three, if_neg (fun e => hb ⟨a, b, r, rfl, e⟩)]
      have h2 : pcd (37 :: pct 5 l) = (37, false) := by
       match l, hb with
       | [], _ => exact pcd_short [] 37 (by simp)
       | a :: l', hb =>
        by_cases ha : inSetI a.toNat 5 = true
        ·rw [pct_cons, pct1_in ha]
         show pcd (37 :: 37 :: hexD (a.toNat / 16) :: (hexD (a.toNat % 16) :: pct 5 l')) = _
         rw [pcd_three, is16_37, Bool.false_and]; rfl
        ·have ha' : inSetI a.toNat 5 = false := by simpa using ha
         rw [pct_cons, pct1_out ha', List.singleton_append]
         match l', hb with
         | [], _ => exact pcd_short [a] 37 (by simp)
         | b :: r, hb =>
          by_cases hbs : inSetI b.toNat 5 = true
          ·rw [pct_cons, pct1_in hbs]
           show pcd (37 :: a :: 37 :: (hexD (b.toNat / 16) :: hexD (b.toNat % 16) :: pct 5 r)) = _
           rw [pcd_three, is16_37, Bool.and_false]; rfl
          ·have hb' : inSetI b.toNat 5 = false := by simpa using hbs
           rw [pct_cons, pct1_out hb', List.singleton_append, pcd_three, if_neg (fun e => hb ⟨a, b, r, rfl, e⟩)]
      rw [unpct_37_no h1, unpct_37_no h2, ih l hl]
    ·rw [unpct_ne h37, unpct_ne h37, ih l hl]

theorem dots_pct5 (p : List UInt8) : dotsV (pct 5 p) = dotsV p := by
 unfold dotsV
 rw [unpct_pct5 p.length p (Nat.le_refl _)]

def Part2 (p : List UInt8) : Prop := dotsV p = 0 ∧ pct 5 p = p ∧ 47 ∉ p

theorem pathL_back : ∀ (L out : List (List UInt8)), (∀ p ∈ L, Part2 p) → pathL out L = out ++ L
 | [], out, _ => by rw [pathL, List.append_nil]
 | [p], out, h => by
  have hp := h p (by simp)
  rw [pathL_last, stepP0 hp.1, hp.2.1]
 | p :: q :: r, out, h => by
  have hp := h p (by simp)
  rw [pathL_more out p (q :: r) (by simp), stepP0 hp.1, hp.2.1, pathL_back (q :: r) _ fun x hx => h x (by simp [hx])]
  simp

theorem cut_back : ∀ (p : List UInt8) (L : List (List UInt8)), 47 ∉ p → (∀ q ∈ L, Part2 q) → cutL 47 (p ++ L.flatMap (fun q => 47 :: q)) = p :: L
 | p, [], hp, _ => by rw [List.flatMap_nil, List.append_nil, cutL_none 47 p hp]
 | p, q :: L, hp, h => by
  rw [List.flatMap_cons, List.cons_append, cutL_some 47 p _ hp, cut_back q L (h q (by simp)).2.2 fun x hx => h x (by simp [hx])]

theorem path_back (sp : Bool) (L : List (List UInt8)) (h : ∀ p ∈ L, Part2 p) (hsp : sp = true → L ≠ []) : pathV sp [] (L.flatMap (fun q => 47 :: q)) = L := by
 cases L with
 | nil =>
  cases sp with
  | true => exact absurd rfl (hsp rfl)
  | false => rfl
 | cons p L =>
  unfold pathV
  rw [if_neg (by simp), List.flatMap_cons]
  have : over1 (47 :: p ++ L.flatMap (fun q => 47 :: q)) = p ++ L.flatMap (fun q => 47 :: q) := by simp [over1]
  rw [this, cut_back p L (h p (by simp)).2.2 (fun x hx => h x (by simp [hx])), pathL_back _ _ h, List.nil_append]



theorem text6_gen (P : UInt8 → Bool) (h58 : P 58 = true) (hd : ∀ n < 16, P (digC n) = true) : ∀ (x : List Nat), ∀ c ∈ text6 x, P c = true := by
 have hN : ∀ (f n : Nat) (acc : List UInt8), (∀ c ∈ acc, P c = true) → ∀ c ∈ digsN 16 f n acc, P c = true := by
  intro f
  induction f with
  | zero => intro n acc h; exact h
  | succ f ih =>
   intro n acc h
   rw [digsN]
   split
   ·intro c hc
    rcases List.mem_cons.1 hc with rfl | hc
    ·exact hd n (by omega)
    ·exact h c hc
   ·refine ih _ _ fun c hc => ?_
    rcases List.mem_cons.1 hc with rfl | hc
    ·exact hd _ (Nat.mod_lt _ (by omega))
    ·exact h c hc
 have hj : ∀ (x : List Nat), ∀ c ∈ joined x, P c = true := by
  intro x
  induction x with
  | nil => rw [joined_nil]; simp
  | cons a l ih =>
   cases l with
   | nil => rw [joined_one]; exact hN 4 a [] (by simp)
   | cons b l =>
    rw [joined_cons]
    intro c hc
    rcases List.mem_append.1 hc with hc | hc
    ·exact hN 4 a [] (by simp) c hc
    ·rcases List.mem_append.1 hc with hc | hc
     ·obtain rfl := List.mem_singleton.1 hc; exact h58
     ·exact ih c hc
 intro x
 unfold text6
 split
 ·exact hj x
 ·intro c hc
  rcases List.mem_append.1 hc with hc | hc
  ·exact hj _ c hc
  ·rcases List.mem_append.1 hc with hc | hc
   ·rcases List.mem_cons.1 hc with rfl | hc
    ·exact h58
    ·obtain rfl := List.mem_singleton.1 hc; exact h58
   ·exact hj _ c hc

def HostCol (h : List UInt8) : Prop := (∀ c ∈ h, c ≠ 58 ∧ c ≠ 91) ∨ ∃ t, h = 91 :: (t ++ [93]) ∧ 93 ∉ t

theorem dec8_gen (n : Nat) (h : n < 256) : ∀ c ∈ dec8 n, c ≠ 58 ∧ c ≠ 91 := by
 have : ∀ n < 256, ∀ c ∈ dec8 n, c ≠ 58 ∧ c ≠ 91 := by decide +kernel
 exact this n h

theorem host_col {l a : List UInt8} {b : Bool} (h : parseV l b = some a) : HostCol a := by
 unfold parseV at h
 split at h
 ·unfold bracketV at h
  split at h
  ·cases hs : sixV (Lib.trimSuffix (l.drop 1) [93]) with
   | none => rw [hs] at h; cases h
   | some x =>
    rw [hs] at h
    simp only [Option.map_some, Option.some.injEq] at h
    refine .inr ⟨text6 x, h.symm, fun e => ?_⟩
    have := text6_gen (fun c => c != 93) (by decide) (by decide +kernel) x 93 e
    exact absurd this (by decide)
  ·cases h
 ·split at h
  ·unfold nameV at h
   split at h
   ·cases h
   ·rename_i hn
    split at h
    ·cases hf : fourV (low (unpct l)) with
     | none => rw [hf] at h; cases h
     | some n =>
      rw [hf] at h
      simp only [Option.map_some, Option.some.injEq] at h
      rw [← h]
      refine .inl fun c hc => ?_
      have hm : ∀ k : Nat, k % 256 < 256 := fun k => Nat.mod_lt _ (by decide)
      unfold text4 at hc
      rcases List.mem_append.1 hc with hc | hc
      ·exact dec8_gen _ (hm _) c hc
      ·rcases List.mem_cons.1 hc with rfl | hc
       ·decide
       ·rcases List.mem_append.1 hc with hc | hc
        ·exact dec8_gen _ (hm _) c hc
        ·rcases List.mem_cons.1 hc with rfl | hc
         ·decide
         ·rcases List.mem_append.1 hc with hc | hc
          ·exact dec8_gen _ (hm _) c hc
          ·rcases List.mem_cons.1 hc with rfl | hc
           ·decide
           ·exact dec8_gen _ (hm _) c hc
    ·simp only [Option.some.injEq] at h
     rw [← h]
     refine .inl fun c hc => ?_
     have hall : allN (low (unpct l)) = true := by
      cases he : allN (low (unpct l)) with
      | true => rfl
      | false => exact absurd (.inr (.inl he)) hn
     have h1 := List.all_eq_true.1 hall c hc
     constructor
     ·rintro rfl; exact absurd h1 (by decide)
     ·rintro rfl; exact absurd h1 (by decide)
  ·unfold otherV at h
   split at h
   ·cases h
   ·rename_i hn
    simp only [Option.some.injEq] at h
    have hf := pct_forb l (by simpa using hn)
    rw [h] at hf
    refine .inl fun c hc => ?_
    have h1 : forb c = false := by
     cases he : forb c with
     | false => rfl
     | true => rw [List.any_eq_true.2 ⟨c, hc, he⟩] at hf; cases hf
    constructor
    ·rintro rfl; exact absurd h1 (by decide)
    ·rintro rfl; exact absurd h1 (by decide)

theorem colN_true : ∀ (t r : List UInt8) (i k : Nat), 93 ∉ t → colN true i k (t ++ 93 :: r) = colN false (i + t.length + 1) k r
 | [], r, i, k, _ => by rw [List.nil_append, colN, if_pos rfl]; rfl
 | c :: t, r, i, k, h => by
  rw [List.cons_append, colN, if_neg (fun e => h (by rw [e]; simp)), colN_true t r (i + 1) k fun e => h (by simp [e])]
  congr 1
  simp; omega

theorem col_host (h pt : List UInt8) (hc : HostCol h) (hp : pt = [] ∨ ∃ t, pt = 58 :: t ∧ ∀ c ∈ t, c ≠ 58 ∧ c ≠ 91) : colV (h ++ pt) = h.length := by
 have key : ∀ (i k : Nat), (pt = [] → colN false i k pt = k) ∧ (pt ≠ [] → colN false i k pt = i) := by
  intro i k
  rcases hp with rfl | ⟨t, rfl, ht⟩
  ·exact ⟨fun _ => rfl, fun e => absurd rfl e⟩
  ·refine ⟨fun e => (by cases e), fun _ => ?_⟩
   rw [colN, if_pos rfl, colN_plain t _ _ ht]
 rcases hc with hc | ⟨t, rfl, ht⟩
 ·rcases hp with rfl | ⟨t, rfl, ht⟩
  ·rw [List.append_nil, colV, colN_plain h _ _ hc]
  ·rw [colV, colN_at11 h t 0 _ hc ht, Nat.zero_add]
 ·unfold colV
  rw [List.cons_append, colN, if_neg (by decide), if_pos rfl, List.append_assoc, List.singleton_append, colN_true t pt _ _ ht]
  by_cases he : pt = []
  ·(rw [(key _ _).1 he, he]) <;> (try simp)
  ·(rw [(key _ _).2 he]) <;> (try simp) <;> (try omega)

end Go.Proofs.YtpopljcmkbchcaaDoor

namespace Go.Proofs.YtpopljcmkbchcaaDoor
theorem pct_keep (k : Int) (P : UInt8 → Bool) (h37 : P 37 = true) (hh : ∀ n < 16, P (hexD n) = true) (l : List UInt8) (hl : ∀ c ∈ l, P c = true) : ∀ c ∈ pct k l, P c = true := by
 intro c hc
 unfold pct at hc
 obtain ⟨d, hd, hc⟩ := List.mem_flatMap.1 hc
 unfold pct1 at hc
 split at hc
 ·unfold esc at hc
  rcases List.mem_cons.1 hc with rfl | hc
  ·exact h37
  ·rcases List.mem_cons.1 hc with rfl | hc
   ·exact hh _ (by have := d.toNat_lt; omega)
   ·obtain rfl := List.mem_singleton.1 hc
    exact hh _ (Nat.mod_lt _ (by omega))
 ·obtain rfl := List.mem_singleton.1 hc
  exact hl _ hd

theorem pct_no (k : Int) (x : UInt8) (hx : x ≠ 37) (hh : ∀ n < 16, hexD n ≠ x) (l : List UInt8) (hl : x ∉ l) : x ∉ pct k l := fun e => by
 have := pct_keep k (fun c => c != x) (by simpa using hx.symm) (fun n hn => by simpa using hh n hn) l (fun c hc => by simp; intro e2; exact hl (e2 ▸ hc)) x e
 simp at this

theorem hexD_no : (∀ n < 16, hexD n ≠ 47) ∧ (∀ n < 16, hexD n ≠ 92) ∧ (∀ n < 16, hexD n ≠ 63) ∧ (∀ n < 16, hexD n ≠ 35) := by decide +kernel

theorem cutL_mem : ∀ (n : Nat) (l : List UInt8), l.length ≤ n → ∀ q ∈ cutL 47 l, 47 ∉ q ∧ ∀ c ∈ q, c ∈ l := by
 intro n
 induction n with
 | zero =>
  intro l h q hq
  have : l = [] := List.eq_nil_of_length_eq_zero (by omega)
  subst this
  rw [cutL_none 47 [] (by simp)] at hq
  obtain rfl := List.mem_singleton.1 hq
  exact ⟨by simp, by simp⟩
 | succ n ih =>
  intro l h q hq
  by_cases h47 : 47 ∈ l
  ·obtain ⟨a, r, rfl, ha⟩ : ∃ a r, l = a ++ 47 :: r ∧ 47 ∉ a := by
    obtain ⟨a, r, e, ha⟩ := List.eq_append_cons_of_mem h47
    exact ⟨a, r, e, ha⟩
   rw [cutL_some 47 a r ha] at hq
   rcases List.mem_cons.1 hq with rfl | hq
   ·exact ⟨ha, fun c hc => by simp [hc]⟩
   ·obtain ⟨h1, h2⟩ := ih r (by simp at h; omega) q hq
    exact ⟨h1, fun c hc => by simp [h2 c hc]⟩
  ·rw [cutL_none 47 l h47] at hq
   obtain rfl := List.mem_singleton.1 hq
   exact ⟨h47, fun c hc => hc⟩

theorem stepP_mem {out : List (List UInt8)} {p : List UInt8} {mo : Bool} {q : List UInt8} (h : q ∈ stepP out p mo) : q ∈ out ∨ q = [] ∨ (q = pct 5 p ∧ dotsV p = 0) := by
 rcases dotsV_cases p with h0 | h0 | h0
 ·rw [stepP0 h0] at h
  rcases List.mem_append.1 h with h | h
  ·exact .inl h
  ·exact .inr (.inr ⟨List.mem_singleton.1 h, h0⟩)
 ·cases mo with
  | true => rw [stepP1 h0] at h; exact .inl h
  | false =>
   rw [stepP1' h0] at h
   rcases List.mem_append.1 h with h | h
   ·exact .inl h
   ·exact .inr (.inl (List.mem_singleton.1 h))
 ·cases mo with
  | true => rw [stepP2 h0] at h; exact .inl (List.dropLast_subset _ h)
  | false =>
   rw [stepP2' h0] at h
   rcases List.mem_append.1 h with h | h
   ·exact .inl (List.dropLast_subset _ h)
   ·exact .inr (.inl (List.mem_singleton.1 h))

theorem pathL_mem : ∀ (L out : List (List UInt8)) (q : List UInt8), q ∈ pathL out L → q ∈ out ∨ q = [] ∨ ∃ r ∈ L, q = pct 5 r ∧ dotsV r = 0
 | [], out, q, h => by rw [pathL] at h; exact .inl h
 | [p], out, q, h => by
  rw [pathL_last] at h
  rcases stepP_mem h with h | h | h
  ·exact .inl h
  ·exact .inr (.inl h)
  ·exact .inr (.inr ⟨p, by simp, h⟩)
 | p :: q' :: r, out, q, h => by
  rw [pathL_more out p (q' :: r) (by simp)] at h
  rcases pathL_mem (q' :: r) _ q h with h | h | ⟨x, hx, h⟩
  ·rcases stepP_mem h with h | h | h
   ·exact .inl h
   ·exact .inr (.inl h)
   ·exact .inr (.inr ⟨p, by simp, h⟩)
  ·exact .inr (.inl h)
  ·exact .inr (.inr ⟨x, by simp at hx ⊢; exact .inr hx, h⟩)

theorem part2_nil : Part2 [] := ⟨dots0.1, dots0.2, by simp⟩

theorem pathV_parts (sp : Bool) (l : List UInt8) (q : List UInt8) (h : q ∈ pathV sp [] l) : Part2 q ∧ (92 ∉ l → 92 ∉ q) := by
 unfold pathV at h
 split at h
 ·simp at h
 ·rcases pathL_mem _ _ q h with h | rfl | ⟨r, hr, rfl, hd⟩
  ·simp at h
  ·exact ⟨part2_nil, fun _ => by simp⟩
  ·obtain ⟨h1, h2⟩ := cutL_mem _ _ (Nat.le_refl _) r hr
   refine ⟨⟨by rw [dots_pct5]; exact hd, pct_idem 5 r, pct_no 5 47 (by decide) hexD_no.1 r h1⟩, fun h92 => pct_no 5 92 (by decide) hexD_no.2.1 r fun e => h92 ?_⟩
   have := h2 92 e
   unfold over1 at this
   split at this
   ·simp at this
   ·split at this
    ·simp [this]
    ·exact this

end Go.Proofs.YtpopljcmkbchcaaDoor
