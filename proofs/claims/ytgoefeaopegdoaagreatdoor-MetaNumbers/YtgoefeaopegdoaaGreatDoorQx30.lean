/-
  Walks and plain facts that this claim leans on, put together out of 4 texts: Ezf, Ezg, Ezh, Dz.
-/
import Derived.Test.YtgoefeaopegdoaaGreatDoorProg
import Derived.Test.YtgoefeaopegdoaaGreatDoorTie
import Derived.Test.YtgoefeaopegdoaaGreatDoorQx1
import Derived.Test.YtgoefeaopegdoaaGreatDoorQx2
import Derived.Test.YtgoefeaopegdoaaGreatDoorQx3
import Derived.Test.YtgoefeaopegdoaaGreatDoorQx6
import Derived.Test.YtgoefeaopegdoaaGreatDoorQx7
import Derived.Test.YtgoefeaopegdoaaGreatDoorQx8
import Derived.Test.YtgoefeaopegdoaaGreatDoorQx10
import Derived.Test.YtgoefeaopegdoaaGreatDoorQx11
import Derived.Test.YtgoefeaopegdoaaGreatDoorQx12
import Derived.Test.YtgoefeaopegdoaaGreatDoorQx17
import Derived.Test.YtgoefeaopegdoaaGreatDoorQx21
import Derived.Test.YtgoefeaopegdoaaGreatDoorQx23
import Derived.Test.YtgoefeaopegdoaaGreatDoorQx24
import Derived.Test.YtgoefeaopegdoaaGreatDoorQx25
import Derived.Test.YtgoefeaopegdoaaGreatDoorQx26
import Derived.Test.YtgoefeaopegdoaaGreatDoorQx27
import Derived.Test.YtgoefeaopegdoaaGreatDoorQx28
import Derived.Test.YtgoefeaopegdoaaGreatDoorQx29
import Derived.Deep.Cut
import Derived.Deep.QuietTactic
import Derived.BigQuiet
import Derived.BigRegion
import Derived.Deep.RegionHeld
import Derived.Lib.IndexMore
import Derived.Lib.Join
import Derived.Lib.LastIndexByte
import Derived.WalkKit
import Derived.Lib.Strings
import Derived.Lib.UnsafeStr
import Derived.Laws.IdiomStrings
import Derived.Laws.AppendOwn
import Derived.Laws.BitsAllLaws
import Derived.Lib.Bytealg
import Derived.Lib.BufferMore
import Derived.Lib.BufferRead
import Derived.Lib.RuneBytes
import Derived.Laws.RangeAny
import Derived.LoopN
import Derived.RegionTactic
import Derived.Deep.RegionWith
import Derived.OwnWalk
import Derived.Deep.RegionLaw
import Derived.Laws.OwnMore
import Derived.Deep.LoopGhost
import Derived.Shelf.Strings.Builder1
import Derived.Shelf.Strings.Builder2
import Derived.Shelf.Strings.OnBuilder
import Derived.Shelf.Strings.Trim
import Derived.Shelf.Small.Utf8
import Derived.Shelf.Small.Bits
import Derived.Shelf.Small.Strs
import Derived.Shelf.Small.Wraps
import Derived.Shelf.Strings.BuilderF
import Derived.Shelf.Strings.BuilderK
import Derived.Shelf.Strings.BuilderRune
import Derived.Shelf.Utf8.AppendRune
import Derived.Shelf.Utf8.AppendRunePlain
import Derived.Shelf.Strings.Builder2Cap
import Derived.Shelf.Strconv.Itoa0
import Derived.Shelf.Strconv.Itoa1
import Derived.Shelf.LaysM
import Derived.Shelf.Strconv.Itoa2
import Derived.Shelf.Strconv.Itoa3
import Derived.Shelf.Strings.Search1
import Derived.Shelf.Strings.Search2
import Derived.Shelf.Strings.Search3
import Derived.Shelf.Strings.Cut
import Derived.Shelf.Strings.Count
import Derived.Shelf.Strings.Shaped
import Derived.Shelf.Strings.LastIndex
import Derived.Shelf.Strings.Prefix
import Derived.Shelf.Strings.Split
import Derived.Shelf.Strings.Replace
import Derived.Shelf.Strings.Runes
import Derived.Shelf.Strings.IndexAny
import Derived.Shelf.Strings.AsciiSet
import Derived.Shelf.Strings.IndexAnyAll
import Derived.Shelf.Unicode.DecodeSlow
import Derived.Ground.Names2Prog
import Derived.Shelf.Slices.Clone
import Derived.Shelf.Slices.In.SortNone
import Derived.Ground.SlgnProg
import Derived.Shelf.SlicesE.Clone
import Derived.Laws.AppendOwnNone
import Derived.Scope
import Derived.ScopeJumps
import Derived.WalkMore
import Derived.Lib.IndexAny
import Derived.Lib.Replace
import Derived.Lib.TrimByte
import Derived.Lib.ItoaNum
import Derived.Lib.DecodeN
import Derived.Lib.OthersKept
import Derived.Laws.BytesString
import Derived.Deep.WholeRow
import Derived.Lib.AppendStr
import Derived.WalkSpells
import Derived.WalkLawsBesides
import Derived.Lib.AppendIntMem
import Derived.Lib.SmallJoins
import Derived.WalkSmall
import Derived.Laws.CopyOwn
import Derived.Laws.ResultCell
import Derived.Deep.MidRow
import Derived.Lib.FrozenHead2
import Derived.Lib.Builder
import Derived.Lib.SlTrimSet
import Derived.Below
import Derived.Shelf.Strings.SlTrimAscii
import Derived.Laws.Runes
import Derived.Stop.LaidErr
import Derived.LaidMore
set_option linter.unusedSimpArgs false
set_option linter.unusedVariables false

namespace Go.Proofs.YtgoefeaopegdoaaGreatDoor
open Go.RowKit

def nCorp : List UInt8 := [99, 114, 111, 115, 115, 45, 111, 114, 105, 103, 105, 110, 45, 114, 101, 115, 111, 117, 114, 99, 101, 45, 112, 111, 108, 105, 99, 121]

def tSO : List UInt8 := [115, 97, 109, 101, 45, 111, 114, 105, 103, 105, 110]

def tSS : List UInt8 := [115, 97, 109, 101, 45, 115, 105, 116, 101]

def shaV15 (H : List Hd) (o : Org) (u : Adr) : Bool := if getT H nCorp = tSO then sameO o (orgV u) else if getT H nCorp = tSS then ssV o (orgV u) else true

set_option maxHeartbeats 8000000 in
set_option maxRecDepth 100000 in
theorem shares15_any (v : Value) (H : List Hd) (o : Org) (u : Adr) (pv : Value) (w : World) (hg : Gd w) (hv : HdAt w v H) (hz : Szd 140737488351232 H) (hl : H.length ≤ 1000000) (hbk : bulkV H ≤ 1000000000) (hp : PathAt w pv u.path) (ht : TrOk u) (ho : SiteOk o) :
  Calls Tryz.prog 19 #[v, orgVal o, adrVal u pv] w fun e w' => e = .returned (.bool (shaV15 H o u)) ∧ Below w.heap.size w w' := by
 obtain ⟨da, dn, dc, rfl⟩ := path_sl hp
 obtain ⟨d0, d1, d2, d3, d4, d5, d6, d8, d9, d10, d11, hxd⟩ := adr_cells u da dn dc
 have hvd : adrVal u (.slice da dn dc) = .agg #[.string d0, .string d1, .string d2, .string d3, .bool d4, .int .i64 d5, .bool d6, .slice da dn dc, .string d8, .string d9, .bool d10, .bool d11] := by unfold adrVal; rw [hxd]
 obtain ⟨oS, oH, oP, oQ, hvo, hxo⟩ := org_named (o)
 rw [hvo, hvd]
 obtain ⟨W1, hW1⟩ : ∃ X, (w.alloc (.cells #[.string oS, .string oH, .int .i64 oP, .bool oQ] 28)) = X := ⟨_, rfl⟩
 have hbW1 : Below w.heap.size w W1 := by rw [← hW1]; exact (Below.refl _ w).alloc (Nat.le_refl _) _
 have hsW1 : W1.heap.size = w.heap.size + 1 := by rw [← hW1]; simp
 have hOW1 : OrgIn W1 w.heap.size (o) := by
  unfold OrgIn
  rw [hxo, ← hW1]
  exact heap_alloc_new w _
 obtain ⟨W2, hW2⟩ : ∃ X, (W1.alloc (.cells #[.string d0, .string d1, .string d2, .string d3, .bool d4, .int .i64 d5, .bool d6, .slice da dn dc, .string d8, .string d9, .bool d10, .bool d11] 34)) = X := ⟨_, rfl⟩
 have hbW2 : Below W1.heap.size W1 W2 := by rw [← hW2]; exact (Below.refl _ W1).alloc (Nat.le_refl _) _
 have hsW2 : W2.heap.size = W1.heap.size + 1 := by rw [← hW2]; simp
 have hAW2 : AdrIn W2 W1.heap.size u (.slice da dn dc) := by
  unfold AdrIn
  rw [hxd, ← hW2]
  exact heap_alloc_new W1 _
 have hb2 := below2 hbW1 hbW2
 have HB2 := hid hb2
 have HG2 := hid (hg.kept hb2)
 have HP2 := hid (hp.kept hb2)
 have HO2 := hid (hOW1.kept hbW2)
 have HA2 := hid hAW2
 have HXo := hid hxo
 have HXd := hid hxd
 have HVo := hid hvo
 have HVd := hid hvd
 have HGt := hid (get_any v H (⟨#[99, 114, 111, 115, 115, 45, 111, 114, 105, 103, 105, 110, 45, 114, 101, 115, 111, 117, 114, 99, 101, 45, 112, 111, 108, 105, 99, 121]⟩ : ByteArray) W2 (hv.kept hb2) (by decide) hz hl (by omega))
 rw [show (⟨#[99, 114, 111, 115, 115, 45, 111, 114, 105, 103, 105, 110, 45, 114, 101, 115, 111, 117, 114, 99, 101, 45, 112, 111, 108, 105, 99, 121]⟩ : ByteArray).data.toList = nCorp from rfl] at HGt
 obtain ⟨T, hT⟩ : ∃ T : ByteArray, T = ⟨(getT H nCorp).toArray⟩ := ⟨_, rfl⟩
 obtain ⟨tb, htb⟩ : ∃ q, getB H nCorp = q := ⟨_, rfl⟩
 rw [← hT, htb] at HGt
 have hTl : T.data.toList = getT H nCorp := by rw [hT]
 obtain ⟨q1, e1⟩ : ∃ q, (T.toList == [115, 97, 109, 101, 45, 111, 114, 105, 103, 105, 110]) = q := ⟨_, rfl⟩
 obtain ⟨q2, e2⟩ : ∃ q, (T.toList == [115, 97, 109, 101, 45, 115, 105, 116, 101]) = q := ⟨_, rfl⟩
 obtain ⟨OA, hOA⟩ : ∃ O, orgV u = O := ⟨_, rfl⟩
 have HV := hid (show shaV15 H o u = if q1 then sameO o OA else if q2 then ssV o OA else true by
  unfold shaV15
  rw [← hTl, ← e1, ← e2, Lib.toList_data, hOA]
  simp only [beq_iff_eq]
  rfl)
 obtain ⟨bS, bH, bP, bQ, hvb, hxb⟩ := org_named (OA)
 have HOf := hid (fun (Z : World) (hZ : Below W2.heap.size W2 Z) => of_any u (.slice da dn dc) Z (HG2.out.kept hZ) (HP2.out.kept hZ) ht.1 ht.2.1)
 unfold OfPost at HOf
 rw [hvd, hOA, hvb] at HOf
 have HSm := hid (fun (Z : World) (hZ : Below W2.heap.size W2 Z) => same4_any o OA Z)
 have HSs := hid (fun (Z : World) (hZ : Below W2.heap.size W2 Z) => ss_any o OA Z (HG2.out.kept hZ) ho (by rw [← hOA]; exact siteU15 ht))
 rw [hvo, hvb] at HSm HSs
 generalize sameO o OA = r1 at HSm HV
 generalize ssV o OA = r2 at HSs HV
 obtain ⟨a9, c9, rfl, _, _, _⟩ := hv.view
 have HRo := hid (show ∀ Z, Below W2.heap.size W2 Z → Z.rangeAt (w.heap.size) 0 [.string oS, .string oH, .int .i64 oP, .bool oQ] from fun Z hZ => by
  have := range_row (show Z.heap[w.heap.size]? = some (.cells (orgCells (o)).toArray 28 (0, 0)) from HO2.out.kept hZ)
  rw [HXo.out] at this
  exact this)
 have HRd := hid (show ∀ Z, Below W2.heap.size W2 Z → Z.rangeAt (W1.heap.size) 0 [.string d0, .string d1, .string d2, .string d3, .bool d4, .int .i64 d5, .bool d6, .slice da dn dc, .string d8, .string d9, .bool d10, .bool d11] from fun Z hZ => by
  have := range_row (show Z.heap[W1.heap.size]? = some (.cells (adrCells u (.slice da dn dc)).toArray 34 (0, 0)) from HA2.out.kept hZ)
  rw [HXd.out] at this
  exact this)
 rw [HV.out]
 clear hg hv hz hl hbk hp ht ho hxd hvd hxo hvo hbW1 hsW1 hOW1 hbW2 hsW2 hAW2 hb2 hT hTl htb hOA hxb hvb HV
 go_enter Tryz.func19, Tryz.ntmps19
 go_wp2_with fail
 refine HGt.out.mono ?_
 rintro e w3 ⟨rfl, hb3⟩
 have HB3 := hid hb3
 clear hb3
 cases q1 with
 | true =>
  go_upto_region 4 with fail
  have HQ0 := hid ((Below.refl w3.heap.size w3).drew)
  have HRo3 := hid (fun (Z : World) (hZ : Below w3.heap.size w3 Z) => HRo.out Z (below2 HB3.out hZ))
  have HRd3 := hid (fun (Z : World) (hZ : Below w3.heap.size w3 Z) => HRd.out Z (below2 HB3.out hZ))
  have HOf3 := hid (fun (Z : World) (hZ : Below w3.heap.size w3 Z) => HOf.out Z (below2 HB3.out hZ))
  have HSm3 := hid (fun (Z : World) (hZ : Below w3.heap.size w3 Z) => HSm.out Z (below2 HB3.out hZ))
  refine wp_region_held_drew (S := (fun wx => Below w3.heap.size w3 wx)) (by kernel_rfl) HQ0.out (fun hHeld => ?_)
  refine wpAnyH_to (fuel' := 5) (listed' := #[false, false, false, false, false]) rfl rfl ?_
  refine wpAnyH_take (i := 0) (oi := ⟨some 17, _, _, _, _, _⟩) rfl (by kernel_rfl) (by kernel_rfl) (by kernel_rfl) (fun _ _ _ h => h) (yieldsIf_load_mid (by kernel_rfl) 28 (.tmp 4) rfl (w.heap.size) 0 rfl [.string oS, .string oH, .int .i64 oP, .bool oQ] _ HRo3.out Tryz.underlying28 rfl sizeO) (by assumption) ?_
  (try simp only [Act.put, List.setIfInBounds_toArray, List.set_cons_zero, List.set_cons_succ])
  refine wpAnyH_take (i := 1) (oi := ⟨some 18, _, _, _, _, _⟩) rfl (by kernel_rfl) (by kernel_rfl) (by kernel_rfl) (fun _ _ _ h => h) (yieldsIf_load_mid (by kernel_rfl) 34 (.tmp 5) rfl (W1.heap.size) 0 rfl [.string d0, .string d1, .string d2, .string d3, .bool d4, .int .i64 d5, .bool d6, .slice da dn dc, .string d8, .string d9, .bool d10, .bool d11] _ HRd3.out Tryz.underlying34 rfl sizeU) (by assumption) ?_
  (try simp only [Act.put, List.setIfInBounds_toArray, List.set_cons_zero, List.set_cons_succ])
  refine wpAnyH_ready (rs := [2]) (by kernel_rfl) (by simp) ?_
  refine AllReadyH.cons rfl (fun K9 hK => ?_) AllReadyH.nil
  rw [if_pos (by kernel_rfl)]
  go_simp
  go_wp2_with (go_at_call 71; refine (HOf3.out _ HQ0.out).mono ?_; rintro e w4 ⟨rfl, hba⟩)
  have HQ4 := hid (below2 HQ0.out hba)
  clear hba
  refine hK.out _ _ HQ4.out (fun hHeld2 => ?_)
  clear hK K9 hHeld
  rename _ => hHeld
  refine wpAnyH_ready (rs := [3]) (by kernel_rfl) (by simp) ?_
  refine AllReadyH.cons rfl (fun K9 hK => ?_) AllReadyH.nil
  rw [if_pos (by kernel_rfl)]
  go_simp
  go_wp2_with (go_at_call 36; refine (HSm3.out _ HQ4.out).mono ?_; rintro e w5 ⟨rfl, hba⟩)
  have HQ5 := hid (below2 HQ4.out hba)
  clear hba
  refine hK.out _ _ HQ5.out (fun hHeld2 => ?_)
  clear hK K9 hHeld
  rename _ => hHeld
  refine' wpAnyH_take (i := 4) (oi := ⟨some 6, _, _, _, _, _⟩) (v := _) rfl (by kernel_rfl) (by kernel_rfl) (by kernel_rfl) (fun _ _ _ h => h) (Or.inl ⟨by kernel_rfl, ?hys01⟩) (by assumption) ?rests01
  case hys01 => (intro wx hSw; (try dsimp only at hSw); go_simp; first | done | with_reducible rfl)
  (try simp only [Act.put, List.setIfInBounds_toArray, List.set_cons_zero, List.set_cons_succ])
  refine wpAnyH_done (by kernel_rfl) ?_ _
  go_wp2
  go_ret
  exact ⟨ret_bool (by simp), below2 HB2.out (below2 HB3.out HQ5.out)⟩
 | false =>
  cases q2 with
  | true =>
   go_upto_region 6 with fail
   have HQ0 := hid ((Below.refl w3.heap.size w3).drew)
   have HRo3 := hid (fun (Z : World) (hZ : Below w3.heap.size w3 Z) => HRo.out Z (below2 HB3.out hZ))
   have HRd3 := hid (fun (Z : World) (hZ : Below w3.heap.size w3 Z) => HRd.out Z (below2 HB3.out hZ))
   have HOf3 := hid (fun (Z : World) (hZ : Below w3.heap.size w3 Z) => HOf.out Z (below2 HB3.out hZ))
   have HSs3 := hid (fun (Z : World) (hZ : Below w3.heap.size w3 Z) => HSs.out Z (below2 HB3.out hZ))
   refine wp_region_held_drew (S := (fun wx => Below w3.heap.size w3 wx)) (by kernel_rfl) HQ0.out (fun hHeld => ?_)
   refine wpAnyH_to (fuel' := 5) (listed' := #[false, false, false, false, false]) rfl rfl ?_
   refine wpAnyH_take (i := 0) (oi := ⟨some 23, _, _, _, _, _⟩) rfl (by kernel_rfl) (by kernel_rfl) (by kernel_rfl) (fun _ _ _ h => h) (yieldsIf_load_mid (by kernel_rfl) 28 (.tmp 4) rfl (w.heap.size) 0 rfl [.string oS, .string oH, .int .i64 oP, .bool oQ] _ HRo3.out Tryz.underlying28 rfl sizeO) (by assumption) ?_
   (try simp only [Act.put, List.setIfInBounds_toArray, List.set_cons_zero, List.set_cons_succ])
   refine wpAnyH_take (i := 1) (oi := ⟨some 24, _, _, _, _, _⟩) rfl (by kernel_rfl) (by kernel_rfl) (by kernel_rfl) (fun _ _ _ h => h) (yieldsIf_load_mid (by kernel_rfl) 34 (.tmp 5) rfl (W1.heap.size) 0 rfl [.string d0, .string d1, .string d2, .string d3, .bool d4, .int .i64 d5, .bool d6, .slice da dn dc, .string d8, .string d9, .bool d10, .bool d11] _ HRd3.out Tryz.underlying34 rfl sizeU) (by assumption) ?_
   (try simp only [Act.put, List.setIfInBounds_toArray, List.set_cons_zero, List.set_cons_succ])
   refine wpAnyH_ready (rs := [2]) (by kernel_rfl) (by simp) ?_
   refine AllReadyH.cons rfl (fun K9 hK => ?_) AllReadyH.nil
   rw [if_pos (by kernel_rfl)]
   go_simp
   go_wp2_with (go_at_call 71; refine (HOf3.out _ HQ0.out).mono ?_; rintro e w4 ⟨rfl, hba⟩)
   have HQ4 := hid (below2 HQ0.out hba)
   clear hba
   refine hK.out _ _ HQ4.out (fun hHeld2 => ?_)
   clear hK K9 hHeld
   rename _ => hHeld
   refine wpAnyH_ready (rs := [3]) (by kernel_rfl) (by simp) ?_
   refine AllReadyH.cons rfl (fun K9 hK => ?_) AllReadyH.nil
   rw [if_pos (by kernel_rfl)]
   go_simp
   go_wp2_with (go_at_call 37; refine (HSs3.out _ HQ4.out).mono ?_; rintro e w5 ⟨rfl, hba⟩)
   have HQ5 := hid (below2 HQ4.out hba)
   clear hba
   refine hK.out _ _ HQ5.out (fun hHeld2 => ?_)
   clear hK K9 hHeld
   rename _ => hHeld
   refine' wpAnyH_take (i := 4) (oi := ⟨some 6, _, _, _, _, _⟩) (v := _) rfl (by kernel_rfl) (by kernel_rfl) (by kernel_rfl) (fun _ _ _ h => h) (Or.inl ⟨by kernel_rfl, ?hys11⟩) (by assumption) ?rests11
   case hys11 => (intro wx hSw; (try dsimp only at hSw); go_simp; first | done | with_reducible rfl)
   (try simp only [Act.put, List.setIfInBounds_toArray, List.set_cons_zero, List.set_cons_succ])
   refine wpAnyH_done (by kernel_rfl) ?_ _
   go_wp2
   go_ret
   exact ⟨ret_bool (by simp), below2 HB2.out (below2 HB3.out HQ5.out)⟩
  | false =>
   go_wp2_with fail
   go_ret
   exact ⟨ret_bool (by simp), below2 HB2.out HB3.out⟩

end Go.Proofs.YtgoefeaopegdoaaGreatDoor

namespace Go.Proofs.YtgoefeaopegdoaaGreatDoor
open Go.RowKit

theorem one_read (s : List UInt8) : (adrOf (readV s none)).scheme = sBlob → (adrOf (readV s none)).opq = true → ∃ x, (adrOf (readV s none)).path = [x] := by
 cases hr : readV s none with
 | ok v =>
  intro _ h
  exact read_one hr h
 | error e => intro h; exact absurd (show Adr.zero.scheme = sBlob from h) (by decide)

set_option maxHeartbeats 8000000 in
set_option maxRecDepth 100000 in
theorem of15_any (S : ByteArray) (w : World) (hs : S.size ≤ 9223372036854775807) :
  Calls Tryz.prog 18 #[.string S] w fun e w' => e = .returned (orgVal (ofT S.data.toList)) ∧ Below w.heap.size w w' := by
 have HU := hid (fun w => url_k S w hs)
 have ht : TrOk (adrOf (urlV S.data.toList)) := tr_read _
 have HOf := hid (fun (pv : Value) (X : World) (hp : PathAt X pv (adrOf (urlV S.data.toList)).path) => rof4_any (adrOf (urlV S.data.toList)) pv X hp ht (one_read _))
 unfold ofT
 generalize urlV S.data.toList = ru at HU HOf ⊢
 unfold UPost at HU
 unfold OfPost at HOf
 generalize adrOf ru = A at HU HOf ⊢
 obtain ⟨O, hO⟩ : ∃ O, orgV A = O := ⟨_, rfl⟩
 rw [hO] at HOf ⊢
 obtain ⟨sa, ah, ap, ao⟩ := O
 obtain ⟨AS, rfl⟩ : ∃ X : ByteArray, sa = X.data.toList := ⟨⟨sa.toArray⟩, rfl⟩
 obtain ⟨AH, rfl⟩ : ∃ X : ByteArray, ah = X.data.toList := ⟨⟨ah.toArray⟩, rfl⟩
 have hval : orgVal ⟨AS.data.toList, AH.data.toList, ap, ao⟩ = .agg #[.string AS, .string AH, .int .i64 ap, .bool ao] := rfl
 have HVal := hid hval
 rw [hval] at HOf
 have h0 : OrgIn (w.alloc (.cells (orgCells Org.nil).toArray 28)) w.heap.size Org.nil := heap_alloc_new w _
 have hb0 : Below w.heap.size w (w.alloc (.cells (orgCells Org.nil).toArray 28)) := (Below.refl _ w).alloc (Nat.le_refl _) _
 have H0 := hid h0
 have HB0 := hid hb0
 clear ht hO h0 hb0 hval
 go_enter Tryz.func18, Tryz.ntmps18
 go_wp2_with fail
 refine (HU.out _).mono ?_
 rintro e w1 ⟨pv, rfl, hown, hb1⟩
 obtain ⟨da, dn, dc, rfl⟩ := own_sl hown
 obtain ⟨d0, d1, d2, d3, d4, d5, d6, d8, d9, d10, d11, hxd⟩ := adr_cells A da dn dc
 have hvd : adrVal A (.slice da dn dc) = .agg #[.string d0, .string d1, .string d2, .string d3, .bool d4, .int .i64 d5, .bool d6, .slice da dn dc, .string d8, .string d9, .bool d10, .bool d11] := by unfold adrVal; rw [hxd]
 rw [hvd]
 obtain ⟨W2, hW2⟩ : ∃ X, (w1.alloc (.cells #[.string d0, .string d1, .string d2, .string d3, .bool d4, .int .i64 d5, .bool d6, .slice da dn dc, .string d8, .string d9, .bool d10, .bool d11] 34)) = X := ⟨_, rfl⟩
 have hbW2 : Below w1.heap.size w1 W2 := by rw [← hW2]; exact (Below.refl _ w1).alloc (Nat.le_refl _) _
 have hsW2 : W2.heap.size = w1.heap.size + 1 := by rw [← hW2]; simp
 have hAW2 : AdrIn W2 w1.heap.size A (.slice da dn dc) := by
  unfold AdrIn
  rw [hxd, ← hW2]
  exact heap_alloc_new w1 _
 have hb12 := below2 hb1 hbW2
 have HB2 := hid (below2 HB0.out hb12)
 have H2 := hid (H0.out.kept hb12)
 have HOc := hid (HOf.out _ W2 ((own_path hown).kept hbW2))
 rw [hvd] at HOc
 obtain ⟨y0, y1, y2, y3, y4, y5, y6, y7, y8, y9, y10, y11⟩ := adr_twelve hxd hAW2
 clear hown hb1 hbW2 hAW2 hxd hvd hsW2 hb12 HU HOf
 go_wp2_with fail
 refine HOc.out.mono ?_
 rintro e w3 ⟨rfl, hb3⟩
 have HB3 := hid (below2 HB2.out hb3)
 have H3 := hid (H2.out.kept hb3)
 have ry0 := H3.out.cell 0 _ rfl
 have rz0 := H3.out.frozen 0
 have ry1 := H3.out.cell 1 _ rfl
 have rz1 := H3.out.frozen 1
 have ry2 := H3.out.cell 2 _ rfl
 have rz2 := H3.out.frozen 2
 have ry3 := H3.out.cell 3 _ rfl
 have rz3 := H3.out.frozen 3
 clear hb3 y0 y1 y2 y3 y4 y5 y6 y7 y8 y9 y10 y11
 go_wp2_with fail
 have hrg := range_row (H3.out.store (p := ⟨AS.data.toList, AH.data.toList, ap, ao⟩))
 have hbl := below_setCells (B := w.heap.size) (b := w.heap.size) (Nat.le_refl _) (orgCells ⟨AS.data.toList, AH.data.toList, ap, ao⟩) 0 _ HB3.out
 refine bodyPost_ret (results_o1 rfl _ _ w.heap.size ⟨AS.data.toList, AH.data.toList, ap, ao⟩ rfl ?_) rfl ⟨?_, ?_⟩
 ·exact hrg
 ·rfl
 ·exact hbl

theorem of15_at (S : ByteArray) (O : Org) (h : ofT S.data.toList = O) (hs : S.size ≤ 9223372036854775807) : ∀ w, Calls Tryz.prog 18 #[.string S] w fun e w' => e = .returned (orgVal O) ∧ Below w.heap.size w w' := fun w => by
 have := of15_any S w hs
 rw [h] at this
 exact this

theorem tx_lit (w : World) (cs : List ByteArray) (n : Nat) (hn : cs.length = n) (h : n ≤ 1000) : TxAt (w.alloc (.cells (cs.map Value.string).toArray 9)) (.slice (some ⟨w.heap.size, 0, none⟩) n n) (cs.map (·.data.toList)) := by
 subst hn
 have hr := heap_alloc_new w (.cells (cs.map Value.string).toArray 9)
 have := tx_of (w := w.alloc (.cells (cs.map Value.string).toArray 9)) (b := w.heap.size) (off := 0) (cap := cs.length) (L := cs.map (·.data.toList)) (by simp) (by unfold maxLen; omega) (fun j hj => by
  have hj' : j < cs.length := by simpa using hj
  rw [Lib.cell_of_heap hr]
  simp [hj'])
 rw [List.length_map] at this
 exact this

theorem urls_one {s : List UInt8} (h : isOk (urlV s) = true) : urlsV [s] = [adrOf (urlV s)] := by
 have e : urlsV [s] = okU (urlV s) := by unfold urlsV urlsT; simp
 rw [e]
 cases hr : urlV s with
 | ok u => rfl
 | error z => rw [hr] at h; cases h

theorem urls_two {s t : List UInt8} (h : isOk (urlV s) = true) (h2 : isOk (urlV t) = true) : urlsV [s, t] = [adrOf (urlV s), adrOf (urlV t)] := by
 have e : urlsV [s, t] = okU (urlV s) ++ okU (urlV t) := by unfold urlsV urlsT; simp
 have e1 : okU (urlV s) = [adrOf (urlV s)] := by
  cases hr : urlV s with
  | ok u => rfl
  | error z => rw [hr] at h; cases h
 have e2 : okU (urlV t) = [adrOf (urlV t)] := by
  cases hr : urlV t with
  | ok u => rfl
  | error z => rw [hr] at h2; cases h2
 rw [e, e1, e2]; rfl

theorem ul_form {w : World} {v : Value} {P : List (Adr × Value)} {A : List Adr} {k : Nat} (h : UlAt w v P) (hm : P.map (·.1) = A) (hk : A.length = k) : ∃ a c, v = .slice a k c := by
 obtain ⟨a, c, rfl, _⟩ := h
 refine ⟨a, c, ?_⟩
 rw [← hk, ← hm, List.length_map]

theorem ul_head {w : World} {a : Option Addr} {k c : Nat} {P : List (Adr × Value)} {A : Adr} {L : List Adr} (h : UlAt w (.slice a k c) P) (hm : P.map (·.1) = A :: L) : ∃ g o pv, a = some ⟨g, o, none⟩ ∧ w.rangeAt g o (adrCells A pv) ∧ PathAt w pv A.path ∧ TrOk A := by
 obtain ⟨a', c', e, _, _, h3⟩ := h
 injection e with e1 _ _
 subst e1
 cases P with
 | nil => cases hm
 | cons p P =>
  rw [List.map_cons] at hm
  injection hm with hm _
  obtain ⟨g, o, e1, e2, e3, e4⟩ := h3 0 (by simp)
  refine ⟨g, o, p.2, e1, ?_, ?_, ?_⟩
  ·have := e2
   rw [Nat.zero_mul, Nat.add_zero, List.getElem_cons_zero, hm] at this
   exact this
  ·rw [List.getElem_cons_zero, hm] at e3; exact e3
  ·rw [List.getElem_cons_zero, hm] at e4; exact e4

theorem szd_one (n v : List UInt8) (h1 : n.length ≤ 1000) (h2 : v.length ≤ 1000) : Szd 140737488351232 [⟨n, v⟩] ∧ bulkV [⟨n, v⟩] ≤ 1000000000 := by
 refine ⟨fun h hh => ?_, ?_⟩
 ·rw [List.mem_singleton.1 hh]; exact ⟨by simp only; omega, by simp only; omega⟩
 ·show (v.length + 2 + 0) ≤ _; omega

theorem kB1 : isOk (urlV [104, 116, 116, 112, 115, 58, 47, 47, 98, 47]) = true := by decide +kernel

theorem kC1 : isOk (urlV [104, 116, 116, 112, 115, 58, 47, 47, 99, 46, 98, 46, 99, 111, 109, 47]) = true := by decide +kernel

theorem kS1 : rk15 (ofT [104, 116, 116, 112, 115, 58, 47, 47, 97, 46, 98, 46, 99, 111, 109]) [adrOf (urlV [104, 116, 116, 112, 115, 58, 47, 47, 99, 46, 98, 46, 99, 111, 109, 47])] = 1 := by decide +kernel

theorem kH1 : shaV15 [⟨tCorp, [115, 97, 109, 101, 45, 111, 114, 105, 103, 105, 110]⟩] (ofT [104, 116, 116, 112, 115, 58, 47, 47, 97]) (adrOf (urlV [104, 116, 116, 112, 115, 58, 47, 47, 98, 47])) = false := by decide +kernel

theorem kL1 : decide ((ofT [104, 116, 116, 112, 115, 58, 47, 47, 97]).host.length ≤ 1000000) = true := by decide +kernel

theorem kL2 : decide ((ofT [104, 116, 116, 112, 115, 58, 47, 47, 97, 46, 98, 46, 99, 111, 109]).host.length ≤ 1000000) = true := by decide +kernel

set_option maxHeartbeats 16000000 in
set_option maxRecDepth 100000 in
theorem known15_any (w : World) (hg : Gd w) : Calls Tryz.prog 24 #[] w fun e w' => e = .returned (.bool true) ∧ Below w.heap.size w w' := by
 have HG := hid hg
 have HU1 := hid (fun (v : Value) (Z : World) (h : TxAt Z v [[104, 116, 116, 112, 115, 58, 47, 47, 98, 47]]) => urls15_any v _ Z h (fun x hx => by rw [List.mem_singleton.1 hx]; decide))
 have HUc := hid (fun (v : Value) (Z : World) (h : TxAt Z v [[104, 116, 116, 112, 115, 58, 47, 47, 99, 46, 98, 46, 99, 111, 109, 47]]) => urls15_any v _ Z h (fun x hx => by rw [List.mem_singleton.1 hx]; decide))
 rw [urls_one kB1] at HU1
 rw [urls_one kC1] at HUc
 have HkS := hid kS1
 have hkH := kH1
 have hS1 : SiteOk (ofT [104, 116, 116, 112, 115, 58, 47, 47, 97]) := siteOk15 (of_decide_eq_true kL1)
 have hS2 : SiteOk (ofT [104, 116, 116, 112, 115, 58, 47, 47, 97, 46, 98, 46, 99, 111, 109]) := siteOk15 (of_decide_eq_true kL2)
 have HO1 := hid (of15_at (⟨#[104, 116, 116, 112, 115, 58, 47, 47, 97]⟩ : ByteArray) _ rfl (by decide))
 have HO2 := hid (of15_at (⟨#[104, 116, 116, 112, 115, 58, 47, 47, 97, 46, 98, 46, 99, 111, 109]⟩ : ByteArray) _ rfl (by decide))
 generalize ofT (⟨#[104, 116, 116, 112, 115, 58, 47, 47, 97]⟩ : ByteArray).data.toList = O1 at *
 generalize ofT (⟨#[104, 116, 116, 112, 115, 58, 47, 47, 97, 46, 98, 46, 99, 111, 109]⟩ : ByteArray).data.toList = O2 at *
 generalize adrOf (urlV [104, 116, 116, 112, 115, 58, 47, 47, 98, 47]) = A at *
 generalize adrOf (urlV [104, 116, 116, 112, 115, 58, 47, 47, 99, 46, 98, 46, 99, 111, 109, 47]) = C at *
 have HCo := hid (fun w => corp15_any (⟨#[115, 97, 109, 101, 45, 111, 114, 105, 103, 105, 110]⟩ : ByteArray) w)
 have HkH := hid hkH
 have HS1 := hid hS1
 have HS2 := hid hS2
 unfold UrPost at HU1 HUc
 clear hg hkH hS1 hS2
 go_enter Tryz.func24, Tryz.ntmps24
 go_wp2_with fail
 refine (HU1.out _ _ (tx_lit w [(⟨#[104, 116, 116, 112, 115, 58, 47, 47, 98, 47]⟩ : ByteArray)] 1 rfl (by decide))).mono ?_
 rintro e w3 ⟨bv, Pb, rfl, hmb, hulb, hb3⟩
 obtain ⟨ba, bc, rfl⟩ := ul_form hulb hmb (k := 1) rfl
 obtain ⟨bg, bo, pv, rfl, hrg, hpt, htr⟩ := ul_head hulb hmb
 have HB3 := hid (below2 ((Below.refl _ w).alloc (Nat.le_refl _) _) hb3)
 obtain ⟨da, dn, dc, rfl⟩ := path_sl hpt
 obtain ⟨d0, d1, d2, d3, d4, d5, d6, d8, d9, d10, d11, hxd⟩ := adr_cells A da dn dc
 have hvd : adrVal A (.slice da dn dc) = .agg #[.string d0, .string d1, .string d2, .string d3, .bool d4, .int .i64 d5, .bool d6, .slice da dn dc, .string d8, .string d9, .bool d10, .bool d11] := by unfold adrVal; rw [hxd]
 have HRb := hid (show ∀ Z, Below w3.heap.size w3 Z → Z.rangeAt bg bo [.string d0, .string d1, .string d2, .string d3, .bool d4, .int .i64 d5, .bool d6, .slice da dn dc, .string d8, .string d9, .bool d10, .bool d11] from fun Z hZ => by
  have := range_kept hrg hZ
  rw [hxd] at this
  exact this)
 have HSh := hid (fun (v : Value) (Z : World) (hZ : Below w3.heap.size w3 Z) (hh : HdAt Z v [⟨tCorp, [115, 97, 109, 101, 45, 111, 114, 105, 103, 105, 110]⟩]) => shares15_any v [⟨tCorp, [115, 97, 109, 101, 45, 111, 114, 105, 103, 105, 110]⟩] O1 A (.slice da dn dc) Z (HG.out.kept (below2 HB3.out hZ)) hh (szd_one _ _ (by decide) (by decide)).1 (by decide) (szd_one _ _ (by decide) (by decide)).2 (hpt.kept hZ) htr HS1.out)
 rw [hvd, HkH.out] at HSh
 have HQ0 := hid ((Below.refl w3.heap.size w3).drew)
 clear hmb hulb hb3 hrg hpt htr hxd hvd
 go_upto_region 2 with fail
 refine wp_region_held_drew (S := (fun wx => Below w3.heap.size w3 wx)) (by kernel_rfl) HQ0.out (fun hHeld => ?_)
 refine wpAnyH_to (fuel' := 20) (listed' := #[false, false, false, false, false, false, false, false, false, false, false, false, false, false, false, false, false, false, false, false]) rfl rfl ?_
 refine' wpAnyH_take (i := 0) (oi := ⟨some 4, _, _, _, _, _⟩) (v := _) rfl (by kernel_rfl) (by kernel_rfl) (by kernel_rfl) (fun _ _ _ h => h) (Or.inl ⟨by kernel_rfl, ?hyk1⟩) (by assumption) ?restk1
 case hyk1 => (intro wx hSw; (try dsimp only at hSw); go_simp; first | done | with_reducible rfl)
 (try simp only [Act.put, List.setIfInBounds_toArray, List.set_cons_zero, List.set_cons_succ])
 refine' wpAnyH_take (i := 1) (oi := ⟨some 5, _, _, _, _, _⟩) (v := _) rfl (by kernel_rfl) (by kernel_rfl) (by kernel_rfl) (fun _ _ _ h => h) (Or.inl ⟨by kernel_rfl, ?hyk2⟩) (by assumption) ?restk2
 case hyk2 => (intro wx hSw; (try dsimp only at hSw); go_simp; first | done | with_reducible rfl)
 (try simp only [Act.put, List.setIfInBounds_toArray, List.set_cons_zero, List.set_cons_succ])
 refine' wpAnyH_take (i := 2) (oi := ⟨some 6, _, _, _, _, _⟩) (v := _) rfl (by kernel_rfl) (by kernel_rfl) (by kernel_rfl) (fun _ _ _ h => h) (Or.inl ⟨by kernel_rfl, ?hyk3⟩) (by assumption) ?restk3
 case hyk3 => (intro wx hSw; (try dsimp only at hSw); go_simp; first | done | with_reducible rfl)
 (try simp only [Act.put, List.setIfInBounds_toArray, List.set_cons_zero, List.set_cons_succ])
 refine' wpAnyH_take (i := 3) (oi := ⟨some 7, _, _, _, _, _⟩) (v := _) rfl (by kernel_rfl) (by kernel_rfl) (by kernel_rfl) (fun _ _ _ h => h) (Or.inl ⟨by kernel_rfl, ?hyk4⟩) (by assumption) ?restk4
 case hyk4 => (intro wx hSw; (try dsimp only at hSw); go_simp; first | done | with_reducible rfl)
 (try simp only [Act.put, List.setIfInBounds_toArray, List.set_cons_zero, List.set_cons_succ])
 refine wpAnyH_ready (rs := [4, 5]) (by kernel_rfl) (by simp) ?_
 refine AllReadyH.cons rfl (fun K9 hK => ?_) (AllReadyH.cons rfl (fun K9 hK => ?_) AllReadyH.nil)
 ·as_aux_lemma =>
   rw [if_pos (by kernel_rfl)]
   go_simp
   go_wp2_with (go_at_call 18; refine (HO2.out _).mono ?_; rintro e w11 ⟨rfl, hba⟩)
   have HQ11 := hid (below2 HQ0.out hba)
   clear hba
   refine hK.out _ _ HQ11.out (fun hHeld2 => ?_)
   clear hK K9 hHeld
   rename _ => hHeld
   refine wpAnyH_ready (rs := [5]) (by kernel_rfl) (by simp) ?_
   refine AllReadyH.cons rfl (fun K9 hK => ?_) AllReadyH.nil
   rw [if_pos (by kernel_rfl)]
   go_simp
   have hbx := (Below.refl _ w11).alloc (Nat.le_refl _) (.cells #[.string (⟨#[104, 116, 116, 112, 115, 58, 47, 47, 99, 46, 98, 46, 99, 111, 109, 47]⟩ : ByteArray)] 9)
   have HQ12 := hid (below2 HQ11.out hbx)
   have HTb := hid (tx_lit w11 [(⟨#[104, 116, 116, 112, 115, 58, 47, 47, 99, 46, 98, 46, 99, 111, 109, 47]⟩ : ByteArray)] 1 rfl (by decide))
   clear hbx
   refine hK.out _ _ HQ12.out (fun hHeld2 => ?_)
   clear hK K9 hHeld
   rename _ => hHeld
   refine wpAnyH_ready (rs := [6]) (by kernel_rfl) (by simp) ?_
   refine AllReadyH.cons rfl (fun K9 hK => ?_) AllReadyH.nil
   rw [if_pos (by kernel_rfl)]
   go_simp
   go_wp2_with (go_at_call 16; refine (HUc.out _ _ HTb.out).mono ?_; rintro e w13 ⟨cv, Pc, rfl, hmc, hulc, hba⟩)
   have HQ13 := hid (below2 HQ12.out hba)
   obtain ⟨ca, cc, rfl⟩ := ul_form hulc hmc (k := 1) rfl
   have HSi := hid (fun (Z : World) (hZ : Below w13.heap.size w13 Z) => site15_any O2 (.slice ca 1 cc) Pc Z (HG.out.kept (below2 HB3.out (below2 HQ13.out hZ))) (hulc.kept hZ) HS2.out)
   rw [hmc, HkS.out] at HSi
   obtain ⟨SW, hSW⟩ : ∃ S, wd15 1 = S := ⟨_, rfl⟩
   rw [hSW] at HSi
   have hq1 : (SW.toList == [115, 97, 109, 101, 45, 115, 105, 116, 101]) = true := by rw [← hSW, Lib.toList_data]; decide
   clear hSW
   clear hmc hulc
   clear hba
   refine hK.out _ _ HQ13.out (fun hHeld2 => ?_)
   clear hK K9 hHeld
   rename _ => hHeld
   refine wpAnyH_ready (rs := [7]) (by kernel_rfl) (by simp) ?_
   refine AllReadyH.cons rfl (fun K9 hK => ?_) AllReadyH.nil
   rw [if_pos (by kernel_rfl)]
   go_simp
   go_wp2_with (go_at_call 21; refine (HSi.out _ (Below.refl _ _)).mono ?_; rintro e w14 ⟨rfl, hba⟩)
   have HQ14 := hid (below2 HQ13.out hba)
   clear hba
   refine hK.out _ _ HQ14.out (fun hHeld2 => ?_)
   clear hK K9 hHeld
   rename _ => hHeld
   refine' wpAnyH_take (i := 8) (oi := ⟨some 12, _, _, _, _, _⟩) (v := _) rfl (by kernel_rfl) (by kernel_rfl) (by kernel_rfl) (fun _ _ _ h => h) (Or.inl ⟨by kernel_rfl, ?hyka1⟩) (by assumption) ?restka1
   case hyka1 => (intro wx hSw; (try dsimp only at hSw); go_simp; first | done | with_reducible rfl)
   (try simp only [Act.put, List.setIfInBounds_toArray, List.set_cons_zero, List.set_cons_succ])
   refine' wpAnyH_take (i := 9) (oi := ⟨some 13, _, _, _, _, _⟩) (v := _) rfl (by kernel_rfl) (by kernel_rfl) (by kernel_rfl) (fun _ _ _ h => h) (Or.inl ⟨by kernel_rfl, ?hyka2⟩) (by assumption) ?restka2
   case hyka2 => (intro wx hSw; (try dsimp only at hSw); go_simp; first | done | with_reducible rfl)
   (try simp only [Act.put, List.setIfInBounds_toArray, List.set_cons_zero, List.set_cons_succ])
   refine' wpAnyH_take (i := 10) (oi := ⟨some 14, _, _, _, _, _⟩) (v := _) rfl (by kernel_rfl) (by kernel_rfl) (by kernel_rfl) (fun _ _ _ h => h) (Or.inl ⟨by kernel_rfl, ?hyka3⟩) (by assumption) ?restka3
   case hyka3 => (intro wx hSw; (try dsimp only at hSw); go_simp; first | done | with_reducible rfl)
   (try simp only [Act.put, List.setIfInBounds_toArray, List.set_cons_zero, List.set_cons_succ])
   refine' wpAnyH_take (i := 13) (oi := ⟨some 17, _, _, _, _, _⟩) (v := _) rfl (by kernel_rfl) (by kernel_rfl) (by kernel_rfl) (fun _ _ _ h => h) (Or.inl ⟨by kernel_rfl, ?hyka4⟩) (by assumption) ?restka4
   case hyka4 => (intro wx hSw; (try dsimp only at hSw); go_simp; first | done | with_reducible rfl)
   (try simp only [Act.put, List.setIfInBounds_toArray, List.set_cons_zero, List.set_cons_succ])
   refine' wpAnyH_take (i := 14) (oi := ⟨some 18, _, _, _, _, _⟩) (v := _) rfl (by kernel_rfl) (by kernel_rfl) (by kernel_rfl) (fun _ _ _ h => h) (Or.inl ⟨by kernel_rfl, ?hyka5⟩) (by assumption) ?restka5
   case hyka5 => (intro wx hSw; (try dsimp only at hSw); go_simp; first | done | with_reducible rfl)
   (try simp only [Act.put, List.setIfInBounds_toArray, List.set_cons_zero, List.set_cons_succ])
   refine wpAnyH_take (i := 15) (oi := ⟨some 19, _, _, _, _, _⟩) rfl (by kernel_rfl) (by kernel_rfl) (by kernel_rfl) (fun _ _ _ h => h) (yieldsIf_load_mid (by kernel_rfl) 34 (.tmp 18) rfl (bg) bo rfl [.string d0, .string d1, .string d2, .string d3, .bool d4, .int .i64 d5, .bool d6, .slice da dn dc, .string d8, .string d9, .bool d10, .bool d11] _ HRb.out Tryz.underlying34 rfl sizeU) (by assumption) ?_
   (try simp only [Act.put, List.setIfInBounds_toArray, List.set_cons_zero, List.set_cons_succ])
   refine wpAnyH_ready (rs := [11]) (by kernel_rfl) (by simp) ?_
   refine AllReadyH.cons rfl (fun K9 hK => ?_) AllReadyH.nil
   rw [if_pos (by kernel_rfl)]
   go_simp
   go_wp2_with (go_at_call 20; refine (HCo.out _).mono ?_; rintro e w15 ⟨kv, rfl, ⟨kg, rfl⟩, hkv, hba⟩)
   have HQ15 := hid (below2 HQ14.out hba)
   have HKv := hid hkv
   clear hkv
   clear hba
   refine hK.out _ _ HQ15.out (fun hHeld2 => ?_)
   clear hK K9 hHeld
   rename _ => hHeld
   refine wpAnyH_ready (rs := [12]) (by kernel_rfl) (by simp) ?_
   refine AllReadyH.cons rfl (fun K9 hK => ?_) AllReadyH.nil
   rw [if_pos (by kernel_rfl)]
   go_simp
   go_wp2_with (go_at_call 18; refine (HO1.out _).mono ?_; rintro e w16 ⟨rfl, hba⟩)
   have HQ16 := hid (below2 HQ15.out hba)
   have HKw := hid (HKv.out.kept hba)
   clear hba
   refine hK.out _ _ HQ16.out (fun hHeld2 => ?_)
   clear hK K9 hHeld
   rename _ => hHeld
   refine wpAnyH_ready (rs := [16]) (by kernel_rfl) (by simp) ?_
   refine AllReadyH.cons rfl (fun K9 hK => ?_) AllReadyH.nil
   rw [if_pos (by kernel_rfl)]
   go_simp
   go_wp2_with (go_at_call 19; refine (HSh.out _ _ HQ16.out HKw.out).mono ?_; rintro e w17 ⟨rfl, hba⟩)
   have HQ17 := hid (below2 HQ16.out hba)
   clear hba
   refine hK.out _ _ HQ17.out (fun hHeld2 => ?_)
   clear hK K9 hHeld
   rename _ => hHeld
   refine' wpAnyH_take (i := 17) (oi := ⟨some 21, _, _, _, _, _⟩) (v := _) rfl (by kernel_rfl) (by kernel_rfl) (by kernel_rfl) (fun _ _ _ h => h) (Or.inl ⟨by kernel_rfl, ?hyka6⟩) (by assumption) ?restka6
   case hyka6 => (intro wx hSw; (try dsimp only at hSw); go_simp; first | done | with_reducible rfl)
   (try simp only [Act.put, List.setIfInBounds_toArray, List.set_cons_zero, List.set_cons_succ])
   refine' wpAnyH_take (i := 18) (oi := ⟨some 22, _, _, _, _, _⟩) (v := _) rfl (by kernel_rfl) (by kernel_rfl) (by kernel_rfl) (fun _ _ _ h => h) (Or.inl ⟨by kernel_rfl, ?hyka7⟩) (by assumption) ?restka7
   case hyka7 => (intro wx hSw; (try dsimp only at hSw); go_simp; first | done | with_reducible rfl)
   (try simp only [Act.put, List.setIfInBounds_toArray, List.set_cons_zero, List.set_cons_succ])
   refine' wpAnyH_take (i := 19) (oi := ⟨some 0, _, _, _, _, _⟩) (v := _) rfl (by kernel_rfl) (by kernel_rfl) (by kernel_rfl) (fun _ _ _ h => h) (Or.inl ⟨by kernel_rfl, ?hyka8⟩) (by assumption) ?restka8
   case hyka8 => (intro wx hSw; (try dsimp only at hSw); go_simp; first | done | with_reducible rfl)
   (try simp only [Act.put, List.setIfInBounds_toArray, List.set_cons_zero, List.set_cons_succ])
   refine wpAnyH_done (by kernel_rfl) ?_ _
   go_wp2
   go_ret
   exact ⟨rfl, below2 HB3.out HQ17.out⟩
 ·as_aux_lemma =>
   rw [if_pos (by kernel_rfl)]
   go_simp
   have hbx := (Below.refl _ w3.drew).alloc (Nat.le_refl _) (.cells #[.string (⟨#[104, 116, 116, 112, 115, 58, 47, 47, 99, 46, 98, 46, 99, 111, 109, 47]⟩ : ByteArray)] 9)
   have HQ11 := hid (below2 HQ0.out hbx)
   have HTb := hid (tx_lit w3.drew [(⟨#[104, 116, 116, 112, 115, 58, 47, 47, 99, 46, 98, 46, 99, 111, 109, 47]⟩ : ByteArray)] 1 rfl (by decide))
   clear hbx
   refine hK.out _ _ HQ11.out (fun hHeld2 => ?_)
   clear hK K9 hHeld
   rename _ => hHeld
   refine wpAnyH_ready (rs := [4]) (by kernel_rfl) (by simp) ?_
   refine AllReadyH.cons rfl (fun K9 hK => ?_) AllReadyH.nil
   rw [if_pos (by kernel_rfl)]
   go_simp
   go_wp2_with (go_at_call 18; refine (HO2.out _).mono ?_; rintro e w12 ⟨rfl, hba⟩)
   have HQ12 := hid (below2 HQ11.out hba)
   have HTc := hid (HTb.out.kept hba)
   clear HTb
   rename _ => HTb
   clear hba
   refine hK.out _ _ HQ12.out (fun hHeld2 => ?_)
   clear hK K9 hHeld
   rename _ => hHeld
   refine wpAnyH_ready (rs := [6]) (by kernel_rfl) (by simp) ?_
   refine AllReadyH.cons rfl (fun K9 hK => ?_) AllReadyH.nil
   rw [if_pos (by kernel_rfl)]
   go_simp
   go_wp2_with (go_at_call 16; refine (HUc.out _ _ HTb.out).mono ?_; rintro e w13 ⟨cv, Pc, rfl, hmc, hulc, hba⟩)
   have HQ13 := hid (below2 HQ12.out hba)
   obtain ⟨ca, cc, rfl⟩ := ul_form hulc hmc (k := 1) rfl
   have HSi := hid (fun (Z : World) (hZ : Below w13.heap.size w13 Z) => site15_any O2 (.slice ca 1 cc) Pc Z (HG.out.kept (below2 HB3.out (below2 HQ13.out hZ))) (hulc.kept hZ) HS2.out)
   rw [hmc, HkS.out] at HSi
   obtain ⟨SW, hSW⟩ : ∃ S, wd15 1 = S := ⟨_, rfl⟩
   rw [hSW] at HSi
   have hq1 : (SW.toList == [115, 97, 109, 101, 45, 115, 105, 116, 101]) = true := by rw [← hSW, Lib.toList_data]; decide
   clear hSW
   clear hmc hulc
   clear hba
   refine hK.out _ _ HQ13.out (fun hHeld2 => ?_)
   clear hK K9 hHeld
   rename _ => hHeld
   refine wpAnyH_ready (rs := [7]) (by kernel_rfl) (by simp) ?_
   refine AllReadyH.cons rfl (fun K9 hK => ?_) AllReadyH.nil
   rw [if_pos (by kernel_rfl)]
   go_simp
   go_wp2_with (go_at_call 21; refine (HSi.out _ (Below.refl _ _)).mono ?_; rintro e w14 ⟨rfl, hba⟩)
   have HQ14 := hid (below2 HQ13.out hba)
   clear hba
   refine hK.out _ _ HQ14.out (fun hHeld2 => ?_)
   clear hK K9 hHeld
   rename _ => hHeld
   refine' wpAnyH_take (i := 8) (oi := ⟨some 12, _, _, _, _, _⟩) (v := _) rfl (by kernel_rfl) (by kernel_rfl) (by kernel_rfl) (fun _ _ _ h => h) (Or.inl ⟨by kernel_rfl, ?hykb1⟩) (by assumption) ?restkb1
   case hykb1 => (intro wx hSw; (try dsimp only at hSw); go_simp; first | done | with_reducible rfl)
   (try simp only [Act.put, List.setIfInBounds_toArray, List.set_cons_zero, List.set_cons_succ])
   refine' wpAnyH_take (i := 9) (oi := ⟨some 13, _, _, _, _, _⟩) (v := _) rfl (by kernel_rfl) (by kernel_rfl) (by kernel_rfl) (fun _ _ _ h => h) (Or.inl ⟨by kernel_rfl, ?hykb2⟩) (by assumption) ?restkb2
   case hykb2 => (intro wx hSw; (try dsimp only at hSw); go_simp; first | done | with_reducible rfl)
   (try simp only [Act.put, List.setIfInBounds_toArray, List.set_cons_zero, List.set_cons_succ])
   refine' wpAnyH_take (i := 10) (oi := ⟨some 14, _, _, _, _, _⟩) (v := _) rfl (by kernel_rfl) (by kernel_rfl) (by kernel_rfl) (fun _ _ _ h => h) (Or.inl ⟨by kernel_rfl, ?hykb3⟩) (by assumption) ?restkb3
   case hykb3 => (intro wx hSw; (try dsimp only at hSw); go_simp; first | done | with_reducible rfl)
   (try simp only [Act.put, List.setIfInBounds_toArray, List.set_cons_zero, List.set_cons_succ])
   refine' wpAnyH_take (i := 13) (oi := ⟨some 17, _, _, _, _, _⟩) (v := _) rfl (by kernel_rfl) (by kernel_rfl) (by kernel_rfl) (fun _ _ _ h => h) (Or.inl ⟨by kernel_rfl, ?hykb4⟩) (by assumption) ?restkb4
   case hykb4 => (intro wx hSw; (try dsimp only at hSw); go_simp; first | done | with_reducible rfl)
   (try simp only [Act.put, List.setIfInBounds_toArray, List.set_cons_zero, List.set_cons_succ])
   refine' wpAnyH_take (i := 14) (oi := ⟨some 18, _, _, _, _, _⟩) (v := _) rfl (by kernel_rfl) (by kernel_rfl) (by kernel_rfl) (fun _ _ _ h => h) (Or.inl ⟨by kernel_rfl, ?hykb5⟩) (by assumption) ?restkb5
   case hykb5 => (intro wx hSw; (try dsimp only at hSw); go_simp; first | done | with_reducible rfl)
   (try simp only [Act.put, List.setIfInBounds_toArray, List.set_cons_zero, List.set_cons_succ])
   refine wpAnyH_take (i := 15) (oi := ⟨some 19, _, _, _, _, _⟩) rfl (by kernel_rfl) (by kernel_rfl) (by kernel_rfl) (fun _ _ _ h => h) (yieldsIf_load_mid (by kernel_rfl) 34 (.tmp 18) rfl (bg) bo rfl [.string d0, .string d1, .string d2, .string d3, .bool d4, .int .i64 d5, .bool d6, .slice da dn dc, .string d8, .string d9, .bool d10, .bool d11] _ HRb.out Tryz.underlying34 rfl sizeU) (by assumption) ?_
   (try simp only [Act.put, List.setIfInBounds_toArray, List.set_cons_zero, List.set_cons_succ])
   refine wpAnyH_ready (rs := [11]) (by kernel_rfl) (by simp) ?_
   refine AllReadyH.cons rfl (fun K9 hK => ?_) AllReadyH.nil
   rw [if_pos (by kernel_rfl)]
   go_simp
   go_wp2_with (go_at_call 20; refine (HCo.out _).mono ?_; rintro e w15 ⟨kv, rfl, ⟨kg, rfl⟩, hkv, hba⟩)
   have HQ15 := hid (below2 HQ14.out hba)
   have HKv := hid hkv
   clear hkv
   clear hba
   refine hK.out _ _ HQ15.out (fun hHeld2 => ?_)
   clear hK K9 hHeld
   rename _ => hHeld
   refine wpAnyH_ready (rs := [12]) (by kernel_rfl) (by simp) ?_
   refine AllReadyH.cons rfl (fun K9 hK => ?_) AllReadyH.nil
   rw [if_pos (by kernel_rfl)]
   go_simp
   go_wp2_with (go_at_call 18; refine (HO1.out _).mono ?_; rintro e w16 ⟨rfl, hba⟩)
   have HQ16 := hid (below2 HQ15.out hba)
   have HKw := hid (HKv.out.kept hba)
   clear hba
   refine hK.out _ _ HQ16.out (fun hHeld2 => ?_)
   clear hK K9 hHeld
   rename _ => hHeld
   refine wpAnyH_ready (rs := [16]) (by kernel_rfl) (by simp) ?_
   refine AllReadyH.cons rfl (fun K9 hK => ?_) AllReadyH.nil
   rw [if_pos (by kernel_rfl)]
   go_simp
   go_wp2_with (go_at_call 19; refine (HSh.out _ _ HQ16.out HKw.out).mono ?_; rintro e w17 ⟨rfl, hba⟩)
   have HQ17 := hid (below2 HQ16.out hba)
   clear hba
   refine hK.out _ _ HQ17.out (fun hHeld2 => ?_)
   clear hK K9 hHeld
   rename _ => hHeld
   refine' wpAnyH_take (i := 17) (oi := ⟨some 21, _, _, _, _, _⟩) (v := _) rfl (by kernel_rfl) (by kernel_rfl) (by kernel_rfl) (fun _ _ _ h => h) (Or.inl ⟨by kernel_rfl, ?hykb6⟩) (by assumption) ?restkb6
   case hykb6 => (intro wx hSw; (try dsimp only at hSw); go_simp; first | done | with_reducible rfl)
   (try simp only [Act.put, List.setIfInBounds_toArray, List.set_cons_zero, List.set_cons_succ])
   refine' wpAnyH_take (i := 18) (oi := ⟨some 22, _, _, _, _, _⟩) (v := _) rfl (by kernel_rfl) (by kernel_rfl) (by kernel_rfl) (fun _ _ _ h => h) (Or.inl ⟨by kernel_rfl, ?hykb7⟩) (by assumption) ?restkb7
   case hykb7 => (intro wx hSw; (try dsimp only at hSw); go_simp; first | done | with_reducible rfl)
   (try simp only [Act.put, List.setIfInBounds_toArray, List.set_cons_zero, List.set_cons_succ])
   refine' wpAnyH_take (i := 19) (oi := ⟨some 0, _, _, _, _, _⟩) (v := _) rfl (by kernel_rfl) (by kernel_rfl) (by kernel_rfl) (fun _ _ _ h => h) (Or.inl ⟨by kernel_rfl, ?hykb8⟩) (by assumption) ?restkb8
   case hykb8 => (intro wx hSw; (try dsimp only at hSw); go_simp; first | done | with_reducible rfl)
   (try simp only [Act.put, List.setIfInBounds_toArray, List.set_cons_zero, List.set_cons_succ])
   refine wpAnyH_done (by kernel_rfl) ?_ _
   go_wp2
   go_ret
   exact ⟨rfl, below2 HB3.out HQ17.out⟩

end Go.Proofs.YtgoefeaopegdoaaGreatDoor

namespace Go.Proofs.YtgoefeaopegdoaaGreatDoor
open Go.RowKit

theorem ofT_site (s : List UInt8) : SiteOk (ofT s) := by
 unfold ofT
 exact siteU15 (tr_read _)

end Go.Proofs.YtgoefeaopegdoaaGreatDoor

namespace Go.Proofs.YtgoefeaopegdoaaGreatDoor
open Go.RowKit

def laid7 : List (String × DataW Unit) := [("math/bits.deBruijn32tab", Rows.laid_math_bits_deBruijn32tab), ("math/bits.deBruijn64tab", Rows.laid_math_bits_deBruijn64tab), ("internal/strconv.uint64pow10", Rows.laid_internal_strconv_uint64pow10), ("unicode/utf8.acceptRanges", Rows.laid_unicode_utf8_acceptRanges), ("unicode/utf8.first", Rows.laid_unicode_utf8_first)]

theorem g5_of_shaped {W : World} (hsh : W.ShapedOpen Tryz.prog) : G5 W := Tryz.laysM145.s1_3 W hsh

theorem gd7_of_laid {W : World} (h : laidMetH Tryz.prog laid7 W) (hsh : W.ShapedOpen Tryz.prog) : Gd W := by
 have h' : laidMet Tryz.prog laid7 W := h
 have h2 := h'.tail
 have h3 := h2.tail
 refine ⟨Tryz.laysM145.s1_3 W hsh, ?_, ?_⟩
 ·exact Lib.tabIs_of_head gPow10 (by kernel_rfl) Tryz.underlying269 Tryz.underlying239 (by kernel_rfl) (by kernel_rfl) h3
 ·exact Lib.tabIs_of_head gDB64 (by kernel_rfl) Tryz.underlying304 Tryz.underlying5 (by kernel_rfl) (by kernel_rfl) h2

theorem ownK : ownKnob Tryz.prog.godebug = none := by kernel_rfl

noncomputable def startW (os : Os) : World :=
 { World.doorLaid Tryz.prog 24 os with heap := (World.doorLaid Tryz.prog 24 os).heap.setIfInBounds 1 (.cells (Pinned.utf8FirstZ.map fun (n : Nat) => Value.int .u8 (n : Int)).toArray 247 (0, 0)) }

theorem door_met (os : Os) (args : Array Value) : laidMetH Tryz.prog laid7 ((startW os).forCall (fun _ _ => 0) ⟨#[], args, []⟩).memory :=
 laidMetH_of_parts3 (fuel := 8) (laidMet_of_run' 8 (by kernel_rfl) (by kernel_rfl)) (by kernel_rfl) (by kernel_rfl)

end Go.Proofs.YtgoefeaopegdoaaGreatDoor
