/-
  Walks and plain facts that this claim leans on, put together out of 2 texts: Eiw, Eiz.
-/
import Derived.Test.YtpopljcmkbchcaaDoorProg
import Derived.Test.YtpopljcmkbchcaaDoorTie
import Derived.Test.YtpopljcmkbchcaaDoorQa1
import Derived.Test.YtpopljcmkbchcaaDoorQa2
import Derived.Test.YtpopljcmkbchcaaDoorQa3
import Derived.Test.YtpopljcmkbchcaaDoorQa4
import Derived.Test.YtpopljcmkbchcaaDoorQa5
import Derived.Test.YtpopljcmkbchcaaDoorQa6
import Derived.Test.YtpopljcmkbchcaaDoorQa10
import Derived.Test.YtpopljcmkbchcaaDoorQa14
import Derived.Test.YtpopljcmkbchcaaDoorQa16
import Derived.Test.YtpopljcmkbchcaaDoorQa17
import Derived.Test.YtpopljcmkbchcaaDoorQa18
import Derived.Test.YtpopljcmkbchcaaDoorQa19
import Derived.Test.YtpopljcmkbchcaaDoorQa21
import Derived.BigRegion
import Derived.Deep.RegionHeld
import Derived.Deep.RegionHeldLaw
import Derived.Lib.IndexAny
import Derived.WalkKit
import Derived.Lib.UnsafeStr
import Derived.Lib.BufferRead
import Derived.Lib.RuneBytes
import Derived.Laws.RangeAny
import Derived.Deep.LoopGhost
import Derived.Maps.OwnSet
import Derived.Maps.OwnOps
import Derived.Maps.AppendAt
import Derived.StringKeys
import Derived.BigQuiet
import Derived.Deep.QuietTactic
import Derived.LoopN
import Derived.RegionTactic
import Derived.Deep.RegionLaw
import Derived.Deep.RegionWith
import Derived.WalkSpells
import Derived.WalkLawsBesides
import Derived.Lib.FieldsP
import Derived.Lib.DecodeN
import Derived.Lib.IndexMore
import Derived.Lib.Join
import Derived.Lib.SmallJoins
import Derived.Laws.CopyOwn
import Derived.Laws.ResultCell
import Derived.Deep.MidRow
import Derived.Laws.OwnMore
import Derived.Below
import Derived.WalkSmall
import Derived.Lib.LaidTab
import Derived.Lib.AppendIntMem
import Derived.Laws.AppendOwn
import Derived.Laws.Runes
import Derived.Lib.OthersKept
import Derived.Lib.FrozenHead2
import Derived.Lib.Builder
import Derived.Lib.AppendStr
import Derived.Lib.Replace
import Derived.Shelf.GgClosure.GivesRunes
import Derived.Laws.BitsAll
import Derived.Laws.Shifts
import Derived.Deep.DeepAppendRoom
import Derived.Laws.IdiomStrings
import Derived.Laws.BytesString
import Derived.Laws.CopyRow
import Derived.Sort.OwnSorted
import Derived.Lib.SlicesCompact
import Derived.Sort.KeysCollected
import Derived.Lib.Case
import Derived.Deep.Cut
import Derived.Deep.CutRange
import Derived.Lib.LastIndexByte
import Derived.Lib.Strings
import Derived.Laws.BitsAllLaws
import Derived.Lib.Bytealg
import Derived.Lib.BufferMore
import Derived.OwnWalk
import Derived.Shelf.Strings.Builder1
import Derived.Shelf.Strings.Builder2
import Derived.Shelf.Strings.OnBuilder
import Derived.Shelf.Small.Utf8
import Derived.Shelf.Strings.BuilderF
import Derived.Shelf.Strings.BuilderK
import Derived.Shelf.Strings.BuilderRune
import Derived.Shelf.Utf8.AppendRune
import Derived.Shelf.Utf8.AppendRunePlain
import Derived.Shelf.Strings.Builder2Cap
import Derived.Shelf.Strconv.Itoa0
import Derived.Shelf.Strconv.Itoa1
import Derived.Shelf.LaysM
import Derived.Shelf.Strconv.Itoa2
import Derived.Shelf.Strconv.Itoa3
import Derived.Shelf.Unicode.Latin
import Derived.Shelf.Unicode.Decode
import Derived.Shelf.Unicode.DecodeSlow
import Derived.Shelf.Unicode.DecodeAny
import Derived.Shelf.Unicode.CaseLookup
import Derived.Shelf.Unicode.CaseConvert
import Derived.Shelf.Unicode.CaseTo
import Derived.Shelf.Unicode.CaseLaid
import Derived.Laws.AppendOwnNone
import Derived.Scope
import Derived.ScopeJumps
import Derived.WalkMore
import Derived.Lib.TrimByte
import Derived.Lib.ItoaNum
import Derived.Deep.WholeRow
import Derived.Lib.SlTrimSet
import Derived.Shelf.Strings.SlTrimAscii
import Derived.Laws.Rows
import Derived.Laws.MakeOwn
import Derived.Stop.LaidErr
import Derived.LaidMore
import Derived.Lib.LaidCaseMet
import Derived.Deep.DeepWitnessRowRef
set_option linter.unusedSimpArgs false
set_option linter.unusedVariables false

namespace Go.Proofs.YtpopljcmkbchcaaDoor
open Go.RowKit

theorem org_named18 (o : Org) : ∃ (s h : ByteArray) (p : Int) (q : Bool), orgVal o = .agg #[.string s, .string h, .int .i64 p, .bool q] ∧ orgCells o = [.string s, .string h, .int .i64 p, .bool q] := ⟨_, _, _, _, rfl, rfl⟩

theorem load_mid_g18 {P : Program} {ops : Array Oper} {rest : List Oper} {op : Oper} {a : Act} {w : World} {Q : Exit → Act → World → Prop} (hw : Region.wanted op (yielded ops a.tmps) = true) (ty : TypeId) (x : Operand) (ho : op.op = .load ty x)
  (b o : Nat) (hx : a.eval x = .pointer (some ⟨b, o, none⟩)) (cs : List Value) (d : TypeDesc) (hc : w.rangeAt b o cs)
  (hu : P.underlying ty = some d) (hd : d.isRow = true) (hi : (P.info? ty).map (·.size) = some cs.length)
  (h : wpList P ops Q rest (a.put op.dst (.agg cs.toArray)) w) : wpList P ops Q (op :: rest) a w :=
 wpList_step fun K hK => by
  rw [if_pos hw]
  exact wp_load_mid ty x ho b o hx cs d hc hu hd hi (hK _ _ h)

theorem neT18 {T U : List UInt8} {X Y : ByteArray} (h : ¬ T = U) (hx : X = ⟨T.toArray⟩) (hy : Y = ⟨U.toArray⟩) : (X.toList == Y.toList) = false := by
 rw [Lib.toList_data, Lib.toList_data, beq_eq_false_iff_ne, hx, hy]
 exact h

theorem fewH_bulk18 (L : List Hd) (n m : Nat) (hn : n ≤ 1000) (hm : m ≤ 1000) : bulkV (fewH L n m) ≤ 2000000 := by
 have h := (fewH_szd L n m).bulk
 have h2 := fewH_len L n m
 have h3 : (m + 2) * (fewH L n m).length ≤ 1002 * 1000 := Nat.mul_le_mul (by omega) (by omega)
 omega

theorem chk_more18 {t : List UInt8} {L : List Hd} (h : chkC t true L = true) : chkC t false L = true := chk_less t L h

set_option maxHeartbeats 16000000 in
set_option maxRecDepth 100000 in
theorem corsLess_walk (s t : ByteArray) (v : Value) (L : List Hd) (m : ByteArray) (w : World) (hs : s.size ≤ 140737488351232) (ht : t.size ≤ 140737488351232) (hv : HdAt w v L) (hz : Szd maxLen L) (hm : m.size ≤ 140737488351232) (hg : Gd w) :
  Calls Tryd.prog 3 #[.string s, .string t, v, .string m] w fun e w' => e = .returned (.bool true) ∧ Below w.heap.size w w' := by
 have HFe := hid (fewHeaders_any v L 10 100 w hv hz (by decide) (by decide))
 obtain ⟨va, vc, rfl, _, _, _⟩ := hv.view
 obtain ⟨nv, hnv⟩ : ∃ n, n = L.length := ⟨_, rfl⟩
 rw [← hnv] at HFe ⊢
 have hzF := fewH_szd L 10 100
 have hlF := fewH_len L 10 100
 have hbF := fewH_bulk18 L 10 100 (by decide) (by decide)
 unfold HdPost at HFe
 generalize fewH L 10 100 = F at HFe hzF hlF hbF
 have HO1 := hid (of18_at s _ rfl (by omega))
 have HO2 := hid (of18_at t _ rfl (by omega))
 have ok1 := orgOk_any s.data.toList
 have ok2 := orgOk_any t.data.toList
 generalize ofT s.data.toList = O1 at HO1 ok1
 generalize ofT t.data.toList = O2 at HO2 ok2
 have HT1 := hid (fun (Y : World) (hY : Below w.heap.size w Y) => rtextO_any O1 Y (hg.kept hY) ok1.1 ok1.2.1 ok1.2.2)
 have HT2 := hid (fun (Y : World) (hY : Below w.heap.size w Y) => rtextO_any O2 Y (hg.kept hY) ok2.1 ok2.2.1 ok2.2.2)
 have HC := hid (fun (O : Org) (ho : OrgOk O) (c : Bool) (u : Value) (Y : World) (hY : Below w.heap.size w Y) (hu : HdAt Y u F) => check18_any O c u F Y (hg.kept hY) ho hu (hzF.mono (by decide)) (by omega) (by omega))
 have HLs := hid (fun h => @chk_more18 (textO O1) F h)
 have HOn := hid (fun h h' => chk_one (textO O1) (textO O2) F h h')
 have HC1 := hid (fun c u Y hY hu => HC.out O1 ok1 c u Y hY hu)
 have HC2 := hid (fun c u Y hY hu => HC.out O2 ok2 c u Y hY hu)
 obtain ⟨r1, hr1⟩ : ∃ r, chkC (textO O1) true F = r := ⟨_, rfl⟩
 obtain ⟨r2, hr2⟩ : ∃ r, chkC (textO O2) true F = r := ⟨_, rfl⟩
 obtain ⟨r3, hr3⟩ : ∃ r, chkC (textO O1) false F = r := ⟨_, rfl⟩
 have HC1t := hid (fun u Y hY hu => HC1.out true u Y hY hu)
 have HC1f := hid (fun u Y hY hu => HC1.out false u Y hY hu)
 have HC2t := hid (fun u Y hY hu => HC2.out true u Y hY hu)
 rw [hr1] at HC1t HOn HLs
 rw [hr2] at HC2t HOn
 rw [hr3] at HC1f HLs
 obtain ⟨T1, hT1⟩ : ∃ X : ByteArray, X = ⟨(textO O1).toArray⟩ := ⟨_, rfl⟩
 obtain ⟨T2, hT2⟩ : ∃ X : ByteArray, X = ⟨(textO O2).toArray⟩ := ⟨_, rfl⟩
 rw [← hT1] at HT1
 rw [← hT2] at HT2
 have HNe := hid (fun h => @neT18 (textO O1) (textO O2) T1 T2 h hT1 hT2)
 have HEq := hid (show textO O1 = textO O2 → T1 = T2 from fun h => by rw [hT1, hT2, h])
 generalize textO O1 = x1 at HOn HNe HEq
 generalize textO O2 = x2 at HOn HNe HEq
 have HFw := hid (fun w => few_any m 60 w (by decide) (by omega))
 have hml : (m.data.toList.take 60).length ≤ 60 := by rw [List.length_take]; omega
 obtain ⟨m0, hm0⟩ : ∃ X : ByteArray, X = ⟨(m.data.toList.take 60).toArray⟩ := ⟨_, rfl⟩
 rw [← hm0] at HFw
 have hm0s : m0.size ≤ 60 := by rw [hm0, xsize]; exact hml
 have HM1 := hid (method18_at m0 _ _ rfl rfl (by omega))
 have hmi := meth_again m0.data.toList
 have hmk := meth_len m0.data.toList
 obtain ⟨m1, hm1⟩ : ∃ X : ByteArray, X = ⟨(methT m0.data.toList).toArray⟩ := ⟨_, rfl⟩
 have hm1l : methT m0.data.toList = m1.data.toList := by rw [hm1]
 rw [← hm1] at HM1
 rw [hm1l] at hmi hmk
 rw [← Lib.size_eq, ← Lib.size_eq] at hmk
 have HM2 := hid (method18_at m1 m1.data.toList _ hmi.2 hmi.1 (by omega))
 rw [show (⟨m1.data.toList.toArray⟩ : ByteArray) = m1 from by rw [Lib.mk_data]] at HM2
 generalize methB m0.data.toList = mb at HM1 HM2
 have HK := hid (fun w hg => known18_any w hg)
 have HG := hid hg
 obtain ⟨aS, aH, aP, aQ, hva, hxa⟩ := org_named18 (O1)
 obtain ⟨bS, bH, bP, bQ, hvb, hxb⟩ := org_named18 (O2)
 rw [hva] at HO1 HT1 HC1t HC1f
 rw [hvb] at HO2 HT2 HC2t
 have HXa := hid hxa
 have HXb := hid hxb
 clear hs ht hv hz hm hg hr1 hr2 hr3 hT1 hT2 hm0 hml hm0s hm1 hm1l hmi hmk hva hvb hxa hxb ok1 ok2 hzF hlF hbF HC HC1 HC2 hnv
 go_enter Tryd.func3, Tryd.ntmps3
 go_wp2_with fail
 refine HFe.out.mono ?_
 rintro e w1 ⟨u, rfl, hown, hb1⟩
 have HHd := hid (own_hd hown)
 obtain ⟨ua, un, uc, rfl⟩ := ownsRow_slice hown
 have HB1 := hid hb1
 clear hown hb1 HFe
 go_wp2_with fail
 refine (HO1.out _).mono ?_
 rintro e w2 ⟨rfl, hb2⟩
 obtain ⟨W3, hW3⟩ : ∃ X, (w2.alloc (.cells #[.string aS, .string aH, .int .i64 aP, .bool aQ] 25)) = X := ⟨_, rfl⟩
 have hb23 : Below w2.heap.size w2 W3 := by rw [← hW3]; exact (Below.refl _ w2).alloc (Nat.le_refl _) _
 have hO3 : OrgIn W3 w2.heap.size O1 := by
  unfold OrgIn
  rw [HXa.out, ← hW3]
  exact heap_alloc_new w2 _
 have HH3 := hid (HHd.out.kept (below2 hb2 hb23))
 have HB3 := hid (below2 HB1.out (below2 hb2 hb23))
 have HA3 := hid hO3
 clear hb2 hb23 hO3
 go_wp2_with fail
 refine (HO2.out _).mono ?_
 rintro e w4 ⟨rfl, hb4⟩
 obtain ⟨W5, hW5⟩ : ∃ X, (w4.alloc (.cells #[.string bS, .string bH, .int .i64 bP, .bool bQ] 25)) = X := ⟨_, rfl⟩
 have hb45 : Below w4.heap.size w4 W5 := by rw [← hW5]; exact (Below.refl _ w4).alloc (Nat.le_refl _) _
 have hO5 : OrgIn W5 w4.heap.size O2 := by
  unfold OrgIn
  rw [HXb.out, ← hW5]
  exact heap_alloc_new w4 _
 have HH5 := hid (HH3.out.kept (below2 hb4 hb45))
 have HB5 := hid (below2 HB3.out (below2 hb4 hb45))
 have HA5 := hid (HA3.out.kept (below2 hb4 hb45))
 have HE5 := hid hO5
 obtain ⟨ba, hba⟩ : ∃ b, w2.heap.size = b := ⟨_, rfl⟩
 obtain ⟨bb, hbb⟩ : ∃ b, w4.heap.size = b := ⟨_, rfl⟩
 rw [hba] at HA5
 rw [hbb] at HE5
 have HRa := hid (show ∀ Z, Below W5.heap.size W5 Z → Z.rangeAt (ba) 0 [.string aS, .string aH, .int .i64 aP, .bool aQ] from fun Z hZ => by
  have := range_row (show Z.heap[ba]? = some (.cells (orgCells (O1)).toArray 25 (0, 0)) from HA5.out.kept hZ)
  rw [HXa.out] at this
  exact this)
 have HRb := hid (show ∀ Z, Below W5.heap.size W5 Z → Z.rangeAt (bb) 0 [.string bS, .string bH, .int .i64 bP, .bool bQ] from fun Z hZ => by
  have := range_row (show Z.heap[bb]? = some (.cells (orgCells (O2)).toArray 25 (0, 0)) from HE5.out.kept hZ)
  rw [HXb.out] at this
  exact this)
 have hra := HRa.out W5 (Below.refl _ _)
 have hrb := HRb.out W5 (Below.refl _ _)
 clear hb4 hb45 hO5
 have HQ5 := hid (Below.refl W5.heap.size W5)
 go_upto_region 4 with fail
 clear hW3 hW5 hra hrb
 cases r1 with
 | true =>
  obtain rfl : r3 = true := HLs.out (by first | rfl | trivial)
  go_wp2_with (refine load_mid_g18 (by kernel_rfl) 25 (.tmp 9) rfl ba 0 rfl [.string aS, .string aH, .int .i64 aP, .bool aQ] _ (HRa.out W5 HQ5.out) Tryd.underlying25 rfl sizeO ?_)
  refine (HC1t.out _ _ HB5.out (HH5.out.kept HQ5.out)).mono ?_
  rintro e w6 ⟨rfl, hb6⟩
  have HB6 := hid (below2 HB5.out hb6)
  have HQ6 := hid (below2 HQ5.out hb6)
  clear hb6
  go_wp2_with (refine load_mid_g18 (by kernel_rfl) 25 (.tmp 9) rfl ba 0 rfl [.string aS, .string aH, .int .i64 aP, .bool aQ] _ (HRa.out w6 HQ6.out) Tryd.underlying25 rfl sizeO ?_)
  refine (HC1f.out _ _ HB6.out (HH5.out.kept HQ6.out)).mono ?_
  rintro e w7 ⟨rfl, hb7⟩
  have HB7 := hid (below2 HB6.out hb7)
  have HQ7 := hid (below2 HQ6.out hb7)
  clear hb7
  by_cases hx : x1 = x2
  ·obtain rfl := HEq.out hx
   clear HNe HEq HOn hx
   have HRa6 := hid (fun Z (hZ : Below w7.heap.size w7 Z) => HRa.out Z (below2 HQ7.out hZ))
   have HRb6 := hid (fun Z (hZ : Below w7.heap.size w7 Z) => HRb.out Z (below2 HQ7.out hZ))
   have HH6 := hid (fun Z (hZ : Below w7.heap.size w7 Z) => HH5.out.kept (below2 HQ7.out hZ))
   have HW6 := hid (fun Z (hZ : Below w7.heap.size w7 Z) => below2 HB7.out hZ)
   have HQ0 := hid ((Below.refl w7.heap.size w7).drew)
   go_upto_region 6 with fail
   refine wp_region_held_drew (S := (fun wx => Below w7.heap.size w7 wx)) (by kernel_rfl) HQ0.out (fun hHeld => ?_)
   refine wpAnyH_to (fuel' := 15) (listed' := #[false, false, false, false, false, false, false, false, false, false, false, false, false, false, false]) rfl rfl ?_
   refine wpAnyH_take (i := 0) (oi := ⟨some 30, _, _, _, _, _⟩) rfl (by kernel_rfl) (by kernel_rfl) (by kernel_rfl) (fun _ _ _ h => h) (yieldsIf_load_mid (by kernel_rfl) 25 (.tmp 9) rfl (ba) 0 rfl [.string aS, .string aH, .int .i64 aP, .bool aQ] _ HRa6.out Tryd.underlying25 rfl sizeO) (by assumption) ?_
   (try simp only [Act.put, List.setIfInBounds_toArray, List.set_cons_zero, List.set_cons_succ])
   refine wpAnyH_take (i := 2) (oi := ⟨some 32, _, _, _, _, _⟩) rfl (by kernel_rfl) (by kernel_rfl) (by kernel_rfl) (fun _ _ _ h => h) (yieldsIf_load_mid (by kernel_rfl) 25 (.tmp 10) rfl (bb) 0 rfl [.string bS, .string bH, .int .i64 bP, .bool bQ] _ HRb6.out Tryd.underlying25 rfl sizeO) (by assumption) ?_
   (try simp only [Act.put, List.setIfInBounds_toArray, List.set_cons_zero, List.set_cons_succ])
   refine wpAnyH_ready (rs := [1]) (by kernel_rfl) (by simp) ?_
   refine AllReadyH.cons rfl (fun K9 hK => ?_) AllReadyH.nil
   rw [if_pos (by kernel_rfl)]
   go_simp
   go_wp2_with (go_at_call 7; refine (HT1.out _ (HW6.out _ HQ0.out)).mono ?_; rintro e w21 ⟨rfl, hba9⟩)
   have HQ21 := hid (below2 HQ0.out hba9)
   clear hba9
   refine hK.out _ _ HQ21.out (fun hHeld2 => ?_)
   clear hK K9 hHeld
   rename _ => hHeld
   refine wpAnyH_ready (rs := [3]) (by kernel_rfl) (by simp) ?_
   refine AllReadyH.cons rfl (fun K9 hK => ?_) AllReadyH.nil
   rw [if_pos (by kernel_rfl)]
   go_simp
   go_wp2_with (go_at_call 7; refine (HT2.out _ (HW6.out _ HQ21.out)).mono ?_; rintro e w22 ⟨rfl, hba9⟩)
   have HQ22 := hid (below2 HQ21.out hba9)
   clear hba9
   refine hK.out _ _ HQ22.out (fun hHeld2 => ?_)
   clear hK K9 hHeld
   rename _ => hHeld
   refine' wpAnyH_take (i := 4) (oi := ⟨some 34, _, _, _, _, _⟩) (v := _) rfl (by kernel_rfl) (by kernel_rfl) (by kernel_rfl) (fun _ _ _ h => h) (Or.inl ⟨by kernel_rfl, ?hyqte1⟩) (by assumption) ?restqte1
   case hyqte1 => (intro wx hSw; (try dsimp only at hSw); go_simp; first | done | with_reducible rfl)
   (try simp only [Act.put, List.setIfInBounds_toArray, List.set_cons_zero, List.set_cons_succ])
   refine' wpAnyH_take (i := 5) (oi := ⟨some 35, _, _, _, _, _⟩) (v := _) rfl (by kernel_rfl) (by kernel_rfl) (by kernel_rfl) (fun _ _ _ h => h) (Or.inl ⟨by kernel_rfl, ?hyqte2⟩) (by assumption) ?restqte2
   case hyqte2 => (intro wx hSw; (try dsimp only at hSw); go_simp; first | done | with_reducible rfl)
   (try simp only [Act.put, List.setIfInBounds_toArray, List.set_cons_zero, List.set_cons_succ])
   refine wpAnyH_take (i := 6) (oi := ⟨some 36, _, _, _, _, _⟩) (v := undef) rfl (by kernel_rfl) (by kernel_rfl) (by kernel_rfl) (fun _ _ _ h => h) (Or.inr ⟨by kernel_rfl, by kernel_rfl⟩) (by assumption) ?_
   (try simp only [Act.put, List.setIfInBounds_toArray, List.set_cons_zero, List.set_cons_succ])
   refine wpAnyH_take (i := 7) (oi := ⟨some 37, _, _, _, _, _⟩) (v := undef) rfl (by kernel_rfl) (by kernel_rfl) (by kernel_rfl) (fun _ _ _ h => h) (Or.inr ⟨by kernel_rfl, by kernel_rfl⟩) (by assumption) ?_
   (try simp only [Act.put, List.setIfInBounds_toArray, List.set_cons_zero, List.set_cons_succ])
   refine wpAnyH_take (i := 8) (oi := ⟨some 38, _, _, _, _, _⟩) (v := undef) rfl (by kernel_rfl) (by kernel_rfl) (by kernel_rfl) (fun _ _ _ h => h) (Or.inr ⟨by kernel_rfl, by kernel_rfl⟩) (by assumption) ?_
   (try simp only [Act.put, List.setIfInBounds_toArray, List.set_cons_zero, List.set_cons_succ])
   refine' wpAnyH_take (i := 9) (oi := ⟨some 39, _, _, _, _, _⟩) (v := _) rfl (by kernel_rfl) (by kernel_rfl) (by kernel_rfl) (fun _ _ _ h => h) (Or.inl ⟨by kernel_rfl, ?hyqte3⟩) (by assumption) ?restqte3
   case hyqte3 => (intro wx hSw; (try dsimp only at hSw); go_simp; first | done | with_reducible rfl)
   (try simp only [Act.put, List.setIfInBounds_toArray, List.set_cons_zero, List.set_cons_succ])
   refine' wpAnyH_take (i := 10) (oi := ⟨some 40, _, _, _, _, _⟩) (v := _) rfl (by kernel_rfl) (by kernel_rfl) (by kernel_rfl) (fun _ _ _ h => h) (Or.inl ⟨by kernel_rfl, ?hyqte4⟩) (by assumption) ?restqte4
   case hyqte4 => (intro wx hSw; (try dsimp only at hSw); go_simp; first | done | with_reducible rfl)
   (try simp only [Act.put, List.setIfInBounds_toArray, List.set_cons_zero, List.set_cons_succ])
   refine wpAnyH_take (i := 11) (oi := ⟨some 41, _, _, _, _, _⟩) (v := undef) rfl (by kernel_rfl) (by kernel_rfl) (by kernel_rfl) (fun _ _ _ h => h) (Or.inr ⟨by kernel_rfl, by kernel_rfl⟩) (by assumption) ?_
   (try simp only [Act.put, List.setIfInBounds_toArray, List.set_cons_zero, List.set_cons_succ])
   refine wpAnyH_take (i := 12) (oi := ⟨some 42, _, _, _, _, _⟩) (v := undef) rfl (by kernel_rfl) (by kernel_rfl) (by kernel_rfl) (fun _ _ _ h => h) (Or.inr ⟨by kernel_rfl, by kernel_rfl⟩) (by assumption) ?_
   (try simp only [Act.put, List.setIfInBounds_toArray, List.set_cons_zero, List.set_cons_succ])
   refine wpAnyH_take (i := 13) (oi := ⟨some 43, _, _, _, _, _⟩) (v := undef) rfl (by kernel_rfl) (by kernel_rfl) (by kernel_rfl) (fun _ _ _ h => h) (Or.inr ⟨by kernel_rfl, by kernel_rfl⟩) (by assumption) ?_
   (try simp only [Act.put, List.setIfInBounds_toArray, List.set_cons_zero, List.set_cons_succ])
   refine' wpAnyH_take (i := 14) (oi := ⟨some 44, _, _, _, _, _⟩) (v := _) rfl (by kernel_rfl) (by kernel_rfl) (by kernel_rfl) (fun _ _ _ h => h) (Or.inl ⟨by kernel_rfl, ?hyqte5⟩) (by assumption) ?restqte5
   case hyqte5 => (intro wx hSw; (try dsimp only at hSw); go_simp; first | done | with_reducible rfl)
   (try simp only [Act.put, List.setIfInBounds_toArray, List.set_cons_zero, List.set_cons_succ])
   refine wpAnyH_done (by kernel_rfl) ?_ _
   have HB9 := hid (HW6.out _ HQ22.out)
   go_wp2_with fail
   refine (HFw.out _).mono ?_
   rintro e wz ⟨rfl, hwz⟩
   rw [← hwz]
   clear hwz
   go_wp2_with fail
   refine (HM1.out _).mono ?_
   rintro e w31 ⟨rfl, hb31⟩
   have HB31 := hid (below2 HB9.out hb31)
   clear hb31
   go_wp2_with fail
   refine (HM2.out _).mono ?_
   rintro e w32 ⟨rfl, hb32⟩
   have HB32 := hid (below2 HB31.out hb32)
   clear hb32
   cases mb with
   | true =>
    go_wp2_with fail
    refine (HK.out _ (HG.out.kept HB32.out)).mono ?_
    rintro e w33 ⟨rfl, hb33⟩
    have HB33 := hid (below2 HB32.out hb33)
    clear hb33
    go_wp2_with fail
    go_ret
    exact ⟨rfl, HB33.out⟩
   | false =>
    go_wp2_with fail
    refine (HK.out _ (HG.out.kept HB32.out)).mono ?_
    rintro e w33 ⟨rfl, hb33⟩
    have HB33 := hid (below2 HB32.out hb33)
    clear hb33
    go_wp2_with fail
    go_ret
    exact ⟨rfl, HB33.out⟩
  ·have hne := HNe.out hx
   obtain rfl : r2 = false := by
    cases r2 with
    | false => rfl
    | true => exact absurd (HOn.out (by first | rfl | trivial) (by first | rfl | trivial)) hx
   clear HNe HEq HOn hx
   have HRa6 := hid (fun Z (hZ : Below w7.heap.size w7 Z) => HRa.out Z (below2 HQ7.out hZ))
   have HRb6 := hid (fun Z (hZ : Below w7.heap.size w7 Z) => HRb.out Z (below2 HQ7.out hZ))
   have HH6 := hid (fun Z (hZ : Below w7.heap.size w7 Z) => HH5.out.kept (below2 HQ7.out hZ))
   have HW6 := hid (fun Z (hZ : Below w7.heap.size w7 Z) => below2 HB7.out hZ)
   have HQ0 := hid ((Below.refl w7.heap.size w7).drew)
   go_upto_region 6 with fail
   refine wp_region_held_drew (S := (fun wx => Below w7.heap.size w7 wx)) (by kernel_rfl) HQ0.out (fun hHeld => ?_)
   refine wpAnyH_to (fuel' := 15) (listed' := #[false, false, false, false, false, false, false, false, false, false, false, false, false, false, false]) rfl rfl ?_
   refine wpAnyH_take (i := 0) (oi := ⟨some 30, _, _, _, _, _⟩) rfl (by kernel_rfl) (by kernel_rfl) (by kernel_rfl) (fun _ _ _ h => h) (yieldsIf_load_mid (by kernel_rfl) 25 (.tmp 9) rfl (ba) 0 rfl [.string aS, .string aH, .int .i64 aP, .bool aQ] _ HRa6.out Tryd.underlying25 rfl sizeO) (by assumption) ?_
   (try simp only [Act.put, List.setIfInBounds_toArray, List.set_cons_zero, List.set_cons_succ])
   refine wpAnyH_take (i := 2) (oi := ⟨some 32, _, _, _, _, _⟩) rfl (by kernel_rfl) (by kernel_rfl) (by kernel_rfl) (fun _ _ _ h => h) (yieldsIf_load_mid (by kernel_rfl) 25 (.tmp 10) rfl (bb) 0 rfl [.string bS, .string bH, .int .i64 bP, .bool bQ] _ HRb6.out Tryd.underlying25 rfl sizeO) (by assumption) ?_
   (try simp only [Act.put, List.setIfInBounds_toArray, List.set_cons_zero, List.set_cons_succ])
   refine wpAnyH_ready (rs := [1]) (by kernel_rfl) (by simp) ?_
   refine AllReadyH.cons rfl (fun K9 hK => ?_) AllReadyH.nil
   rw [if_pos (by kernel_rfl)]
   go_simp
   go_wp2_with (go_at_call 7; refine (HT1.out _ (HW6.out _ HQ0.out)).mono ?_; rintro e w21 ⟨rfl, hba9⟩)
   have HQ21 := hid (below2 HQ0.out hba9)
   clear hba9
   refine hK.out _ _ HQ21.out (fun hHeld2 => ?_)
   clear hK K9 hHeld
   rename _ => hHeld
   refine wpAnyH_ready (rs := [3]) (by kernel_rfl) (by simp) ?_
   refine AllReadyH.cons rfl (fun K9 hK => ?_) AllReadyH.nil
   rw [if_pos (by kernel_rfl)]
   go_simp
   go_wp2_with (go_at_call 7; refine (HT2.out _ (HW6.out _ HQ21.out)).mono ?_; rintro e w22 ⟨rfl, hba9⟩)
   have HQ22 := hid (below2 HQ21.out hba9)
   clear hba9
   refine hK.out _ _ HQ22.out (fun hHeld2 => ?_)
   clear hK K9 hHeld
   rename _ => hHeld
   refine' wpAnyH_take (i := 4) (oi := ⟨some 34, _, _, _, _, _⟩) (v := _) rfl (by kernel_rfl) (by kernel_rfl) (by kernel_rfl) (fun _ _ _ h => h) (Or.inl ⟨by kernel_rfl, ?hyqtb1⟩) (by assumption) ?restqtb1
   case hyqtb1 => (intro wx hSw; (try dsimp only at hSw); go_simp; first | done | with_reducible rfl)
   (try simp only [Act.put, List.setIfInBounds_toArray, List.set_cons_zero, List.set_cons_succ])
   refine' wpAnyH_take (i := 5) (oi := ⟨some 35, _, _, _, _, _⟩) (v := _) rfl (by kernel_rfl) (by kernel_rfl) (by kernel_rfl) (fun _ _ _ h => h) (Or.inl ⟨by kernel_rfl, ?hyqtb2⟩) (by assumption) ?restqtb2
   case hyqtb2 => (intro wx hSw; (try dsimp only at hSw); go_simp; first | done | with_reducible rfl)
   (try simp only [Act.put, List.setIfInBounds_toArray, List.set_cons_zero, List.set_cons_succ])
   refine wpAnyH_take (i := 6) (oi := ⟨some 36, _, _, _, _, _⟩) rfl (by kernel_rfl) (by kernel_rfl) (by kernel_rfl) (fun _ _ _ h => h) (yieldsIf_load_mid (by kernel_rfl) 25 (.tmp 9) rfl (ba) 0 rfl [.string aS, .string aH, .int .i64 aP, .bool aQ] _ HRa6.out Tryd.underlying25 rfl sizeO) (by assumption) ?_
   (try simp only [Act.put, List.setIfInBounds_toArray, List.set_cons_zero, List.set_cons_succ])
   refine' wpAnyH_take (i := 7) (oi := ⟨some 37, _, _, _, _, _⟩) (v := _) rfl (by kernel_rfl) (by kernel_rfl) (by kernel_rfl) (fun _ _ _ h => h) (Or.inl ⟨by kernel_rfl, ?hyqtb3⟩) (by assumption) ?restqtb3
   case hyqtb3 => (intro wx hSw; (try dsimp only at hSw); go_simp; first | done | with_reducible rfl)
   (try simp only [Act.put, List.setIfInBounds_toArray, List.set_cons_zero, List.set_cons_succ])
   refine wpAnyH_ready (rs := [8]) (by kernel_rfl) (by simp) ?_
   refine AllReadyH.cons rfl (fun K9 hK => ?_) AllReadyH.nil
   rw [if_pos (by kernel_rfl)]
   go_simp
   go_wp2_with (go_at_call 6; refine (HC1t.out _ _ (HW6.out _ HQ22.out) (HH6.out _ HQ22.out)).mono ?_; rintro e w23 ⟨rfl, hba9⟩)
   have HQ23 := hid (below2 HQ22.out hba9)
   clear hba9
   refine hK.out _ _ HQ23.out (fun hHeld2 => ?_)
   clear hK K9 hHeld
   rename _ => hHeld
   refine' wpAnyH_take (i := 9) (oi := ⟨some 39, _, _, _, _, _⟩) (v := _) rfl (by kernel_rfl) (by kernel_rfl) (by kernel_rfl) (fun _ _ _ h => h) (Or.inl ⟨by kernel_rfl, ?hyqtb4⟩) (by assumption) ?restqtb4
   case hyqtb4 => (intro wx hSw; (try dsimp only at hSw); go_simp; first | done | with_reducible rfl)
   (try simp only [Act.put, List.setIfInBounds_toArray, List.set_cons_zero, List.set_cons_succ])
   refine' wpAnyH_take (i := 10) (oi := ⟨some 40, _, _, _, _, _⟩) (v := _) rfl (by kernel_rfl) (by kernel_rfl) (by kernel_rfl) (fun _ _ _ h => h) (Or.inl ⟨by kernel_rfl, ?hyqtb5⟩) (by assumption) ?restqtb5
   case hyqtb5 => (intro wx hSw; (try dsimp only at hSw); go_simp; first | done | with_reducible rfl)
   (try simp only [Act.put, List.setIfInBounds_toArray, List.set_cons_zero, List.set_cons_succ])
   refine wpAnyH_take (i := 11) (oi := ⟨some 41, _, _, _, _, _⟩) rfl (by kernel_rfl) (by kernel_rfl) (by kernel_rfl) (fun _ _ _ h => h) (yieldsIf_load_mid (by kernel_rfl) 25 (.tmp 10) rfl (bb) 0 rfl [.string bS, .string bH, .int .i64 bP, .bool bQ] _ HRb6.out Tryd.underlying25 rfl sizeO) (by assumption) ?_
   (try simp only [Act.put, List.setIfInBounds_toArray, List.set_cons_zero, List.set_cons_succ])
   refine' wpAnyH_take (i := 12) (oi := ⟨some 42, _, _, _, _, _⟩) (v := _) rfl (by kernel_rfl) (by kernel_rfl) (by kernel_rfl) (fun _ _ _ h => h) (Or.inl ⟨by kernel_rfl, ?hyqtb6⟩) (by assumption) ?restqtb6
   case hyqtb6 => (intro wx hSw; (try dsimp only at hSw); go_simp; first | done | with_reducible rfl)
   (try simp only [Act.put, List.setIfInBounds_toArray, List.set_cons_zero, List.set_cons_succ])
   refine wpAnyH_ready (rs := [13]) (by kernel_rfl) (by simp) ?_
   refine AllReadyH.cons rfl (fun K9 hK => ?_) AllReadyH.nil
   rw [if_pos (by kernel_rfl)]
   go_simp
   go_wp2_with (go_at_call 6; refine (HC2t.out _ _ (HW6.out _ HQ23.out) (HH6.out _ HQ23.out)).mono ?_; rintro e w24 ⟨rfl, hba9⟩)
   have HQ24 := hid (below2 HQ23.out hba9)
   clear hba9
   refine hK.out _ _ HQ24.out (fun hHeld2 => ?_)
   clear hK K9 hHeld
   rename _ => hHeld
   refine' wpAnyH_take (i := 14) (oi := ⟨some 44, _, _, _, _, _⟩) (v := _) rfl (by kernel_rfl) (by kernel_rfl) (by kernel_rfl) (fun _ _ _ h => h) (Or.inl ⟨by kernel_rfl, ?hyqtb7⟩) (by assumption) ?restqtb7
   case hyqtb7 => (intro wx hSw; (try dsimp only at hSw); go_simp; first | done | with_reducible rfl)
   (try simp only [Act.put, List.setIfInBounds_toArray, List.set_cons_zero, List.set_cons_succ])
   refine wpAnyH_done (by kernel_rfl) ?_ _
   have HB9 := hid (HW6.out _ HQ24.out)
   go_wp2_with fail
   refine (HFw.out _).mono ?_
   rintro e wz ⟨rfl, hwz⟩
   rw [← hwz]
   clear hwz
   go_wp2_with fail
   refine (HM1.out _).mono ?_
   rintro e w31 ⟨rfl, hb31⟩
   have HB31 := hid (below2 HB9.out hb31)
   clear hb31
   go_wp2_with fail
   refine (HM2.out _).mono ?_
   rintro e w32 ⟨rfl, hb32⟩
   have HB32 := hid (below2 HB31.out hb32)
   clear hb32
   cases mb with
   | true =>
    go_wp2_with fail
    refine (HK.out _ (HG.out.kept HB32.out)).mono ?_
    rintro e w33 ⟨rfl, hb33⟩
    have HB33 := hid (below2 HB32.out hb33)
    clear hb33
    go_wp2_with fail
    go_ret
    exact ⟨rfl, HB33.out⟩
   | false =>
    go_wp2_with fail
    refine (HK.out _ (HG.out.kept HB32.out)).mono ?_
    rintro e w33 ⟨rfl, hb33⟩
    have HB33 := hid (below2 HB32.out hb33)
    clear hb33
    go_wp2_with fail
    go_ret
    exact ⟨rfl, HB33.out⟩
 | false =>
  go_wp2_with (refine load_mid_g18 (by kernel_rfl) 25 (.tmp 9) rfl ba 0 rfl [.string aS, .string aH, .int .i64 aP, .bool aQ] _ (HRa.out W5 HQ5.out) Tryd.underlying25 rfl sizeO ?_)
  refine (HC1t.out _ _ HB5.out (HH5.out.kept HQ5.out)).mono ?_
  rintro e w6 ⟨rfl, hb6⟩
  have HB6 := hid (below2 HB5.out hb6)
  have HQ6 := hid (below2 HQ5.out hb6)
  clear hb6
  by_cases hx : x1 = x2
  ·obtain rfl := HEq.out hx
   clear HNe HEq HOn hx
   have HRa6 := hid (fun Z (hZ : Below w6.heap.size w6 Z) => HRa.out Z (below2 HQ6.out hZ))
   have HRb6 := hid (fun Z (hZ : Below w6.heap.size w6 Z) => HRb.out Z (below2 HQ6.out hZ))
   have HH6 := hid (fun Z (hZ : Below w6.heap.size w6 Z) => HH5.out.kept (below2 HQ6.out hZ))
   have HW6 := hid (fun Z (hZ : Below w6.heap.size w6 Z) => below2 HB6.out hZ)
   have HQ0 := hid ((Below.refl w6.heap.size w6).drew)
   go_upto_region 6 with fail
   refine wp_region_held_drew (S := (fun wx => Below w6.heap.size w6 wx)) (by kernel_rfl) HQ0.out (fun hHeld => ?_)
   refine wpAnyH_to (fuel' := 15) (listed' := #[false, false, false, false, false, false, false, false, false, false, false, false, false, false, false]) rfl rfl ?_
   refine wpAnyH_take (i := 0) (oi := ⟨some 30, _, _, _, _, _⟩) rfl (by kernel_rfl) (by kernel_rfl) (by kernel_rfl) (fun _ _ _ h => h) (yieldsIf_load_mid (by kernel_rfl) 25 (.tmp 9) rfl (ba) 0 rfl [.string aS, .string aH, .int .i64 aP, .bool aQ] _ HRa6.out Tryd.underlying25 rfl sizeO) (by assumption) ?_
   (try simp only [Act.put, List.setIfInBounds_toArray, List.set_cons_zero, List.set_cons_succ])
   refine wpAnyH_take (i := 2) (oi := ⟨some 32, _, _, _, _, _⟩) rfl (by kernel_rfl) (by kernel_rfl) (by kernel_rfl) (fun _ _ _ h => h) (yieldsIf_load_mid (by kernel_rfl) 25 (.tmp 10) rfl (bb) 0 rfl [.string bS, .string bH, .int .i64 bP, .bool bQ] _ HRb6.out Tryd.underlying25 rfl sizeO) (by assumption) ?_
   (try simp only [Act.put, List.setIfInBounds_toArray, List.set_cons_zero, List.set_cons_succ])
   refine wpAnyH_ready (rs := [1]) (by kernel_rfl) (by simp) ?_
   refine AllReadyH.cons rfl (fun K9 hK => ?_) AllReadyH.nil
   rw [if_pos (by kernel_rfl)]
   go_simp
   go_wp2_with (go_at_call 7; refine (HT1.out _ (HW6.out _ HQ0.out)).mono ?_; rintro e w21 ⟨rfl, hba9⟩)
   have HQ21 := hid (below2 HQ0.out hba9)
   clear hba9
   refine hK.out _ _ HQ21.out (fun hHeld2 => ?_)
   clear hK K9 hHeld
   rename _ => hHeld
   refine wpAnyH_ready (rs := [3]) (by kernel_rfl) (by simp) ?_
   refine AllReadyH.cons rfl (fun K9 hK => ?_) AllReadyH.nil
   rw [if_pos (by kernel_rfl)]
   go_simp
   go_wp2_with (go_at_call 7; refine (HT2.out _ (HW6.out _ HQ21.out)).mono ?_; rintro e w22 ⟨rfl, hba9⟩)
   have HQ22 := hid (below2 HQ21.out hba9)
   clear hba9
   refine hK.out _ _ HQ22.out (fun hHeld2 => ?_)
   clear hK K9 hHeld
   rename _ => hHeld
   refine' wpAnyH_take (i := 4) (oi := ⟨some 34, _, _, _, _, _⟩) (v := _) rfl (by kernel_rfl) (by kernel_rfl) (by kernel_rfl) (fun _ _ _ h => h) (Or.inl ⟨by kernel_rfl, ?hyqfe1⟩) (by assumption) ?restqfe1
   case hyqfe1 => (intro wx hSw; (try dsimp only at hSw); go_simp; first | done | with_reducible rfl)
   (try simp only [Act.put, List.setIfInBounds_toArray, List.set_cons_zero, List.set_cons_succ])
   refine' wpAnyH_take (i := 5) (oi := ⟨some 35, _, _, _, _, _⟩) (v := _) rfl (by kernel_rfl) (by kernel_rfl) (by kernel_rfl) (fun _ _ _ h => h) (Or.inl ⟨by kernel_rfl, ?hyqfe2⟩) (by assumption) ?restqfe2
   case hyqfe2 => (intro wx hSw; (try dsimp only at hSw); go_simp; first | done | with_reducible rfl)
   (try simp only [Act.put, List.setIfInBounds_toArray, List.set_cons_zero, List.set_cons_succ])
   refine wpAnyH_take (i := 6) (oi := ⟨some 36, _, _, _, _, _⟩) (v := undef) rfl (by kernel_rfl) (by kernel_rfl) (by kernel_rfl) (fun _ _ _ h => h) (Or.inr ⟨by kernel_rfl, by kernel_rfl⟩) (by assumption) ?_
   (try simp only [Act.put, List.setIfInBounds_toArray, List.set_cons_zero, List.set_cons_succ])
   refine wpAnyH_take (i := 7) (oi := ⟨some 37, _, _, _, _, _⟩) (v := undef) rfl (by kernel_rfl) (by kernel_rfl) (by kernel_rfl) (fun _ _ _ h => h) (Or.inr ⟨by kernel_rfl, by kernel_rfl⟩) (by assumption) ?_
   (try simp only [Act.put, List.setIfInBounds_toArray, List.set_cons_zero, List.set_cons_succ])
   refine wpAnyH_take (i := 8) (oi := ⟨some 38, _, _, _, _, _⟩) (v := undef) rfl (by kernel_rfl) (by kernel_rfl) (by kernel_rfl) (fun _ _ _ h => h) (Or.inr ⟨by kernel_rfl, by kernel_rfl⟩) (by assumption) ?_
   (try simp only [Act.put, List.setIfInBounds_toArray, List.set_cons_zero, List.set_cons_succ])
   refine' wpAnyH_take (i := 9) (oi := ⟨some 39, _, _, _, _, _⟩) (v := _) rfl (by kernel_rfl) (by kernel_rfl) (by kernel_rfl) (fun _ _ _ h => h) (Or.inl ⟨by kernel_rfl, ?hyqfe3⟩) (by assumption) ?restqfe3
   case hyqfe3 => (intro wx hSw; (try dsimp only at hSw); go_simp; first | done | with_reducible rfl)
   (try simp only [Act.put, List.setIfInBounds_toArray, List.set_cons_zero, List.set_cons_succ])
   refine' wpAnyH_take (i := 10) (oi := ⟨some 40, _, _, _, _, _⟩) (v := _) rfl (by kernel_rfl) (by kernel_rfl) (by kernel_rfl) (fun _ _ _ h => h) (Or.inl ⟨by kernel_rfl, ?hyqfe4⟩) (by assumption) ?restqfe4
   case hyqfe4 => (intro wx hSw; (try dsimp only at hSw); go_simp; first | done | with_reducible rfl)
   (try simp only [Act.put, List.setIfInBounds_toArray, List.set_cons_zero, List.set_cons_succ])
   refine wpAnyH_take (i := 11) (oi := ⟨some 41, _, _, _, _, _⟩) (v := undef) rfl (by kernel_rfl) (by kernel_rfl) (by kernel_rfl) (fun _ _ _ h => h) (Or.inr ⟨by kernel_rfl, by kernel_rfl⟩) (by assumption) ?_
   (try simp only [Act.put, List.setIfInBounds_toArray, List.set_cons_zero, List.set_cons_succ])
   refine wpAnyH_take (i := 12) (oi := ⟨some 42, _, _, _, _, _⟩) (v := undef) rfl (by kernel_rfl) (by kernel_rfl) (by kernel_rfl) (fun _ _ _ h => h) (Or.inr ⟨by kernel_rfl, by kernel_rfl⟩) (by assumption) ?_
   (try simp only [Act.put, List.setIfInBounds_toArray, List.set_cons_zero, List.set_cons_succ])
   refine wpAnyH_take (i := 13) (oi := ⟨some 43, _, _, _, _, _⟩) (v := undef) rfl (by kernel_rfl) (by kernel_rfl) (by kernel_rfl) (fun _ _ _ h => h) (Or.inr ⟨by kernel_rfl, by kernel_rfl⟩) (by assumption) ?_
   (try simp only [Act.put, List.setIfInBounds_toArray, List.set_cons_zero, List.set_cons_succ])
   refine' wpAnyH_take (i := 14) (oi := ⟨some 44, _, _, _, _, _⟩) (v := _) rfl (by kernel_rfl) (by kernel_rfl) (by kernel_rfl) (fun _ _ _ h => h) (Or.inl ⟨by kernel_rfl, ?hyqfe5⟩) (by assumption) ?restqfe5
   case hyqfe5 => (intro wx hSw; (try dsimp only at hSw); go_simp; first | done | with_reducible rfl)
   (try simp only [Act.put, List.setIfInBounds_toArray, List.set_cons_zero, List.set_cons_succ])
   refine wpAnyH_done (by kernel_rfl) ?_ _
   have HB9 := hid (HW6.out _ HQ22.out)
   go_wp2_with fail
   refine (HFw.out _).mono ?_
   rintro e wz ⟨rfl, hwz⟩
   rw [← hwz]
   clear hwz
   go_wp2_with fail
   refine (HM1.out _).mono ?_
   rintro e w31 ⟨rfl, hb31⟩
   have HB31 := hid (below2 HB9.out hb31)
   clear hb31
   go_wp2_with fail
   refine (HM2.out _).mono ?_
   rintro e w32 ⟨rfl, hb32⟩
   have HB32 := hid (below2 HB31.out hb32)
   clear hb32
   cases mb with
   | true =>
    go_wp2_with fail
    refine (HK.out _ (HG.out.kept HB32.out)).mono ?_
    rintro e w33 ⟨rfl, hb33⟩
    have HB33 := hid (below2 HB32.out hb33)
    clear hb33
    go_wp2_with fail
    go_ret
    exact ⟨rfl, HB33.out⟩
   | false =>
    go_wp2_with fail
    refine (HK.out _ (HG.out.kept HB32.out)).mono ?_
    rintro e w33 ⟨rfl, hb33⟩
    have HB33 := hid (below2 HB32.out hb33)
    clear hb33
    go_wp2_with fail
    go_ret
    exact ⟨rfl, HB33.out⟩
  ·have hne := HNe.out hx
   clear HNe HEq HOn hx
   have HRa6 := hid (fun Z (hZ : Below w6.heap.size w6 Z) => HRa.out Z (below2 HQ6.out hZ))
   have HRb6 := hid (fun Z (hZ : Below w6.heap.size w6 Z) => HRb.out Z (below2 HQ6.out hZ))
   have HH6 := hid (fun Z (hZ : Below w6.heap.size w6 Z) => HH5.out.kept (below2 HQ6.out hZ))
   have HW6 := hid (fun Z (hZ : Below w6.heap.size w6 Z) => below2 HB6.out hZ)
   have HQ0 := hid ((Below.refl w6.heap.size w6).drew)
   go_upto_region 6 with fail
   refine wp_region_held_drew (S := (fun wx => Below w6.heap.size w6 wx)) (by kernel_rfl) HQ0.out (fun hHeld => ?_)
   refine wpAnyH_to (fuel' := 15) (listed' := #[false, false, false, false, false, false, false, false, false, false, false, false, false, false, false]) rfl rfl ?_
   refine wpAnyH_take (i := 0) (oi := ⟨some 30, _, _, _, _, _⟩) rfl (by kernel_rfl) (by kernel_rfl) (by kernel_rfl) (fun _ _ _ h => h) (yieldsIf_load_mid (by kernel_rfl) 25 (.tmp 9) rfl (ba) 0 rfl [.string aS, .string aH, .int .i64 aP, .bool aQ] _ HRa6.out Tryd.underlying25 rfl sizeO) (by assumption) ?_
   (try simp only [Act.put, List.setIfInBounds_toArray, List.set_cons_zero, List.set_cons_succ])
   refine wpAnyH_take (i := 2) (oi := ⟨some 32, _, _, _, _, _⟩) rfl (by kernel_rfl) (by kernel_rfl) (by kernel_rfl) (fun _ _ _ h => h) (yieldsIf_load_mid (by kernel_rfl) 25 (.tmp 10) rfl (bb) 0 rfl [.string bS, .string bH, .int .i64 bP, .bool bQ] _ HRb6.out Tryd.underlying25 rfl sizeO) (by assumption) ?_
   (try simp only [Act.put, List.setIfInBounds_toArray, List.set_cons_zero, List.set_cons_succ])
   refine wpAnyH_ready (rs := [1]) (by kernel_rfl) (by simp) ?_
   refine AllReadyH.cons rfl (fun K9 hK => ?_) AllReadyH.nil
   rw [if_pos (by kernel_rfl)]
   go_simp
   go_wp2_with (go_at_call 7; refine (HT1.out _ (HW6.out _ HQ0.out)).mono ?_; rintro e w21 ⟨rfl, hba9⟩)
   have HQ21 := hid (below2 HQ0.out hba9)
   clear hba9
   refine hK.out _ _ HQ21.out (fun hHeld2 => ?_)
   clear hK K9 hHeld
   rename _ => hHeld
   refine wpAnyH_ready (rs := [3]) (by kernel_rfl) (by simp) ?_
   refine AllReadyH.cons rfl (fun K9 hK => ?_) AllReadyH.nil
   rw [if_pos (by kernel_rfl)]
   go_simp
   go_wp2_with (go_at_call 7; refine (HT2.out _ (HW6.out _ HQ21.out)).mono ?_; rintro e w22 ⟨rfl, hba9⟩)
   have HQ22 := hid (below2 HQ21.out hba9)
   clear hba9
   refine hK.out _ _ HQ22.out (fun hHeld2 => ?_)
   clear hK K9 hHeld
   rename _ => hHeld
   refine' wpAnyH_take (i := 4) (oi := ⟨some 34, _, _, _, _, _⟩) (v := _) rfl (by kernel_rfl) (by kernel_rfl) (by kernel_rfl) (fun _ _ _ h => h) (Or.inl ⟨by kernel_rfl, ?hyqfa1⟩) (by assumption) ?restqfa1
   case hyqfa1 => (intro wx hSw; (try dsimp only at hSw); go_simp; first | done | with_reducible rfl)
   (try simp only [Act.put, List.setIfInBounds_toArray, List.set_cons_zero, List.set_cons_succ])
   refine' wpAnyH_take (i := 5) (oi := ⟨some 35, _, _, _, _, _⟩) (v := _) rfl (by kernel_rfl) (by kernel_rfl) (by kernel_rfl) (fun _ _ _ h => h) (Or.inl ⟨by kernel_rfl, ?hyqfa2⟩) (by assumption) ?restqfa2
   case hyqfa2 => (intro wx hSw; (try dsimp only at hSw); go_simp; first | done | with_reducible rfl)
   (try simp only [Act.put, List.setIfInBounds_toArray, List.set_cons_zero, List.set_cons_succ])
   refine wpAnyH_take (i := 6) (oi := ⟨some 36, _, _, _, _, _⟩) rfl (by kernel_rfl) (by kernel_rfl) (by kernel_rfl) (fun _ _ _ h => h) (yieldsIf_load_mid (by kernel_rfl) 25 (.tmp 9) rfl (ba) 0 rfl [.string aS, .string aH, .int .i64 aP, .bool aQ] _ HRa6.out Tryd.underlying25 rfl sizeO) (by assumption) ?_
   (try simp only [Act.put, List.setIfInBounds_toArray, List.set_cons_zero, List.set_cons_succ])
   refine' wpAnyH_take (i := 7) (oi := ⟨some 37, _, _, _, _, _⟩) (v := _) rfl (by kernel_rfl) (by kernel_rfl) (by kernel_rfl) (fun _ _ _ h => h) (Or.inl ⟨by kernel_rfl, ?hyqfa3⟩) (by assumption) ?restqfa3
   case hyqfa3 => (intro wx hSw; (try dsimp only at hSw); go_simp; first | done | with_reducible rfl)
   (try simp only [Act.put, List.setIfInBounds_toArray, List.set_cons_zero, List.set_cons_succ])
   refine wpAnyH_ready (rs := [8]) (by kernel_rfl) (by simp) ?_
   refine AllReadyH.cons rfl (fun K9 hK => ?_) AllReadyH.nil
   rw [if_pos (by kernel_rfl)]
   go_simp
   go_wp2_with (go_at_call 6; refine (HC1t.out _ _ (HW6.out _ HQ22.out) (HH6.out _ HQ22.out)).mono ?_; rintro e w23 ⟨rfl, hba9⟩)
   have HQ23 := hid (below2 HQ22.out hba9)
   clear hba9
   refine hK.out _ _ HQ23.out (fun hHeld2 => ?_)
   clear hK K9 hHeld
   rename _ => hHeld
   refine' wpAnyH_take (i := 9) (oi := ⟨some 39, _, _, _, _, _⟩) (v := _) rfl (by kernel_rfl) (by kernel_rfl) (by kernel_rfl) (fun _ _ _ h => h) (Or.inl ⟨by kernel_rfl, ?hyqfa4⟩) (by assumption) ?restqfa4
   case hyqfa4 => (intro wx hSw; (try dsimp only at hSw); go_simp; first | done | with_reducible rfl)
   (try simp only [Act.put, List.setIfInBounds_toArray, List.set_cons_zero, List.set_cons_succ])
   refine' wpAnyH_take (i := 10) (oi := ⟨some 40, _, _, _, _, _⟩) (v := _) rfl (by kernel_rfl) (by kernel_rfl) (by kernel_rfl) (fun _ _ _ h => h) (Or.inl ⟨by kernel_rfl, ?hyqfa5⟩) (by assumption) ?restqfa5
   case hyqfa5 => (intro wx hSw; (try dsimp only at hSw); go_simp; first | done | with_reducible rfl)
   (try simp only [Act.put, List.setIfInBounds_toArray, List.set_cons_zero, List.set_cons_succ])
   refine wpAnyH_take (i := 11) (oi := ⟨some 41, _, _, _, _, _⟩) (v := undef) rfl (by kernel_rfl) (by kernel_rfl) (by kernel_rfl) (fun _ _ _ h => h) (Or.inr ⟨by kernel_rfl, by kernel_rfl⟩) (by assumption) ?_
   (try simp only [Act.put, List.setIfInBounds_toArray, List.set_cons_zero, List.set_cons_succ])
   refine wpAnyH_take (i := 12) (oi := ⟨some 42, _, _, _, _, _⟩) (v := undef) rfl (by kernel_rfl) (by kernel_rfl) (by kernel_rfl) (fun _ _ _ h => h) (Or.inr ⟨by kernel_rfl, by kernel_rfl⟩) (by assumption) ?_
   (try simp only [Act.put, List.setIfInBounds_toArray, List.set_cons_zero, List.set_cons_succ])
   refine wpAnyH_take (i := 13) (oi := ⟨some 43, _, _, _, _, _⟩) (v := undef) rfl (by kernel_rfl) (by kernel_rfl) (by kernel_rfl) (fun _ _ _ h => h) (Or.inr ⟨by kernel_rfl, by kernel_rfl⟩) (by assumption) ?_
   (try simp only [Act.put, List.setIfInBounds_toArray, List.set_cons_zero, List.set_cons_succ])
   refine' wpAnyH_take (i := 14) (oi := ⟨some 44, _, _, _, _, _⟩) (v := _) rfl (by kernel_rfl) (by kernel_rfl) (by kernel_rfl) (fun _ _ _ h => h) (Or.inl ⟨by kernel_rfl, ?hyqfa6⟩) (by assumption) ?restqfa6
   case hyqfa6 => (intro wx hSw; (try dsimp only at hSw); go_simp; first | done | with_reducible rfl)
   (try simp only [Act.put, List.setIfInBounds_toArray, List.set_cons_zero, List.set_cons_succ])
   refine wpAnyH_done (by kernel_rfl) ?_ _
   have HB9 := hid (HW6.out _ HQ23.out)
   go_wp2_with fail
   refine (HFw.out _).mono ?_
   rintro e wz ⟨rfl, hwz⟩
   rw [← hwz]
   clear hwz
   go_wp2_with fail
   refine (HM1.out _).mono ?_
   rintro e w31 ⟨rfl, hb31⟩
   have HB31 := hid (below2 HB9.out hb31)
   clear hb31
   go_wp2_with fail
   refine (HM2.out _).mono ?_
   rintro e w32 ⟨rfl, hb32⟩
   have HB32 := hid (below2 HB31.out hb32)
   clear hb32
   cases mb with
   | true =>
    go_wp2_with fail
    refine (HK.out _ (HG.out.kept HB32.out)).mono ?_
    rintro e w33 ⟨rfl, hb33⟩
    have HB33 := hid (below2 HB32.out hb33)
    clear hb33
    go_wp2_with fail
    go_ret
    exact ⟨rfl, HB33.out⟩
   | false =>
    go_wp2_with fail
    refine (HK.out _ (HG.out.kept HB32.out)).mono ?_
    rintro e w33 ⟨rfl, hb33⟩
    have HB33 := hid (below2 HB32.out hb33)
    clear hb33
    go_wp2_with fail
    go_ret
    exact ⟨rfl, HB33.out⟩

end Go.Proofs.YtpopljcmkbchcaaDoor

namespace Go.Proofs.YtpopljcmkbchcaaDoor
open Go.RowKit Go.Shelf

def laid8 : List (String × DataW Unit) := [("math/bits.deBruijn32tab", Rows.laid_math_bits_deBruijn32tab), ("math/bits.deBruijn64tab", Rows.laid_math_bits_deBruijn64tab), ("internal/strconv.uint64pow10", Rows.laid_internal_strconv_uint64pow10), ("unicode/utf8.acceptRanges", Rows.laid_unicode_utf8_acceptRanges), ("unicode.CaseRanges", Rows.laid_unicode_CaseRanges), ("unicode/utf8.first", Rows.laid_unicode_utf8_first)]

theorem g5_of_shaped {W : World} (hsh : W.ShapedOpen Tryd.prog) : G5 W :=
 Go.Proofs.cell_of_shapedOpen_int (zero := #[.int .i64 0]) (t := 3) hsh (of_decide_eq_true (by kernel_rfl)) (by kernel_rfl) rfl (by kernel_rfl) (by kernel_rfl) Tryd.underlying3

theorem gd8_of_laid {W : World} (h : laidMetH Tryd.prog laid8 W) (hsh : W.ShapedOpen Tryd.prog) : Gd W := by
 have h' : laidMet Tryd.prog laid8 W := h
 have h2 := h'.tail
 have h3 := h2.tail
 refine ⟨g5_of_shaped hsh, ?_, ?_⟩
 ·exact Lib.tabIs_of_head gPow10 (by kernel_rfl) Tryd.underlying116 Tryd.underlying96 (by kernel_rfl) (by kernel_rfl) h3
 ·exact Lib.tabIs_of_head gDB64 (by kernel_rfl) Tryd.underlying143 Tryd.underlying5 (by kernel_rfl) (by kernel_rfl) h2

theorem ownK : ownKnob Tryd.prog.godebug = none := by kernel_rfl

theorem laid_swap {P : Program} {w : World} {x y : String × DataW Unit} : ∀ {l : List (String × DataW Unit)} {ps : List MemPlace}, DataW.LaidVars P w (l ++ [y] ++ [x]) ps → ∃ ps', DataW.LaidVars P w (l ++ [x] ++ [y]) ps' ∧ ps'.Perm ps
 | [], ps, h => by
  obtain ⟨xn, xd⟩ := x
  obtain ⟨yn, yd⟩ := y
  obtain ⟨g, t, cs, fuel, p, q, h1, h2, h3, h4, h5, rfl⟩ := h
  obtain ⟨g', t', cs', fuel', p', q', k1, k2, k3, k4, k5, rfl⟩ := h5
  have k5 : q' = [] := k5
  subst k5
  refine ⟨_, ⟨g', t', cs', fuel', p', _, k1, k2, k3, k4, ⟨g, t, cs, fuel, p, [], h1, h2, h3, h4, rfl, rfl⟩, rfl⟩, ?_⟩
  rw [List.append_nil, List.append_nil]
  exact List.perm_append_comm
 | (n, d) :: r, ps, h => by
  obtain ⟨g, t, cs, fuel, p, q, h1, h2, h3, h4, h5, rfl⟩ := h
  obtain ⟨q', k1, k2⟩ := laid_swap (l := r) h5
  exact ⟨_, ⟨g, t, cs, fuel, p, q', h1, h2, h3, h4, k1, rfl⟩, List.Perm.append_left _ k2⟩

theorem laidMet_swap {P : Program} {w : World} {x y : String × DataW Unit} {l : List (String × DataW Unit)} (h : laidMet P (l ++ [y] ++ [x]) w) : laidMet P (l ++ [x] ++ [y]) w := by
 obtain ⟨ps, h1, h2, h3⟩ := h
 obtain ⟨ps', k1, k2⟩ := laid_swap h1
 exact ⟨ps', k1, k2.nodup_iff.2 h2, fun b off hp => h3 b off (k2.mem_iff.1 hp)⟩

noncomputable def startW (os : Os) : World :=
 { World.doorLaid Tryd.prog 24 os with heap := (((World.doorLaid Tryd.prog 24 os).heap.setIfInBounds 2 (.cells (Pinned.utf8FirstZ.map fun (n : Nat) => Value.int .u8 (n : Int)).toArray 101 (0, 0))).setIfInBounds 0 (.cells #[.slice (some ⟨(World.doorLaid Tryd.prog 24 os).heap.size, 0, none⟩) 336 336] (Tryd.lays203_ren.t 162) (0, 0))).push (.cells Lib.caseCells5 (Tryd.lays203_ren.t 208) (0, 0)) }

theorem case_same : (Rows.laid_unicode_CaseRanges : DataW Unit) = Lib.caseData := by kernel_rfl

theorem door_met0 (os : Os) (args : Array Value) : laidMet Tryd.prog ([("math/bits.deBruijn32tab", Rows.laid_math_bits_deBruijn32tab), ("math/bits.deBruijn64tab", Rows.laid_math_bits_deBruijn64tab), ("internal/strconv.uint64pow10", Rows.laid_internal_strconv_uint64pow10), ("unicode/utf8.acceptRanges", Rows.laid_unicode_utf8_acceptRanges), ("unicode/utf8.first", Rows.laid_unicode_utf8_first)] ++ [("unicode.CaseRanges", Lib.caseData)]) ((startW os).forCall (fun _ _ => 0) ⟨#[], args, []⟩).memory :=
 laidMet_with_case (ρ := Tryd.lays203_ren) { Tryd.lays203 with } Tryd.lays203.t206 ⟨by kernel_rfl, by kernel_rfl, by kernel_rfl, by kernel_rfl, by kernel_rfl, by kernel_rfl⟩
  10 (by kernel_rfl) (by kernel_rfl) (by kernel_rfl) ((World.doorLaid Tryd.prog 24 default).heap.size) (Tryd.lays203_ren.t 208) (of_decide_eq_true (by kernel_rfl)) (by kernel_rfl) (by kernel_rfl) (by kernel_rfl)

theorem door_met (os : Os) (args : Array Value) : laidMetH Tryd.prog laid8 ((startW os).forCall (fun _ _ => 0) ⟨#[], args, []⟩).memory := by
 have h := door_met0 os args
 rw [← case_same] at h
 exact laidMet_swap (l := [("math/bits.deBruijn32tab", Rows.laid_math_bits_deBruijn32tab), ("math/bits.deBruijn64tab", Rows.laid_math_bits_deBruijn64tab), ("internal/strconv.uint64pow10", Rows.laid_internal_strconv_uint64pow10), ("unicode/utf8.acceptRanges", Rows.laid_unicode_utf8_acceptRanges)]) h

end Go.Proofs.YtpopljcmkbchcaaDoor
