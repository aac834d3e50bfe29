/-
  Walks and plain facts that this claim leans on, put together out of 4 texts: Eix, Eiz, Azh, Etx.
-/
import Derived.Test.YtpopljcmkbchcaaGreatDoorProg
import Derived.Test.YtpopljcmkbchcaaGreatDoorTie
import Derived.Test.YtpopljcmkbchcaaGreatDoorQc1
import Derived.Test.YtpopljcmkbchcaaGreatDoorQc2
import Derived.Test.YtpopljcmkbchcaaGreatDoorQc3
import Derived.Test.YtpopljcmkbchcaaGreatDoorQc4
import Derived.Test.YtpopljcmkbchcaaGreatDoorQc6
import Derived.Test.YtpopljcmkbchcaaGreatDoorQc7
import Derived.Test.YtpopljcmkbchcaaGreatDoorQc8
import Derived.Test.YtpopljcmkbchcaaGreatDoorQc9
import Derived.Test.YtpopljcmkbchcaaGreatDoorQc10
import Derived.Test.YtpopljcmkbchcaaGreatDoorQc11
import Derived.Test.YtpopljcmkbchcaaGreatDoorQc12
import Derived.Test.YtpopljcmkbchcaaGreatDoorQc16
import Derived.Test.YtpopljcmkbchcaaGreatDoorQc20
import Derived.Test.YtpopljcmkbchcaaGreatDoorQc22
import Derived.Test.YtpopljcmkbchcaaGreatDoorQc23
import Derived.Test.YtpopljcmkbchcaaGreatDoorQc24
import Derived.Test.YtpopljcmkbchcaaGreatDoorQc25
import Derived.Test.YtpopljcmkbchcaaGreatDoorQc26
import Derived.Test.YtpopljcmkbchcaaGreatDoorQc29
import Derived.Test.YtpopljcmkbchcaaGreatDoorQc30
import Derived.BigRegion
import Derived.Deep.RegionHeld
import Derived.Deep.RegionHeldLaw
import Derived.Lib.IndexAny
import Derived.WalkKit
import Derived.Lib.UnsafeStr
import Derived.Lib.BufferRead
import Derived.Lib.RuneBytes
import Derived.Laws.RangeAny
import Derived.Deep.LoopGhost
import Derived.Maps.OwnSet
import Derived.Maps.OwnOps
import Derived.Maps.AppendAt
import Derived.StringKeys
import Derived.BigQuiet
import Derived.Deep.QuietTactic
import Derived.LoopN
import Derived.RegionTactic
import Derived.Deep.RegionLaw
import Derived.Deep.RegionWith
import Derived.WalkSpells
import Derived.WalkLawsBesides
import Derived.Lib.FieldsP
import Derived.Lib.DecodeN
import Derived.Lib.IndexMore
import Derived.Lib.Join
import Derived.Lib.SmallJoins
import Derived.Laws.CopyOwn
import Derived.Laws.ResultCell
import Derived.Deep.MidRow
import Derived.Laws.OwnMore
import Derived.Below
import Derived.WalkSmall
import Derived.Lib.LaidTab
import Derived.Lib.AppendIntMem
import Derived.Laws.AppendOwn
import Derived.Laws.Runes
import Derived.Lib.OthersKept
import Derived.Lib.FrozenHead2
import Derived.Lib.Builder
import Derived.Lib.AppendStr
import Derived.Lib.Replace
import Derived.Shelf.GgClosure.GivesRunes
import Derived.Laws.BitsAll
import Derived.Laws.Shifts
import Derived.Deep.DeepAppendRoom
import Derived.Laws.IdiomStrings
import Derived.Laws.BytesString
import Derived.Laws.CopyRow
import Derived.Sort.OwnSorted
import Derived.Lib.SlicesCompact
import Derived.Sort.KeysCollected
import Derived.Lib.Case
import Derived.Maps.RangeWalk
import Derived.Lib.SlMapMerge
import Derived.Laws.IdiomRangeMap
import Derived.Deep.Cut
import Derived.Deep.CutRange
import Derived.Lib.LastIndexByte
import Derived.Shelf.SlIter.Nil
import Derived.Shelf.SortM.Plain
import Derived.Shelf.SortM.SortNone
import Derived.Lib.Strings
import Derived.Laws.BitsAllLaws
import Derived.Lib.Bytealg
import Derived.Lib.BufferMore
import Derived.OwnWalk
import Derived.Shelf.Strings.Builder1
import Derived.Shelf.Strings.Builder2
import Derived.Shelf.Strings.OnBuilder
import Derived.Shelf.Strings.Trim
import Derived.Shelf.Small.Utf8
import Derived.Shelf.Small.Bits
import Derived.Shelf.Small.Strs
import Derived.Shelf.Small.Wraps
import Derived.Shelf.Strings.BuilderF
import Derived.Shelf.Strings.BuilderK
import Derived.Shelf.Strings.BuilderRune
import Derived.Shelf.Utf8.AppendRune
import Derived.Shelf.Utf8.AppendRunePlain
import Derived.Shelf.Strings.Builder2Cap
import Derived.Shelf.Strconv.Itoa0
import Derived.Shelf.Strconv.Itoa1
import Derived.Shelf.LaysM
import Derived.Shelf.Strconv.Itoa2
import Derived.Shelf.Strconv.Itoa3
import Derived.Shelf.Strings.Search1
import Derived.Shelf.Strings.Search2
import Derived.Shelf.Strings.Cut
import Derived.Shelf.Strings.Shaped
import Derived.Shelf.Sort.Plain
import Derived.Shelf.Strings.Prefix
import Derived.Shelf.Unicode.Latin
import Derived.Shelf.Strings.Runes
import Derived.Shelf.Strings.IndexAny
import Derived.Shelf.Strings.AsciiSet
import Derived.Shelf.Strings.IndexAnyAll
import Derived.Shelf.Unicode.DecodeSlow
import Derived.Shelf.Unicode.DecodeAny
import Derived.Shelf.Unicode.DecodeLast
import Derived.Shelf.Unicode.CaseLookup
import Derived.Shelf.Unicode.CaseConvert
import Derived.Shelf.Unicode.CaseTo
import Derived.Shelf.Unicode.CaseLaid
import Derived.Shelf.Slices.CompactS
import Derived.Shelf.Slices.In.SortNone
import Derived.Laws.AppendOwnNone
import Derived.Scope
import Derived.ScopeJumps
import Derived.WalkMore
import Derived.Lib.TrimByte
import Derived.Lib.ItoaNum
import Derived.Deep.WholeRow
import Derived.Lib.SlTrimSet
import Derived.Shelf.Strings.SlTrimAscii
import Derived.Laws.Rows
import Derived.Laws.MakeOwn
import Derived.Stop.LaidErr
import Derived.LaidMore
import Derived.Lib.LaidCaseMet
import Derived.Deep.DeepWitnessRowRef
import Derived.Deep.SlicePairs
set_option linter.unusedSimpArgs false
set_option linter.unusedVariables false

namespace Go.Proofs.YtpopljcmkbchcaaGreatDoor
open Go.RowKit

theorem fewH_bulk19 (L : List Hd) (n m : Nat) (hn : n ≤ 20) (hm : m ≤ 200) : bulkV (fewH L n m) ≤ 5000 := by
 have h := (fewH_szd L n m).bulk
 have h2 := fewH_len L n m
 have h3 : (m + 2) * (fewH L n m).length ≤ 202 * 20 := Nat.mul_le_mul (by omega) (by omega)
 omega

theorem org_named19 (o : Org) : ∃ (s h : ByteArray) (p : Int) (q : Bool), orgVal o = .agg #[.string s, .string h, .int .i64 p, .bool q] ∧ orgCells o = [.string s, .string h, .int .i64 p, .bool q] := ⟨_, _, _, _, rfl, rfl⟩

def ExR (A : Bool) (T : List (List UInt8)) (w : World) (e : Ending) (w' : World) : Prop :=
 ∃ a n c, e = .returned (.tuple #[.slice a n c, .bool A]) ∧ TxAt w' (.slice a n c) T ∧ Below w.heap.size w w'

theorem ExP.tx {L : List Hd} {c : Bool} {w w' : World} {e : Ending} (h : ExP L c w e w') : ExR (exAll L c) (exT L c) w e w' := by
 obtain ⟨u, rfl, ho, hb⟩ := h
 obtain ⟨a, n, c', rfl⟩ := ownsRow_slice ho
 exact ⟨a, n, c', rfl, own_txt' ho, hb⟩

def UnR (T : List (List UInt8)) (w : World) (e : Ending) (w' : World) : Prop :=
 ∃ a n c, e = .returned (.slice a n c) ∧ TxAt w' (.slice a n c) T ∧ Below w.heap.size w w'

theorem unR_of {T : List (List UInt8)} {w w' : World} {e : Ending} (h : ∃ u, e = .returned u ∧ w'.ownsRow w.heap.size 9 1 u T.length (cellsT T) ∧ Below w.heap.size w w') : UnR T w e w' := by
 obtain ⟨u, rfl, ho, hb⟩ := h
 obtain ⟨a, n, c', rfl⟩ := ownsRow_slice ho
 exact ⟨a, n, c', rfl, own_txt' ho, hb⟩

set_option maxHeartbeats 16000000 in
set_option maxRecDepth 100000 in
theorem corsChecks_walk (m s : ByteArray) (c : Bool) (v : Value) (L : List Hd) (w : World) (hm : m.size ≤ 140737488351232) (hs : s.size ≤ 140737488351232) (hv : HdAt w v L) (hz : Szd maxLen L) (hg : Gd w) (hg5 : G5 w) :
  Calls Tryz.prog 6 #[.string m, .string s, .bool c, v] w fun e w' => e = .returned (.bool true) ∧ Below w.heap.size w w' := by
 have HFe := hid (fun (Y : World) (hY : Below w.heap.size w Y) => fewHeaders_any v L 20 200 Y (hv.kept hY) hz (by decide) (by decide))
 obtain ⟨va, vc, rfl, _, _, _⟩ := hv.view
 obtain ⟨nv, hnv⟩ : ∃ n, n = L.length := ⟨_, rfl⟩
 rw [← hnv] at HFe ⊢
 have hzF := fewH_szd L 20 200
 have hlF := fewH_len L 20 200
 have hbF := fewH_bulk19 L 20 200 (by decide) (by decide)
 unfold HdPost at HFe
 generalize fewH L 20 200 = G at HFe hzF hlF hbF
 obtain ⟨hp1, hp2⟩ := pcsV_len16 G nEH
 have hq1 : (exPs G).length ≤ 100000 := by show (pcsV G nEH).length ≤ _; omega
 have hq2 : ∀ x ∈ exPs G, x.length ≤ 1000000 := fun x hx => by have := hp2 x hx; omega
 have HE1 := hid (fun (u : Value) (Y : World) (hu : HdAt Y u G) => (exposed18_any u G c Y hu (hzF.mono (by decide)) (by omega) (by omega) hq2 hq1).mono fun e w' h => h.tx)
 have HE2 := hid (fun (u : Value) (Y : World) (hu : HdAt Y u G) => (rexposed18_any u G c Y hu (hzF.mono (by decide)) (by omega) (by omega) hq2 hq1).mono fun e w' h => h.tx)
 have HU1 := hid (fun (u : Value) (Y : World) (hY : Below w.heap.size w Y) (hu : HdAt Y u G) => (unsafe18_any u G Y (hg5.kept hY) hu (by omega) (hzF.mono (by decide))).mono fun e w' h => unR_of h)
 have HU2 := hid (fun (u : Value) (Y : World) (hu : HdAt Y u G) => (runsafe18_any u G Y hu (by omega) (hzF.mono (by decide))).mono fun e w' h => unR_of h)
 have hxl : (exT G c).length ≤ 1000000 := by
  unfold exT
  split
  ·simp
  ·have := (srtN_facts (exN (exPs G))).2.2
   have := exN_len (exPs G)
   omega
 have hul : (unsV G).length ≤ 1000000 := by have := unsV_len G; omega
 have HS1 := hid (fun (u1 u2 : Value) (Y : World) (h1 : TxAt Y u1 (exT G c)) (h2 : TxAt Y u2 (exT G c)) => sameT_any u1 u2 _ _ Y h1 h2 hxl hxl)
 have HS2 := hid (fun (u1 u2 : Value) (Y : World) (h1 : TxAt Y u1 (unsV G)) (h2 : TxAt Y u2 (unsV G)) => sameT_any u1 u2 _ _ Y h1 h2 hul hul)
 simp only [decide_true] at HS1 HS2
 have HO := hid (of18_at s _ rfl (by omega))
 have ok := orgOk_any s.data.toList
 generalize ofT s.data.toList = O at HO ok
 have HC1 := hid (fun (u : Value) (Y : World) (hY : Below w.heap.size w Y) (hu : HdAt Y u G) => check18_any O c u G Y (hg.kept hY) ok hu (hzF.mono (by decide)) (by omega) (by omega))
 have HC2 := hid (fun (u : Value) (Y : World) (hY : Below w.heap.size w Y) (hu : HdAt Y u G) => rcheck18_any O c u G Y (hg.kept hY) ok hu (hzF.mono (by decide)) (by omega) (by omega))
 generalize chkC (textO O) c G = ck at HC1 HC2
 have HFw := hid (fun w => few_any m 60 w (by decide) (by omega))
 have hml : (m.data.toList.take 60).length ≤ 60 := by rw [List.length_take]; omega
 obtain ⟨m0, hm0⟩ : ∃ X : ByteArray, X = ⟨(m.data.toList.take 60).toArray⟩ := ⟨_, rfl⟩
 rw [← hm0] at HFw
 have hm0s : m0.size ≤ 60 := by rw [hm0, xsize]; exact hml
 have HM1 := hid (fun w => method18_any m0 w (by omega))
 have HM2 := hid (fun w => rmethod18_any m0 w (by omega))
 unfold MePost at HM1 HM2
 have HP1 := hid (fun w => simple18_any m0 w)
 have HP2 := hid (fun w => rsimple18_any m0 w)
 generalize simM m0.data.toList = sm at HP1 HP2
 generalize methB m0.data.toList = mb at HM1 HM2
 generalize methT m0.data.toList = mt at HM1 HM2
 obtain ⟨T, hT⟩ : ∃ X : ByteArray, X = ⟨mt.toArray⟩ := ⟨_, rfl⟩
 rw [← hT] at HM1 HM2
 unfold ExR at HE1 HE2
 unfold UnR at HU1 HU2
 generalize exT G c = X1 at HE1 HE2 HS1
 generalize exAll G c = XA at HE1 HE2
 generalize unsV G = X2 at HU1 HU2 HS2
 have HK := hid (fun w hg => known18_any w hg)
 have HGd := hid hg
 obtain ⟨aS, aH, aP, aQ, hva, hxa⟩ := org_named19 (O)
 rw [hva] at HO HC1 HC2
 have HXa := hid hxa
 clear hm hs hv hz hg hg5 hml hm0 hm0s hT hva hxa ok hzF hlF hbF hp1 hp2 hq1 hq2 hxl hul hnv
 go_enter Tryz.func6, Tryz.ntmps6
 go_wp2_with fail
 refine (HFw.out _).mono ?_
 rintro e wz ⟨rfl, hwz⟩
 rw [← hwz]
 clear hwz
 go_wp2_with fail
 refine (HFe.out _ (Below.refl _ _)).mono ?_
 rintro e w1 ⟨u, rfl, hown, hb1⟩
 have HHd := hid (own_hd hown)
 obtain ⟨ua, un, uc, rfl⟩ := ownsRow_slice hown
 have HB1 := hid hb1
 clear hown hb1 HFe
 go_wp2_with fail
 refine (HO.out _).mono ?_
 rintro e w2 ⟨rfl, hb2⟩
 obtain ⟨W3, hW3⟩ : ∃ X, (w2.alloc (.cells #[.string aS, .string aH, .int .i64 aP, .bool aQ] 71)) = X := ⟨_, rfl⟩
 have hb23 : Below w2.heap.size w2 W3 := by rw [← hW3]; exact (Below.refl _ w2).alloc (Nat.le_refl _) _
 have hO3 : OrgIn W3 w2.heap.size O := by
  unfold OrgIn
  rw [HXa.out, ← hW3]
  exact heap_alloc_new w2 _
 obtain ⟨ba, hba⟩ : ∃ b, w2.heap.size = b := ⟨_, rfl⟩
 rw [hba] at hO3
 have HH3 := hid (HHd.out.kept (below2 hb2 hb23))
 have HB3 := hid (below2 HB1.out (below2 hb2 hb23))
 have HA3 := hid hO3
 have HRa := hid (show ∀ Z, Below W3.heap.size W3 Z → Z.rangeAt (ba) 0 [.string aS, .string aH, .int .i64 aP, .bool aQ] from fun Z hZ => by
  have := range_row (show Z.heap[ba]? = some (.cells (orgCells (O)).toArray 71 (0, 0)) from HA3.out.kept hZ)
  rw [HXa.out] at this
  exact this)
 clear hb2 hb23 hO3
 go_upto_region 4 with fail
 clear hW3
 have HQ3 := hid (Below.refl W3.heap.size W3)
 go_wp2_with fail
 refine (HM1.out _).mono ?_
 rintro e w4 ⟨rfl, hb4⟩
 have HQ4 := hid (below2 HQ3.out hb4)
 clear hb4
 go_wp2_with fail
 refine (HM2.out _).mono ?_
 rintro e w5 ⟨rfl, hb5⟩
 have HQ5 := hid (below2 HQ4.out hb5)
 clear hb5
 go_wp2_with fail
 refine (HE1.out _ _ (HH3.out.kept HQ5.out)).mono ?_
 rintro e w6 ⟨a6, n6, c6, rfl, ht6, hb6⟩
 have HQ6 := hid (below2 HQ5.out hb6)
 have HT6 := hid ht6
 clear hb6 ht6
 go_wp2_with fail
 refine (HE2.out _ _ (HH3.out.kept HQ6.out)).mono ?_
 rintro e w7 ⟨a7, n7, c7, rfl, ht7, hb7⟩
 have HQ7 := hid (below2 HQ6.out hb7)
 have HT7 := hid ht7
 have HT67 := hid (HT6.out.kept hb7)
 clear hb7 ht7
 have HRa7 := hid (fun Z (hZ : Below w7.heap.size w7 Z) => HRa.out Z (below2 HQ7.out hZ))
 have HH7 := hid (fun Z (hZ : Below w7.heap.size w7 Z) => HH3.out.kept (below2 HQ7.out hZ))
 have HW7 := hid (fun Z (hZ : Below w7.heap.size w7 Z) => below2 HB3.out (below2 HQ7.out hZ))
 have HTa := hid (fun Z (hZ : Below w7.heap.size w7 Z) => HT67.out.kept hZ)
 have HTb := hid (fun Z (hZ : Below w7.heap.size w7 Z) => HT7.out.kept hZ)
 have HQ0 := hid ((Below.refl w7.heap.size w7).drew)
 go_upto_region 8 with fail
 refine wp_region_held_drew (S := (fun wx => Below w7.heap.size w7 wx)) (by kernel_rfl) HQ0.out (fun hHeld => ?_)
 refine wpAnyH_to (fuel' := 47) (listed' := #[false, false, false, false, false, false, false, false, false, false, false, false, false, false, false, false, false, false, false, false, false, false, false, false, false, false, false, false, false, false, false, false, false, false, false, false, false, false, false, false, false, false, false, false, false, false, false]) rfl rfl ?_
 refine' wpAnyH_take (i := 0) (oi := ⟨some 46, _, _, _, _, _⟩) (v := _) rfl (by kernel_rfl) (by kernel_rfl) (by kernel_rfl) (fun _ _ _ h => h) (Or.inl ⟨by kernel_rfl, ?hyq1⟩) (by assumption) ?restq1
 case hyq1 => (intro wx hSw; (try dsimp only at hSw); go_simp; first | done | with_reducible rfl)
 (try simp only [Act.put, List.setIfInBounds_toArray, List.set_cons_zero, List.set_cons_succ])
 refine' wpAnyH_take (i := 1) (oi := ⟨some 47, _, _, _, _, _⟩) (v := _) rfl (by kernel_rfl) (by kernel_rfl) (by kernel_rfl) (fun _ _ _ h => h) (Or.inl ⟨by kernel_rfl, ?hyq2⟩) (by assumption) ?restq2
 case hyq2 => (intro wx hSw; (try dsimp only at hSw); go_simp; first | done | with_reducible rfl)
 (try simp only [Act.put, List.setIfInBounds_toArray, List.set_cons_zero, List.set_cons_succ])
 refine' wpAnyH_take (i := 2) (oi := ⟨some 48, _, _, _, _, _⟩) (v := _) rfl (by kernel_rfl) (by kernel_rfl) (by kernel_rfl) (fun _ _ _ h => h) (Or.inl ⟨by kernel_rfl, ?hyq3⟩) (by assumption) ?restq3
 case hyq3 => (intro wx hSw; (try dsimp only at hSw); go_simp; first | done | with_reducible rfl)
 (try simp only [Act.put, List.setIfInBounds_toArray, List.set_cons_zero, List.set_cons_succ])
 refine' wpAnyH_take (i := 3) (oi := ⟨some 49, _, _, _, _, _⟩) (v := _) rfl (by kernel_rfl) (by kernel_rfl) (by kernel_rfl) (fun _ _ _ h => h) (Or.inl ⟨by kernel_rfl, ?hyq4⟩) (by assumption) ?restq4
 case hyq4 => (intro wx hSw; (try dsimp only at hSw); go_simp; first | done | with_reducible rfl)
 (try simp only [Act.put, List.setIfInBounds_toArray, List.set_cons_zero, List.set_cons_succ])
 refine' wpAnyH_take (i := 4) (oi := ⟨some 50, _, _, _, _, _⟩) (v := _) rfl (by kernel_rfl) (by kernel_rfl) (by kernel_rfl) (fun _ _ _ h => h) (Or.inl ⟨by kernel_rfl, ?hyq5⟩) (by assumption) ?restq5
 case hyq5 => (intro wx hSw; (try dsimp only at hSw); go_simp; first | done | with_reducible rfl)
 (try simp only [Act.put, List.setIfInBounds_toArray, List.set_cons_zero, List.set_cons_succ])
 refine' wpAnyH_take (i := 5) (oi := ⟨some 51, _, _, _, _, _⟩) (v := _) rfl (by kernel_rfl) (by kernel_rfl) (by kernel_rfl) (fun _ _ _ h => h) (Or.inl ⟨by kernel_rfl, ?hyq6⟩) (by assumption) ?restq6
 case hyq6 => (intro wx hSw; (try dsimp only at hSw); go_simp; first | done | with_reducible rfl)
 (try simp only [Act.put, List.setIfInBounds_toArray, List.set_cons_zero, List.set_cons_succ])
 refine' wpAnyH_take (i := 6) (oi := ⟨some 52, _, _, _, _, _⟩) (v := _) rfl (by kernel_rfl) (by kernel_rfl) (by kernel_rfl) (fun _ _ _ h => h) (Or.inl ⟨by kernel_rfl, ?hyq7⟩) (by assumption) ?restq7
 case hyq7 => (intro wx hSw; (try dsimp only at hSw); go_simp; first | done | with_reducible rfl)
 (try simp only [Act.put, List.setIfInBounds_toArray, List.set_cons_zero, List.set_cons_succ])
 refine' wpAnyH_take (i := 7) (oi := ⟨some 53, _, _, _, _, _⟩) (v := _) rfl (by kernel_rfl) (by kernel_rfl) (by kernel_rfl) (fun _ _ _ h => h) (Or.inl ⟨by kernel_rfl, ?hyq8⟩) (by assumption) ?restq8
 case hyq8 => (intro wx hSw; (try dsimp only at hSw); go_simp; first | done | with_reducible rfl)
 (try simp only [Act.put, List.setIfInBounds_toArray, List.set_cons_zero, List.set_cons_succ])
 refine' wpAnyH_take (i := 8) (oi := ⟨some 54, _, _, _, _, _⟩) (v := _) rfl (by kernel_rfl) (by kernel_rfl) (by kernel_rfl) (fun _ _ _ h => h) (Or.inl ⟨by kernel_rfl, ?hyq9⟩) (by assumption) ?restq9
 case hyq9 => (intro wx hSw; (try dsimp only at hSw); go_simp; first | done | with_reducible rfl)
 (try simp only [Act.put, List.setIfInBounds_toArray, List.set_cons_zero, List.set_cons_succ])
 refine' wpAnyH_take (i := 9) (oi := ⟨some 55, _, _, _, _, _⟩) (v := _) rfl (by kernel_rfl) (by kernel_rfl) (by kernel_rfl) (fun _ _ _ h => h) (Or.inl ⟨by kernel_rfl, ?hyq10⟩) (by assumption) ?restq10
 case hyq10 => (intro wx hSw; (try dsimp only at hSw); go_simp; first | done | with_reducible rfl)
 (try simp only [Act.put, List.setIfInBounds_toArray, List.set_cons_zero, List.set_cons_succ])
 refine' wpAnyH_take (i := 11) (oi := ⟨some 57, _, _, _, _, _⟩) (v := _) rfl (by kernel_rfl) (by kernel_rfl) (by kernel_rfl) (fun _ _ _ h => h) (Or.inl ⟨by kernel_rfl, ?hyq11⟩) (by assumption) ?restq11
 case hyq11 => (intro wx hSw; (try dsimp only at hSw); go_simp; first | done | with_reducible rfl)
 (try simp only [Act.put, List.setIfInBounds_toArray, List.set_cons_zero, List.set_cons_succ])
 refine wpAnyH_ready (rs := [10]) (by kernel_rfl) (by simp) ?_
 refine AllReadyH.cons rfl (fun K9 hK => ?_) AllReadyH.nil
 rw [if_pos (by kernel_rfl)]
 go_simp
 go_wp2_with (go_at_call 41; refine (HP1.out _).mono ?_; rintro e wz ⟨rfl, hwz⟩; rw [← hwz]; clear hwz)
 refine hK.out _ _ HQ0.out (fun hHeld2 => ?_)
 clear hK K9 hHeld
 rename _ => hHeld
 refine wpAnyH_ready (rs := [12]) (by kernel_rfl) (by simp) ?_
 refine AllReadyH.cons rfl (fun K9 hK => ?_) AllReadyH.nil
 rw [if_pos (by kernel_rfl)]
 go_simp
 go_wp2_with (go_at_call 46; refine (HP2.out _).mono ?_; rintro e wz ⟨rfl, hwz⟩; rw [← hwz]; clear hwz)
 refine hK.out _ _ HQ0.out (fun hHeld2 => ?_)
 clear hK K9 hHeld
 rename _ => hHeld
 refine' wpAnyH_take (i := 13) (oi := ⟨some 59, _, _, _, _, _⟩) (v := _) rfl (by kernel_rfl) (by kernel_rfl) (by kernel_rfl) (fun _ _ _ h => h) (Or.inl ⟨by kernel_rfl, ?hyq12⟩) (by assumption) ?restq12
 case hyq12 => (intro wx hSw; (try dsimp only at hSw); go_simp; first | done | with_reducible rfl)
 (try simp only [Act.put, List.setIfInBounds_toArray, List.set_cons_zero, List.set_cons_succ])
 refine' wpAnyH_take (i := 14) (oi := ⟨some 60, _, _, _, _, _⟩) (v := _) rfl (by kernel_rfl) (by kernel_rfl) (by kernel_rfl) (fun _ _ _ h => h) (Or.inl ⟨by kernel_rfl, ?hyq13⟩) (by assumption) ?restq13
 case hyq13 => (intro wx hSw; (try dsimp only at hSw); go_simp; first | done | with_reducible rfl)
 (try simp only [Act.put, List.setIfInBounds_toArray, List.set_cons_zero, List.set_cons_succ])
 refine' wpAnyH_take (i := 15) (oi := ⟨some 61, _, _, _, _, _⟩) (v := _) rfl (by kernel_rfl) (by kernel_rfl) (by kernel_rfl) (fun _ _ _ h => h) (Or.inl ⟨by kernel_rfl, ?hyq14⟩) (by assumption) ?restq14
 case hyq14 => (intro wx hSw; (try dsimp only at hSw); go_simp; first | done | with_reducible rfl)
 (try simp only [Act.put, List.setIfInBounds_toArray, List.set_cons_zero, List.set_cons_succ])
 refine' wpAnyH_take (i := 16) (oi := ⟨some 62, _, _, _, _, _⟩) (v := _) rfl (by kernel_rfl) (by kernel_rfl) (by kernel_rfl) (fun _ _ _ h => h) (Or.inl ⟨by kernel_rfl, ?hyq15⟩) (by assumption) ?restq15
 case hyq15 => (intro wx hSw; (try dsimp only at hSw); go_simp; first | done | with_reducible rfl)
 (try simp only [Act.put, List.setIfInBounds_toArray, List.set_cons_zero, List.set_cons_succ])
 refine' wpAnyH_take (i := 18) (oi := ⟨some 64, _, _, _, _, _⟩) (v := _) rfl (by kernel_rfl) (by kernel_rfl) (by kernel_rfl) (fun _ _ _ h => h) (Or.inl ⟨by kernel_rfl, ?hyq16⟩) (by assumption) ?restq16
 case hyq16 => (intro wx hSw; (try dsimp only at hSw); go_simp; first | done | with_reducible rfl)
 (try simp only [Act.put, List.setIfInBounds_toArray, List.set_cons_zero, List.set_cons_succ])
 refine wpAnyH_ready (rs := [17]) (by kernel_rfl) (by simp) ?_
 refine AllReadyH.cons rfl (fun K9 hK => ?_) AllReadyH.nil
 rw [if_pos (by kernel_rfl)]
 go_simp
 go_wp2_with (go_at_call 38; refine (HU1.out _ _ (HW7.out _ HQ0.out) (HH7.out _ HQ0.out)).mono ?_; rintro e w21 ⟨a8, n8, c8, rfl, ht8, hba9⟩)
 have HQ21 := hid (below2 HQ0.out hba9)
 have HT8 := hid ht8
 clear ht8
 clear hba9
 refine hK.out _ _ HQ21.out (fun hHeld2 => ?_)
 clear hK K9 hHeld
 rename _ => hHeld
 refine wpAnyH_ready (rs := [19]) (by kernel_rfl) (by simp) ?_
 refine AllReadyH.cons rfl (fun K9 hK => ?_) AllReadyH.nil
 rw [if_pos (by kernel_rfl)]
 go_simp
 go_wp2_with (go_at_call 47; refine (HU2.out _ _ (HH7.out _ HQ21.out)).mono ?_; rintro e w22 ⟨a9, n9, c9, rfl, ht9, hba9⟩)
 have HQ22 := hid (below2 HQ21.out hba9)
 have HT9 := hid ht9
 have HT89 := hid (HT8.out.kept hba9)
 clear ht9
 clear hba9
 refine hK.out _ _ HQ22.out (fun hHeld2 => ?_)
 clear hK K9 hHeld
 rename _ => hHeld
 refine wpAnyH_ready (rs := [20]) (by kernel_rfl) (by simp) ?_
 refine AllReadyH.cons rfl (fun K9 hK => ?_) AllReadyH.nil
 rw [if_pos (by kernel_rfl)]
 go_simp
 go_wp2_with (go_at_call 25; refine (HS2.out _ _ _ HT89.out HT9.out).mono ?_; rintro e w23 ⟨rfl, hba9⟩)
 have HQ23 := hid (below2 HQ22.out hba9)
 clear hba9
 refine hK.out _ _ HQ23.out (fun hHeld2 => ?_)
 clear hK K9 hHeld
 rename _ => hHeld
 refine' wpAnyH_take (i := 21) (oi := ⟨some 67, _, _, _, _, _⟩) (v := _) rfl (by kernel_rfl) (by kernel_rfl) (by kernel_rfl) (fun _ _ _ h => h) (Or.inl ⟨by kernel_rfl, ?hyq17⟩) (by assumption) ?restq17
 case hyq17 => (intro wx hSw; (try dsimp only at hSw); go_simp; first | done | with_reducible rfl)
 (try simp only [Act.put, List.setIfInBounds_toArray, List.set_cons_zero, List.set_cons_succ])
 refine' wpAnyH_take (i := 22) (oi := ⟨some 68, _, _, _, _, _⟩) (v := _) rfl (by kernel_rfl) (by kernel_rfl) (by kernel_rfl) (fun _ _ _ h => h) (Or.inl ⟨by kernel_rfl, ?hyq18⟩) (by assumption) ?restq18
 case hyq18 => (intro wx hSw; (try dsimp only at hSw); go_simp; first | done | with_reducible rfl)
 (try simp only [Act.put, List.setIfInBounds_toArray, List.set_cons_zero, List.set_cons_succ])
 refine' wpAnyH_take (i := 24) (oi := ⟨some 70, _, _, _, _, _⟩) (v := _) rfl (by kernel_rfl) (by kernel_rfl) (by kernel_rfl) (fun _ _ _ h => h) (Or.inl ⟨by kernel_rfl, ?hyq19⟩) (by assumption) ?restq19
 case hyq19 => (intro wx hSw; (try dsimp only at hSw); go_simp; first | done | with_reducible rfl)
 (try simp only [Act.put, List.setIfInBounds_toArray, List.set_cons_zero, List.set_cons_succ])
 refine' wpAnyH_take (i := 25) (oi := ⟨some 71, _, _, _, _, _⟩) (v := _) rfl (by kernel_rfl) (by kernel_rfl) (by kernel_rfl) (fun _ _ _ h => h) (Or.inl ⟨by kernel_rfl, ?hyq20⟩) (by assumption) ?restq20
 case hyq20 => (intro wx hSw; (try dsimp only at hSw); go_simp; first | done | with_reducible rfl)
 (try simp only [Act.put, List.setIfInBounds_toArray, List.set_cons_zero, List.set_cons_succ])
 refine' wpAnyH_take (i := 28) (oi := ⟨some 74, _, _, _, _, _⟩) (v := _) rfl (by kernel_rfl) (by kernel_rfl) (by kernel_rfl) (fun _ _ _ h => h) (Or.inl ⟨by kernel_rfl, ?hyq21⟩) (by assumption) ?restq21
 case hyq21 => (intro wx hSw; (try dsimp only at hSw); go_simp; first | done | with_reducible rfl)
 (try simp only [Act.put, List.setIfInBounds_toArray, List.set_cons_zero, List.set_cons_succ])
 refine' wpAnyH_take (i := 29) (oi := ⟨some 75, _, _, _, _, _⟩) (v := _) rfl (by kernel_rfl) (by kernel_rfl) (by kernel_rfl) (fun _ _ _ h => h) (Or.inl ⟨by kernel_rfl, ?hyq22⟩) (by assumption) ?restq22
 case hyq22 => (intro wx hSw; (try dsimp only at hSw); go_simp; first | done | with_reducible rfl)
 (try simp only [Act.put, List.setIfInBounds_toArray, List.set_cons_zero, List.set_cons_succ])
 refine wpAnyH_take (i := 23) (oi := ⟨some 69, _, _, _, _, _⟩) rfl (by kernel_rfl) (by kernel_rfl) (by kernel_rfl) (fun _ _ _ h => h) (yieldsIf_load_mid (by kernel_rfl) 71 (.tmp 9) rfl (ba) 0 rfl [.string aS, .string aH, .int .i64 aP, .bool aQ] _ HRa7.out Tryz.underlying71 rfl sizeO) (by assumption) ?_
 (try simp only [Act.put, List.setIfInBounds_toArray, List.set_cons_zero, List.set_cons_succ])
 refine wpAnyH_take (i := 27) (oi := ⟨some 73, _, _, _, _, _⟩) rfl (by kernel_rfl) (by kernel_rfl) (by kernel_rfl) (fun _ _ _ h => h) (yieldsIf_load_mid (by kernel_rfl) 71 (.tmp 9) rfl (ba) 0 rfl [.string aS, .string aH, .int .i64 aP, .bool aQ] _ HRa7.out Tryz.underlying71 rfl sizeO) (by assumption) ?_
 (try simp only [Act.put, List.setIfInBounds_toArray, List.set_cons_zero, List.set_cons_succ])
 refine wpAnyH_ready (rs := [26]) (by kernel_rfl) (by simp) ?_
 refine AllReadyH.cons rfl (fun K9 hK => ?_) AllReadyH.nil
 rw [if_pos (by kernel_rfl)]
 go_simp
 go_wp2_with (go_at_call 39; refine (HC1.out _ _ (HW7.out _ HQ23.out) (HH7.out _ HQ23.out)).mono ?_; rintro e w24 ⟨rfl, hba9⟩)
 have HQ24 := hid (below2 HQ23.out hba9)
 clear hba9
 refine hK.out _ _ HQ24.out (fun hHeld2 => ?_)
 clear hK K9 hHeld
 rename _ => hHeld
 refine wpAnyH_ready (rs := [30]) (by kernel_rfl) (by simp) ?_
 refine AllReadyH.cons rfl (fun K9 hK => ?_) AllReadyH.nil
 rw [if_pos (by kernel_rfl)]
 go_simp
 go_wp2_with (go_at_call 48; refine (HC2.out _ _ (HW7.out _ HQ24.out) (HH7.out _ HQ24.out)).mono ?_; rintro e w25 ⟨rfl, hba9⟩)
 have HQ25 := hid (below2 HQ24.out hba9)
 clear hba9
 refine hK.out _ _ HQ25.out (fun hHeld2 => ?_)
 clear hK K9 hHeld
 rename _ => hHeld
 refine' wpAnyH_take (i := 31) (oi := ⟨some 77, _, _, _, _, _⟩) (v := _) rfl (by kernel_rfl) (by kernel_rfl) (by kernel_rfl) (fun _ _ _ h => h) (Or.inl ⟨by kernel_rfl, ?hyq23⟩) (by assumption) ?restq23
 case hyq23 => (intro wx hSw; (try dsimp only at hSw); go_simp; first | done | with_reducible rfl)
 (try simp only [Act.put, List.setIfInBounds_toArray, List.set_cons_zero, List.set_cons_succ])
 refine' wpAnyH_take (i := 32) (oi := ⟨some 78, _, _, _, _, _⟩) (v := _) rfl (by kernel_rfl) (by kernel_rfl) (by kernel_rfl) (fun _ _ _ h => h) (Or.inl ⟨by kernel_rfl, ?hyq24⟩) (by assumption) ?restq24
 case hyq24 => (intro wx hSw; (try dsimp only at hSw); go_simp; first | done | with_reducible rfl)
 (try simp only [Act.put, List.setIfInBounds_toArray, List.set_cons_zero, List.set_cons_succ])
 refine' wpAnyH_take (i := 33) (oi := ⟨some 79, _, _, _, _, _⟩) (v := _) rfl (by kernel_rfl) (by kernel_rfl) (by kernel_rfl) (fun _ _ _ h => h) (Or.inl ⟨by kernel_rfl, ?hyq25⟩) (by assumption) ?restq25
 case hyq25 => (intro wx hSw; (try dsimp only at hSw); go_simp; first | done | with_reducible rfl)
 (try simp only [Act.put, List.setIfInBounds_toArray, List.set_cons_zero, List.set_cons_succ])
 refine' wpAnyH_take (i := 34) (oi := ⟨some 80, _, _, _, _, _⟩) (v := _) rfl (by kernel_rfl) (by kernel_rfl) (by kernel_rfl) (fun _ _ _ h => h) (Or.inl ⟨by kernel_rfl, ?hyq26⟩) (by assumption) ?restq26
 case hyq26 => (intro wx hSw; (try dsimp only at hSw); go_simp; first | done | with_reducible rfl)
 (try simp only [Act.put, List.setIfInBounds_toArray, List.set_cons_zero, List.set_cons_succ])
 refine' wpAnyH_take (i := 35) (oi := ⟨some 81, _, _, _, _, _⟩) (v := _) rfl (by kernel_rfl) (by kernel_rfl) (by kernel_rfl) (fun _ _ _ h => h) (Or.inl ⟨by kernel_rfl, ?hyq27⟩) (by assumption) ?restq27
 case hyq27 => (intro wx hSw; (try dsimp only at hSw); go_simp; first | done | with_reducible rfl)
 (try simp only [Act.put, List.setIfInBounds_toArray, List.set_cons_zero, List.set_cons_succ])
 refine wpAnyH_ready (rs := [36]) (by kernel_rfl) (by simp) ?_
 refine AllReadyH.cons rfl (fun K9 hK => ?_) AllReadyH.nil
 rw [if_pos (by kernel_rfl)]
 go_simp
 go_wp2_with (go_at_call 25; refine (HS1.out _ _ _ (HTa.out _ HQ25.out) (HTb.out _ HQ25.out)).mono ?_; rintro e w26 ⟨rfl, hba9⟩)
 have HQ26 := hid (below2 HQ25.out hba9)
 clear hba9
 refine hK.out _ _ HQ26.out (fun hHeld2 => ?_)
 clear hK K9 hHeld
 rename _ => hHeld
 refine' wpAnyH_take (i := 37) (oi := ⟨some 83, _, _, _, _, _⟩) (v := _) rfl (by kernel_rfl) (by kernel_rfl) (by kernel_rfl) (fun _ _ _ h => h) (Or.inl ⟨by kernel_rfl, ?hyq28⟩) (by assumption) ?restq28
 case hyq28 => (intro wx hSw; (try dsimp only at hSw); go_simp; first | done | with_reducible rfl)
 (try simp only [Act.put, List.setIfInBounds_toArray, List.set_cons_zero, List.set_cons_succ])
 refine' wpAnyH_take (i := 38) (oi := ⟨some 84, _, _, _, _, _⟩) (v := _) rfl (by kernel_rfl) (by kernel_rfl) (by kernel_rfl) (fun _ _ _ h => h) (Or.inl ⟨by kernel_rfl, ?hyq29⟩) (by assumption) ?restq29
 case hyq29 => (intro wx hSw; (try dsimp only at hSw); go_simp; first | done | with_reducible rfl)
 (try simp only [Act.put, List.setIfInBounds_toArray, List.set_cons_zero, List.set_cons_succ])
 refine' wpAnyH_take (i := 39) (oi := ⟨some 85, _, _, _, _, _⟩) (v := _) rfl (by kernel_rfl) (by kernel_rfl) (by kernel_rfl) (fun _ _ _ h => h) (Or.inl ⟨by kernel_rfl, ?hyq30⟩) (by assumption) ?restq30
 case hyq30 => (intro wx hSw; (try dsimp only at hSw); go_simp; first | done | with_reducible rfl)
 (try simp only [Act.put, List.setIfInBounds_toArray, List.set_cons_zero, List.set_cons_succ])
 refine' wpAnyH_take (i := 40) (oi := ⟨some 86, _, _, _, _, _⟩) (v := _) rfl (by kernel_rfl) (by kernel_rfl) (by kernel_rfl) (fun _ _ _ h => h) (Or.inl ⟨by kernel_rfl, ?hyq31⟩) (by assumption) ?restq31
 case hyq31 => (intro wx hSw; (try dsimp only at hSw); go_simp; first | done | with_reducible rfl)
 (try simp only [Act.put, List.setIfInBounds_toArray, List.set_cons_zero, List.set_cons_succ])
 refine' wpAnyH_take (i := 41) (oi := ⟨some 87, _, _, _, _, _⟩) (v := _) rfl (by kernel_rfl) (by kernel_rfl) (by kernel_rfl) (fun _ _ _ h => h) (Or.inl ⟨by kernel_rfl, ?hyq32⟩) (by assumption) ?restq32
 case hyq32 => (intro wx hSw; (try dsimp only at hSw); go_simp; first | done | with_reducible rfl)
 (try simp only [Act.put, List.setIfInBounds_toArray, List.set_cons_zero, List.set_cons_succ])
 refine' wpAnyH_take (i := 42) (oi := ⟨some 88, _, _, _, _, _⟩) (v := _) rfl (by kernel_rfl) (by kernel_rfl) (by kernel_rfl) (fun _ _ _ h => h) (Or.inl ⟨by kernel_rfl, ?hyq33⟩) (by assumption) ?restq33
 case hyq33 => (intro wx hSw; (try dsimp only at hSw); go_simp; first | done | with_reducible rfl)
 (try simp only [Act.put, List.setIfInBounds_toArray, List.set_cons_zero, List.set_cons_succ])
 refine' wpAnyH_take (i := 43) (oi := ⟨some 89, _, _, _, _, _⟩) (v := _) rfl (by kernel_rfl) (by kernel_rfl) (by kernel_rfl) (fun _ _ _ h => h) (Or.inl ⟨by kernel_rfl, ?hyq34⟩) (by assumption) ?restq34
 case hyq34 => (intro wx hSw; (try dsimp only at hSw); go_simp; first | done | with_reducible rfl)
 (try simp only [Act.put, List.setIfInBounds_toArray, List.set_cons_zero, List.set_cons_succ])
 refine wpAnyH_ready (rs := [44]) (by kernel_rfl) (by simp) ?_
 refine AllReadyH.cons rfl (fun K9 hK => ?_) AllReadyH.nil
 rw [if_pos (by kernel_rfl)]
 go_simp
 go_wp2_with (go_at_call 42; refine (HK.out _ (HGd.out.kept (HW7.out _ HQ26.out))).mono ?_; rintro e w27 ⟨rfl, hba9⟩)
 have HQ27 := hid (below2 HQ26.out hba9)
 clear hba9
 refine hK.out _ _ HQ27.out (fun hHeld2 => ?_)
 clear hK K9 hHeld
 rename _ => hHeld
 refine' wpAnyH_take (i := 45) (oi := ⟨some 91, _, _, _, _, _⟩) (v := _) rfl (by kernel_rfl) (by kernel_rfl) (by kernel_rfl) (fun _ _ _ h => h) (Or.inl ⟨by kernel_rfl, ?hyq35⟩) (by assumption) ?restq35
 case hyq35 => (intro wx hSw; (try dsimp only at hSw); go_simp; first | done | with_reducible rfl)
 (try simp only [Act.put, List.setIfInBounds_toArray, List.set_cons_zero, List.set_cons_succ])
 refine' wpAnyH_take (i := 46) (oi := ⟨some 8, _, _, _, _, _⟩) (v := _) rfl (by kernel_rfl) (by kernel_rfl) (by kernel_rfl) (fun _ _ _ h => h) (Or.inl ⟨by kernel_rfl, ?hyq36⟩) (by assumption) ?restq36
 case hyq36 => (intro wx hSw; (try dsimp only at hSw); go_simp; first | done | with_reducible rfl)
 (try simp only [Act.put, List.setIfInBounds_toArray, List.set_cons_zero, List.set_cons_succ])
 refine wpAnyH_done (by kernel_rfl) ?_ _
 go_wp2_with fail
 go_ret
 exact ⟨rfl, HW7.out _ HQ27.out⟩

end Go.Proofs.YtpopljcmkbchcaaGreatDoor

namespace Go.Proofs.YtpopljcmkbchcaaGreatDoor
open Go.RowKit Go.Shelf

def laid8 : List (String × DataW Unit) := [("math/bits.deBruijn32tab", Rows.laid_math_bits_deBruijn32tab), ("math/bits.deBruijn64tab", Rows.laid_math_bits_deBruijn64tab), ("internal/strconv.uint64pow10", Rows.laid_internal_strconv_uint64pow10), ("unicode/utf8.acceptRanges", Rows.laid_unicode_utf8_acceptRanges), ("unicode.CaseRanges", Rows.laid_unicode_CaseRanges), ("unicode/utf8.first", Rows.laid_unicode_utf8_first)]

theorem g5_of_shaped {W : World} (hsh : W.ShapedOpen Tryz.prog) : G5 W :=
 Go.Proofs.cell_of_shapedOpen_int (zero := #[.int .i64 0]) (t := 3) hsh (of_decide_eq_true (by kernel_rfl)) (by kernel_rfl) rfl (by kernel_rfl) (by kernel_rfl) Tryz.underlying3

theorem gd8_of_laid {W : World} (h : laidMetH Tryz.prog laid8 W) (hsh : W.ShapedOpen Tryz.prog) : Gd W := by
 have h' : laidMet Tryz.prog laid8 W := h
 have h2 := h'.tail
 have h3 := h2.tail
 refine ⟨g5_of_shaped hsh, ?_, ?_⟩
 ·exact Lib.tabIs_of_head gPow10 (by kernel_rfl) Tryz.underlying232 Tryz.underlying195 (by kernel_rfl) (by kernel_rfl) h3
 ·exact Lib.tabIs_of_head gDB64 (by kernel_rfl) Tryz.underlying269 Tryz.underlying5 (by kernel_rfl) (by kernel_rfl) h2

theorem ownK : ownKnob Tryz.prog.godebug = none := by kernel_rfl

theorem laid_swap {P : Program} {w : World} {x y : String × DataW Unit} : ∀ {l : List (String × DataW Unit)} {ps : List MemPlace}, DataW.LaidVars P w (l ++ [y] ++ [x]) ps → ∃ ps', DataW.LaidVars P w (l ++ [x] ++ [y]) ps' ∧ ps'.Perm ps
 | [], ps, h => by
  obtain ⟨xn, xd⟩ := x
  obtain ⟨yn, yd⟩ := y
  obtain ⟨g, t, cs, fuel, p, q, h1, h2, h3, h4, h5, rfl⟩ := h
  obtain ⟨g', t', cs', fuel', p', q', k1, k2, k3, k4, k5, rfl⟩ := h5
  have k5 : q' = [] := k5
  subst k5
  refine ⟨_, ⟨g', t', cs', fuel', p', _, k1, k2, k3, k4, ⟨g, t, cs, fuel, p, [], h1, h2, h3, h4, rfl, rfl⟩, rfl⟩, ?_⟩
  rw [List.append_nil, List.append_nil]
  exact List.perm_append_comm
 | (n, d) :: r, ps, h => by
  obtain ⟨g, t, cs, fuel, p, q, h1, h2, h3, h4, h5, rfl⟩ := h
  obtain ⟨q', k1, k2⟩ := laid_swap (l := r) h5
  exact ⟨_, ⟨g, t, cs, fuel, p, q', h1, h2, h3, h4, k1, rfl⟩, List.Perm.append_left _ k2⟩

theorem laidMet_swap {P : Program} {w : World} {x y : String × DataW Unit} {l : List (String × DataW Unit)} (h : laidMet P (l ++ [y] ++ [x]) w) : laidMet P (l ++ [x] ++ [y]) w := by
 obtain ⟨ps, h1, h2, h3⟩ := h
 obtain ⟨ps', k1, k2⟩ := laid_swap h1
 exact ⟨ps', k1, k2.nodup_iff.2 h2, fun b off hp => h3 b off (k2.mem_iff.1 hp)⟩

noncomputable def startW (os : Os) : World :=
 { World.doorLaid Tryz.prog 24 os with heap := (((World.doorLaid Tryz.prog 24 os).heap.setIfInBounds 3 (.cells (Pinned.utf8FirstZ.map fun (n : Nat) => Value.int .u8 (n : Int)).toArray 253 (0, 0))).setIfInBounds 1 (.cells #[.slice (some ⟨(World.doorLaid Tryz.prog 24 os).heap.size, 0, none⟩) 336 336] (Tryz.lays203_ren.t 162) (0, 0))).push (.cells Lib.caseCells5 (Tryz.lays203_ren.t 208) (0, 0)) }

theorem case_same : (Rows.laid_unicode_CaseRanges : DataW Unit) = Lib.caseData := by kernel_rfl

theorem door_met0 (os : Os) (args : Array Value) : laidMet Tryz.prog ([("math/bits.deBruijn32tab", Rows.laid_math_bits_deBruijn32tab), ("math/bits.deBruijn64tab", Rows.laid_math_bits_deBruijn64tab), ("internal/strconv.uint64pow10", Rows.laid_internal_strconv_uint64pow10), ("unicode/utf8.acceptRanges", Rows.laid_unicode_utf8_acceptRanges), ("unicode/utf8.first", Rows.laid_unicode_utf8_first)] ++ [("unicode.CaseRanges", Lib.caseData)]) ((startW os).forCall (fun _ _ => 0) ⟨#[], args, []⟩).memory :=
 laidMet_with_case (ρ := Tryz.lays203_ren) { Tryz.lays203 with } Tryz.lays203.t206 ⟨by kernel_rfl, by kernel_rfl, by kernel_rfl, by kernel_rfl, by kernel_rfl, by kernel_rfl⟩
  10 (by kernel_rfl) (by kernel_rfl) (by kernel_rfl) ((World.doorLaid Tryz.prog 24 default).heap.size) (Tryz.lays203_ren.t 208) (of_decide_eq_true (by kernel_rfl)) (by kernel_rfl) (by kernel_rfl) (by kernel_rfl)

theorem door_met (os : Os) (args : Array Value) : laidMetH Tryz.prog laid8 ((startW os).forCall (fun _ _ => 0) ⟨#[], args, []⟩).memory := by
 have h := door_met0 os args
 rw [← case_same] at h
 exact laidMet_swap (l := [("math/bits.deBruijn32tab", Rows.laid_math_bits_deBruijn32tab), ("math/bits.deBruijn64tab", Rows.laid_math_bits_deBruijn64tab), ("internal/strconv.uint64pow10", Rows.laid_internal_strconv_uint64pow10), ("unicode/utf8.acceptRanges", Rows.laid_unicode_utf8_acceptRanges)]) h

end Go.Proofs.YtpopljcmkbchcaaGreatDoor

namespace Go.Proofs.YtpopljcmkbchcaaGreatDoor
open Go.RowKit

theorem undHd0 : ∃ f0 f1, Tryz.prog.underlying 45 = some (.struct #[f0, f1]) ∧ f0.offset = 0 ∧ f1.offset = 1 ∧ f0.type = 9 ∧ f1.type = 9 := ⟨_, _, Tryz.underlying45, rfl, rfl, rfl, rfl⟩

theorem spot_none0 {w : World} {x : Addr} {v : Value} (h : w.cell? x = some v) : x.spot = none := by
 unfold World.cell? at h
 cases hs : x.spot with
 | none => rfl
 | some y =>
  rw [hs] at h
  split at h
  ·simp at h
  ·cases h

theorem addr_add0 {x : Addr} (h : x.spot = none) (j : Nat) : x.add j = ⟨x.block, x.off + j, none⟩ := by
 unfold Addr.add
 split
 ·subst_vars; rw [← h]; rfl
 ·rfl

theorem hd_arg0 {H : Type} {enc : TypeId × Value → H} {W : World} {a : Option Addr} {len cap : Nat} {d : DataW H} {p : List MemPlace} {fuel : Nat}
  (hf : DataW.trod enc Tryz.prog W 0 (fun _ => true) true fuel 27 [.slice a len cap] = some (d, p)) :
  ∃ L, HdAt W (.slice a len cap) L ∧ Szd maxLen L := by
 obtain ⟨f0, f1, hu, o0, o1, t0, t1⟩ := undHd0
 have c1 : Tryz.prog.cellsOf 9 = 1 := by kernel_rfl
 rcases Deep.open_slice_pairs Tryz.underlying27 hu (by kernel_rfl) o0 o1 (by rw [t0]; exact c1) (by rw [t1]; exact c1) hf with ⟨hcs, _⟩ | ⟨x, len', cap', m, n, V0, V1, D0, D1, P0, P1, hcs, _, hl, hm, hmm, hx, hcell⟩
 ·simp at hcs
  obtain ⟨rfl, rfl, rfl⟩ := hcs
  exact ⟨[], hd_nil _, fun h hh => by simp at hh⟩
 ·simp at hcs
  obtain ⟨rfl, rfl, rfl⟩ := hcs
  have hlm : len ≤ m := by rw [hmm]; simp; omega
  have each : ∀ i, i < len → ∃ s : ByteArray × ByteArray, W.cell? (x.add (i * 2)) = some (.string s.1) ∧ W.cell? (x.add (i * 2 + 1)) = some (.string s.2) ∧ s.1.data.toList.length ≤ maxLen ∧ s.2.data.toList.length ≤ maxLen := fun i hi => by
   obtain ⟨q0, q1, r0, r1⟩ := hcell i (by omega)
   rw [t0] at r0
   rw [t1] at r1
   obtain ⟨s0, e0, y0, z0⟩ := DataW.trod_string Tryz.underlying9 r0
   obtain ⟨s1, e1, y1, z1⟩ := DataW.trod_string Tryz.underlying9 r1
   simp at e0 e1
   rw [e0] at q0
   rw [e1] at q1
   exact ⟨(s0, s1), q0, q1, by rw [← Lib.size_eq]; exact z0, by rw [← Lib.size_eq]; exact z1⟩
  obtain ⟨F, hF⟩ := Deep.choose_lt each
  have hL : ((List.range len).map fun i => (⟨(F i).1.data.toList, (F i).2.data.toList⟩ : Hd)).length = len := by simp
  refine ⟨(List.range len).map fun i => ⟨(F i).1.data.toList, (F i).2.data.toList⟩, ⟨some x, cap, by rw [hL], by rw [hL]; exact hl, hm, fun i hi => ?_⟩, fun h hh => ?_⟩
  ·rw [hL] at hi
   have h0 := hF 0 (by omega)
   have hsp : x.spot = none := spot_none0 (by simpa [Addr.add] using h0.1)
   obtain ⟨q0, q1, _⟩ := hF i hi
   rw [addr_add0 hsp] at q0 q1
   refine ⟨x.block, x.off, by rw [← hsp], ?_, ?_⟩
   ·rw [q0]; simp
   ·rw [Nat.add_assoc, q1]; simp
  ·rw [List.mem_map] at hh
   obtain ⟨i, hi, rfl⟩ := hh
   exact (hF i (by simpa using hi)).2.2

end Go.Proofs.YtpopljcmkbchcaaGreatDoor

namespace Go.Proofs.YtpopljcmkbchcaaGreatDoor
open Go.RowKit

theorem spot_none15 {w : World} {x : Addr} {v : Value} (h : w.cell? x = some v) : x.spot = none := by
 unfold World.cell? at h
 cases hs : x.spot with
 | none => rfl
 | some y =>
  rw [hs] at h
  split at h
  ·simp at h
  ·cases h

theorem tx_arg {w : World} {x : Addr} {len cap : Nat} {ss : List ByteArray} (hl : len ≤ cap) (hm : cap ≤ maxLen) (hz : ss.length = cap) (hcell : ∀ i, i < ss.length → w.cell? (x.add i) = some (.string (ss.getD i ByteArray.empty))) (hws : ∀ s ∈ ss, s.size ≤ maxLen) :
  ∃ L, TxAt w (.slice (some x) len cap) L ∧ ∀ y ∈ L, y.length ≤ maxLen := by
 have hL : ((ss.take len).map (·.data.toList)).length = len := by simp; omega
 refine ⟨(ss.take len).map (·.data.toList), ⟨some x, cap, by rw [hL], by omega, hm, fun j hj => ?_⟩, fun y hy => ?_⟩
 ·rw [hL] at hj
  have h0 := hcell 0 (by omega)
  have hsp : x.spot = none := spot_none15 (by simpa [Addr.add] using h0)
  refine ⟨x.block, x.off, by rw [← hsp], ?_⟩
  have hc := hcell j (by omega)
  have e : x.add j = ⟨x.block, x.off + j, none⟩ := by
   unfold Addr.add
   split
   ·subst_vars; rw [← hsp]; rfl
   ·rfl
  rw [e] at hc
  rw [hc]
  have hjs : j < ss.length := by omega
  simp [List.getD, hjs]
 ·simp only [List.mem_map] at hy
  obtain ⟨s, hs, rfl⟩ := hy
  have := hws s (List.mem_of_mem_take hs)
  simpa using this

end Go.Proofs.YtpopljcmkbchcaaGreatDoor
