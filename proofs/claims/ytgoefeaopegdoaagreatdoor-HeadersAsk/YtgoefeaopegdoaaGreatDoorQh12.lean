/-
  Walks and plain facts that this claim leans on, put together out of 3 texts: Ck, Xzz, Zzz.
-/
import Derived.Test.YtgoefeaopegdoaaGreatDoorProg
import Derived.Test.YtgoefeaopegdoaaGreatDoorTie
import Derived.Test.YtgoefeaopegdoaaGreatDoorQh1
import Derived.Test.YtgoefeaopegdoaaGreatDoorQh2
import Derived.Test.YtgoefeaopegdoaaGreatDoorQh3
import Derived.Test.YtgoefeaopegdoaaGreatDoorQh4
import Derived.Test.YtgoefeaopegdoaaGreatDoorQh5
import Derived.Test.YtgoefeaopegdoaaGreatDoorQh6
import Derived.Test.YtgoefeaopegdoaaGreatDoorQh7
import Derived.Test.YtgoefeaopegdoaaGreatDoorQh8
import Derived.Test.YtgoefeaopegdoaaGreatDoorQh9
import Derived.Test.YtgoefeaopegdoaaGreatDoorQh10
import Derived.Test.YtgoefeaopegdoaaGreatDoorQh11
import Derived.BigRegion
import Derived.Deep.RegionHeld
import Derived.Deep.RegionHeldLaw
import Derived.Lib.IndexAny
import Derived.WalkKit
import Derived.Lib.UnsafeStr
import Derived.Lib.BufferRead
import Derived.Lib.RuneBytes
import Derived.Laws.RangeAny
import Derived.Deep.LoopGhost
import Derived.Maps.OwnSet
import Derived.Maps.OwnOps
import Derived.Maps.AppendAt
import Derived.StringKeys
import Derived.BigQuiet
import Derived.Deep.QuietTactic
import Derived.LoopN
import Derived.RegionTactic
import Derived.Deep.RegionLaw
import Derived.Deep.RegionWith
import Derived.WalkSpells
import Derived.WalkLawsBesides
import Derived.Lib.FieldsP
import Derived.Lib.DecodeN
import Derived.Lib.IndexMore
import Derived.Lib.Join
import Derived.Lib.SmallJoins
import Derived.Laws.CopyOwn
import Derived.Laws.ResultCell
import Derived.Deep.MidRow
import Derived.Laws.OwnMore
import Derived.Below
import Derived.WalkSmall
import Derived.Lib.LaidTab
import Derived.Lib.AppendIntMem
import Derived.Laws.AppendOwn
import Derived.Laws.Runes
import Derived.Lib.OthersKept
import Derived.Lib.FrozenHead2
import Derived.Lib.Builder
import Derived.Lib.AppendStr
import Derived.Lib.Replace
import Derived.Shelf.GgClosure.GivesRunes
import Derived.Laws.BitsAll
import Derived.Laws.Shifts
import Derived.Deep.DeepAppendRoom
import Derived.Laws.IdiomStrings
import Derived.Laws.BytesString
import Derived.Laws.CopyRow
import Derived.Lib.Strings
import Derived.Laws.BitsAllLaws
import Derived.Lib.Bytealg
import Derived.Lib.BufferMore
import Derived.Shelf.Strings.Builder1
import Derived.Shelf.Strings.Builder2
import Derived.Shelf.Strings.OnBuilder
import Derived.Shelf.Strings.Trim
import Derived.Shelf.Small.Utf8
import Derived.Shelf.Small.Bits
import Derived.Shelf.Small.Strs
import Derived.Shelf.Small.Wraps
import Derived.Shelf.Strings.BuilderF
import Derived.Shelf.Strings.BuilderK
import Derived.Shelf.Strings.BuilderRune
import Derived.Shelf.Utf8.AppendRune
import Derived.Shelf.Utf8.AppendRunePlain
import Derived.Shelf.Strings.Builder2Cap
import Derived.Shelf.Strconv.Itoa0
import Derived.Shelf.Strconv.Itoa1
import Derived.Shelf.LaysM
import Derived.Shelf.Strconv.Itoa2
import Derived.Shelf.Strconv.Itoa3
import Derived.Shelf.Strings.Search1
import Derived.Shelf.Strings.Search2
import Derived.Shelf.Strings.Search3
import Derived.Shelf.Strings.Cut
import Derived.Shelf.Strings.Count
import Derived.Shelf.Strings.Shaped
import Derived.Shelf.Strings.LastIndex
import Derived.Shelf.Strings.Prefix
import Derived.Shelf.Strings.Split
import Derived.Shelf.Strings.Replace
import Derived.Shelf.Strings.Runes
import Derived.Shelf.Strings.IndexAny
import Derived.Shelf.Strings.AsciiSet
import Derived.Shelf.Strings.IndexAnyAll
import Derived.Shelf.Unicode.DecodeSlow
import Derived.Ground.Names2Prog
import Derived.Shelf.Slices.Clone
import Derived.Shelf.Slices.In.SortNone
import Derived.Ground.SlgnProg
import Derived.Shelf.SlicesE.Clone
import Derived.Lib.SlTrimSet
import Derived.Shelf.Strings.SlTrimAscii
import Derived.Deep.CutRange
import Derived.Laws.Rows
import Derived.Laws.MakeOwn
import Derived.Deep.WholeRow
import Derived.Laws.AppendOwnNone
import Derived.Stop.LaidErr
import Derived.LaidMore
import Derived.Deep.SlicePairs
import Derived.SizedLaws
set_option linter.unusedSimpArgs false
set_option linter.unusedVariables false

namespace Go.Proofs.YtgoefeaopegdoaaGreatDoor
open Go.RowKit

set_option maxHeartbeats 1000000 in
theorem split_none6 (v : Value) (L : List Hd) (n : ByteArray) (w : World) (h : HdAt w v L) (hs : n.size ≤ 140737488351232) (hz : Szd 140737488351232 L) (hl : L.length ≤ 1000000) (hb : bulkV L ≤ 1000000000) (hh : getB L n.data.toList = false) :
  Calls Tryz.prog 45 #[v, .string n] w fun e w' => e = .returned (.tuple #[.slice none 0 0, .bool false]) ∧ Below w.heap.size w w' := by
 have HG := hid (get_any v L n w h hs hz hl (by omega))
 obtain ⟨T, hT⟩ : ∃ T : ByteArray, T = ⟨(getT L n.data.toList).toArray⟩ := ⟨_, rfl⟩
 rw [← hT, hh] at HG
 clear hT h hz hb hh
 go_enter Tryz.func45, Tryz.ntmps45
 go_wp2_with fail
 refine HG.out.mono ?_
 rintro e w0 ⟨rfl, hb0⟩
 go_wp2
 go_ret2
 exact ⟨rfl, hb0⟩

theorem hsplit6_any (v : Value) (L : List Hd) (n : ByteArray) (w : World) (h : HdAt w v L) (hs : n.size ≤ 140737488351232) (hz : Szd 140737488351232 L) (hl : L.length ≤ 1000000) (hb : bulkV L ≤ 1000000000) :
  Calls Tryz.prog 45 #[v, .string n] w (RsPost (pcsV L n.data.toList) (getB L n.data.toList) w) := by
 cases hh : getB L n.data.toList with
 | true =>
  refine (hsplit_any v L n w h hs hz hl hb hh).mono ?_
  rintro e w' ⟨u, rfl, ho, hb'⟩
  have e : pcsV L n.data.toList = splitV L n.data.toList := by unfold pcsV; rw [hh]; rfl
  unfold RsPost
  rw [e]
  exact ⟨u, rfl, ho, hb'⟩
 | false =>
  refine (split_none6 v L n w h hs hz hl hb hh).mono ?_
  rintro e w' ⟨rfl, hb'⟩
  have e : pcsV L n.data.toList = [] := by unfold pcsV; rw [hh]; rfl
  unfold RsPost
  rw [e]
  exact ⟨_, rfl, World.ownsRow_nil _ _ _ _, hb'⟩

theorem pcsN_len6 : ∀ (f : Nat) (l : List UInt8), (pcsN f l).length ≤ f + 1 := by
 intro f
 induction f with
 | zero => intro l; simp [pcsN]
 | succ f ih =>
  intro l
  rw [pcsN]
  cases cutQ false l with
  | none => simp
  | some k => have := ih (l.drop (k + 1)); simp; omega

theorem splitV_len6 (L : List Hd) (n : List UInt8) : (splitV L n).length ≤ bulkV L + 1 := by
 have h1 := pcsN_len6 (getT L n).length (getT L n)
 have h2 := getT_len L n
 simp only [splitV, pcs, List.length_map]
 omega

theorem pcsV_le (L : List Hd) (n : List UInt8) : (pcsV L n).length ≤ bulkV L + 1 := by
 unfold pcsV
 split
 ·exact splitV_len6 L n
 ·simp

theorem sort_doc {L O : List Hd} (h : SortsTo L O) : O = (nmsN L).flatMap (toldBy L) := by
 have hf := srtN_facts (L.map lowN)
 refine h.doc (nmsN L) hf.1 (fun n => ?_)
 rw [show n ∈ nmsN L ↔ n ∈ L.map lowN from hf.2.1 n, List.mem_map]
 rfl

set_option maxHeartbeats 32000000 in
set_option maxRecDepth 100000 in
theorem headersAsk_walk (v0 : Value) (L0 : List Hd) (nm vl : ByteArray) (w : World) (hv0 : HdAt w v0 L0) (hz : Szd 140737488351232 L0) (hn : nm.size ≤ 140737488351232) (hv : vl.size ≤ 140737488351232) (hg : G5 w) :
    Calls Tryz.prog 8 #[v0, .string nm, .string vl] w fun e w' => e = .returned (.bool true) ∧ Below w.heap.size w w' := by
  have HG := hid hg
  have HFe := hid (fewHeaders_any v0 L0 20 300 w hv0 (hz.mono (by decide)) (by decide) (by decide))
  unfold HdPost at HFe
  obtain ⟨L, hL⟩ : ∃ L, L = fewH L0 20 300 := ⟨_, rfl⟩
  rw [← hL] at HFe
  have hl20 : L.length ≤ 20 := by rw [hL]; exact fewH_len _ _ _
  have hzz : Szd 300 L := by rw [hL]; exact fewH_szd _ _ _
  have HZ := hid hzz
  have HBu := hid (show bulkV L ≤ 7000 by have := hzz.bulk; have h2 : (300 + 2) * L.length ≤ 6040 := by omega
                                          omega)
  obtain ⟨N, hN⟩ : ∃ N : ByteArray, N = ⟨(nm.data.toList.take 100).toArray⟩ := ⟨_, rfl⟩
  obtain ⟨V, hV⟩ : ∃ N : ByteArray, N = ⟨(vl.data.toList.take 300).toArray⟩ := ⟨_, rfl⟩
  have hNs : N.size ≤ 100 := by rw [hN, Lib.size_eq]; show (nm.data.toList.take 100).length ≤ _; rw [List.length_take]; omega
  have hVs : V.size ≤ 300 := by rw [hV, Lib.size_eq]; show (vl.data.toList.take 300).length ≤ _; rw [List.length_take]; omega
  have HN1 := hid (fun w => xfew_any nm 100 w (by omega) (by omega))
  have HV1 := hid (fun w => xfew_any vl 300 w (by omega) (by omega))
  rw [← hN] at HN1
  rw [← hV] at HV1
  have HVa := hid (fun w => value_any V w (by omega))
  have HVr := hid (fun w => rvalue_any V w (by omega))
  generalize (⟨(valA V.data.toList).toArray⟩ : ByteArray) = A1 at HVa HVr
  generalize valB V.data.toList = b1 at HVa HVr
  have HSz := hid (show Szd 140737488351232 L from hzz.mono (by decide))
  have HGa := hid (fun (u : Value) (Z : World) (h : HdAt Z u L) => get_any u L N Z h (by omega) HSz.out (by omega) (by have := HBu.out; omega))
  have HGr := hid (fun (u : Value) (Z : World) (h : HdAt Z u L) => rget_any u L N Z h (by omega) HSz.out (by omega) (by have := HBu.out; omega))
  have HSa := hid (fun (u : Value) (Z : World) (h : HdAt Z u L) => hsplit6_any u L N Z h (by omega) HSz.out (by omega) (by have := HBu.out; omega))
  have HSr := hid (fun (u : Value) (Z : World) (h : HdAt Z u L) => rsplit_any u L N Z h (by omega) HSz.out (by omega) (by have := HBu.out; omega))
  unfold RsPost at HSa HSr
  have HPl := hid (pcsV_le L N.data.toList)
  generalize (⟨(getT L N.data.toList).toArray⟩ : ByteArray) = A2 at HGa HGr
  generalize getB L N.data.toList = b2 at HGa HGr HSa HSr
  generalize pcsV L N.data.toList = PC at HSa HSr HPl
  have HRa := hid (fun (Z : World) (h : G5 Z) => range_any V Z h (by omega))
  have HRr := hid (fun (Z : World) => rrange_any V Z (by omega))
  generalize rFrom V.data.toList = r1 at HRa HRr
  generalize rTo V.data.toList = r2 at HRa HRr
  generalize rOk V.data.toList = r3 at HRa HRr
  have HFa := hid (fun (Z : World) => forbidden_any N Z (by omega))
  have HFr := hid (fun (Z : World) => rforbidden_any N Z (by omega))
  generalize forbV N.data.toList = f1 at HFa HFr
  have HWa := hid (fun (Z : World) (h : G5 Z) => safe_any N V Z h (by omega) (by omega))
  have HWr := hid (fun (Z : World) => rsafe_any N V Z (by omega) (by omega))
  generalize safeV N.data.toList V.data.toList = s1 at HWa HWr
  have HSo := hid (fun (u : Value) (Z : World) (h : HdAt Z u L) => sorted_any u L Z h (by omega) (hzz.mono (by decide)))
  have HSp := hid (fun (u : Value) (Z : World) (h : HdAt Z u L) => rsorted5_any u L Z h (by omega) (hzz.mono (by decide)))
  have HDo := hid (fun O (h : SortsTo L O) => sort_doc h)
  have HTl := hid (show ((nmsN L).flatMap (toldBy L)).length ≤ 1000 by
    have h1 := tolds_len L (nmsN L)
    have h2 : (nmsN L).length ≤ 20 := by have := (srtN_facts (L.map lowN)).2.2; rw [List.length_map] at this; unfold nmsN; omega
    have h3 : (nmsN L).length * (L.length + 1) ≤ 20 * 21 := Nat.mul_le_mul h2 (by omega)
    omega)
  generalize (nmsN L).flatMap (toldBy L) = SL at HSp HDo HTl
  obtain ⟨a0, c0, rfl, -, -, -⟩ := hv0.view
  obtain ⟨n, hnL⟩ : ∃ n, n = L.length := ⟨_, rfl⟩
  have HNl := hid hnL
  rw [← hnL] at HFe hl20
  clear hL hN hV hzz hg hv0 hz hn hv hnL
  go_enter Tryz.func8, Tryz.ntmps8
  go_wp2_with fail
  refine HFe.out.mono ?_
  rintro e w1 ⟨lv, rfl, hown1, hb1⟩
  have HL1 := hid (own_hd (L := L) (by rw [← HNl.out]; exact hown1))
  obtain ⟨la, lc, rfl, -, -, -⟩ := HL1.out.view
  rw [← HNl.out] at HL1 ⊢
  have HB1 := hid hb1
  clear hown1 hb1
  go_wp2_with fail
  refine (HN1.out _).mono ?_
  rintro e wz ⟨rfl, hwz⟩
  rw [← hwz]
  clear hwz
  go_wp2_with fail
  refine (HV1.out _).mono ?_
  rintro e wz ⟨rfl, hwz⟩
  rw [← hwz]
  clear hwz
  go_wp2_with fail
  refine (h_any (⟨#[45]⟩ : ByteArray) (⟨#[45]⟩ : ByteArray) w1).mono ?_
  rintro e w2 ⟨rfl, hb2⟩
  have HB2 := hid (belowT HB1.out hb2)
  have HL2 := hid (HL1.out.kept hb2)
  have HRo := hid (roomyH_any _ L (⟨#[45]⟩ : ByteArray) (⟨#[45]⟩ : ByteArray) w2 HL2.out (by have := HNl.out; omega))
  rw [← HNl.out] at HRo
  clear hb2
  go_wp2_with fail
  refine HRo.out.mono ?_
  rintro e w3 ⟨g2, rfl, hrow, hb3⟩
  have hfull := hrow.at (by rw [List.length_append, markL_len]; unfold maxLen; have := HNl.out; omega)
  rw [show (L ++ markL ⟨(⟨#[45]⟩ : ByteArray).data.toList, (⟨#[45]⟩ : ByteArray).data.toList⟩).length = n + 80 by rw [List.length_append, markL_len, ← HNl.out]] at hfull
  have hm := hd_take hfull n (by rw [List.length_append, markL_len, ← HNl.out]; omega)
  rw [show (L ++ markL ⟨(⟨#[45]⟩ : ByteArray).data.toList, (⟨#[45]⟩ : ByteArray).data.toList⟩).take n = L by rw [HNl.out]; simp] at hm
  have HM3 := hid hm
  have HF3 := hid hfull
  have HL3 := hid (HL2.out.kept hb3)
  have HB3 := hid (belowT HB2.out hb3)
  have hs80 : (n : Int) ≤ ((n + 80 : Nat) : Int) := by omega
  clear hfull hm hrow hb3 HRo
  go_wp2_with fail
  refine (HVa.out _).mono ?_
  rintro e w4 ⟨rfl, hbx⟩
  have HB4 := hid (belowT HB3.out hbx)
  have HL4 := hid (HL3.out.kept hbx)
  have HM4 := hid (HM3.out.kept hbx)
  have HF4 := hid (HF3.out.kept hbx)
  clear hbx
  go_wp2_with fail
  refine (HVr.out _).mono ?_
  rintro e wz ⟨rfl, hwz⟩
  rw [← hwz]
  clear hwz
  go_wp2_with fail
  refine (HGa.out _ _ HM4.out).mono ?_
  rintro e w5 ⟨rfl, hbx⟩
  have HB5 := hid (belowT HB4.out hbx)
  have HL5 := hid (HL4.out.kept hbx)
  have HM5 := hid (HM4.out.kept hbx)
  have HF5 := hid (HF4.out.kept hbx)
  clear hbx
  go_wp2_with fail
  refine (HGr.out _ _ HL5.out).mono ?_
  rintro e w6 ⟨rfl, hbx⟩
  have HB6 := hid (belowT HB5.out hbx)
  have HL6 := hid (HL5.out.kept hbx)
  have HM6 := hid (HM5.out.kept hbx)
  have HF6 := hid (HF5.out.kept hbx)
  clear hbx
  go_wp2_with fail
  refine (HSa.out _ _ HM6.out).mono ?_
  rintro e w7 ⟨xv, rfl, hown, hbx⟩
  have HB7 := hid (belowT HB6.out hbx)
  have HL7 := hid (HL6.out.kept hbx)
  have HM7 := hid (HM6.out.kept hbx)
  have HF7 := hid (HF6.out.kept hbx)
  have hX := own_txt' hown
  obtain ⟨xa, xc, rfl, -, -, -⟩ := hX.view
  have HX7 := hid hX
  clear hown hX
  clear hbx
  go_wp2_with fail
  refine (HSr.out _ _ HL7.out).mono ?_
  rintro e w8 ⟨yv, rfl, hown, hbx⟩
  have HB8 := hid (belowT HB7.out hbx)
  have HL8 := hid (HL7.out.kept hbx)
  have HM8 := hid (HM7.out.kept hbx)
  have HF8 := hid (HF7.out.kept hbx)
  have HX8 := hid (HX7.out.kept hbx)
  have hX := own_txt' hown
  obtain ⟨ya, yc, rfl, -, -, -⟩ := hX.view
  have HY8 := hid hX
  clear hown hX
  clear hbx
  go_wp2_with fail
  refine (HRa.out _ (HG.out.kept HB8.out)).mono ?_
  rintro e w9 ⟨rfl, hbx⟩
  have HB9 := hid (belowT HB8.out hbx)
  have HL9 := hid (HL8.out.kept hbx)
  have HM9 := hid (HM8.out.kept hbx)
  have HF9 := hid (HF8.out.kept hbx)
  have HX9 := hid (HX8.out.kept hbx)
  have HY9 := hid (HY8.out.kept hbx)
  clear hbx
  go_wp2_with fail
  refine (HRr.out _).mono ?_
  rintro e w10 ⟨rfl, hbx⟩
  have HB10 := hid (belowT HB9.out hbx)
  have HL10 := hid (HL9.out.kept hbx)
  have HM10 := hid (HM9.out.kept hbx)
  have HF10 := hid (HF9.out.kept hbx)
  have HX10 := hid (HX9.out.kept hbx)
  have HY10 := hid (HY9.out.kept hbx)
  clear hbx
  have HSm := hid (sameT_any _ _ PC PC w10 HX10.out HY10.out (by have := HPl.out; have := HBu.out; omega) (by have := HPl.out; have := HBu.out; omega))
  simp only [eq_self, decide_true] at HSm
  go_wp2_with fail
  refine (HSm.out).mono ?_
  rintro e w11 ⟨rfl, hbx⟩
  have HB11 := hid (belowT HB10.out hbx)
  have HL11 := hid (HL10.out.kept hbx)
  have HM11 := hid (HM10.out.kept hbx)
  have HF11 := hid (HF10.out.kept hbx)
  clear hbx
  go_wp2_with fail
  refine (HSo.out _ _ HM11.out).mono ?_
  rintro e w12 ⟨ov, O, rfl, hown, hst, hbx⟩
  have HB12 := hid (belowT HB11.out hbx)
  have HL12 := hid (HL11.out.kept hbx)
  have HM12 := hid (HM11.out.kept hbx)
  have HF12 := hid (HF11.out.kept hbx)
  have hO := (HDo.out O hst).symm
  subst hO
  have hX := own_hd hown
  obtain ⟨oa, oc, rfl, -, -, -⟩ := hX.view
  have HO12 := hid hX
  clear hown hX hst
  clear hbx
  go_wp2_with fail
  refine (HSp.out _ _ HL12.out).mono ?_
  rintro e w13 ⟨pv, rfl, hown, hbx⟩
  have HB13 := hid (belowT HB12.out hbx)
  have HL13 := hid (HL12.out.kept hbx)
  have HM13 := hid (HM12.out.kept hbx)
  have HF13 := hid (HF12.out.kept hbx)
  have HO13 := hid (HO12.out.kept hbx)
  have hX := own_hd hown
  obtain ⟨pa, pc, rfl, -, -, -⟩ := hX.view
  have HP13 := hid hX
  clear hown hX
  clear hbx
  have HSh := hid (sameH_any _ _ SL SL w13 HO13.out HP13.out (by have := HTl.out; omega) (by have := HTl.out; omega))
  simp only [eq_self, decide_true] at HSh
  go_wp2_with fail
  refine (HSh.out).mono ?_
  rintro e w14 ⟨rfl, hbx⟩
  have HB14 := hid (belowT HB13.out hbx)
  have HL14 := hid (HL13.out.kept hbx)
  have HM14 := hid (HM13.out.kept hbx)
  have HF14 := hid (HF13.out.kept hbx)
  clear hbx
  go_wp2_with fail
  refine (HFa.out _).mono ?_
  rintro e w15 ⟨rfl, hbx⟩
  have HB15 := hid (belowT HB14.out hbx)
  have HL15 := hid (HL14.out.kept hbx)
  have HM15 := hid (HM14.out.kept hbx)
  have HF15 := hid (HF14.out.kept hbx)
  clear hbx
  go_wp2_with fail
  refine (HFr.out _).mono ?_
  rintro e w16 ⟨rfl, hbx⟩
  have HB16 := hid (belowT HB15.out hbx)
  have HL16 := hid (HL15.out.kept hbx)
  have HM16 := hid (HM15.out.kept hbx)
  have HF16 := hid (HF15.out.kept hbx)
  clear hbx
  go_wp2_with fail
  refine (HWa.out _ (HG.out.kept HB16.out)).mono ?_
  rintro e w17 ⟨rfl, hbx⟩
  have HB17 := hid (belowT HB16.out hbx)
  have HL17 := hid (HL16.out.kept hbx)
  have HM17 := hid (HM16.out.kept hbx)
  have HF17 := hid (HF16.out.kept hbx)
  clear hbx
  go_wp2_with fail
  refine (HWr.out _).mono ?_
  rintro e w18 ⟨rfl, hbx⟩
  have HB18 := hid (belowT HB17.out hbx)
  have HL18 := hid (HL17.out.kept hbx)
  have HM18 := hid (HM17.out.kept hbx)
  have HF18 := hid (HF17.out.kept hbx)
  clear hbx
  have HHx := hid (h_any (⟨#[45]⟩ : ByteArray) (⟨#[45]⟩ : ByteArray) w18)
  go_wp2_with fail
  refine (HHx.out).mono ?_
  rintro e w19 ⟨rfl, hbx⟩
  have HB19 := hid (belowT HB18.out hbx)
  have HL19 := hid (HL18.out.kept hbx)
  have HM19 := hid (HM18.out.kept hbx)
  have HF19 := hid (HF18.out.kept hbx)
  clear hbx
  have HIn := hid (intact_any _ _ L (⟨#[45]⟩ : ByteArray) (⟨#[45]⟩ : ByteArray) w19 HF19.out HL19.out (by have := HNl.out; omega))
  go_wp2_with fail
  refine (HIn.out).mono ?_
  rintro e w20 ⟨rfl, hbx⟩
  have HB20 := hid (belowT HB19.out hbx)
  have HL20 := hid (HL19.out.kept hbx)
  have HM20 := hid (HM19.out.kept hbx)
  have HF20 := hid (HF19.out.kept hbx)
  clear hbx
  have HKn := hid (known_any w20 (HG.out.kept HB20.out))
  go_wp2_with fail
  refine (HKn.out).mono ?_
  rintro e w21 ⟨rfl, hbx⟩
  have HB21 := hid (belowT HB20.out hbx)
  have HL21 := hid (HL20.out.kept hbx)
  have HM21 := hid (HM20.out.kept hbx)
  have HF21 := hid (HF20.out.kept hbx)
  clear hbx
  go_wp2_with fail
  go_ret
  exact ⟨rfl, HB21.out⟩

end Go.Proofs.YtgoefeaopegdoaaGreatDoor

namespace Go.Proofs.YtgoefeaopegdoaaGreatDoor
open Go.RowKit

def laid5 : List (String × DataW Unit) := [("unicode/utf8.acceptRanges", Rows.laid_unicode_utf8_acceptRanges), ("unicode/utf8.first", Rows.laid_unicode_utf8_first)]

theorem g5_of_shaped {W : World} (hsh : W.ShapedOpen Tryz.prog) : G5 W := Tryz.laysM145.s1_3 W hsh

theorem ownK : ownKnob Tryz.prog.godebug = none := by kernel_rfl

noncomputable def startW (os : Os) : World :=
 { World.doorLaid Tryz.prog 24 os with heap := (World.doorLaid Tryz.prog 24 os).heap.setIfInBounds 1 (.cells (Pinned.utf8FirstZ.map fun (n : Nat) => Value.int .u8 (n : Int)).toArray 247 (0, 0)) }

theorem door_met (os : Os) (args : Array Value) : laidMetH Tryz.prog laid5 ((startW os).forCall (fun _ _ => 0) ⟨#[], args, []⟩).memory :=
 laidMetH_of_parts3 (fuel := 8) (laidMet_of_run' 8 (by kernel_rfl) (by kernel_rfl)) (by kernel_rfl) (by kernel_rfl)

theorem spot_none {w : World} {x : Addr} {v : Value} (h : w.cell? x = some v) : x.spot = none := by
 unfold World.cell? at h
 cases hs : x.spot with
 | none => rfl
 | some y =>
  rw [hs] at h
  split at h
  ·simp at h
  ·cases h

theorem tx_arg {w : World} {x : Addr} {len cap : Nat} {ss : List ByteArray} (hl : len ≤ cap) (hm : cap ≤ maxLen) (hz : ss.length = cap) (hcell : ∀ i, i < ss.length → w.cell? (x.add i) = some (.string (ss.getD i ByteArray.empty))) (hws : ∀ s ∈ ss, s.size ≤ maxLen) :
  ∃ L, TxAt w (.slice (some x) len cap) L ∧ ∀ y ∈ L, y.length ≤ maxLen := by
 have hL : ((ss.take len).map (·.data.toList)).length = len := by simp; omega
 refine ⟨(ss.take len).map (·.data.toList), ⟨some x, cap, by rw [hL], by omega, hm, fun j hj => ?_⟩, fun y hy => ?_⟩
 ·rw [hL] at hj
  have h0 := hcell 0 (by omega)
  have hsp : x.spot = none := spot_none (by simpa [Addr.add] using h0)
  refine ⟨x.block, x.off, by rw [← hsp], ?_⟩
  have hc := hcell j (by omega)
  have e : x.add j = ⟨x.block, x.off + j, none⟩ := by
   unfold Addr.add
   split
   ·subst_vars; rw [← hsp]; rfl
   ·rfl
  rw [e] at hc
  rw [hc]
  have hjs : j < ss.length := by omega
  simp [List.getD, hjs]
 ·simp only [List.mem_map] at hy
  obtain ⟨s, hs, rfl⟩ := hy
  have := hws s (List.mem_of_mem_take hs)
  simpa using this

end Go.Proofs.YtgoefeaopegdoaaGreatDoor

namespace Go.Proofs.YtgoefeaopegdoaaGreatDoor
open Go.RowKit

theorem wAll_mem {H : Type} {P : Program} {e : TypeId} : ∀ {l : List (DataW H)} {d : DataW H}, d ∈ l → ∀ n ∈ d.weights P e, n ∈ DataW.weightsAll P e l
 | [], _, h, _, _ => by cases h
 | a :: l, d, h, n, hn => by
  rw [DataW.weightsAll, List.mem_append]
  rcases List.mem_cons.1 h with rfl | h
  ·exact .inl hn
  ·exact .inr (wAll_mem h n hn)

theorem sized_hd {H : Type} {P : Program} {ts : List TypeId} {ds : List (DataW H)} (h : (DataW.weightsEach P ts ds).all (· ≤ reachBytes) = true) {j : Nat} {t e : TypeId} {f0 f1 : Field} {elems spare : List (DataW H)} (ht : ts[j]? = some t) (hd : ds[j]? = some (.slice elems spare))
  (hu : P.underlying t = some (.slice e)) (he : P.underlying e = some (.struct #[f0, f1])) {x y : List UInt8} (hm : DataW.agg [.lit (.string x), .lit (.string y)] ∈ elems) : x.length ≤ 140737488351232 ∧ y.length ≤ 140737488351232 := by
 have key : ∀ n ∈ (DataW.agg [.lit (.string x), .lit (.string y)] : DataW H).weights P e, n ≤ 140737488351232 := fun n hn => by
  have h1 : n ∈ DataW.weightsAll P e elems := wAll_mem hm n hn
  have h2 : n ∈ (DataW.slice elems spare : DataW H).weights P t := by
   rw [DataW.weights, hu]
   simp only [List.mem_cons, List.mem_append]
   exact .inr (.inl h1)
  have := List.all_eq_true.1 h _ (DataW.weights_mem_each ht hd n h2)
  exact of_decide_eq_true this
 constructor
 ·exact key x.length (by rw [DataW.weights, he]; simp [DataW.weightsEach, DataW.weights])
 ·exact key y.length (by rw [DataW.weights, he]; simp [DataW.weightsEach, DataW.weights])

theorem undHd : ∃ f0 f1, Tryz.prog.underlying 38 = some (.struct #[f0, f1]) ∧ f0.offset = 0 ∧ f1.offset = 1 ∧ f0.type = 9 ∧ f1.type = 9 := ⟨_, _, Tryz.underlying38, rfl, rfl, rfl, rfl⟩

theorem addr_add {x : Addr} (h : x.spot = none) (j : Nat) : x.add j = ⟨x.block, x.off + j, none⟩ := by
 unfold Addr.add
 split
 ·subst_vars; rw [← h]; rfl
 ·rfl

theorem hd_arg {H : Type} {enc : TypeId × Value → H} {W : World} {a : Option Addr} {len cap : Nat} {d : DataW H} {p : List MemPlace} {ts : List TypeId} {ds : List (DataW H)} {j fuel : Nat}
  (hf : DataW.trod enc Tryz.prog W 0 (fun _ => true) true fuel 25 [.slice a len cap] = some (d, p)) (hwt : (DataW.weightsEach Tryz.prog ts ds).all (· ≤ reachBytes) = true) (ht : ts[j]? = some 25) (hd : ds[j]? = some d) :
  ∃ L, HdAt W (.slice a len cap) L ∧ Szd 140737488351232 L := by
 obtain ⟨f0, f1, hu, o0, o1, t0, t1⟩ := undHd
 have c1 : Tryz.prog.cellsOf 9 = 1 := by kernel_rfl
 rcases Deep.open_slice_pairs Tryz.underlying25 hu (by kernel_rfl) o0 o1 (by rw [t0]; exact c1) (by rw [t1]; exact c1) hf with ⟨hcs, _⟩ | ⟨x, len', cap', m, n, V0, V1, D0, D1, P0, P1, hcs, _, hl, hm, hmm, hx, hcell⟩
 ·simp at hcs
  obtain ⟨rfl, rfl, rfl⟩ := hcs
  exact ⟨[], hd_nil _, fun h hh => by simp at hh⟩
 ·simp at hcs
  obtain ⟨rfl, rfl, rfl⟩ := hcs
  have hlm : len ≤ m := by rw [hmm]; simp; omega
  have hx1 := (Prod.mk.injEq _ _ _ _ ▸ hx : _ ∧ _).1
  have each : ∀ i, i < len → ∃ s : ByteArray × ByteArray, W.cell? (x.add (i * 2)) = some (.string s.1) ∧ W.cell? (x.add (i * 2 + 1)) = some (.string s.2) ∧ s.1.data.toList.length ≤ 140737488351232 ∧ s.2.data.toList.length ≤ 140737488351232 := fun i hi => by
   obtain ⟨q0, q1, r0, r1⟩ := hcell i (by omega)
   rw [t0] at r0
   rw [t1] at r1
   obtain ⟨s0, e0, y0, _⟩ := DataW.trod_string Tryz.underlying9 r0
   obtain ⟨s1, e1, y1, _⟩ := DataW.trod_string Tryz.underlying9 r1
   simp at e0 e1 y0 y1
   rw [e0] at q0
   rw [e1] at q1
   have hmem : DataW.agg [.lit (.string s0.data.toList), .lit (.string s1.data.toList)] ∈ ((List.range len).map fun i => (DataW.agg [D0 i, D1 i] : DataW H)) := by
    rw [List.mem_map]
    refine ⟨i, by simpa using hi, ?_⟩
    rw [y0.1, y1.1]
   have := sized_hd hwt ht (by rw [hd, hx1]) Tryz.underlying25 hu hmem
   exact ⟨(s0, s1), q0, q1, this⟩
  obtain ⟨F, hF⟩ := Deep.choose_lt each
  have hL : ((List.range len).map fun i => (⟨(F i).1.data.toList, (F i).2.data.toList⟩ : Hd)).length = len := by simp
  refine ⟨(List.range len).map fun i => ⟨(F i).1.data.toList, (F i).2.data.toList⟩, ⟨some x, cap, by rw [hL], by rw [hL]; exact hl, hm, fun i hi => ?_⟩, fun h hh => ?_⟩
  ·rw [hL] at hi
   have h0 := hF 0 (by omega)
   have hsp : x.spot = none := spot_none (by simpa [Addr.add] using h0.1)
   obtain ⟨q0, q1, _⟩ := hF i hi
   rw [addr_add hsp] at q0 q1
   refine ⟨x.block, x.off, by rw [← hsp], ?_, ?_⟩
   ·rw [q0]; simp
   ·rw [Nat.add_assoc, q1]; simp
  ·rw [List.mem_map] at hh
   obtain ⟨i, hi, rfl⟩ := hh
   exact (hF i (by simpa using hi)).2.2

end Go.Proofs.YtgoefeaopegdoaaGreatDoor
