/-
  Walks and plain facts that this claim leans on, put together out of 2 texts: Mg, Mh.
-/
import Derived.Test.YtjmkccnjjofmeaaGreatDoorProg
import Derived.Test.YtjmkccnjjofmeaaGreatDoorQa1
import Derived.Test.YtjmkccnjjofmeaaGreatDoorQa2
import Derived.Test.YtjmkccnjjofmeaaGreatDoorQa3
import Derived.Test.YtjmkccnjjofmeaaGreatDoorQa4
import Derived.Test.YtjmkccnjjofmeaaGreatDoorQa5
import Derived.Test.YtjmkccnjjofmeaaGreatDoorQa6
import Derived.Test.YtjmkccnjjofmeaaGreatDoorQa7
import Derived.Laws.OwnMore
import Derived.Below
import Derived.WalkSmall
import Derived.Lib.SmallJoins
import Derived.Deep.QuietTactic
import Derived.BigQuiet
import Derived.Deep.LoopGhost
import Derived.Lib.IndexAny
import Derived.Laws.BitsAllLaws
import Derived.Deep.MidRow
import Derived.Lib.BufferMore
import Derived.Lib.Bytealg
import Derived.Lib.BufferRead
import Derived.Lib.RuneBytes
import Derived.Laws.RangeAny
import Derived.Shelf.Strings.SlTrimAscii
import Derived.Laws.AppendOwn
import Derived.Shelf.Strings.Builder1
import Derived.Shelf.Strings.Builder2
import Derived.Shelf.Strings.OnBuilder
import Derived.Shelf.Strings.Trim
import Derived.Shelf.Small.Utf8
import Derived.Shelf.Small.Strs
import Derived.Shelf.Small.Wraps
import Derived.Shelf.Strings.BuilderF
import Derived.Shelf.Strings.BuilderK
import Derived.Shelf.Strings.Builder2Cap
import Derived.Shelf.Strconv.Itoa0
import Derived.Shelf.Strconv.Itoa1
import Derived.Shelf.LaysM
import Derived.Shelf.Strconv.Itoa2
import Derived.Shelf.Strconv.Itoa3
import Derived.Shelf.Strings.Search1
import Derived.Shelf.Strings.Search2
import Derived.Shelf.Strings.Search3
import Derived.Shelf.Strings.Cut
import Derived.Shelf.Strings.Count
import Derived.Shelf.Strings.Shaped
import Derived.Shelf.Strings.Prefix
import Derived.Shelf.Strings.Split
import Derived.Shelf.Strings.Replace
import Derived.Shelf.Strings.Runes
import Derived.Shelf.Strings.IndexAny
import Derived.Shelf.Strings.AsciiSet
import Derived.Shelf.Strings.IndexAnyAll
import Derived.Shelf.Unicode.DecodeSlow
import Derived.Lib.Strings
import Derived.Lib.UnsafeStr
import Derived.Laws.IdiomStrings
import Derived.Lib.SlTrimSet
import Derived.Lib.Join
import Derived.Lib.IndexMore
import Derived.WalkKit
import Derived.WalkSpells
import Derived.WalkLawsBesides
import Derived.Laws.Runes
import Derived.Lib.DecodeN
import Derived.Lib.OthersKept
import Derived.RegionTactic
import Derived.Deep.RegionWith
import Derived.Maps.OwnSet
import Derived.Maps.OwnOps
import Derived.Maps.AppendAt
import Derived.StringKeys
set_option linter.unusedSimpArgs false
set_option linter.unusedVariables false

namespace Go.Proofs.YtjmkccnjjofmeaaGreatDoor
open Go.RowKit

theorem upTo1 (b : Nat) (R : ByteArray) (w : World) (hR : Rdr w b R) (hs : R.size ≤ 4000000000) :
    Calls Tryz.prog 100 #[.pointer (some ⟨b, 0, none⟩), .string ⟨#[59]⟩] w fun e w' => e = .returned (.string (ba (upA [59] R.data.toList))) ∧ Rdr w' b (ba (upR [59] R.data.toList)) ∧ But b w w' :=
  upTo_gen ⟨#[59]⟩ b R w hR hs (m6indexAny1_any R w)

theorem upTo2 (b : Nat) (R : ByteArray) (w : World) (hR : Rdr w b R) (hs : R.size ≤ 4000000000) :
    Calls Tryz.prog 100 #[.pointer (some ⟨b, 0, none⟩), .string ⟨#[59, 61]⟩] w fun e w' => e = .returned (.string (ba (upA [59, 61] R.data.toList))) ∧ Rdr w' b (ba (upR [59, 61] R.data.toList)) ∧ But b w w' :=
  upTo_gen ⟨#[59, 61]⟩ b R w hR hs (m6indexAny2_any R w hs)

theorem trimR_any (s : ByteArray) (w : World) (hs : s.size ≤ 9223372036854775807) :
    Calls Tryz.prog 94 #[.string s, .string ⟨#[9, 10, 13, 32]⟩] w fun e w' => e = .returned (.string (ba (tR s.data.toList))) ∧ Below w.heap.size w w' :=
  Any.strings_TrimRight_laid Tryz.lays162 (by kernel_rfl) s ⟨#[9, 10, 13, 32]⟩ w hs (by decide) (ascii_of_all (by decide))

theorem trimL_any (s : ByteArray) (w : World) :
    Calls Tryz.prog 154 #[.string s, .string ⟨#[9, 10, 13, 32]⟩] w fun e w' => e = .returned (.string (ba (tL s.data.toList))) ∧ Below w.heap.size w w' :=
  Any.strings_TrimLeft_laid Tryz.lays161 (by kernel_rfl) s ⟨#[9, 10, 13, 32]⟩ w (by decide) (ascii_of_all (by decide))

theorem trim6_any (s : ByteArray) (w : World) (hs : s.size ≤ 9223372036854775807) :
    Calls Tryz.prog 99 #[.string s, .string ⟨#[9, 10, 13, 32]⟩] w fun e w' => e = .returned (.string (ba (tB s.data.toList))) ∧ Below w.heap.size w w' :=
  trim5_any s ⟨#[9, 10, 13, 32]⟩ w hs (by decide) (by decide)

def ValPost (b : Nat) (l : List UInt8) (w : World) (e : Ending) (w' : World) : Prop := e = .returned (.tuple #[.string (ba (mvalV l)), .bool (valB6 l)]) ∧ Rdr w' b (ba (valR l)) ∧ But b w w'

set_option maxHeartbeats 2000000 in
set_option maxRecDepth 100000 in
theorem value6_any (b : Nat) (R : ByteArray) (w : World) (hR : Rdr w b R) (hs : R.size ≤ 4000000000) :
    Calls Tryz.prog 155 #[.pointer (some ⟨b, 0, none⟩)] w (ValPost b R.data.toList w) := by
  by_cases h34 : R.data.toList.head? = some 34
  · have HP := hid (pass_yes 34 b R w hR h34)
    have hq : isQ R.data.toList = true := by unfold isQ; rw [h34]; rfl
    have hl : (dr1 R).data.toList = R.data.toList.drop 1 := rfl
    have hds : (dr1 R).size ≤ 4000000000 := by rw [dr1_size]; omega
    have HV := hid (show mvalV R.data.toList = (quo (dr1 R).data.toList).1 ∧ valB6 R.data.toList = true ∧ valR R.data.toList = upR [59] (quo (dr1 R).data.toList).2 by
      unfold mvalV valB6 valR; rw [hq, hl]; exact ⟨rfl, rfl, rfl⟩)
    have hql := quo_len _ (dr1 R).data.toList (Nat.le_refl _)
    have hqs : (ba (quo (dr1 R).data.toList).2).size ≤ 4000000000 := by rw [ba_size]; rw [← Lib.size_eq] at hql; omega
    obtain ⟨A, hA⟩ : ∃ A, ba (quo (dr1 R).data.toList).1 = A := ⟨_, rfl⟩
    obtain ⟨B, hB⟩ : ∃ B, ba (quo (dr1 R).data.toList).2 = B := ⟨_, rfl⟩
    rw [hB] at hqs
    obtain ⟨D, hD⟩ : ∃ D, dr1 R = D := ⟨_, rfl⟩
    have HQ : Hid (∀ w1, Rdr w1 b D → Calls Tryz.prog 169 #[.pointer (some ⟨b, 0, none⟩)] w1 fun e w' => e = .returned (.string A) ∧ Rdr w' b B ∧ But b w1 w') := fun w1 h1 => by
      rw [← hD] at h1
      have := quoted_any b (dr1 R) w1 h1 hds
      unfold QuoPost at this
      rw [hA, hB] at this
      exact this
    rw [hD] at HP
    have HA := hid hA
    have HB := hid hB
    clear hql hA hB hq hl hds h34 hR hD
    go_enter Tryz.func155, Tryz.ntmps155
    go_wp2_with fail
    refine HP.out.mono ?_
    rintro e w1 ⟨rfl, hr1, hb1⟩
    go_wp2_with fail
    refine (HQ.out _ hr1).mono ?_
    rintro e w2 ⟨rfl, hr2, hb2⟩
    go_wp2_with fail
    refine (upTo1 b B _ hr2 hqs).mono ?_
    rintro e w3 ⟨rfl, hr3, hb3⟩
    go_wp2
    go_ret2
    refine ⟨?_, ?_, hb1.trans (hb2.trans hb3)⟩
    · rw [HV.out.1, HV.out.2.1, ← HA.out]; rfl
    · rw [HV.out.2.2]
      have e : (quo (dr1 R).data.toList).2 = B.data.toList := by rw [← HB.out]; rfl
      rw [e]; exact hr3
  · have HP := hid (pass_no 34 b R w hR h34)
    have hq : isQ R.data.toList = false := by unfold isQ; simpa using h34
    have HV := hid (show mvalV R.data.toList = tR (upA [59] R.data.toList) ∧ valB6 R.data.toList = !(tR (upA [59] R.data.toList)).isEmpty ∧ valR R.data.toList = upR [59] R.data.toList by
      unfold mvalV valB6 valR; rw [hq]; exact ⟨rfl, rfl, rfl⟩)
    have hul := upA_le [59] R.data.toList
    rw [← Lib.size_eq] at hul
    have hus : (ba (upA [59] R.data.toList)).size ≤ 9223372036854775807 := by rw [ba_size]; omega
    have HU := hid (upTo1 b R w hR hs)
    obtain ⟨A, hA⟩ : ∃ A, ba (upA [59] R.data.toList) = A := ⟨_, rfl⟩
    rw [hA] at HU hus
    have hAl : A.data.toList = upA [59] R.data.toList := by rw [← hA]; rfl
    rw [← hAl] at HV
    clear hul hA hq h34 hR hAl
    go_enter Tryz.func155, Tryz.ntmps155
    go_wp2_with fail
    refine HP.out.mono ?_
    rintro e w1 ⟨rfl, rfl⟩
    go_wp2_with fail
    refine HU.out.mono ?_
    rintro e w2 ⟨rfl, hr2, hb2⟩
    go_wp2_with fail
    refine (trimR_any A _ hus).mono ?_
    rintro e w3 ⟨rfl, hb3⟩
    go_wp2
    go_ret2
    refine ⟨?_, ?_, hb2.then hb3 (Nat.le_of_lt hr2.lt)⟩
    · rw [HV.out.1, HV.out.2.1]
      refine ret_sb rfl ?_
      rw [Lib.toList_data]
      simp [ba]
    · rw [HV.out.2.2]; exact hr2.kept hb3

/-- The block p holds a parameter. -/
def TwoP (w : World) (b : Nat) (n v : ByteArray) : Prop := w.heap[b]? = some (.cells #[.string n, .string v] 43 (0, 0))

theorem TwoP.lt {w : World} {b : Nat} {n v : ByteArray} (h : TwoP w b n v) : b < w.heap.size := (Array.getElem?_eq_some_iff.1 h).1

theorem TwoP.range {w : World} {b : Nat} {n v : ByteArray} (h : TwoP w b n v) : w.rangeAt b 0 [.string n, .string v] := fun j u hu => by
  rw [Nat.zero_add, Lib.cell_of_heap h]
  match j, hu with
  | 0, hu => simpa using hu
  | 1, hu => simpa using hu
  | j + 2, hu => simp at hu

theorem TwoP.cells {w : World} {b : Nat} {n v : ByteArray} (h : TwoP w b n v) : w.cell? ⟨b, 0, none⟩ = some (.string n) ∧ w.cell? ⟨b, 1, none⟩ = some (.string v) ∧ w.frozen? ⟨b, 0, none⟩ = false ∧ w.frozen? ⟨b, 1, none⟩ = false :=
  ⟨by rw [Lib.cell_of_heap h]; rfl, by rw [Lib.cell_of_heap h]; rfl, Lib.frozen_of_heap h 0, Lib.frozen_of_heap h 1⟩

theorem TwoP.set {w : World} {b : Nat} {n v n' v' : ByteArray} (h : TwoP w b n v) : TwoP ((w.setCell ⟨b, 0, none⟩ (.string n')).setCell ⟨b, 1, none⟩ (.string v')) b n' v' := by
  have h1 := Lib.heap_setCell_same h (i := 0) (.string n')
  have h2 := Lib.heap_setCell_same h1 (i := 1) (.string v')
  exact h2

theorem TwoP.kept {w w' : World} {b : Nat} {n v : ByteArray} (h : TwoP w b n v) (hb : Below w.heap.size w w') : TwoP w' b n v := (hb.block b h.lt).trans h

theorem TwoP.but {w w' : World} {b c : Nat} {n v : ByteArray} (h : TwoP w b n v) (hb : But c w w') (hne : b ≠ c) : TwoP w' b n v := (hb.block b h.lt hne).trans h

theorem results_p2 {fn : Func} {p q : Tmp} (h : fn.results = #[.cell p 43, .tmp q]) (tmps : Array Value) (w : World) (b : Nat) (n v : ByteArray) (hp : tmps.getD p undef = .pointer (some ⟨b, 0, none⟩)) (hc : w.rangeAt b 0 [.string n, .string v]) : (results fn tmps).run Tryz.prog w = .ok (.tuple #[hdVal n v, tmps.getD q undef]) w := by
  rw [Array.getD_eq_getD_getElem?] at hp
  simp only [results, h]
  simp [Sem.run_bind, Result.andThen, hp, asAddr, run_loadVar_mid w b 0 43 [.string n, .string v] _ hc Tryz.underlying43 rfl (by kernel_rfl), hdVal]

def ParPost (b : Nat) (l : List UInt8) (w : World) (e : Ending) (w' : World) : Prop := e = .returned (.tuple #[hdVal (ba (parN l)) (ba (parV l)), .bool (parB l)]) ∧ Rdr w' b (ba (parR l)) ∧ But b w w'

set_option maxHeartbeats 4000000 in
set_option maxRecDepth 100000 in
theorem param_any (b : Nat) (R : ByteArray) (w : World) (hR : Rdr w b R) (hs : R.size ≤ 4000000000) :
    Calls Tryz.prog 132 #[.pointer (some ⟨b, 0, none⟩)] w (ParPost b R.data.toList w) := by
  have HLt := hid hR.lt
  have hc0 : (w.alloc (.cells #[.string ⟨#[]⟩, .string ⟨#[]⟩] 43)).cell? ⟨b, 0, none⟩ = some (.string R) := (hR.alloc _).cell
  have h0 : TwoP (w.alloc (.cells #[.string ⟨#[]⟩, .string ⟨#[]⟩] 43)) w.heap.size ⟨#[]⟩ ⟨#[]⟩ := heap_alloc_new _ _
  have H0 := hid h0
  have HR0 := hid (hR.alloc (.cells #[.string ⟨#[]⟩, .string ⟨#[]⟩] 43))
  have HB0 := hid ((But.refl b w).alloc (.cells #[.string ⟨#[]⟩, .string ⟨#[]⟩] 43) (Nat.le_of_lt hR.lt))
  clear hR h0
  -- the plain answers
  have htl := tL_le R.data.toList
  have hnl := upA_le [59, 61] (tL R.data.toList)
  have hql := upR_le [59, 61] (tL R.data.toList)
  rw [← Lib.size_eq] at htl
  obtain ⟨T, hT⟩ : ∃ T, ba (tL R.data.toList) = T := ⟨_, rfl⟩
  have hTl : T.data.toList = tL R.data.toList := by rw [← hT]; rfl
  obtain ⟨N, hN⟩ : ∃ N, ba (upA [59, 61] T.data.toList) = N := ⟨_, rfl⟩
  have hNl : N.data.toList = namP R.data.toList := by rw [← hN, hTl]; rfl
  obtain ⟨Q, hQ⟩ : ∃ Q, ba (upR [59, 61] T.data.toList) = Q := ⟨_, rfl⟩
  have hQl : Q.data.toList = rstP R.data.toList := by rw [← hQ, hTl]; rfl
  have hTs : T.size ≤ 4000000000 := by rw [Lib.size_eq, hTl]; omega
  have hNs : N.size ≤ 4000000000 := by rw [Lib.size_eq, hNl]; unfold namP; omega
  have hQs : Q.size ≤ 4000000000 := by rw [Lib.size_eq, hQl]; unfold rstP; omega
  have HTr : Hid (∀ w : World, Calls Tryz.prog 154 #[.string R, .string ⟨#[9, 10, 13, 32]⟩] w fun e w' => e = .returned (.string T) ∧ Below w.heap.size w w') := fun w => by
    rw [← hT]; exact trimL_any R w
  have HUp : Hid (∀ w : World, Rdr w b T → Calls Tryz.prog 100 #[.pointer (some ⟨b, 0, none⟩), .string ⟨#[59, 61]⟩] w fun e w' => e = .returned (.string N) ∧ Rdr w' b Q ∧ But b w w') := fun w hw => by
    rw [← hN, ← hQ]; exact upTo2 b T w hw hTs
  have HPN := hid (show parN R.data.toList = if isE Q.data.toList then low N.data.toList else [] by rw [hQl, hNl]; rfl)
  have HPV := hid (show parV R.data.toList = if isE Q.data.toList then mvalV (Q.data.toList.drop 1) else [] by rw [hQl]; rfl)
  have HPB := hid (show parB R.data.toList = (isE Q.data.toList && valB6 (Q.data.toList.drop 1) && tokL N.data.toList && fitV (mvalV (Q.data.toList.drop 1))) by rw [hQl, hNl]; rfl)
  have HPR := hid (show parR R.data.toList = if isE Q.data.toList then valR (Q.data.toList.drop 1) else Q.data.toList by rw [hQl]; rfl)
  clear htl hnl hql hT hTl hN hNl hQ hQl
  by_cases hE : Q.data.toList.head? = some 61
  · have hE' : isE Q.data.toList = true := by unfold isE; rw [hE]; rfl
    rw [hE'] at HPN HPV HPB HPR
    have hds : (dr1 Q).size ≤ 4000000000 := by rw [dr1_size]; omega
    have HPs := fun w hw => hid (pass_yes 61 b Q w hw hE)
    obtain ⟨D, hD⟩ : ∃ D, dr1 Q = D := ⟨_, rfl⟩
    have hDl : Q.data.toList.drop 1 = D.data.toList := by rw [← hD]; rfl
    rw [hDl] at HPV HPB HPR
    rw [hD] at HPs hds
    have hvl := valV_le D.data.toList
    obtain ⟨V, hV⟩ : ∃ V, ba (mvalV D.data.toList) = V := ⟨_, rfl⟩
    have hVl : V.data.toList = mvalV D.data.toList := by rw [← hV]; rfl
    have hVs : V.size ≤ 4000000000 := by rw [Lib.size_eq, hVl]; rw [← Lib.size_eq] at hvl; omega
    obtain ⟨ok, hok⟩ : ∃ ok, valB6 D.data.toList = ok := ⟨_, rfl⟩
    obtain ⟨tk, htk⟩ : ∃ tk, tokL N.data.toList = tk := ⟨_, rfl⟩
    obtain ⟨ft, hft⟩ : ∃ ft, fitV V.data.toList = ft := ⟨_, rfl⟩
    obtain ⟨L, hL⟩ : ∃ L, ba (low N.data.toList) = L := ⟨_, rfl⟩
    obtain ⟨Z, hZ⟩ : ∃ Z, ba (valR D.data.toList) = Z := ⟨_, rfl⟩
    have HVal : Hid (∀ w : World, Rdr w b D → Calls Tryz.prog 155 #[.pointer (some ⟨b, 0, none⟩)] w fun e w' => e = .returned (.tuple #[.string V, .bool ok]) ∧ Rdr w' b Z ∧ But b w w') := fun w hw => by
      have := value6_any b D w hw hds
      unfold ValPost at this
      rw [hV, hok, hZ] at this
      exact this
    have HLw : Hid (∀ w : World, Calls Tryz.prog 92 #[.string N] w fun e w' => e = .returned (.string L) ∧ Below w.heap.size w w') := fun w => by
      rw [← hL]; exact lower_any N w (by omega)
    have HTk : Hid (∀ w : World, Calls Tryz.prog 72 #[.string N] w fun e w' => e = .returned (.bool tk) ∧ w = w') := fun w => by
      rw [← htk]; exact token_any N w (by omega)
    have HFt : Hid (∀ w : World, Calls Tryz.prog 156 #[.string V] w fun e w' => e = .returned (.bool ft) ∧ w' = w) := fun w => by
      rw [← hft]; exact fits_any V w (by omega)
    have HA1 := hid (show ba (parN R.data.toList) = L by rw [HPN.out, if_pos rfl]; exact hL)
    have HA2 := hid (show ba (parV R.data.toList) = V by rw [HPV.out, if_pos rfl]; exact hV)
    have HA3 := hid (show parB R.data.toList = (ok && tk && ft) by rw [HPB.out, hok, htk, ← hVl, hft, Bool.true_and])
    have HA4 := hid (show ba (parR R.data.toList) = Z by rw [HPR.out, if_pos rfl]; exact hZ)
    clear hvl hV hVl hok htk hft hL hZ HPN HPV HPB HPR hE hE' hD hDl
    go_enter Tryz.func132, Tryz.ntmps132
    go_wp2_with fail
    refine (HTr.out _).mono ?_
    rintro e w1 ⟨rfl, hb1⟩
    have HR1 := hid (HR0.out.kept hb1)
    have HT1 := hid (H0.out.kept hb1)
    have HB1 := hid (HB0.out.then hb1 (Nat.le_of_lt HR0.out.lt))
    have hf1 := HR1.out.frozen
    have hc1 := HR1.out.cell
    have HR2 := hid (HR1.out.set T)
    have HB2 := hid (HB1.out.set 0 (.string T))
    have HT2 := hid (HT1.out.but ((But.refl b w1).set 0 (.string T)) (Nat.ne_of_gt HLt.out))
    clear hb1
    go_wp2_with fail
    generalize (w1.setCell ⟨b, 0, none⟩ (.string T)) = w2 at *
    refine (HUp.out _ HR2.out).mono ?_
    rintro e w3 ⟨rfl, hr3, hb3⟩
    go_wp2_with fail
    refine (HPs _ hr3).out.mono ?_
    rintro e w4 ⟨rfl, hr4, hb4⟩
    go_wp2_with fail
    refine (HVal.out _ hr4).mono ?_
    rintro e w5 ⟨rfl, hr5, hb5⟩
    go_wp2_with fail
    refine (HLw.out _).mono ?_
    rintro e w6 ⟨rfl, hb6⟩
    have HB6 := hid ((HB2.out.trans (hb3.trans (hb4.trans hb5))).then hb6 (Nat.le_of_lt hr5.lt))
    have HR6 := hid (hr5.kept hb6)
    have HT6 := hid ((HT2.out.but (hb3.trans (hb4.trans hb5)) (Nat.ne_of_gt HLt.out)).kept hb6)
    obtain ⟨c0, c1, f0, f1⟩ := HT6.out.cells
    clear hr3 hb3 hr4 hb4 hr5 hb5 hb6 hc1 hf1
    have fin : But b w ((w6.setCell ⟨w.heap.size, 0, none⟩ (.string L)).setCell ⟨w.heap.size, 1, none⟩ (.string V)) ∧ Rdr ((w6.setCell ⟨w.heap.size, 0, none⟩ (.string L)).setCell ⟨w.heap.size, 1, none⟩ (.string V)) b Z := by
      refine ⟨⟨(HB6.out.1.setCell (p := ⟨w.heap.size, 0, none⟩) (Nat.le_of_lt HLt.out) _).setCell (p := ⟨w.heap.size, 1, none⟩) (Nat.le_of_lt HLt.out) _, fun k h1 h2 => ?_⟩, ?_⟩
      · rw [heap_setCell_other _ _ _ _ (show k ≠ w.heap.size by omega), heap_setCell_other _ _ _ _ (show k ≠ w.heap.size by omega)]
        exact HB6.out.2 k h1 h2
      · unfold Rdr
        rw [heap_setCell_other _ _ _ _ (show b ≠ w.heap.size from Nat.ne_of_lt HLt.out), heap_setCell_other _ _ _ _ (show b ≠ w.heap.size from Nat.ne_of_lt HLt.out)]
        exact HR6.out
    have HFin := hid fin
    clear fin
    go_wp2_with (first
      | (go_at_call 72; refine (HTk.out _).mono ?_; rintro e w' ⟨rfl, rfl⟩)
      | (go_at_call 156; refine (HFt.out _).mono ?_; rintro e w' ⟨rfl, rfl⟩))
    all_goals
      refine bodyPost_ret (results_p2 rfl _ _ w.heap.size L V rfl HT6.out.set.range) rfl ⟨?_, ?_, HFin.out.1⟩
      · rw [HA1.out, HA2.out, HA3.out]
        simp_all
      · rw [HA4.out]; exact HFin.out.2
  · have hE' : isE Q.data.toList = false := by unfold isE; simpa using hE
    rw [hE'] at HPN HPV HPB HPR
    have HPs := fun w hw => hid (pass_no 61 b Q w hw hE)
    have HA1 := hid (show ba (parN R.data.toList) = ⟨#[]⟩ by rw [HPN.out]; rfl)
    have HA2 := hid (show ba (parV R.data.toList) = ⟨#[]⟩ by rw [HPV.out]; rfl)
    have HA3 := hid (show parB R.data.toList = false by rw [HPB.out]; rfl)
    have HA4 := hid (show ba (parR R.data.toList) = Q by rw [HPR.out]; exact mba_self Q)
    clear HPN HPV HPB HPR hE hE'
    go_enter Tryz.func132, Tryz.ntmps132
    go_wp2_with fail
    refine (HTr.out _).mono ?_
    rintro e w1 ⟨rfl, hb1⟩
    have HR1 := hid (HR0.out.kept hb1)
    have HT1 := hid (H0.out.kept hb1)
    have HB1 := hid (HB0.out.then hb1 (Nat.le_of_lt HR0.out.lt))
    have hf1 := HR1.out.frozen
    have hc1 := HR1.out.cell
    have HR2 := hid (HR1.out.set T)
    have HB2 := hid (HB1.out.set 0 (.string T))
    have HT2 := hid (HT1.out.but ((But.refl b w1).set 0 (.string T)) (Nat.ne_of_gt HLt.out))
    clear hb1
    go_wp2_with fail
    generalize (w1.setCell ⟨b, 0, none⟩ (.string T)) = w2 at *
    refine (HUp.out _ HR2.out).mono ?_
    rintro e w3 ⟨rfl, hr3, hb3⟩
    go_wp2_with fail
    refine (HPs _ hr3).out.mono ?_
    rintro e w4 ⟨rfl, rfl⟩
    have HB6 := hid (HB2.out.trans hb3)
    have HR6 := hid hr3
    have HT6 := hid (HT2.out.but hb3 (Nat.ne_of_gt HLt.out))
    obtain ⟨c0, c1, f0, f1⟩ := HT6.out.cells
    clear hr3 hb3 hc1 hf1
    have fin : But b w ((w4.setCell ⟨w.heap.size, 0, none⟩ (.string ⟨#[]⟩)).setCell ⟨w.heap.size, 1, none⟩ (.string ⟨#[]⟩)) ∧ Rdr ((w4.setCell ⟨w.heap.size, 0, none⟩ (.string ⟨#[]⟩)).setCell ⟨w.heap.size, 1, none⟩ (.string ⟨#[]⟩)) b Q := by
      refine ⟨⟨(HB6.out.1.setCell (p := ⟨w.heap.size, 0, none⟩) (Nat.le_of_lt HLt.out) _).setCell (p := ⟨w.heap.size, 1, none⟩) (Nat.le_of_lt HLt.out) _, fun k h1 h2 => ?_⟩, ?_⟩
      · rw [heap_setCell_other _ _ _ _ (show k ≠ w.heap.size by omega), heap_setCell_other _ _ _ _ (show k ≠ w.heap.size by omega)]
        exact HB6.out.2 k h1 h2
      · unfold Rdr
        rw [heap_setCell_other _ _ _ _ (show b ≠ w.heap.size from Nat.ne_of_lt HLt.out), heap_setCell_other _ _ _ _ (show b ≠ w.heap.size from Nat.ne_of_lt HLt.out)]
        exact HR6.out
    have HFin := hid fin
    clear fin
    go_wp2
    refine bodyPost_ret (results_p2 rfl _ _ w.heap.size ⟨#[]⟩ ⟨#[]⟩ rfl HT6.out.set.range) rfl ⟨?_, ?_, HFin.out.1⟩
    · rw [HA1.out, HA2.out, HA3.out]; rfl
    · rw [HA4.out]; exact HFin.out.2

end Go.Proofs.YtjmkccnjjofmeaaGreatDoor

namespace Go.Proofs.YtjmkccnjjofmeaaGreatDoor
open Go.RowKit Go.Maps Go.WideMaps

theorem lawS : Keyed Tryz.prog 9 := string_keyed Tryz.underlying9

theorem zeroU (w : World) : (zeroValue 150).run Tryz.prog w = .ok (.agg #[]) w := by kernel_rfl

theorem infoPm : (Tryz.prog.info? 43).map (fun i => (i.zero, i.size, i.bytes)) = some (some (.agg #[.string ByteArray.empty, .string ByteArray.empty]), 2, 32) := by kernel_rfl

/-- The set of the names. -/
def SN (out : List Hd) : DataW Unit := setOf (.agg []) (out.map fun p => Lit.string p.name)

theorem SN_snoc (out : List Hd) (p : Hd) : SN (out ++ [p]) = (SN out).put (.string p.name) (.agg []) := by
  unfold SN
  rw [List.map_append, List.map_singleton, setOf_snoc]

theorem SN_has (out : List Hd) (n : List UInt8) : Maps.has (SN out) (.string n) = has6 out n := by
  unfold SN has6
  rw [has_setOf _ _ _ (fun y hy => by obtain ⟨_, _, rfl⟩ := List.mem_map.1 hy; trivial), List.any_map]
  congr 1

def PrmPost (b : Nat) (l : List UInt8) (w : World) (e : Ending) (w' : World) : Prop := ∃ v, e = .returned v ∧ w'.ownsRow (w.heap.size + 1) 43 2 v (prm [] l).length (cellsH (prm [] l)) ∧ But b w w'

theorem own_apart2 {w : World} {b B n k : Nat} {e : TypeId} {v : Value} {xs : List Value} (h : w.ownsRow B e k v n xs) (hb : b < B) : v.ownBlock ≠ some b := fun e => by
  have := (h.lt b e).1
  omega

theorem But.map {b B n : Nat} {D : DataW Unit} {w w1 : World} (h : But b w w1) (ho : w.ownsMap Tryz.prog 9 unitElem B n D) (hne : B ≠ b) : w1.ownsMap Tryz.prog 9 unitElem B n D := by
  obtain ⟨es, clock, hb, rest⟩ := ho
  exact ⟨es, clock, (h.block B (Array.getElem?_eq_some_iff.1 hb).1 hne).trans hb, rest⟩

set_option maxHeartbeats 4000000 in
set_option maxRecDepth 100000 in
theorem params_any (b : Nat) (R : ByteArray) (w : World) (hR : Rdr w b R) (hs : R.size ≤ 4000000000) :
    Calls Tryz.prog 101 #[.pointer (some ⟨b, 0, none⟩)] w (PrmPost b R.data.toList w) := by
  have hmm := @run_makeMap Tryz.prog
  obtain ⟨i0, hi, hz0, hz1, hz2⟩ := info3 infoPm
  have HLt := hid hR.lt
  have HR := hid hR
  clear hR
  go_enter Tryz.func101, Tryz.ntmps101
  go_wp2
  go_loopg [3] R.size (fun g v wr => ∃ (Q : ByteArray) (out : List Hd), Q.size ≤ g ∧ out.length + Q.size ≤ R.size ∧ Rdr wr b Q ∧ wr.ownsMap Tryz.prog 9 (unitElem (H := Unit)) w.heap.size out.length (SN out) ∧ wr.ownsRow (w.heap.size + 1) 43 2 v out.length (cellsH out) ∧ prm out Q.data.toList = prm [] R.data.toList ∧ But b w wr ∧ w.heap.size + 1 ≤ wr.heap.size)
  case atStart => exact ⟨R, [], Nat.le_refl _, by simp, HR.out.alloc _, World.ownsMap_made _ _ _ _, World.ownsRow_nil _ _ _ _, rfl, (But.refl _ _).alloc _ (Nat.le_of_lt HLt.out), by simp⟩
  case round =>
    obtain ⟨Q, out, hg, hl, hRd, hmap, hown, hp, hbt, hws⟩ := hrel
    have HRd := hid hRd
    have HM := hid hmap
    have HO := hid hown
    have HP := hid hp
    have HBt := hid hbt
    clear hRd hmap hown hp hbt
    by_cases h59 : Q.data.toList.head? = some 59
    · have HPs := hid (pass_yes 59 b Q wr HRd.out h59)
      have hq0 : 0 < Q.size := by
        rw [Lib.size_eq]
        cases hq : Q.data.toList with
        | nil => rw [hq] at h59; cases h59
        | cons => simp
      have hds : (dr1 Q).size + 1 = Q.size := by rw [dr1_size]; omega
      have HSt := hid (show prm (mstepP out (dr1 Q).data.toList) (parR (dr1 Q).data.toList) = prm [] R.data.toList by
        rw [← HP.out, prm_step out Q.data.toList (by unfold isS; rw [h59]; rfl)]; rfl)
      have hrl := parR_le (dr1 Q).data.toList
      rw [← Lib.size_eq] at hrl
      obtain ⟨D, hD⟩ : ∃ D, dr1 Q = D := ⟨_, rfl⟩
      rw [hD] at HPs hds HSt hrl
      have hDs : D.size ≤ 4000000000 := by omega
      obtain ⟨N, hN⟩ : ∃ N, ba (parN D.data.toList) = N := ⟨_, rfl⟩
      obtain ⟨V, hV⟩ : ∃ V, ba (parV D.data.toList) = V := ⟨_, rfl⟩
      obtain ⟨Z, hZ⟩ : ∃ Z, ba (parR D.data.toList) = Z := ⟨_, rfl⟩
      obtain ⟨ok, hok⟩ : ∃ ok, parB D.data.toList = ok := ⟨_, rfl⟩
      have HPar : Hid (∀ w : World, Rdr w b D → Calls Tryz.prog 132 #[.pointer (some ⟨b, 0, none⟩)] w fun e w' => e = .returned (.tuple #[.agg #[.string N, .string V], .bool ok]) ∧ Rdr w' b Z ∧ But b w w') := fun w hw => by
        have := param_any b D w hw hDs
        unfold ParPost hdVal at this
        rw [hN, hV, hZ, hok] at this
        exact this
      have hZl : Z.data.toList = parR D.data.toList := by rw [← hZ]; rfl
      have hNl : N.data.toList = parN D.data.toList := by rw [← hN]; rfl
      have hVl : V.data.toList = parV D.data.toList := by rw [← hV]; rfl
      have hZs : Z.size + 1 ≤ Q.size := by rw [Lib.size_eq, hZl]; omega
      have hNs : N.size ≤ maxLen := by have := parN_le D.data.toList; rw [← Lib.size_eq] at this; rw [Lib.size_eq, hNl]; unfold maxLen; omega
      have hkey : keyOf Tryz.prog 9 (.string N) = some (.string N.data.toList) := keyOf_string_mk Tryz.underlying9 hNs
      clear hds
      go_wp2_with fail
      refine HPs.out.mono ?_
      rintro e w1 ⟨rfl, hr1, hb1⟩
      have HM1 := hid (hb1.map HM.out (Nat.ne_of_gt HLt.out))
      have HO1 := hid (hb1.own HO.out (own_apart2 HO.out (Nat.lt_succ_of_lt HLt.out)))
      have HB1 := hid (HBt.out.trans hb1)
      have hw1 := hb1.size
      go_wp2_with fail
      refine (HPar.out _ hr1).mono ?_
      rintro e w2 ⟨rfl, hr2, hb2⟩
      have HM2 := hid (hb2.map HM1.out (Nat.ne_of_gt HLt.out))
      have HO2 := hid (hb2.own HO1.out (own_apart2 HO1.out (Nat.lt_succ_of_lt HLt.out)))
      have HB2 := hid (HB1.out.trans hb2)
      have HR2 := hid hr2
      have hw2 := hb2.size
      clear hr1 hr2 hb1 hb2
      obtain ⟨hs6, hhs⟩ : ∃ x, has6 out (parN D.data.toList) = x := ⟨_, rfl⟩
      have HH := hid (show Maps.has (SN out) (.string N.data.toList) = hs6 by rw [SN_has, hNl]; exact hhs)
      have HSP := hid (show mstepP out D.data.toList = if ok && !hs6 then out ++ [⟨N.data.toList, V.data.toList⟩] else out by unfold mstepP; rw [hok, hhs, hNl, hVl])
      have HZl := hid hZl
      clear hZl hNl hVl hhs hN hV hZ hok hrl h59 hD
      have hfin : (ok && !hs6) = true ∨ (ok && !hs6) = false := by cases (ok && !hs6) <;> simp
      rcases hfin with hf | hf
      · rw [hf, if_pos rfl] at HSP
        obtain ⟨rfl, rfl⟩ : ok = true ∧ hs6 = false := by simpa using hf
        clear hf
        have HM3 := hid ((HM2.out.alloc (.cells #[.string N, .string V] 43)).alloc (.cells #[] 150))
        have HO3 := hid ((HO2.out.alloc (.cells #[.string N, .string V] 43)).alloc (.cells #[] 150))
        have HR3 := hid ((HR2.out.alloc (.cells #[.string N, .string V] 43)).alloc (.cells #[] 150))
        have HB3 := hid ((HB2.out.alloc (.cells #[.string N, .string V] 43) (Nat.le_of_lt HR2.out.lt)).alloc (.cells #[] 150) (Nat.le_of_lt (HR2.out.alloc _).lt))
        have HT3 := hid ((show TwoP (w2.alloc (.cells #[.string N, .string V] 43)) w2.heap.size N V from heap_alloc_new _ _).kept ((Below.refl _ _).alloc (Nat.le_refl _) (.cells #[] 150)))
        go_wp2_with (first
          | (at_lookup; refine wpList_lookup_own_unit _ rfl _ _ 147 rfl 9 150 lawS Tryz.underlying147 (zeroU _) w.heap.size out.length _ rfl (HM2.out.alloc _) _ _ rfl hkey ?_; rw [HH.out])
          | (at_mapUpdate; refine wpList_mapUpdate_own _ rfl _ _ _ 147 rfl 9 150 lawS Tryz.underlying147 (unitElem (H := Unit)) w.heap.size out.length _ rfl HM3.out (by unfold maxLen; omega) _ _ _ rfl rfl hkey _ [] unitElem_mk ?_; intro w3 hown1 hgrow1
             have HM4 := hid hown1
             have HO4 := hid (HO3.out.kept hgrow1 (.inr (own_apart2 HO3.out (Nat.lt_succ_self _))))
             have HR4 := hid (HR3.out.grown hgrow1 (by simp; exact Nat.ne_of_lt HLt.out))
             have HB4 := hid (HB3.out.grown hgrow1 (fun k hk => by cases hk; exact Nat.le_refl _) HLt.out)
             have hw3 := hgrow1.size
             have hT4 : TwoP w3 w2.heap.size N V := (hgrow1.block _ HT3.out.lt (by simp; omega)).trans HT3.out
             obtain ⟨c0, c1, _, _⟩ := hT4.cells
             clear hgrow1 hown1 hT4)
          | (at_builtin; go_must (refine wpList_append_own _ rfl _ _ 24 rfl (w.heap.size + 1) 43 i0 _ 2 32 Tryz.underlying24 hi hz0 hz1 hz2 rfl (by decide) _ _ _ rfl (HO4.out.alloc _) ⟨w3.heap.size, 0, none⟩ 1 1 [.string N, .string V] rfl rfl ?c1 ?c2 ?c3 ?c4 ?c5 ?_)))
        case c1 =>
          intro q u hq
          match q, hq with
          | 0, hq => simp at hq; subst hq; simp [Addr.add]
          | 1, hq => simp at hq; subst hq; simp [Addr.add]
        case c2 => intro u hu; simp at hu; rcases hu with rfl | rfl <;> rfl
        case c3 => unfold maxLen; omega
        case c4 => omega
        case c5 => simp at hw3 ⊢; omega
        intro v' w4 hown' hgrow hnil
        have HO5 := hid hown'
        have HM5 := hid ((HM4.out.alloc (.cells #[.string N, .string V] 43)).kept hgrow (fun e => own_apart2 HO4.out (Nat.lt_succ_self _) e.symm))
        have HR5 := hid ((HR4.out.alloc (.cells #[.string N, .string V] 43)).grown hgrow (fun e => own_apart2 HO4.out (Nat.lt_succ_of_lt HLt.out) e.symm))
        have HB5 := hid ((HB4.out.alloc (.cells #[.string N, .string V] 43) (Nat.le_of_lt HR4.out.lt)).grown hgrow (fun k hk => by have := (HO4.out.lt k hk).1; omega) HLt.out)
        have hw4 := hgrow.size
        simp at hw3 hw4
        clear hown' hgrow hnil
        go_wp2
        go_roundg (gk - 1)
        case measure => omega
        case rel =>
          refine ⟨Z, out ++ [⟨N.data.toList, V.data.toList⟩], by omega, by simp; omega, HR5.out, ?_, ?_, ?_, HB5.out, by omega⟩
          · rw [SN_snoc, List.length_append]; exact HM5.out
          · rw [cellsH_app, cellsH_one, List.length_append]
            have e1 : (⟨N.data.toList.toArray⟩ : ByteArray) = N := (xself N).symm
            have e2 : (⟨V.data.toList.toArray⟩ : ByteArray) = V := (xself V).symm
            rw [e1, e2]
            exact HO5.out
          · rw [HZl.out, ← HSP.out]; exact HSt.out
      · rw [hf, if_neg (by simp)] at HSP
        have HM3 := hid ((HM2.out.alloc (.cells #[.string N, .string V] 43)).alloc (.cells #[] 150))
        have HO3 := hid ((HO2.out.alloc (.cells #[.string N, .string V] 43)).alloc (.cells #[] 150))
        have HR3 := hid ((HR2.out.alloc (.cells #[.string N, .string V] 43)).alloc (.cells #[] 150))
        have HB3 := hid ((HB2.out.alloc (.cells #[.string N, .string V] 43) (Nat.le_of_lt HR2.out.lt)).alloc (.cells #[] 150) (Nat.le_of_lt (HR2.out.alloc _).lt))
        have hcs : (ok = false) ∨ (ok = true ∧ hs6 = true) := by revert hf; cases ok <;> cases hs6 <;> simp
        clear hf
        rcases hcs with rfl | ⟨rfl, rfl⟩
        all_goals
          go_wp2_with (at_lookup; refine wpList_lookup_own_unit _ rfl _ _ 147 rfl 9 150 lawS Tryz.underlying147 (zeroU _) w.heap.size out.length _ rfl (HM2.out.alloc _) _ _ rfl hkey ?_; rw [HH.out])
          go_roundg (gk - 1)
          case measure => omega
          case rel =>
            refine ⟨Z, out, by omega, by omega, HR3.out, HM3.out, HO3.out, ?_, HB3.out, by simp; omega⟩
            rw [HZl.out, ← HSP.out]; exact HSt.out
    · have HPs := hid (pass_no 59 b Q wr HRd.out h59)
      have HE := hid (show out = prm [] R.data.toList by rw [← HP.out, prm_end]; unfold isS; simpa using h59)
      go_wp2_with fail
      refine HPs.out.mono ?_
      rintro e w1 ⟨rfl, rfl⟩
      go_wp2
      go_ret
      unfold PrmPost
      rw [← HE.out]
      exact ⟨_, rfl, HO.out, HBt.out⟩

end Go.Proofs.YtjmkccnjjofmeaaGreatDoor
