/-
  The walks of the reader's value and param.
-/
import Derived.Test.YtplabofdcnpcpaaDoorZMf
import Derived.Test.YtplabofdcnpcpaaDoorZMb
import Derived.Test.YtplabofdcnpcpaaDoorZXj
set_option linter.unusedSimpArgs false
set_option linter.unusedVariables false
namespace Go.Proofs.YtplabofdcnpcpaaDoor
open Go.RowKit

theorem upTo1 (b : Nat) (R : ByteArray) (w : World) (hR : Rdr w b R) (hs : R.size ≤ 4000000000) :
    Calls Tryd.prog 45 #[.pointer (some ⟨b, 0, none⟩), .string ⟨#[59]⟩] w fun e w' => e = .returned (.string (ba (upA [59] R.data.toList))) ∧ Rdr w' b (ba (upR [59] R.data.toList)) ∧ But b w w' :=
  upTo_gen ⟨#[59]⟩ b R w hR hs (m6indexAny1_any R w)

theorem upTo2 (b : Nat) (R : ByteArray) (w : World) (hR : Rdr w b R) (hs : R.size ≤ 4000000000) :
    Calls Tryd.prog 45 #[.pointer (some ⟨b, 0, none⟩), .string ⟨#[59, 61]⟩] w fun e w' => e = .returned (.string (ba (upA [59, 61] R.data.toList))) ∧ Rdr w' b (ba (upR [59, 61] R.data.toList)) ∧ But b w w' :=
  upTo_gen ⟨#[59, 61]⟩ b R w hR hs (m6indexAny2_any R w hs)

theorem trimR_any (s : ByteArray) (w : World) (hs : s.size ≤ 9223372036854775807) :
    Calls Tryd.prog 44 #[.string s, .string ⟨#[9, 10, 13, 32]⟩] w fun e w' => e = .returned (.string (ba (tR s.data.toList))) ∧ Below w.heap.size w w' :=
  Any.strings_TrimRight_laid Tryd.lays162 (by kernel_rfl) s ⟨#[9, 10, 13, 32]⟩ w hs (by decide) (ascii_of_all (by decide))

theorem trimL_any (s : ByteArray) (w : World) :
    Calls Tryd.prog 99 #[.string s, .string ⟨#[9, 10, 13, 32]⟩] w fun e w' => e = .returned (.string (ba (tL s.data.toList))) ∧ Below w.heap.size w w' :=
  Any.strings_TrimLeft_laid Tryd.lays161 (by kernel_rfl) s ⟨#[9, 10, 13, 32]⟩ w (by decide) (ascii_of_all (by decide))

theorem trim6_any (s : ByteArray) (w : World) (hs : s.size ≤ 9223372036854775807) :
    Calls Tryd.prog 31 #[.string s, .string ⟨#[9, 10, 13, 32]⟩] w fun e w' => e = .returned (.string (ba (tB s.data.toList))) ∧ Below w.heap.size w w' :=
  trim5_any s ⟨#[9, 10, 13, 32]⟩ w hs (by decide) (by decide)

def ValPost (b : Nat) (l : List UInt8) (w : World) (e : Ending) (w' : World) : Prop := e = .returned (.tuple #[.string (ba (mvalV l)), .bool (valB6 l)]) ∧ Rdr w' b (ba (valR l)) ∧ But b w w'

theorem ret_sb {a b : ByteArray} {x y : Bool} (h : a = b) (g : x = y) : Ending.returned (.tuple #[.string a, .bool x]) = .returned (.tuple #[.string b, .bool y]) := by rw [h, g]

set_option maxHeartbeats 2000000 in
set_option maxRecDepth 100000 in
theorem value6_any (b : Nat) (R : ByteArray) (w : World) (hR : Rdr w b R) (hs : R.size ≤ 4000000000) :
    Calls Tryd.prog 100 #[.pointer (some ⟨b, 0, none⟩)] w (ValPost b R.data.toList w) := by
  by_cases h34 : R.data.toList.head? = some 34
  · have HP := hid (pass_yes 34 b R w hR h34)
    have hq : isQ R.data.toList = true := by unfold isQ; rw [h34]; rfl
    have hl : (dr1 R).data.toList = R.data.toList.drop 1 := rfl
    have hds : (dr1 R).size ≤ 4000000000 := by rw [dr1_size]; omega
    have HV := hid (show mvalV R.data.toList = (quo (dr1 R).data.toList).1 ∧ valB6 R.data.toList = true ∧ valR R.data.toList = upR [59] (quo (dr1 R).data.toList).2 by
      unfold mvalV valB6 valR; rw [hq, hl]; exact ⟨rfl, rfl, rfl⟩)
    have hql := quo_len _ (dr1 R).data.toList (Nat.le_refl _)
    have hqs : (ba (quo (dr1 R).data.toList).2).size ≤ 4000000000 := by rw [ba_size]; rw [← Lib.size_eq] at hql; omega
    obtain ⟨A, hA⟩ : ∃ A, ba (quo (dr1 R).data.toList).1 = A := ⟨_, rfl⟩
    obtain ⟨B, hB⟩ : ∃ B, ba (quo (dr1 R).data.toList).2 = B := ⟨_, rfl⟩
    rw [hB] at hqs
    obtain ⟨D, hD⟩ : ∃ D, dr1 R = D := ⟨_, rfl⟩
    have HQ : Hid (∀ w1, Rdr w1 b D → Calls Tryd.prog 118 #[.pointer (some ⟨b, 0, none⟩)] w1 fun e w' => e = .returned (.string A) ∧ Rdr w' b B ∧ But b w1 w') := fun w1 h1 => by
      rw [← hD] at h1
      have := quoted_any b (dr1 R) w1 h1 hds
      unfold QuoPost at this
      rw [hA, hB] at this
      exact this
    rw [hD] at HP
    have HA := hid hA
    have HB := hid hB
    clear hql hA hB hq hl hds h34 hR hD
    go_enter Tryd.func100, Tryd.ntmps100
    go_wp2_with fail
    refine HP.out.mono ?_
    rintro e w1 ⟨rfl, hr1, hb1⟩
    go_wp2_with fail
    refine (HQ.out _ hr1).mono ?_
    rintro e w2 ⟨rfl, hr2, hb2⟩
    go_wp2_with fail
    refine (upTo1 b B _ hr2 hqs).mono ?_
    rintro e w3 ⟨rfl, hr3, hb3⟩
    go_wp2
    go_ret2
    refine ⟨?_, ?_, hb1.trans (hb2.trans hb3)⟩
    · rw [HV.out.1, HV.out.2.1, ← HA.out]; rfl
    · rw [HV.out.2.2]
      have e : (quo (dr1 R).data.toList).2 = B.data.toList := by rw [← HB.out]; rfl
      rw [e]; exact hr3
  · have HP := hid (pass_no 34 b R w hR h34)
    have hq : isQ R.data.toList = false := by unfold isQ; simpa using h34
    have HV := hid (show mvalV R.data.toList = tR (upA [59] R.data.toList) ∧ valB6 R.data.toList = !(tR (upA [59] R.data.toList)).isEmpty ∧ valR R.data.toList = upR [59] R.data.toList by
      unfold mvalV valB6 valR; rw [hq]; exact ⟨rfl, rfl, rfl⟩)
    have hul := upA_le [59] R.data.toList
    rw [← Lib.size_eq] at hul
    have hus : (ba (upA [59] R.data.toList)).size ≤ 9223372036854775807 := by rw [ba_size]; omega
    have HU := hid (upTo1 b R w hR hs)
    obtain ⟨A, hA⟩ : ∃ A, ba (upA [59] R.data.toList) = A := ⟨_, rfl⟩
    rw [hA] at HU hus
    have hAl : A.data.toList = upA [59] R.data.toList := by rw [← hA]; rfl
    rw [← hAl] at HV
    clear hul hA hq h34 hR hAl
    go_enter Tryd.func100, Tryd.ntmps100
    go_wp2_with fail
    refine HP.out.mono ?_
    rintro e w1 ⟨rfl, rfl⟩
    go_wp2_with fail
    refine HU.out.mono ?_
    rintro e w2 ⟨rfl, hr2, hb2⟩
    go_wp2_with fail
    refine (trimR_any A _ hus).mono ?_
    rintro e w3 ⟨rfl, hb3⟩
    go_wp2
    go_ret2
    refine ⟨?_, ?_, hb2.then hb3 (Nat.le_of_lt hr2.lt)⟩
    · rw [HV.out.1, HV.out.2.1]
      refine ret_sb rfl ?_
      rw [Lib.toList_data]
      simp [ba]
    · rw [HV.out.2.2]; exact hr2.kept hb3

/-- The block p holds a parameter. -/
def TwoP (w : World) (b : Nat) (n v : ByteArray) : Prop := w.heap[b]? = some (.cells #[.string n, .string v] 60 (0, 0))

theorem TwoP.lt {w : World} {b : Nat} {n v : ByteArray} (h : TwoP w b n v) : b < w.heap.size := (Array.getElem?_eq_some_iff.1 h).1
theorem TwoP.range {w : World} {b : Nat} {n v : ByteArray} (h : TwoP w b n v) : w.rangeAt b 0 [.string n, .string v] := fun j u hu => by
  rw [Nat.zero_add, Lib.cell_of_heap h]
  match j, hu with
  | 0, hu => simpa using hu
  | 1, hu => simpa using hu
  | j + 2, hu => simp at hu

theorem TwoP.cells {w : World} {b : Nat} {n v : ByteArray} (h : TwoP w b n v) : w.cell? ⟨b, 0, none⟩ = some (.string n) ∧ w.cell? ⟨b, 1, none⟩ = some (.string v) ∧ w.frozen? ⟨b, 0, none⟩ = false ∧ w.frozen? ⟨b, 1, none⟩ = false :=
  ⟨by rw [Lib.cell_of_heap h]; rfl, by rw [Lib.cell_of_heap h]; rfl, Lib.frozen_of_heap h 0, Lib.frozen_of_heap h 1⟩

theorem TwoP.set {w : World} {b : Nat} {n v n' v' : ByteArray} (h : TwoP w b n v) : TwoP ((w.setCell ⟨b, 0, none⟩ (.string n')).setCell ⟨b, 1, none⟩ (.string v')) b n' v' := by
  have h1 := Lib.heap_setCell_same h (i := 0) (.string n')
  have h2 := Lib.heap_setCell_same h1 (i := 1) (.string v')
  exact h2
theorem TwoP.kept {w w' : World} {b : Nat} {n v : ByteArray} (h : TwoP w b n v) (hb : Below w.heap.size w w') : TwoP w' b n v := (hb.block b h.lt).trans h
theorem TwoP.but {w w' : World} {b c : Nat} {n v : ByteArray} (h : TwoP w b n v) (hb : But c w w') (hne : b ≠ c) : TwoP w' b n v := (hb.block b h.lt hne).trans h

theorem results_p2 {fn : Func} {p q : Tmp} (h : fn.results = #[.cell p 60, .tmp q]) (tmps : Array Value) (w : World) (b : Nat) (n v : ByteArray) (hp : tmps.getD p undef = .pointer (some ⟨b, 0, none⟩)) (hc : w.rangeAt b 0 [.string n, .string v]) : (results fn tmps).run Tryd.prog w = .ok (.tuple #[hdVal n v, tmps.getD q undef]) w := by
  rw [Array.getD_eq_getD_getElem?] at hp
  simp only [results, h]
  simp [Sem.run_bind, Result.andThen, hp, asAddr, run_loadVar_mid w b 0 60 [.string n, .string v] _ hc Tryd.underlying60 rfl (by kernel_rfl), hdVal]

def ParPost (b : Nat) (l : List UInt8) (w : World) (e : Ending) (w' : World) : Prop := e = .returned (.tuple #[hdVal (ba (parN l)) (ba (parV l)), .bool (parB l)]) ∧ Rdr w' b (ba (parR l)) ∧ But b w w'

set_option maxHeartbeats 4000000 in
set_option maxRecDepth 100000 in
theorem param_any (b : Nat) (R : ByteArray) (w : World) (hR : Rdr w b R) (hs : R.size ≤ 4000000000) :
    Calls Tryd.prog 74 #[.pointer (some ⟨b, 0, none⟩)] w (ParPost b R.data.toList w) := by
  have HLt := hid hR.lt
  have hc0 : (w.alloc (.cells #[.string ⟨#[]⟩, .string ⟨#[]⟩] 60)).cell? ⟨b, 0, none⟩ = some (.string R) := (hR.alloc _).cell
  have h0 : TwoP (w.alloc (.cells #[.string ⟨#[]⟩, .string ⟨#[]⟩] 60)) w.heap.size ⟨#[]⟩ ⟨#[]⟩ := heap_alloc_new _ _
  have H0 := hid h0
  have HR0 := hid (hR.alloc (.cells #[.string ⟨#[]⟩, .string ⟨#[]⟩] 60))
  have HB0 := hid ((But.refl b w).alloc (.cells #[.string ⟨#[]⟩, .string ⟨#[]⟩] 60) (Nat.le_of_lt hR.lt))
  clear hR h0
  -- the plain answers
  have htl := tL_le R.data.toList
  have hnl := upA_le [59, 61] (tL R.data.toList)
  have hql := upR_le [59, 61] (tL R.data.toList)
  rw [← Lib.size_eq] at htl
  obtain ⟨T, hT⟩ : ∃ T, ba (tL R.data.toList) = T := ⟨_, rfl⟩
  have hTl : T.data.toList = tL R.data.toList := by rw [← hT]; rfl
  obtain ⟨N, hN⟩ : ∃ N, ba (upA [59, 61] T.data.toList) = N := ⟨_, rfl⟩
  have hNl : N.data.toList = namP R.data.toList := by rw [← hN, hTl]; rfl
  obtain ⟨Q, hQ⟩ : ∃ Q, ba (upR [59, 61] T.data.toList) = Q := ⟨_, rfl⟩
  have hQl : Q.data.toList = rstP R.data.toList := by rw [← hQ, hTl]; rfl
  have hTs : T.size ≤ 4000000000 := by rw [Lib.size_eq, hTl]; omega
  have hNs : N.size ≤ 4000000000 := by rw [Lib.size_eq, hNl]; unfold namP; omega
  have hQs : Q.size ≤ 4000000000 := by rw [Lib.size_eq, hQl]; unfold rstP; omega
  have HTr : Hid (∀ w : World, Calls Tryd.prog 99 #[.string R, .string ⟨#[9, 10, 13, 32]⟩] w fun e w' => e = .returned (.string T) ∧ Below w.heap.size w w') := fun w => by
    rw [← hT]; exact trimL_any R w
  have HUp : Hid (∀ w : World, Rdr w b T → Calls Tryd.prog 45 #[.pointer (some ⟨b, 0, none⟩), .string ⟨#[59, 61]⟩] w fun e w' => e = .returned (.string N) ∧ Rdr w' b Q ∧ But b w w') := fun w hw => by
    rw [← hN, ← hQ]; exact upTo2 b T w hw hTs
  have HPN := hid (show parN R.data.toList = if isE Q.data.toList then low N.data.toList else [] by rw [hQl, hNl]; rfl)
  have HPV := hid (show parV R.data.toList = if isE Q.data.toList then mvalV (Q.data.toList.drop 1) else [] by rw [hQl]; rfl)
  have HPB := hid (show parB R.data.toList = (isE Q.data.toList && valB6 (Q.data.toList.drop 1) && tokL N.data.toList && fitV (mvalV (Q.data.toList.drop 1))) by rw [hQl, hNl]; rfl)
  have HPR := hid (show parR R.data.toList = if isE Q.data.toList then valR (Q.data.toList.drop 1) else Q.data.toList by rw [hQl]; rfl)
  clear htl hnl hql hT hTl hN hNl hQ hQl
  by_cases hE : Q.data.toList.head? = some 61
  · have hE' : isE Q.data.toList = true := by unfold isE; rw [hE]; rfl
    rw [hE'] at HPN HPV HPB HPR
    have hds : (dr1 Q).size ≤ 4000000000 := by rw [dr1_size]; omega
    have HPs := fun w hw => hid (pass_yes 61 b Q w hw hE)
    obtain ⟨D, hD⟩ : ∃ D, dr1 Q = D := ⟨_, rfl⟩
    have hDl : Q.data.toList.drop 1 = D.data.toList := by rw [← hD]; rfl
    rw [hDl] at HPV HPB HPR
    rw [hD] at HPs hds
    have hvl := valV_le D.data.toList
    obtain ⟨V, hV⟩ : ∃ V, ba (mvalV D.data.toList) = V := ⟨_, rfl⟩
    have hVl : V.data.toList = mvalV D.data.toList := by rw [← hV]; rfl
    have hVs : V.size ≤ 4000000000 := by rw [Lib.size_eq, hVl]; rw [← Lib.size_eq] at hvl; omega
    obtain ⟨ok, hok⟩ : ∃ ok, valB6 D.data.toList = ok := ⟨_, rfl⟩
    obtain ⟨tk, htk⟩ : ∃ tk, tokL N.data.toList = tk := ⟨_, rfl⟩
    obtain ⟨ft, hft⟩ : ∃ ft, fitV V.data.toList = ft := ⟨_, rfl⟩
    obtain ⟨L, hL⟩ : ∃ L, ba (low N.data.toList) = L := ⟨_, rfl⟩
    obtain ⟨Z, hZ⟩ : ∃ Z, ba (valR D.data.toList) = Z := ⟨_, rfl⟩
    have HVal : Hid (∀ w : World, Rdr w b D → Calls Tryd.prog 100 #[.pointer (some ⟨b, 0, none⟩)] w fun e w' => e = .returned (.tuple #[.string V, .bool ok]) ∧ Rdr w' b Z ∧ But b w w') := fun w hw => by
      have := value6_any b D w hw hds
      unfold ValPost at this
      rw [hV, hok, hZ] at this
      exact this
    have HLw : Hid (∀ w : World, Calls Tryd.prog 33 #[.string N] w fun e w' => e = .returned (.string L) ∧ Below w.heap.size w w') := fun w => by
      rw [← hL]; exact lower_any N w (by omega)
    have HTk : Hid (∀ w : World, Calls Tryd.prog 46 #[.string N] w fun e w' => e = .returned (.bool tk) ∧ w = w') := fun w => by
      rw [← htk]; exact token_any N w (by omega)
    have HFt : Hid (∀ w : World, Calls Tryd.prog 101 #[.string V] w fun e w' => e = .returned (.bool ft) ∧ w' = w) := fun w => by
      rw [← hft]; exact fits_any V w (by omega)
    have HA1 := hid (show ba (parN R.data.toList) = L by rw [HPN.out, if_pos rfl]; exact hL)
    have HA2 := hid (show ba (parV R.data.toList) = V by rw [HPV.out, if_pos rfl]; exact hV)
    have HA3 := hid (show parB R.data.toList = (ok && tk && ft) by rw [HPB.out, hok, htk, ← hVl, hft, Bool.true_and])
    have HA4 := hid (show ba (parR R.data.toList) = Z by rw [HPR.out, if_pos rfl]; exact hZ)
    clear hvl hV hVl hok htk hft hL hZ HPN HPV HPB HPR hE hE' hD hDl
    go_enter Tryd.func74, Tryd.ntmps74
    go_wp2_with fail
    refine (HTr.out _).mono ?_
    rintro e w1 ⟨rfl, hb1⟩
    have HR1 := hid (HR0.out.kept hb1)
    have HT1 := hid (H0.out.kept hb1)
    have HB1 := hid (HB0.out.then hb1 (Nat.le_of_lt HR0.out.lt))
    have hf1 := HR1.out.frozen
    have hc1 := HR1.out.cell
    have HR2 := hid (HR1.out.set T)
    have HB2 := hid (HB1.out.set 0 (.string T))
    have HT2 := hid (HT1.out.but ((But.refl b w1).set 0 (.string T)) (Nat.ne_of_gt HLt.out))
    clear hb1
    go_wp2_with fail
    generalize (w1.setCell ⟨b, 0, none⟩ (.string T)) = w2 at *
    refine (HUp.out _ HR2.out).mono ?_
    rintro e w3 ⟨rfl, hr3, hb3⟩
    go_wp2_with fail
    refine (HPs _ hr3).out.mono ?_
    rintro e w4 ⟨rfl, hr4, hb4⟩
    go_wp2_with fail
    refine (HVal.out _ hr4).mono ?_
    rintro e w5 ⟨rfl, hr5, hb5⟩
    go_wp2_with fail
    refine (HLw.out _).mono ?_
    rintro e w6 ⟨rfl, hb6⟩
    have HB6 := hid ((HB2.out.trans (hb3.trans (hb4.trans hb5))).then hb6 (Nat.le_of_lt hr5.lt))
    have HR6 := hid (hr5.kept hb6)
    have HT6 := hid ((HT2.out.but (hb3.trans (hb4.trans hb5)) (Nat.ne_of_gt HLt.out)).kept hb6)
    obtain ⟨c0, c1, f0, f1⟩ := HT6.out.cells
    clear hr3 hb3 hr4 hb4 hr5 hb5 hb6 hc1 hf1
    have fin : But b w ((w6.setCell ⟨w.heap.size, 0, none⟩ (.string L)).setCell ⟨w.heap.size, 1, none⟩ (.string V)) ∧ Rdr ((w6.setCell ⟨w.heap.size, 0, none⟩ (.string L)).setCell ⟨w.heap.size, 1, none⟩ (.string V)) b Z := by
      refine ⟨⟨(HB6.out.1.setCell (p := ⟨w.heap.size, 0, none⟩) (Nat.le_of_lt HLt.out) _).setCell (p := ⟨w.heap.size, 1, none⟩) (Nat.le_of_lt HLt.out) _, fun k h1 h2 => ?_⟩, ?_⟩
      · rw [heap_setCell_other _ _ _ _ (show k ≠ w.heap.size by omega), heap_setCell_other _ _ _ _ (show k ≠ w.heap.size by omega)]
        exact HB6.out.2 k h1 h2
      · unfold Rdr
        rw [heap_setCell_other _ _ _ _ (show b ≠ w.heap.size from Nat.ne_of_lt HLt.out), heap_setCell_other _ _ _ _ (show b ≠ w.heap.size from Nat.ne_of_lt HLt.out)]
        exact HR6.out
    have HFin := hid fin
    clear fin
    go_wp2_with (first
      | (go_at_call 46; refine (HTk.out _).mono ?_; rintro e w' ⟨rfl, rfl⟩)
      | (go_at_call 101; refine (HFt.out _).mono ?_; rintro e w' ⟨rfl, rfl⟩))
    all_goals
      refine bodyPost_ret (results_p2 rfl _ _ w.heap.size L V rfl HT6.out.set.range) rfl ⟨?_, ?_, HFin.out.1⟩
      · rw [HA1.out, HA2.out, HA3.out]
        simp_all
      · rw [HA4.out]; exact HFin.out.2
  · have hE' : isE Q.data.toList = false := by unfold isE; simpa using hE
    rw [hE'] at HPN HPV HPB HPR
    have HPs := fun w hw => hid (pass_no 61 b Q w hw hE)
    have HA1 := hid (show ba (parN R.data.toList) = ⟨#[]⟩ by rw [HPN.out]; rfl)
    have HA2 := hid (show ba (parV R.data.toList) = ⟨#[]⟩ by rw [HPV.out]; rfl)
    have HA3 := hid (show parB R.data.toList = false by rw [HPB.out]; rfl)
    have HA4 := hid (show ba (parR R.data.toList) = Q by rw [HPR.out]; exact mba_self Q)
    clear HPN HPV HPB HPR hE hE'
    go_enter Tryd.func74, Tryd.ntmps74
    go_wp2_with fail
    refine (HTr.out _).mono ?_
    rintro e w1 ⟨rfl, hb1⟩
    have HR1 := hid (HR0.out.kept hb1)
    have HT1 := hid (H0.out.kept hb1)
    have HB1 := hid (HB0.out.then hb1 (Nat.le_of_lt HR0.out.lt))
    have hf1 := HR1.out.frozen
    have hc1 := HR1.out.cell
    have HR2 := hid (HR1.out.set T)
    have HB2 := hid (HB1.out.set 0 (.string T))
    have HT2 := hid (HT1.out.but ((But.refl b w1).set 0 (.string T)) (Nat.ne_of_gt HLt.out))
    clear hb1
    go_wp2_with fail
    generalize (w1.setCell ⟨b, 0, none⟩ (.string T)) = w2 at *
    refine (HUp.out _ HR2.out).mono ?_
    rintro e w3 ⟨rfl, hr3, hb3⟩
    go_wp2_with fail
    refine (HPs _ hr3).out.mono ?_
    rintro e w4 ⟨rfl, rfl⟩
    have HB6 := hid (HB2.out.trans hb3)
    have HR6 := hid hr3
    have HT6 := hid (HT2.out.but hb3 (Nat.ne_of_gt HLt.out))
    obtain ⟨c0, c1, f0, f1⟩ := HT6.out.cells
    clear hr3 hb3 hc1 hf1
    have fin : But b w ((w4.setCell ⟨w.heap.size, 0, none⟩ (.string ⟨#[]⟩)).setCell ⟨w.heap.size, 1, none⟩ (.string ⟨#[]⟩)) ∧ Rdr ((w4.setCell ⟨w.heap.size, 0, none⟩ (.string ⟨#[]⟩)).setCell ⟨w.heap.size, 1, none⟩ (.string ⟨#[]⟩)) b Q := by
      refine ⟨⟨(HB6.out.1.setCell (p := ⟨w.heap.size, 0, none⟩) (Nat.le_of_lt HLt.out) _).setCell (p := ⟨w.heap.size, 1, none⟩) (Nat.le_of_lt HLt.out) _, fun k h1 h2 => ?_⟩, ?_⟩
      · rw [heap_setCell_other _ _ _ _ (show k ≠ w.heap.size by omega), heap_setCell_other _ _ _ _ (show k ≠ w.heap.size by omega)]
        exact HB6.out.2 k h1 h2
      · unfold Rdr
        rw [heap_setCell_other _ _ _ _ (show b ≠ w.heap.size from Nat.ne_of_lt HLt.out), heap_setCell_other _ _ _ _ (show b ≠ w.heap.size from Nat.ne_of_lt HLt.out)]
        exact HR6.out
    have HFin := hid fin
    clear fin
    go_wp2
    refine bodyPost_ret (results_p2 rfl _ _ w.heap.size ⟨#[]⟩ ⟨#[]⟩ rfl HT6.out.set.range) rfl ⟨?_, ?_, HFin.out.1⟩
    · rw [HA1.out, HA2.out, HA3.out]; rfl
    · rw [HA4.out]; exact HFin.out.2

end Go.Proofs.YtplabofdcnpcpaaDoor
