/-
  The walks of headers' Range, formKind, Safe.
-/
import Derived.Test.YtknlmifjadolpaaDoorXk
import Derived.Deep.CutRange
set_option linter.unusedSimpArgs false
set_option linter.unusedVariables false
namespace Go.Proofs.YtknlmifjadolpaaDoor
open Go.RowKit

theorem ret_iib {a b c d : Int} {x y : Bool} (h : a = b) (h2 : c = d) (g : x = y) : Ending.returned (.tuple #[.int .i64 a, .int .i64 c, .bool x]) = .returned (.tuple #[.int .i64 b, .int .i64 d, .bool y]) := by rw [h, h2, g]

theorem trimP_rest (l : List UInt8) : Lib.trimPrefix l sBytes = rRest l := by
  unfold Lib.trimPrefix rRest rUnit
  rfl

theorem xcut_le (l : List UInt8) (c : UInt8) : (Lib.cut l [c]).1.length ≤ l.length ∧ (Lib.cut l [c]).2.1.length ≤ l.length := by
  unfold Lib.cut
  split
  · simp; omega
  · simp

theorem rRest_le (l : List UInt8) : (rRest l).length ≤ l.length := by
  unfold rRest; split <;> simp

set_option maxHeartbeats 2000000 in
set_option maxRecDepth 100000 in
theorem range_any (s : ByteArray) (w : World) (hg : G5 w) (hs : s.size ≤ 4000000000) :
    Calls Tryd.prog 17 #[.string s] w fun e w' => e = .returned (.tuple #[.int .i64 (rFrom s.data.toList), .int .i64 (rTo s.data.toList), .bool (rOk s.data.toList)]) ∧ Below w.heap.size w w' := by
  obtain ⟨U, hU⟩ : ∃ x, x = rUnit s.data.toList := ⟨_, rfl⟩
  obtain ⟨R, hR⟩ : ∃ x : ByteArray, x = ⟨(rRest s.data.toList).toArray⟩ := ⟨_, rfl⟩
  have hRl : R.data.toList = rRest s.data.toList := by rw [hR]
  have hRs : R.size ≤ 4000000000 := by have := rRest_le s.data.toList; rw [hR, xsize]; simp at this; omega
  have HCP : Hid (∀ w : World, Calls Tryd.prog 49 #[.string s, .string ⟨#[98, 121, 116, 101, 115, 61]⟩] w fun e w' => e = .returned (.tuple #[.string R, .bool U]) ∧ w = w') := fun w => by
    have := Tryd.strings_CutPrefix s ⟨#[98, 121, 116, 101, 115, 61]⟩ w
    rw [show (⟨#[98, 121, 116, 101, 115, 61]⟩ : ByteArray).data.toList = sBytes from rfl, trimP_rest, ← hR, show Lib.hasPrefix s.data.toList sBytes = U from hU.symm] at this
    exact this.mono fun e w' ⟨h, h'⟩ => ⟨h, h'.symm⟩
  obtain ⟨A, hA⟩ : ∃ x : ByteArray, x = ⟨(rL s.data.toList).toArray⟩ := ⟨_, rfl⟩
  obtain ⟨B, hB⟩ : ∃ x : ByteArray, x = ⟨(rR s.data.toList).toArray⟩ := ⟨_, rfl⟩
  obtain ⟨D, hD⟩ : ∃ x, x = (Lib.cut (rRest s.data.toList) [45]).2.2 := ⟨_, rfl⟩
  have HC : Hid (∀ w : World, G5 w → Calls Tryd.prog 50 #[.string R, .string ⟨#[45]⟩] w fun e w' => e = .returned (.tuple #[.string A, .string B, .bool D]) ∧ Below w.heap.size w w') := fun w hg => by
    have := cut5_any R ⟨#[45]⟩ w hg hRs
    rw [show (⟨#[45]⟩ : ByteArray).data.toList = [45] from rfl, hRl, ← hD, show (⟨(Lib.cut (rRest s.data.toList) [45]).1.toArray⟩ : ByteArray) = A from hA.symm, show (⟨(Lib.cut (rRest s.data.toList) [45]).2.1.toArray⟩ : ByteArray) = B from hB.symm] at this
    exact this
  have hcl := xcut_le (rRest s.data.toList) 45
  have hAs : A.size ≤ 4000000000 := by rw [hA, xsize]; have := hcl.1; rw [← hRl] at this; simp at this; unfold rL; rw [← hRl]; omega
  have hBs : B.size ≤ 4000000000 := by rw [hB, xsize]; have := hcl.2; rw [← hRl] at this; simp at this; unfold rR; rw [← hRl]; omega
  obtain ⟨p, hp⟩ : ∃ x, x = bndV (rL s.data.toList) := ⟨_, rfl⟩
  obtain ⟨q, hq⟩ : ∃ x, x = bndV (rR s.data.toList) := ⟨_, rfl⟩
  obtain ⟨po, hpo⟩ : ∃ x, x = bndOk (rL s.data.toList) := ⟨_, rfl⟩
  obtain ⟨qo, hqo⟩ : ∃ x, x = bndOk (rR s.data.toList) := ⟨_, rfl⟩
  have HBA : Hid (∀ w : World, Calls Tryd.prog 51 #[.string A] w fun e w' => e = .returned (.tuple #[.int .i64 p, .bool po]) ∧ w = w') := fun w => by
    have := bound_any A w (by omega)
    rw [show A.data.toList = rL s.data.toList by rw [hA], ← hp, ← hpo] at this
    exact this
  have HBB : Hid (∀ w : World, Calls Tryd.prog 51 #[.string B] w fun e w' => e = .returned (.tuple #[.int .i64 q, .bool qo]) ∧ w = w') := fun w => by
    have := bound_any B w (by omega)
    rw [show B.data.toList = rR s.data.toList by rw [hB], ← hq, ← hqo] at this
    exact this
  have HK := hid (show rOk s.data.toList = (U && D && po && qo && spansI p q) by unfold rOk; rw [hU, hD, hpo, hqo, hp, hq])
  have HF := hid (show rFrom s.data.toList = if rOk s.data.toList then p else 0 by unfold rFrom; rw [hp])
  have HTo := hid (show rTo s.data.toList = if rOk s.data.toList then q else 0 by unfold rTo; rw [hq])
  clear hU hR hRl hA hB hD hcl hp hq hpo hqo
  have HG := hid hg
  clear hg
  go_enter Tryd.func17, Tryd.ntmps17
  go_wp2_with fail
  refine (HCP.out _).mono ?_
  rintro e w0 ⟨rfl, rfl⟩
  go_wp2_with fail
  refine (HC.out _ HG.out).mono ?_
  rintro e w1 ⟨rfl, hb1⟩
  go_wp2_with fail
  refine (HBA.out _).mono ?_
  rintro e w2 ⟨rfl, rfl⟩
  go_wp2_with fail
  refine (HBB.out _).mono ?_
  rintro e w2 ⟨rfl, rfl⟩
  have bad : rOk s.data.toList = false → rFrom s.data.toList = 0 ∧ rTo s.data.toList = 0 := fun h => by
    rw [HF.out, HTo.out, h]; exact ⟨rfl, rfl⟩
  have HBad := hid bad
  clear bad
  cases U with
  | false =>
    have h : Hid (rOk s.data.toList = false) := by rw [HK.out]; rfl
    go_wp2
    go_ret3
    exact ⟨ret_iib (HBad.out h.out).1.symm (HBad.out h.out).2.symm h.out.symm, hb1⟩
  | true =>
    cases D with
    | false =>
      have h : Hid (rOk s.data.toList = false) := by rw [HK.out]; rfl
      go_wp2
      go_ret3
      exact ⟨ret_iib (HBad.out h.out).1.symm (HBad.out h.out).2.symm h.out.symm, hb1⟩
    | true =>
      cases po with
      | false =>
        have h : Hid (rOk s.data.toList = false) := by rw [HK.out]; rfl
        go_wp2
        go_ret3
        exact ⟨ret_iib (HBad.out h.out).1.symm (HBad.out h.out).2.symm h.out.symm, hb1⟩
      | true =>
        cases qo with
        | false =>
          have h : Hid (rOk s.data.toList = false) := by rw [HK.out]; rfl
          go_wp2
          go_ret3
          exact ⟨ret_iib (HBad.out h.out).1.symm (HBad.out h.out).2.symm h.out.symm, hb1⟩
        | true =>
          obtain ⟨sp, hsp⟩ : ∃ x, x = spansI p q := ⟨_, rfl⟩
          have HS : Hid (∀ w : World, Calls Tryd.prog 52 #[.int .i64 p, .int .i64 q] w fun e w' => e = .returned (.bool sp) ∧ w = w') := fun w => by
            have := spans_any p q w
            rw [← hsp] at this
            exact this
          have HK2 := hid (show rOk s.data.toList = sp by rw [HK.out, hsp]; rfl)
          clear hsp
          cases sp with
          | false =>
            go_wp2_with (go_at_call 52; refine (HS.out _).mono ?_; rintro e w' ⟨rfl, rfl⟩)
            go_ret3
            exact ⟨ret_iib (HBad.out HK2.out).1.symm (HBad.out HK2.out).2.symm HK2.out.symm, hb1⟩
          | true =>
            go_wp2_with (go_at_call 52; refine (HS.out _).mono ?_; rintro e w' ⟨rfl, rfl⟩)
            go_ret3
            refine ⟨ret_iib ?_ ?_ HK2.out.symm, hb1⟩
            · rw [HF.out, HK2.out]; rfl
            · rw [HTo.out, HK2.out]; rfl

def sForm : List UInt8 := [97, 112, 112, 108, 105, 99, 97, 116, 105, 111, 110, 47, 120, 45, 119, 119, 119, 45, 102, 111, 114, 109, 45, 117, 114, 108, 101, 110, 99, 111, 100, 101, 100]
def sMulti : List UInt8 := [109, 117, 108, 116, 105, 112, 97, 114, 116, 47, 102, 111, 114, 109, 45, 100, 97, 116, 97]
def sPlain : List UInt8 := [116, 101, 120, 116, 47, 112, 108, 97, 105, 110]
def essV (l : List UInt8) : List UInt8 := low (strip (Lib.cut l [59]).1)
def kindV (l : List UInt8) : Bool := essV l == sForm || (essV l == sMulti || essV l == sPlain)

theorem strip_le (l : List UInt8) : (strip l).length ≤ l.length := by
  unfold strip
  have h1 := (List.dropWhile_sublist (l := l) blC).length_le
  have h2 := (List.dropWhile_sublist (l := (l.dropWhile blC).reverse) blC).length_le
  simp at h2 ⊢
  omega

theorem low_len (l : List UInt8) : (low l).length = l.length := by simp [low]

theorem strYes {M N : ByteArray} (h : M = N) : (M.toList == N.toList) = true := by rw [h]; simp

set_option maxHeartbeats 2000000 in
theorem formKind_any (s : ByteArray) (w : World) (hg : G5 w) (hs : s.size ≤ 4000000000) :
    Calls Tryd.prog 55 #[.string s] w fun e w' => e = .returned (.bool (kindV s.data.toList)) ∧ Below w.heap.size w w' := by
  have HG := hid hg
  clear hg
  have hcl := xcut_le s.data.toList 59
  obtain ⟨A, hA⟩ : ∃ x : ByteArray, x = ⟨(Lib.cut s.data.toList [59]).1.toArray⟩ := ⟨_, rfl⟩
  have hAs : A.size ≤ 4000000000 := by rw [hA, xsize]; have := hcl.1; simp at this; omega
  obtain ⟨B, hB⟩ : ∃ x : ByteArray, x = ⟨(strip A.data.toList).toArray⟩ := ⟨_, rfl⟩
  have hBs : B.size ≤ 4000000000 := by rw [hB, xsize]; have := strip_le A.data.toList; simp at this; omega
  obtain ⟨C, hC⟩ : ∃ x : ByteArray, x = ⟨(low B.data.toList).toArray⟩ := ⟨_, rfl⟩
  have HE := hid (show essV s.data.toList = C.data.toList by rw [hC, hB, hA]; rfl)
  have HA := hid hA
  have HB := hid hB
  have HC := hid hC
  clear hA hB hC hcl
  go_enter Tryd.func55, Tryd.ntmps55
  go_wp2_with fail
  refine (cut5_any s ⟨#[59]⟩ _ HG.out hs).mono ?_
  rintro e w1 ⟨rfl, hb1⟩
  rw [show (⟨#[59]⟩ : ByteArray).data.toList = [59] from rfl, ← HA.out]
  go_wp2_with fail
  refine (strip_any A _ (by omega)).mono ?_
  rintro e w2 ⟨rfl, rfl⟩
  rw [← HB.out]
  go_wp2_with fail
  refine (lower_any B _ (by omega)).mono ?_
  rintro e w2 ⟨rfl, hb2⟩
  rw [← HC.out]
  have HB2 := hid (belowT hb1 hb2)
  have hk : ∀ (N : ByteArray), (C.toList == N.toList) = (essV s.data.toList == N.data.toList) := fun N => by rw [HE.out, Lib.toList_data, Lib.toList_data]
  have HK := hid hk
  clear hk
  have hfin : ∀ b : Bool, (C.toList == sForm || (C.toList == sMulti || C.toList == sPlain)) = b → Ending.returned (.bool b) = .returned (.bool (kindV s.data.toList)) := fun b hb => by
    rw [← hb, kindV, HE.out, Lib.toList_data]
  have HFin := hid hfin
  clear hfin HK HE
  go_wp2
  all_goals
    go_ret
    refine ⟨HFin.out _ ?_, HB2.out⟩
    unfold sForm sMulti sPlain
    first | (simp only [*]; rfl) | (simp_all; done)

def sAccept : List UInt8 := [97, 99, 99, 101, 112, 116]
def sALang : List UInt8 := [97, 99, 99, 101, 112, 116, 45, 108, 97, 110, 103, 117, 97, 103, 101]
def sCLang : List UInt8 := [99, 111, 110, 116, 101, 110, 116, 45, 108, 97, 110, 103, 117, 97, 103, 101]
def sCType : List UInt8 := [99, 111, 110, 116, 101, 110, 116, 45, 116, 121, 112, 101]
def sRange : List UInt8 := [114, 97, 110, 103, 101]

/-- What a server may get unasked. -/
def safeV (n v : List UInt8) : Bool :=
  if 128 < v.length then false
  else if low n = sAccept then harmV v
  else if low n = sALang ∨ low n = sCLang then langV v
  else if low n = sCType then harmV v && kindV v
  else if low n = sRange then rOk v && decide (0 ≤ rFrom v)
  else false

theorem lst_ne {M : ByteArray} {l : List UInt8} (h : ¬ M.data.toList = l) : (M.toList == l) = false := by
  rw [Lib.toList_data, beq_eq_false_iff_ne]; exact h
theorem lst_yes {M : ByteArray} {l : List UInt8} (h : M.data.toList = l) : M = ⟨l.toArray⟩ := xext h

set_option maxHeartbeats 2000000 in
set_option maxRecDepth 100000 in
theorem safe_any (n v : ByteArray) (w : World) (hg : G5 w) (hn : n.size ≤ 140737488351232) (hv : v.size ≤ 140737488351232) :
    Calls Tryd.prog 19 #[.string n, .string v] w fun e w' => e = .returned (.bool (safeV n.data.toList v.data.toList)) ∧ Below w.heap.size w w' := by
  have HG := hid hg
  clear hg
  by_cases hlong : 128 < v.size
  · have hlong' : (128 : Int) < (v.size : Int) := by omega
    have HS := hid (show safeV n.data.toList v.data.toList = false by unfold safeV; rw [if_pos (by simpa using hlong)])
    go_enter Tryd.func19, Tryd.ntmps19
    go_wp2
    go_ret
    exact ⟨ret_bool HS.out.symm, Below.refl _ _⟩
  have hlong' : ¬ (128 : Int) < (v.size : Int) := by omega
  obtain ⟨C, hC⟩ : ∃ x : ByteArray, x = ⟨(low n.data.toList).toArray⟩ := ⟨_, rfl⟩
  have hCl : low n.data.toList = C.data.toList := by rw [hC]
  have HC := hid hC
  clear hC
  have hsv : safeV n.data.toList v.data.toList = (if C.data.toList = sAccept then harmV v.data.toList
    else if C.data.toList = sALang ∨ C.data.toList = sCLang then langV v.data.toList
    else if C.data.toList = sCType then harmV v.data.toList && kindV v.data.toList
    else if C.data.toList = sRange then rOk v.data.toList && decide (0 ≤ rFrom v.data.toList)
    else false) := by
    unfold safeV
    rw [if_neg (by simpa using hlong), hCl]
  clear hCl
  by_cases h1 : C.data.toList = sAccept
  · have HS := hid (show safeV n.data.toList v.data.toList = harmV v.data.toList by rw [hsv, if_pos h1])
    have e1 := lst_yes h1
    unfold sAccept at e1
    have HE := hid e1
    clear hsv h1 e1
    go_enter Tryd.func19, Tryd.ntmps19
    go_wp2_with fail
    refine (lower_any n _ hn).mono ?_
    rintro e w1 ⟨rfl, hb1⟩
    rw [← HC.out, HE.out]
    go_wp2_with (go_at_call 53; refine (harmless_any v _ hv).mono ?_; rintro e w' ⟨rfl, rfl⟩)
    go_ret
    exact ⟨ret_bool HS.out.symm, hb1⟩
  rw [if_neg h1] at hsv
  have h1' := lst_ne h1
  by_cases h2 : C.data.toList = sALang
  · have HS := hid (show safeV n.data.toList v.data.toList = langV v.data.toList by rw [hsv, if_pos (.inl h2)])
    have e1 := lst_yes h2
    unfold sALang at e1
    have HE := hid e1
    clear hsv h1 e1 h2 h1'
    go_enter Tryd.func19, Tryd.ntmps19
    go_wp2_with fail
    refine (lower_any n _ hn).mono ?_
    rintro e w1 ⟨rfl, hb1⟩
    rw [← HC.out, HE.out]
    go_wp2_with (go_at_call 54; refine (languages_any v _ hv).mono ?_; rintro e w' ⟨rfl, rfl⟩)
    go_ret
    exact ⟨ret_bool HS.out.symm, hb1⟩
  have h2' := lst_ne h2
  by_cases h3 : C.data.toList = sCLang
  · have HS := hid (show safeV n.data.toList v.data.toList = langV v.data.toList by rw [hsv, if_pos (.inr h3)])
    have e1 := lst_yes h3
    unfold sCLang at e1
    have HE := hid e1
    clear hsv h1 e1 h2 h3 h1' h2'
    go_enter Tryd.func19, Tryd.ntmps19
    go_wp2_with fail
    refine (lower_any n _ hn).mono ?_
    rintro e w1 ⟨rfl, hb1⟩
    rw [← HC.out, HE.out]
    go_wp2_with (go_at_call 54; refine (languages_any v _ hv).mono ?_; rintro e w' ⟨rfl, rfl⟩)
    go_ret
    exact ⟨ret_bool HS.out.symm, hb1⟩
  have h3' := lst_ne h3
  rw [if_neg (by rintro (h | h); exact h2 h; exact h3 h)] at hsv
  by_cases h4 : C.data.toList = sCType
  · rw [if_pos h4] at hsv
    have e1 := lst_yes h4
    unfold sCType at e1
    have HE := hid e1
    clear h1 e1 h2 h3 h4 h1' h2' h3'
    obtain ⟨hm, hhm⟩ : ∃ x, x = harmV v.data.toList := ⟨_, rfl⟩
    have HHm : Hid (∀ w : World, Calls Tryd.prog 53 #[.string v] w fun e w' => e = .returned (.bool hm) ∧ w = w') := fun w => by
      have := harmless_any v w hv
      rw [← hhm] at this
      exact this
    have HS := hid (show safeV n.data.toList v.data.toList = (hm && kindV v.data.toList) by rw [hsv, hhm])
    clear hsv hhm
    cases hm with
    | false =>
      go_enter Tryd.func19, Tryd.ntmps19
      go_wp2_with fail
      refine (lower_any n _ hn).mono ?_
      rintro e w1 ⟨rfl, hb1⟩
      rw [← HC.out, HE.out]
      go_wp2_with (go_at_call 53; refine (HHm.out _).mono ?_; rintro e w' ⟨rfl, rfl⟩)
      go_ret
      exact ⟨ret_bool (by rw [HS.out]; rfl), hb1⟩
    | true =>
      go_enter Tryd.func19, Tryd.ntmps19
      go_wp2_with fail
      refine (lower_any n _ hn).mono ?_
      rintro e w1 ⟨rfl, hb1⟩
      rw [← HC.out, HE.out]
      go_wp2_with (go_at_call 53; refine (HHm.out _).mono ?_; rintro e w' ⟨rfl, rfl⟩)
      refine (formKind_any v _ (HG.out.kept hb1) (by omega)).mono ?_
      rintro e w2 ⟨rfl, hb2⟩
      go_wp2
      go_ret
      exact ⟨ret_bool (by rw [HS.out]; simp), belowT hb1 hb2⟩
  have h4' := lst_ne h4
  rw [if_neg h4] at hsv
  by_cases h5 : C.data.toList = sRange
  · rw [if_pos h5] at hsv
    have e1 := lst_yes h5
    unfold sRange at e1
    have HE := hid e1
    clear h1 e1 h2 h3 h4 h5 h1' h2' h3' h4'
    obtain ⟨ok, hok⟩ : ∃ x, x = rOk v.data.toList := ⟨_, rfl⟩
    obtain ⟨fr, hfr⟩ : ∃ x, x = rFrom v.data.toList := ⟨_, rfl⟩
    have HR : Hid (∀ w : World, G5 w → Calls Tryd.prog 17 #[.string v] w fun e w' => e = .returned (.tuple #[.int .i64 fr, .int .i64 (rTo v.data.toList), .bool ok]) ∧ Below w.heap.size w w') := fun w hg => by
      have := range_any v w hg (by omega)
      rw [← hok, ← hfr] at this
      exact this
    have HS := hid (show safeV n.data.toList v.data.toList = (ok && decide (0 ≤ fr)) by rw [hsv, hok, hfr])
    clear hsv hok hfr
    cases ok with
    | false =>
      go_enter Tryd.func19, Tryd.ntmps19
      go_wp2_with fail
      refine (lower_any n _ hn).mono ?_
      rintro e w1 ⟨rfl, hb1⟩
      rw [← HC.out, HE.out]
      go_wp2_with fail
      refine (HR.out _ (HG.out.kept hb1)).mono ?_
      rintro e w2 ⟨rfl, hb2⟩
      go_wp2
      go_ret
      exact ⟨ret_bool (by rw [HS.out]; simp), belowT hb1 hb2⟩
    | true =>
      go_enter Tryd.func19, Tryd.ntmps19
      go_wp2_with fail
      refine (lower_any n _ hn).mono ?_
      rintro e w1 ⟨rfl, hb1⟩
      rw [← HC.out, HE.out]
      go_wp2_with fail
      refine (HR.out _ (HG.out.kept hb1)).mono ?_
      rintro e w2 ⟨rfl, hb2⟩
      go_wp2
      go_ret
      exact ⟨ret_bool (by rw [HS.out]; simp), belowT hb1 hb2⟩
  have h5' := lst_ne h5
  rw [if_neg h5] at hsv
  unfold sAccept at h1'
  unfold sALang at h2'
  unfold sCLang at h3'
  unfold sCType at h4'
  unfold sRange at h5'
  have HS := hid hsv
  clear h1 h2 h3 h4 h5 hsv
  go_enter Tryd.func19, Tryd.ntmps19
  go_wp2_with fail
  refine (lower_any n _ hn).mono ?_
  rintro e w1 ⟨rfl, hb1⟩
  rw [← HC.out]
  go_wp2
  go_ret
  exact ⟨ret_bool (by rw [HS.out]), hb1⟩

end Go.Proofs.YtknlmifjadolpaaDoor
