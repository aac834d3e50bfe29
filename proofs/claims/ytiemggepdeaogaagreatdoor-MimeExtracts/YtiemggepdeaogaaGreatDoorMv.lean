/-
  The walks of mime's isCode, isScript, writtenIn and Group.
  The walk of mime's Blocked.
-/
import Derived.Test.YtiemggepdeaogaaGreatDoorMp
import Derived.Test.YtiemggepdeaogaaGreatDoorMn
set_option linter.unusedSimpArgs false
set_option linter.unusedVariables false
namespace Go.Proofs.YtiemggepdeaogaaGreatDoor
open Go.RowKit

def isL (l x : List UInt8) : Bool := l == x
def icV (a : List UInt8) : Bool := isL a [97, 112, 112, 108, 105, 99, 97, 116, 105, 111, 110] || isL a [116, 101, 120, 116]
def isScrV (a m : List UInt8) : Bool :=
  if isL m [106, 97, 118, 97, 115, 99, 114, 105, 112, 116] || (isL m [101, 99, 109, 97, 115, 99, 114, 105, 112, 116] || (isL m [120, 45, 106, 97, 118, 97, 115, 99, 114, 105, 112, 116] || isL m [120, 45, 101, 99, 109, 97, 115, 99, 114, 105, 112, 116])) then icV a
  else isL m [106, 115, 99, 114, 105, 112, 116] && isL a [116, 101, 120, 116]
def wrInV (a m f : List UInt8) : Bool := (isL m f && icV a) || Lib.hasSuffix m (43 :: f)
def grpV (a m : List UInt8) : Int :=
  if isScrV a m then 1 else if wrInV a m [106, 115, 111, 110] then 2 else if wrInV a m [120, 109, 108] then 3
  else if isL a [105, 109, 97, 103, 101] then 4 else if isL a [116, 101, 120, 116] && isL m [99, 115, 115] then 5
  else if isL a [97, 117, 100, 105, 111] || isL a [118, 105, 100, 101, 111] then 6 else 0

theorem isL_to (a : ByteArray) (x : List UInt8) : (a.toList == x) = isL a.data.toList x := by rw [Lib.toList_data]; rfl

set_option maxHeartbeats 1000000 in
set_option maxRecDepth 100000 in
theorem isCode_any (a m : ByteArray) (x : Option Addr) (n c : Nat) (w : World) :
    Calls Tryz.prog 70 #[.agg #[.string a, .string m, .slice x n c]] w fun e w' => e = .returned (.bool (icV a.data.toList)) ∧ Below w.heap.size w w' := by
  have HB := hid (show Below w.heap.size w (w.alloc (.cells #[.string a, .string m, .slice x n c] 26)) from (Below.refl _ w).alloc (Nat.le_refl _) _)
  have h1 := isL_to a [97, 112, 112, 108, 105, 99, 97, 116, 105, 111, 110]
  have h2 := isL_to a [116, 101, 120, 116]
  have HV := hid (show icV a.data.toList = (isL a.data.toList [97, 112, 112, 108, 105, 99, 97, 116, 105, 111, 110] || isL a.data.toList [116, 101, 120, 116]) from rfl)
  generalize isL a.data.toList [97, 112, 112, 108, 105, 99, 97, 116, 105, 111, 110] = q1 at *
  generalize isL a.data.toList [116, 101, 120, 116] = q2 at *
  cases q1
  all_goals
    go_enter Tryz.func70, Tryz.ntmps70
    go_wp2
    go_ret
    rw [HV.out]
    exact ⟨rfl, HB.out⟩

set_option maxHeartbeats 2000000 in
set_option maxRecDepth 100000 in
theorem isScript_any (a m : ByteArray) (x : Option Addr) (n c : Nat) (w : World) :
    Calls Tryz.prog 43 #[.agg #[.string a, .string m, .slice x n c]] w fun e w' => e = .returned (.bool (isScrV a.data.toList m.data.toList)) ∧ Below w.heap.size w w' := by
  have HB := hid (show Below w.heap.size w (w.alloc (.cells #[.string a, .string m, .slice x n c] 26)) from (Below.refl _ w).alloc (Nat.le_refl _) _)
  have h1 := isL_to m [106, 97, 118, 97, 115, 99, 114, 105, 112, 116]
  have h2 := isL_to m [101, 99, 109, 97, 115, 99, 114, 105, 112, 116]
  have h3 := isL_to m [120, 45, 106, 97, 118, 97, 115, 99, 114, 105, 112, 116]
  have h4 := isL_to m [120, 45, 101, 99, 109, 97, 115, 99, 114, 105, 112, 116]
  have h5 := isL_to m [106, 115, 99, 114, 105, 112, 116]
  have h6 := isL_to a [116, 101, 120, 116]
  have HV := hid (show isScrV a.data.toList m.data.toList = if isL m.data.toList [106, 97, 118, 97, 115, 99, 114, 105, 112, 116] || (isL m.data.toList [101, 99, 109, 97, 115, 99, 114, 105, 112, 116] || (isL m.data.toList [120, 45, 106, 97, 118, 97, 115, 99, 114, 105, 112, 116] || isL m.data.toList [120, 45, 101, 99, 109, 97, 115, 99, 114, 105, 112, 116])) then icV a.data.toList else isL m.data.toList [106, 115, 99, 114, 105, 112, 116] && isL a.data.toList [116, 101, 120, 116] from rfl)
  generalize isL m.data.toList [106, 97, 118, 97, 115, 99, 114, 105, 112, 116] = q1 at *
  generalize isL m.data.toList [101, 99, 109, 97, 115, 99, 114, 105, 112, 116] = q2 at *
  generalize isL m.data.toList [120, 45, 106, 97, 118, 97, 115, 99, 114, 105, 112, 116] = q3 at *
  generalize isL m.data.toList [120, 45, 101, 99, 109, 97, 115, 99, 114, 105, 112, 116] = q4 at *
  generalize isL m.data.toList [106, 115, 99, 114, 105, 112, 116] = q5 at *
  generalize isL a.data.toList [116, 101, 120, 116] = q6 at *
  have hcs : (q1 || (q2 || (q3 || q4))) = true ∨ (q1 = false ∧ q2 = false ∧ q3 = false ∧ q4 = false) := by cases q1 <;> cases q2 <;> cases q3 <;> cases q4 <;> simp
  rcases hcs with hc | ⟨rfl, rfl, rfl, rfl⟩
  · have HV2 := hid (show isScrV a.data.toList m.data.toList = icV a.data.toList by rw [HV.out, hc]; rfl)
    have HI := hid (isCode_any a m x n c (w.alloc (.cells #[.string a, .string m, .slice x n c] 26)))
    have hw : q1 = true ∨ (q1 = false ∧ q2 = true) ∨ (q1 = false ∧ q2 = false ∧ q3 = true) ∨ (q1 = false ∧ q2 = false ∧ q3 = false ∧ q4 = true) := by revert hc; cases q1 <;> cases q2 <;> cases q3 <;> cases q4 <;> simp
    clear hc HV
    rcases hw with rfl | ⟨rfl, rfl⟩ | ⟨rfl, rfl, rfl⟩ | ⟨rfl, rfl, rfl, rfl⟩
    all_goals
      go_enter Tryz.func43, Tryz.ntmps43
      go_wp2_with fail
      refine HI.out.mono ?_
      rintro e w1 ⟨rfl, hb1⟩
      go_wp2
      go_ret
      rw [HV2.out]
      exact ⟨rfl, belowT HB.out hb1⟩
  · cases q5
    all_goals
      go_enter Tryz.func43, Tryz.ntmps43
      go_wp2
      go_ret
      rw [HV.out]
      exact ⟨rfl, HB.out⟩

theorem hasSuf_any (s p : ByteArray) (w : World) (hs : s.size ≤ 9223372036854775807) : Calls Tryz.prog 71 #[.string s, .string p] w fun e w' => e = .returned (.bool (Lib.hasSuffix s.data.toList p.data.toList)) ∧ Below w.heap.size w w' := by
  refine (Tryz.strings_HasSuffix s p w hs).mono ?_
  rintro e w' ⟨rfl, hw⟩
  exact ⟨rfl, by rw [hw]; exact Below.refl _ _⟩

set_option maxHeartbeats 2000000 in
set_option maxRecDepth 100000 in
theorem writtenIn_any (a m f : ByteArray) (x : Option Addr) (n c : Nat) (w : World) (hf : f.size ≤ 100) (hm : m.size ≤ 9223372036854775807) :
    Calls Tryz.prog 44 #[.agg #[.string a, .string m, .slice x n c], .string f] w fun e w' => e = .returned (.bool (wrInV a.data.toList m.data.toList f.data.toList)) ∧ Below w.heap.size w w' := by
  have HB := hid (show Below w.heap.size w (w.alloc (.cells #[.string a, .string m, .slice x n c] 26)) from (Below.refl _ w).alloc (Nat.le_refl _) _)
  have HT := hid (show Tri (w.alloc (.cells #[.string a, .string m, .slice x n c] 26)) w.heap.size a m (.slice x n c) from heap_alloc_new _ _)
  obtain ⟨q, hq⟩ : ∃ q, (m.toList == f.toList) = q := ⟨_, rfl⟩
  obtain ⟨u, hu⟩ : ∃ u, icV a.data.toList = u := ⟨_, rfl⟩
  obtain ⟨sf, hsf⟩ : ∃ b, Lib.hasSuffix m.data.toList (43 :: f.data.toList) = b := ⟨_, rfl⟩
  have HV := hid (show wrInV a.data.toList m.data.toList f.data.toList = ((q && u) || sf) by unfold wrInV; rw [hu, hsf, ← hq, Lib.toList_data, Lib.toList_data]; rfl)
  have HI : Hid (∀ w, Calls Tryz.prog 70 #[.agg #[.string a, .string m, .slice x n c]] w fun e w' => e = .returned (.bool u) ∧ Below w.heap.size w w') := fun w => by
    rw [← hu]; exact isCode_any a m x n c w
  have hcat : ((⟨#[43]⟩ : ByteArray) ++ f).data.toList = 43 :: f.data.toList := by simp
  have HS : Hid (∀ w, Calls Tryz.prog 71 #[.string m, .string ((⟨#[43]⟩ : ByteArray) ++ f)] w fun e w' => e = .returned (.bool sf) ∧ Below w.heap.size w w') := fun w => by
    have := hasSuf_any m ((⟨#[43]⟩ : ByteArray) ++ f) w hm
    rw [hcat, hsf] at this
    exact this
  clear hu hsf hcat
  cases q with
  | false =>
    go_enter Tryz.func44, Tryz.ntmps44
    go_wp2_with fail
    refine (HS.out _).mono ?_
    rintro e w1 ⟨rfl, hb1⟩
    go_wp2
    go_ret
    rw [HV.out]
    exact ⟨rfl, belowT HB.out hb1⟩
  | true =>
    go_enter Tryz.func44, Tryz.ntmps44
    go_wp2_with fail
    refine (HI.out _).mono ?_
    rintro e w1 ⟨rfl, hb1⟩
    obtain ⟨y0, y1, y2⟩ := (HT.out.kept hb1).cells
    cases u with
    | true =>
      go_wp2
      go_ret
      rw [HV.out]
      exact ⟨rfl, belowT HB.out hb1⟩
    | false =>
      go_wp2_with fail
      refine (HS.out _).mono ?_
      rintro e w2 ⟨rfl, hb2⟩
      go_wp2
      go_ret
      rw [HV.out]
      exact ⟨rfl, belowT (belowT HB.out hb1) hb2⟩

set_option maxHeartbeats 4000000 in
set_option maxRecDepth 100000 in
theorem group_any (a m : ByteArray) (x : Option Addr) (n c : Nat) (w : World) (hm : m.size ≤ 9223372036854775807) :
    Calls Tryz.prog 21 #[.agg #[.string a, .string m, .slice x n c]] w fun e w' => e = .returned (.int .i64 (grpV a.data.toList m.data.toList)) ∧ Below w.heap.size w w' := by
  have HB := hid (show Below w.heap.size w (w.alloc (.cells #[.string a, .string m, .slice x n c] 26)) from (Below.refl _ w).alloc (Nat.le_refl _) _)
  have HT := hid (show Tri (w.alloc (.cells #[.string a, .string m, .slice x n c] 26)) w.heap.size a m (.slice x n c) from heap_alloc_new _ _)
  obtain ⟨g1, hg1⟩ : ∃ b, isScrV a.data.toList m.data.toList = b := ⟨_, rfl⟩
  obtain ⟨g2, hg2⟩ : ∃ b, wrInV a.data.toList m.data.toList [106, 115, 111, 110] = b := ⟨_, rfl⟩
  obtain ⟨g3, hg3⟩ : ∃ b, wrInV a.data.toList m.data.toList [120, 109, 108] = b := ⟨_, rfl⟩
  have h4 := isL_to a [105, 109, 97, 103, 101]
  have h5 := isL_to a [116, 101, 120, 116]
  have h6 := isL_to m [99, 115, 115]
  have h7 := isL_to a [97, 117, 100, 105, 111]
  have h8 := isL_to a [118, 105, 100, 101, 111]
  have HV := hid (show grpV a.data.toList m.data.toList = if g1 then 1 else if g2 then 2 else if g3 then 3 else if isL a.data.toList [105, 109, 97, 103, 101] then 4 else if isL a.data.toList [116, 101, 120, 116] && isL m.data.toList [99, 115, 115] then 5 else if isL a.data.toList [97, 117, 100, 105, 111] || isL a.data.toList [118, 105, 100, 101, 111] then 6 else 0 by unfold grpV; rw [hg1, hg2, hg3])
  have H1 : Hid (∀ w, Calls Tryz.prog 43 #[.agg #[.string a, .string m, .slice x n c]] w fun e w' => e = .returned (.bool g1) ∧ Below w.heap.size w w') := fun w => by
    rw [← hg1]; exact isScript_any a m x n c w
  have H2 : Hid (∀ w, Calls Tryz.prog 44 #[.agg #[.string a, .string m, .slice x n c], .string ⟨#[106, 115, 111, 110]⟩] w fun e w' => e = .returned (.bool g2) ∧ Below w.heap.size w w') := fun w => by
    rw [← hg2]; exact writtenIn_any a m ⟨#[106, 115, 111, 110]⟩ x n c w (by decide) hm
  have H3 : Hid (∀ w, Calls Tryz.prog 44 #[.agg #[.string a, .string m, .slice x n c], .string ⟨#[120, 109, 108]⟩] w fun e w' => e = .returned (.bool g3) ∧ Below w.heap.size w w') := fun w => by
    rw [← hg3]; exact writtenIn_any a m ⟨#[120, 109, 108]⟩ x n c w (by decide) hm
  generalize isL a.data.toList [105, 109, 97, 103, 101] = q4 at *
  generalize isL a.data.toList [116, 101, 120, 116] = q5 at *
  generalize isL m.data.toList [99, 115, 115] = q6 at *
  generalize isL a.data.toList [97, 117, 100, 105, 111] = q7 at *
  generalize isL a.data.toList [118, 105, 100, 101, 111] = q8 at *
  clear hg1 hg2 hg3
  go_enter Tryz.func21, Tryz.ntmps21
  go_wp2_with fail
  refine (H1.out _).mono ?_
  rintro e w1 ⟨rfl, hb1⟩
  have HB1 := hid (belowT HB.out hb1)
  have HT1 := hid (HT.out.kept hb1)
  obtain ⟨y0, y1, y2⟩ := HT1.out.cells
  clear hb1
  cases g1 with
  | true =>
    go_wp2
    go_ret
    rw [HV.out]
    exact ⟨rfl, HB1.out⟩
  | false =>
    go_wp2_with fail
    refine (H2.out _).mono ?_
    rintro e w2 ⟨rfl, hb2⟩
    have HB2 := hid (belowT HB1.out hb2)
    have HT2 := hid (HT1.out.kept hb2)
    clear y0 y1 y2
    obtain ⟨y0, y1, y2⟩ := HT2.out.cells
    clear hb2
    cases g2 with
    | true =>
      go_wp2
      go_ret
      rw [HV.out]
      exact ⟨rfl, HB2.out⟩
    | false =>
      go_wp2_with fail
      refine (H3.out _).mono ?_
      rintro e w3 ⟨rfl, hb3⟩
      have HB3 := hid (belowT HB2.out hb3)
      have HT3 := hid (HT2.out.kept hb3)
      clear y0 y1 y2
      obtain ⟨y0, y1, y2⟩ := HT3.out.cells
      clear hb3
      cases g3 with
      | true =>
        go_wp2
        go_ret
        rw [HV.out]
        exact ⟨rfl, HB3.out⟩
      | false =>
        have hw : q4 = true ∨ (q4 = false ∧ q5 = true ∧ q6 = true) ∨ (q4 = false ∧ q5 = true ∧ q6 = false ∧ q7 = true) ∨ (q4 = false ∧ q5 = true ∧ q6 = false ∧ q7 = false ∧ q8 = true) ∨ (q4 = false ∧ q5 = true ∧ q6 = false ∧ q7 = false ∧ q8 = false) ∨ (q4 = false ∧ q5 = false ∧ q7 = true) ∨ (q4 = false ∧ q5 = false ∧ q7 = false ∧ q8 = true) ∨ (q4 = false ∧ q5 = false ∧ q7 = false ∧ q8 = false) := by
          cases q4 <;> cases q5 <;> cases q6 <;> cases q7 <;> cases q8 <;> simp
        rcases hw with rfl | ⟨rfl, rfl, rfl⟩ | ⟨rfl, rfl, rfl, rfl⟩ | ⟨rfl, rfl, rfl, rfl, rfl⟩ | ⟨rfl, rfl, rfl, rfl, rfl⟩ | ⟨rfl, rfl, rfl⟩ | ⟨rfl, rfl, rfl, rfl⟩ | ⟨rfl, rfl, rfl, rfl⟩
        all_goals
          go_wp2
          go_ret
          rw [HV.out]
          exact ⟨rfl, HB3.out⟩

end Go.Proofs.YtiemggepdeaogaaGreatDoor

namespace Go.Proofs.YtiemggepdeaogaaGreatDoor
open Go.RowKit

def xcoL : List UInt8 := [120, 45, 99, 111, 110, 116, 101, 110, 116, 45, 116, 121, 112, 101, 45, 111, 112, 116, 105, 111, 110, 115]
def nsL : List UInt8 := [110, 111, 115, 110, 105, 102, 102]
/-- Does nobody guess? -/
def noGuess (L : List Hd) : Bool := getB L xcoL && isL (low ((splitV L xcoL).headD [])) nsL
def exKn (L : List Hd) : Kn × Bool := extV (pcsV L [99, 111, 110, 116, 101, 110, 116, 45, 116, 121, 112, 101])
def blkV (L : List Hd) (d : Int) : Bool := noGuess L && (if d = 2 then grpV (exKn L).1.major (exKn L).1.minor != 1 else if d = 3 then grpV (exKn L).1.major (exKn L).1.minor != 5 else false)

theorem pcs_ne (l : List UInt8) : pcs l ≠ [] := by
  rw [pcs_cut]; split <;> simp

theorem ret_tf6 {a b : Bool} (h : a = b) : Ending.returned (.bool a) = .returned (.bool b) := by rw [h]

set_option maxHeartbeats 4000000 in
set_option maxRecDepth 100000 in
theorem blocked_any (v : Value) (L : List Hd) (d : Int) (w : World) (hG : G5 w) (h : HdAt w v L) (hz : Szd 140737488351232 L) (hl : L.length ≤ 1000000) (hb : bulkV L ≤ 100000000) :
    Calls Tryz.prog 8 #[v, .int .i64 d] w fun e w' => e = .returned (.bool (blkV L d)) ∧ Below w.heap.size w w' := by
  have HG := hid hG
  clear hG
  have HSm := hid (extK_small (pcsV L [99, 111, 110, 116, 101, 110, 116, 45, 116, 121, 112, 101]) (fun p hp => Nat.le_trans (pcsV_le L _ p hp) hb) _ (Nat.le_refl _))
  rw [extK_all] at HSm
  have HEx := hid (fun (X : World) (hX : Below w.heap.size w X) => extract_any v L X (HG.out.kept hX) (h.kept hX) hz hl hb)
  obtain ⟨i1, n1, c1, rfl⟩ : ∃ a n c, v = .slice a n c := by obtain ⟨a, c, e, _⟩ := h; exact ⟨a, _, c, e⟩
  cases hg : getB L xcoL with
  | false =>
    have HS := hid (split_none _ L ⟨#[120, 45, 99, 111, 110, 116, 101, 110, 116, 45, 116, 121, 112, 101, 45, 111, 112, 116, 105, 111, 110, 115]⟩ w h (by decide) hz hl (by omega) hg)
    have HV := hid (show blkV L d = false by unfold blkV noGuess; rw [hg]; rfl)
    clear h hz hb HEx hg
    go_enter Tryz.func8, Tryz.ntmps8
    go_wp2_with fail
    refine HS.out.mono ?_
    rintro e w1 ⟨rfl, hb1⟩
    go_wp2
    go_ret
    rw [HV.out]
    exact ⟨rfl, hb1⟩
  | true =>
    have HS := hid (split_any _ L ⟨#[120, 45, 99, 111, 110, 116, 101, 110, 116, 45, 116, 121, 112, 101, 45, 111, 112, 116, 105, 111, 110, 115]⟩ w h (by decide) hz hl (by omega) hg)
    rw [show (⟨#[120, 45, 99, 111, 110, 116, 101, 110, 116, 45, 116, 121, 112, 101, 45, 111, 112, 116, 105, 111, 110, 115]⟩ : ByteArray).data.toList = xcoL from rfl] at HS
    have hle := pcsV_le L xcoL
    have hpe : pcsV L xcoL = splitV L xcoL := by unfold pcsV; rw [hg]; rfl
    rw [hpe] at hle
    have hne : splitV L xcoL ≠ [] := by unfold splitV; intro e; exact pcs_ne _ (List.map_eq_nil_iff.1 e)
    have HV := hid (show blkV L d = (isL (low ((splitV L xcoL).headD [])) nsL && (if d = 2 then grpV (exKn L).1.major (exKn L).1.minor != 1 else if d = 3 then grpV (exKn L).1.major (exKn L).1.minor != 5 else false)) by unfold blkV noGuess; rw [hg, Bool.true_and])
    clear hpe hg h hz
    obtain ⟨p, P, hP⟩ : ∃ p P, splitV L xcoL = p :: P := by
      cases hs : splitV L xcoL with
      | nil => exact absurd hs hne
      | cons p P => exact ⟨p, P, rfl⟩
    rw [hP] at HS HV hle
    have hpl : p.length ≤ 100000000 := Nat.le_trans (hle p (by simp)) hb
    obtain ⟨A, hA⟩ : ∃ A : ByteArray, A = ⟨p.toArray⟩ := ⟨_, rfl⟩
    have hAs : A.size ≤ 100000000 := by rw [hA, xsize]; exact hpl
    obtain ⟨B, hB⟩ : ∃ B : ByteArray, B = ⟨(low A.data.toList).toArray⟩ := ⟨_, rfl⟩
    obtain ⟨q, hq⟩ : ∃ q, (B.toList == [110, 111, 115, 110, 105, 102, 102]) = q := ⟨_, rfl⟩
    have HQ := hid (show isL (low ((p :: P).headD [])) nsL = q by rw [← hq, isL_to, hB, hA]; rfl)
    rw [HQ.out] at HV
    have HLw : Hid (∀ w : World, Calls Tryz.prog 20 #[.string A] w fun e w' => e = .returned (.string B) ∧ Below w.heap.size w w') := fun w => by
      rw [hB]; exact lower_any A w (by omega)
    have HA := hid hA
    clear hne hP hle hpl hb hA hB HQ
    go_enter Tryz.func8, Tryz.ntmps8
    go_wp2_with fail
    refine HS.out.mono ?_
    rintro e w1 ⟨pv, rfl, ho1, hb1⟩
    obtain ⟨x1, c2, rfl, hc2, hm2, htx⟩ := (own_txt' ho1).view
    obtain ⟨b1, o1, rfl, f1⟩ := htx 0 (by simp)
    rw [show (⟨(p :: P)[0].toArray⟩ : ByteArray) = A from HA.out.symm, Nat.add_zero] at f1
    have hln : (0 : Int) < ((p :: P).length : Int) := by simp
    have HB1 := hid hb1
    clear htx ho1 hb1
    go_wp2_with fail
    refine (HLw.out _).mono ?_
    rintro e w2 ⟨rfl, hb2⟩
    have HB2 := hid (belowT HB1.out hb2)
    clear hb2 f1
    cases q with
    | false =>
      have HV2 := hid (show blkV L d = false by rw [HV.out]; rfl)
      go_wp2
      go_ret
      rw [HV2.out]
      exact ⟨rfl, HB2.out⟩
    | true =>
      have HV2 := hid (show blkV L d = (if d = 2 then grpV (exKn L).1.major (exKn L).1.minor != 1 else if d = 3 then grpV (exKn L).1.major (exKn L).1.minor != 5 else false) by rw [HV.out, Bool.true_and])
      have HSk := hid (show SmallK (exKn L).1 from HSm.out)
      have HEy : Hid (∀ X, Below w.heap.size w X → Calls Tryz.prog 5 #[.slice i1 n1 c1] X (ExPost (exKn L) X)) := HEx.out
      clear HEx HSm HV
      generalize exKn L = st at *
      obtain ⟨⟨mj, mn, lps⟩, fd⟩ := st
      obtain ⟨k1, k2, k3⟩ := HSk.out
      simp only at k1 k2 k3
      have hms : (ba mn).size ≤ 9223372036854775807 := by rw [ba_size]; omega
      obtain ⟨g, hg⟩ : ∃ g, grpV mj mn = g := ⟨_, rfl⟩
      have HV3 := hid (show blkV L d = (if d = 2 then g != 1 else if d = 3 then g != 5 else false) by rw [HV2.out]; show (if d = 2 then grpV mj mn != 1 else _) = _; rw [hg])
      have HGr : Hid (∀ X x n c, Calls Tryz.prog 21 #[.agg #[.string (ba mj), .string (ba mn), .slice x n c]] X fun e w' => e = .returned (.int .i64 g) ∧ Below X.heap.size X w') := fun X x n c => by
        rw [← hg]; exact group_any (ba mj) (ba mn) x n c X hms
      clear k1 k2 k3 HV2 HSk hg hms
      go_wp2_with fail
      refine (HEy.out _ HB2.out).mono ?_
      rintro e w3 ⟨kv, rfl, ho3, hb3⟩
      obtain ⟨q1, q2, q3, rfl⟩ := own_slice ho3
      have HB3 := hid (belowT HB2.out hb3)
      have HB4 := hid (HB3.out.alloc HB3.out.size (.cells #[.string (ba mj), .string (ba mn), .slice q1 q2 q3] 26))
      have hT := show Tri (w3.alloc (.cells #[.string (ba mj), .string (ba mn), .slice q1 q2 q3] 26)) w3.heap.size (ba mj) (ba mn) (.slice q1 q2 q3) from heap_alloc_new _ _
      obtain ⟨y0, y1, y2⟩ := hT.cells
      clear ho3 hb3 hT
      unfold knVal
      by_cases h2 : d = 2
      · subst h2
        go_wp2_with fail
        refine (HGr.out _ _ _ _).mono ?_
        rintro e w5 ⟨rfl, hb5⟩
        go_wp2
        go_ret
        refine ⟨ret_tf6 ?_, belowT HB4.out hb5⟩
        rw [HV3.out]; rfl
      · by_cases h3 : d = 3
        · subst h3
          clear h2
          go_wp2_with fail
          refine (HGr.out _ _ _ _).mono ?_
          rintro e w5 ⟨rfl, hb5⟩
          go_wp2
          go_ret
          refine ⟨ret_tf6 ?_, belowT HB4.out hb5⟩
          rw [HV3.out]; rfl
        · have HN := hid (show blkV L d = false by rw [HV3.out, if_neg h2, if_neg h3])
          have h2' : (d == 2) = false := by rw [beq_eq_false_iff_ne]; exact h2
          have h3' : (d == 3) = false := by rw [beq_eq_false_iff_ne]; exact h3
          clear h2 h3
          go_wp2
          go_ret
          rw [HN.out]
          exact ⟨rfl, HB4.out⟩

end Go.Proofs.YtiemggepdeaogaaGreatDoor
