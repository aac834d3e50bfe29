/-
  The walk of mime's Blocked.
-/
import Derived.Test.YtiemggepdeaogaaDoorMu
import Derived.Test.YtiemggepdeaogaaDoorMn
set_option linter.unusedSimpArgs false
set_option linter.unusedVariables false
namespace Go.Proofs.YtiemggepdeaogaaDoor
open Go.RowKit

def xcoL : List UInt8 := [120, 45, 99, 111, 110, 116, 101, 110, 116, 45, 116, 121, 112, 101, 45, 111, 112, 116, 105, 111, 110, 115]
def nsL : List UInt8 := [110, 111, 115, 110, 105, 102, 102]
/-- Does nobody guess? -/
def noGuess (L : List Hd) : Bool := getB L xcoL && isL (low ((splitV L xcoL).headD [])) nsL
def exKn (L : List Hd) : Kn × Bool := extV (pcsV L [99, 111, 110, 116, 101, 110, 116, 45, 116, 121, 112, 101])
def blkV (L : List Hd) (d : Int) : Bool := noGuess L && (if d = 2 then grpV (exKn L).1.major (exKn L).1.minor != 1 else if d = 3 then grpV (exKn L).1.major (exKn L).1.minor != 5 else false)

theorem pcs_ne (l : List UInt8) : pcs l ≠ [] := by
  rw [pcs_cut]; split <;> simp

theorem ret_tf6 {a b : Bool} (h : a = b) : Ending.returned (.bool a) = .returned (.bool b) := by rw [h]

set_option maxHeartbeats 4000000 in
set_option maxRecDepth 100000 in
theorem blocked_any (v : Value) (L : List Hd) (d : Int) (w : World) (hG : G5 w) (h : HdAt w v L) (hz : Szd 140737488351232 L) (hl : L.length ≤ 1000000) (hb : bulkV L ≤ 100000000) :
    Calls Tryd.prog 13 #[v, .int .i64 d] w fun e w' => e = .returned (.bool (blkV L d)) ∧ Below w.heap.size w w' := by
  have HG := hid hG
  clear hG
  have HSm := hid (extK_small (pcsV L [99, 111, 110, 116, 101, 110, 116, 45, 116, 121, 112, 101]) (fun p hp => Nat.le_trans (pcsV_le L _ p hp) hb) _ (Nat.le_refl _))
  rw [extK_all] at HSm
  have HEx := hid (fun (X : World) (hX : Below w.heap.size w X) => extract_any v L X (HG.out.kept hX) (h.kept hX) hz hl hb)
  obtain ⟨i1, n1, c1, rfl⟩ : ∃ a n c, v = .slice a n c := by obtain ⟨a, c, e, _⟩ := h; exact ⟨a, _, c, e⟩
  cases hg : getB L xcoL with
  | false =>
    have HS := hid (split_none _ L ⟨#[120, 45, 99, 111, 110, 116, 101, 110, 116, 45, 116, 121, 112, 101, 45, 111, 112, 116, 105, 111, 110, 115]⟩ w h (by decide) hz hl (by omega) hg)
    have HV := hid (show blkV L d = false by unfold blkV noGuess; rw [hg]; rfl)
    clear h hz hb HEx hg
    go_enter Tryd.func13, Tryd.ntmps13
    go_wp2_with fail
    refine HS.out.mono ?_
    rintro e w1 ⟨rfl, hb1⟩
    go_wp2
    go_ret
    rw [HV.out]
    exact ⟨rfl, hb1⟩
  | true =>
    have HS := hid (split_any _ L ⟨#[120, 45, 99, 111, 110, 116, 101, 110, 116, 45, 116, 121, 112, 101, 45, 111, 112, 116, 105, 111, 110, 115]⟩ w h (by decide) hz hl (by omega) hg)
    rw [show (⟨#[120, 45, 99, 111, 110, 116, 101, 110, 116, 45, 116, 121, 112, 101, 45, 111, 112, 116, 105, 111, 110, 115]⟩ : ByteArray).data.toList = xcoL from rfl] at HS
    have hle := pcsV_le L xcoL
    have hpe : pcsV L xcoL = splitV L xcoL := by unfold pcsV; rw [hg]; rfl
    rw [hpe] at hle
    have hne : splitV L xcoL ≠ [] := by unfold splitV; intro e; exact pcs_ne _ (List.map_eq_nil_iff.1 e)
    have HV := hid (show blkV L d = (isL (low ((splitV L xcoL).headD [])) nsL && (if d = 2 then grpV (exKn L).1.major (exKn L).1.minor != 1 else if d = 3 then grpV (exKn L).1.major (exKn L).1.minor != 5 else false)) by unfold blkV noGuess; rw [hg, Bool.true_and])
    clear hpe hg h hz
    obtain ⟨p, P, hP⟩ : ∃ p P, splitV L xcoL = p :: P := by
      cases hs : splitV L xcoL with
      | nil => exact absurd hs hne
      | cons p P => exact ⟨p, P, rfl⟩
    rw [hP] at HS HV hle
    have hpl : p.length ≤ 100000000 := Nat.le_trans (hle p (by simp)) hb
    obtain ⟨A, hA⟩ : ∃ A : ByteArray, A = ⟨p.toArray⟩ := ⟨_, rfl⟩
    have hAs : A.size ≤ 100000000 := by rw [hA, xsize]; exact hpl
    obtain ⟨B, hB⟩ : ∃ B : ByteArray, B = ⟨(low A.data.toList).toArray⟩ := ⟨_, rfl⟩
    obtain ⟨q, hq⟩ : ∃ q, (B.toList == [110, 111, 115, 110, 105, 102, 102]) = q := ⟨_, rfl⟩
    have HQ := hid (show isL (low ((p :: P).headD [])) nsL = q by rw [← hq, isL_to, hB, hA]; rfl)
    rw [HQ.out] at HV
    have HLw : Hid (∀ w : World, Calls Tryd.prog 32 #[.string A] w fun e w' => e = .returned (.string B) ∧ Below w.heap.size w w') := fun w => by
      rw [hB]; exact lower_any A w (by omega)
    have HA := hid hA
    clear hne hP hle hpl hb hA hB HQ
    go_enter Tryd.func13, Tryd.ntmps13
    go_wp2_with fail
    refine HS.out.mono ?_
    rintro e w1 ⟨pv, rfl, ho1, hb1⟩
    obtain ⟨x1, c2, rfl, hc2, hm2, htx⟩ := (own_txt' ho1).view
    obtain ⟨b1, o1, rfl, f1⟩ := htx 0 (by simp)
    rw [show (⟨(p :: P)[0].toArray⟩ : ByteArray) = A from HA.out.symm, Nat.add_zero] at f1
    have hln : (0 : Int) < ((p :: P).length : Int) := by simp
    have HB1 := hid hb1
    clear htx ho1 hb1
    go_wp2_with fail
    refine (HLw.out _).mono ?_
    rintro e w2 ⟨rfl, hb2⟩
    have HB2 := hid (belowT HB1.out hb2)
    clear hb2 f1
    cases q with
    | false =>
      have HV2 := hid (show blkV L d = false by rw [HV.out]; rfl)
      go_wp2
      go_ret
      rw [HV2.out]
      exact ⟨rfl, HB2.out⟩
    | true =>
      have HV2 := hid (show blkV L d = (if d = 2 then grpV (exKn L).1.major (exKn L).1.minor != 1 else if d = 3 then grpV (exKn L).1.major (exKn L).1.minor != 5 else false) by rw [HV.out, Bool.true_and])
      have HSk := hid (show SmallK (exKn L).1 from HSm.out)
      have HEy : Hid (∀ X, Below w.heap.size w X → Calls Tryd.prog 10 #[.slice i1 n1 c1] X (ExPost (exKn L) X)) := HEx.out
      clear HEx HSm HV
      generalize exKn L = st at *
      obtain ⟨⟨mj, mn, lps⟩, fd⟩ := st
      obtain ⟨k1, k2, k3⟩ := HSk.out
      simp only at k1 k2 k3
      have hms : (ba mn).size ≤ 9223372036854775807 := by rw [ba_size]; omega
      obtain ⟨g, hg⟩ : ∃ g, grpV mj mn = g := ⟨_, rfl⟩
      have HV3 := hid (show blkV L d = (if d = 2 then g != 1 else if d = 3 then g != 5 else false) by rw [HV2.out]; show (if d = 2 then grpV mj mn != 1 else _) = _; rw [hg])
      have HGr : Hid (∀ X x n c, Calls Tryd.prog 23 #[.agg #[.string (ba mj), .string (ba mn), .slice x n c]] X fun e w' => e = .returned (.int .i64 g) ∧ Below X.heap.size X w') := fun X x n c => by
        rw [← hg]; exact group_any (ba mj) (ba mn) x n c X hms
      clear k1 k2 k3 HV2 HSk hg hms
      go_wp2_with fail
      refine (HEy.out _ HB2.out).mono ?_
      rintro e w3 ⟨kv, rfl, ho3, hb3⟩
      obtain ⟨q1, q2, q3, rfl⟩ := own_slice ho3
      have HB3 := hid (belowT HB2.out hb3)
      have HB4 := hid (HB3.out.alloc HB3.out.size (.cells #[.string (ba mj), .string (ba mn), .slice q1 q2 q3] 28))
      have hT := show Tri (w3.alloc (.cells #[.string (ba mj), .string (ba mn), .slice q1 q2 q3] 28)) w3.heap.size (ba mj) (ba mn) (.slice q1 q2 q3) from heap_alloc_new _ _
      obtain ⟨y0, y1, y2⟩ := hT.cells
      clear ho3 hb3 hT
      unfold knVal
      by_cases h2 : d = 2
      · subst h2
        go_wp2_with fail
        refine (HGr.out _ _ _ _).mono ?_
        rintro e w5 ⟨rfl, hb5⟩
        go_wp2
        go_ret
        refine ⟨ret_tf6 ?_, belowT HB4.out hb5⟩
        rw [HV3.out]; rfl
      · by_cases h3 : d = 3
        · subst h3
          clear h2
          go_wp2_with fail
          refine (HGr.out _ _ _ _).mono ?_
          rintro e w5 ⟨rfl, hb5⟩
          go_wp2
          go_ret
          refine ⟨ret_tf6 ?_, belowT HB4.out hb5⟩
          rw [HV3.out]; rfl
        · have HN := hid (show blkV L d = false by rw [HV3.out, if_neg h2, if_neg h3])
          have h2' : (d == 2) = false := by rw [beq_eq_false_iff_ne]; exact h2
          have h3' : (d == 3) = false := by rw [beq_eq_false_iff_ne]; exact h3
          clear h2 h3
          go_wp2
          go_ret
          rw [HN.out]
          exact ⟨rfl, HB4.out⟩

end Go.Proofs.YtiemggepdeaogaaDoor
