/-
  The walks of ostiarylaw2's is and known.
-/
import Derived.Test.YtdpihilikhbamaaGreatDoorVn
set_option linter.unusedSimpArgs false
set_option linter.unusedVariables false
namespace Go.Proofs.YtdpihilikhbamaaGreatDoor
open Go.RowKit

theorem beq_data (a b : ByteArray) (h : a.data.toList = b.data.toList) : (a.toList == b.toList) = true := by
  rw [Lib.toList_data, Lib.toList_data, h]; simp

/-- 'is' where the host is parsed to what is wanted. -/
theorem is_some (s want : ByteArray) (special : Bool) (w : World) (hg : Gd w) (hs : s.size ≤ 4000000000) (hw : want.data.toList = [] → special = false) (h : parseV s.data.toList special = some want.data.toList) :
    Calls Tryz.prog 42 #[.string s, .bool special, .string want] w fun e w' => e = .returned (.bool true) ∧ Below w.heap.size w w' := by
  have HG := hid hg
  clear hg
  have e1 := er_some h
  have hx : (⟨((parseV s.data.toList special).getD []).toArray⟩ : ByteArray) = want := by rw [h]; exact Lib.mk_data want
  have HX := hid hx
  have hq := beq_data want want rfl
  clear h hx
  by_cases h0 : want.data.toList = []
  · have he := empty_yes want h0
    have hsp := hw h0
    subst hsp
    clear hw h0
    go_enter Tryz.func42, Tryz.ntmps42
    go_wp2_with (go_at_call 5; refine (parse_any _ _ _ HG.out hs).mono ?_; rintro e w1 ⟨rfl, hb1⟩; rw [HX.out, e1])
    go_ret
    exact ⟨rfl, hb1⟩
  · have he := empty_no want h0
    clear hw h0
    go_enter Tryz.func42, Tryz.ntmps42
    go_wp2_with (go_at_call 5; refine (parse_any _ _ _ HG.out hs).mono ?_; rintro e w1 ⟨rfl, hb1⟩; rw [HX.out, e1])
    go_ret
    exact ⟨rfl, hb1⟩

/-- 'is' where the host is refused. -/
theorem is_none (s : ByteArray) (w : World) (hg : Gd w) (hs : s.size ≤ 4000000000) (h : parseV s.data.toList true = none) :
    Calls Tryz.prog 42 #[.string s, .bool true, .string ⟨#[]⟩] w fun e w' => e = .returned (.bool true) ∧ Below w.heap.size w w' := by
  have HG := hid hg
  clear hg
  have e1 := er_none h
  have HX := hid (txt_none h).symm
  clear h
  go_enter Tryz.func42, Tryz.ntmps42
  go_wp2_with (go_at_call 5; refine (parse_any _ _ _ HG.out hs).mono ?_; rintro e w1 ⟨rfl, hb1⟩; rw [HX.out, e1])
  go_ret
  exact ⟨rfl, hb1⟩

set_option maxHeartbeats 1000000 in
theorem known_any (w : World) (hg : Gd w) :
    Calls Tryz.prog 14 #[] w fun e w' => e = .returned (.bool true) ∧ Below w.heap.size w w' := by
  have HG := hid hg
  clear hg
  go_enter Tryz.func14, Tryz.ntmps14
  go_wp2_with fail
  refine (is_some _ _ _ _ HG.out (by decide) (by decide) (by decide +kernel)).mono ?_
  rintro e w1 ⟨rfl, hb1⟩
  go_wp2_with fail
  refine (is_some _ _ _ _ (HG.out.kept hb1) (by decide) (by decide) (by decide +kernel)).mono ?_
  rintro e w2 ⟨rfl, hb2⟩
  go_wp2_with fail
  refine (is_none _ _ (HG.out.kept (below2 hb1 hb2)) (by decide) (by decide +kernel)).mono ?_
  rintro e w3 ⟨rfl, hb3⟩
  go_wp2_with fail
  refine (is_some _ _ _ _ (HG.out.kept (below2 (below2 hb1 hb2) hb3)) (by decide) (by decide) (by decide +kernel)).mono ?_
  rintro e w4 ⟨rfl, hb4⟩
  go_wp2
  go_ret
  exact ⟨rfl, below2 (below2 (below2 hb1 hb2) hb3) hb4⟩

end Go.Proofs.YtdpihilikhbamaaGreatDoor
