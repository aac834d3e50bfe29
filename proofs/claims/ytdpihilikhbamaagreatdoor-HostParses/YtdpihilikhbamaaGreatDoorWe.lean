/-
  The walk of infra.inSet.
-/
import Derived.Test.YtdpihilikhbamaaGreatDoorWa
import Derived.Test.YtdpihilikhbamaaGreatDoorSh
import Derived.Test.YtdpihilikhbamaaGreatDoorPd
import Derived.Deep.RegionWith
set_option linter.unusedSimpArgs false
set_option linter.unusedVariables false
namespace Go.Proofs.YtdpihilikhbamaaGreatDoor
open Go.RowKit

theorem indexA (c : Int) (w : World) : Calls Tryz.prog 72 #[.string ⟨#[47, 58, 59, 61, 64, 91, 92, 93, 124]⟩, .int .u8 c] w fun e w' => e = .returned (.int .i64 (idxA c)) ∧ w = w' := by
  refine (Tryz.strings_IndexByte _ _ _).mono ?_
  rintro e w' ⟨rfl, rfl⟩
  exact ⟨rfl, rfl⟩
theorem indexB (c : Int) (w : World) : Calls Tryz.prog 72 #[.string ⟨#[63, 94, 96, 123, 125]⟩, .int .u8 c] w fun e w' => e = .returned (.int .i64 (idxB c)) ∧ w = w' := by
  refine (Tryz.strings_IndexByte _ _ _).mono ?_
  rintro e w' ⟨rfl, rfl⟩
  exact ⟨rfl, rfl⟩
theorem indexC (c : Int) (w : World) : Calls Tryz.prog 72 #[.string ⟨#[32, 34, 60, 62]⟩, .int .u8 c] w fun e w' => e = .returned (.int .i64 (idxC c)) ∧ w = w' := by
  refine (Tryz.strings_IndexByte _ _ _).mono ?_
  rintro e w' ⟨rfl, rfl⟩
  exact ⟨rfl, rfl⟩

set_option maxHeartbeats 1000000 in
theorem inSet_1 (c : Int) (w : World) (h0 : 0 ≤ c) (h1 : c ≤ 255) :
    Calls Tryz.prog 73 #[.int .u8 c, .int .i64 1] w fun e w' => e = .returned (.bool (inSetI c 1)) ∧ w = w' := by
  have HA := hid (idxA_nonneg c h0 h1)
  have HB := hid (idxB_nonneg c h0 h1)
  have HC := hid (idxC_nonneg c h0 h1)
  go_enter Tryz.func73, Tryz.ntmps73
  go_wp2_with (first | (go_at_call_of 72 (Value.string ⟨#[47, 58, 59, 61, 64, 91, 92, 93, 124]⟩); refine (indexA _ _).mono ?_; rintro e w1 ⟨rfl, rfl⟩) | (go_at_call_of 72 (Value.string ⟨#[63, 94, 96, 123, 125]⟩); refine (indexB _ _).mono ?_; rintro e w1 ⟨rfl, rfl⟩) | (go_at_call_of 72 (Value.string ⟨#[32, 34, 60, 62]⟩); refine (indexC _ _).mono ?_; rintro e w1 ⟨rfl, rfl⟩))
  all_goals
    go_ret
    refine ⟨ret_bool ?_, rfl⟩
    have ha := HA.out; have hb := HB.out; have hc := HC.out
    try simp only [Bool.or_eq_true, Bool.and_eq_true, beq_iff_eq, decide_eq_true_eq, Bool.not_eq_true', decide_eq_false_iff_not, Bool.or_eq_false_iff, Bool.and_eq_false_iff, beq_eq_false_iff_ne, ne_eq] at *
    rw [Bool.eq_iff_iff, inSetI_iff]
    simp only [inSetP, Bool.or_eq_true, Bool.and_eq_true, beq_iff_eq, decide_eq_true_eq, Bool.false_eq_true, true_iff, false_iff, true_and, false_and, or_false, false_or]
    omega

set_option maxHeartbeats 1000000 in
theorem inSet_2 (c : Int) (w : World) (h0 : 0 ≤ c) (h1 : c ≤ 255) :
    Calls Tryz.prog 73 #[.int .u8 c, .int .i64 2] w fun e w' => e = .returned (.bool (inSetI c 2)) ∧ w = w' := by
  have HA := hid (idxA_nonneg c h0 h1)
  have HB := hid (idxB_nonneg c h0 h1)
  have HC := hid (idxC_nonneg c h0 h1)
  go_enter Tryz.func73, Tryz.ntmps73
  go_wp2_with (first | (go_at_call_of 72 (Value.string ⟨#[47, 58, 59, 61, 64, 91, 92, 93, 124]⟩); refine (indexA _ _).mono ?_; rintro e w1 ⟨rfl, rfl⟩) | (go_at_call_of 72 (Value.string ⟨#[63, 94, 96, 123, 125]⟩); refine (indexB _ _).mono ?_; rintro e w1 ⟨rfl, rfl⟩) | (go_at_call_of 72 (Value.string ⟨#[32, 34, 60, 62]⟩); refine (indexC _ _).mono ?_; rintro e w1 ⟨rfl, rfl⟩))
  all_goals
    go_ret
    refine ⟨ret_bool ?_, rfl⟩
    have ha := HA.out; have hb := HB.out; have hc := HC.out
    try simp only [Bool.or_eq_true, Bool.and_eq_true, beq_iff_eq, decide_eq_true_eq, Bool.not_eq_true', decide_eq_false_iff_not, Bool.or_eq_false_iff, Bool.and_eq_false_iff, beq_eq_false_iff_ne, ne_eq] at *
    rw [Bool.eq_iff_iff, inSetI_iff]
    simp only [inSetP, Bool.or_eq_true, Bool.and_eq_true, beq_iff_eq, decide_eq_true_eq, Bool.false_eq_true, true_iff, false_iff, true_and, false_and, or_false, false_or]
    omega

set_option maxHeartbeats 1000000 in
theorem inSet_3 (c : Int) (w : World) (h0 : 0 ≤ c) (h1 : c ≤ 255) :
    Calls Tryz.prog 73 #[.int .u8 c, .int .i64 3] w fun e w' => e = .returned (.bool (inSetI c 3)) ∧ w = w' := by
  have HA := hid (idxA_nonneg c h0 h1)
  have HB := hid (idxB_nonneg c h0 h1)
  have HC := hid (idxC_nonneg c h0 h1)
  go_enter Tryz.func73, Tryz.ntmps73
  go_wp2_with (first | (go_at_call_of 72 (Value.string ⟨#[47, 58, 59, 61, 64, 91, 92, 93, 124]⟩); refine (indexA _ _).mono ?_; rintro e w1 ⟨rfl, rfl⟩) | (go_at_call_of 72 (Value.string ⟨#[63, 94, 96, 123, 125]⟩); refine (indexB _ _).mono ?_; rintro e w1 ⟨rfl, rfl⟩) | (go_at_call_of 72 (Value.string ⟨#[32, 34, 60, 62]⟩); refine (indexC _ _).mono ?_; rintro e w1 ⟨rfl, rfl⟩))
  all_goals
    go_ret
    refine ⟨ret_bool ?_, rfl⟩
    have ha := HA.out; have hb := HB.out; have hc := HC.out
    try simp only [Bool.or_eq_true, Bool.and_eq_true, beq_iff_eq, decide_eq_true_eq, Bool.not_eq_true', decide_eq_false_iff_not, Bool.or_eq_false_iff, Bool.and_eq_false_iff, beq_eq_false_iff_ne, ne_eq] at *
    rw [Bool.eq_iff_iff, inSetI_iff]
    simp only [inSetP, Bool.or_eq_true, Bool.and_eq_true, beq_iff_eq, decide_eq_true_eq, Bool.false_eq_true, true_iff, false_iff, true_and, false_and, or_false, false_or]
    omega

set_option maxHeartbeats 1000000 in
theorem inSet_4 (c : Int) (w : World) (h0 : 0 ≤ c) (h1 : c ≤ 255) :
    Calls Tryz.prog 73 #[.int .u8 c, .int .i64 4] w fun e w' => e = .returned (.bool (inSetI c 4)) ∧ w = w' := by
  have HA := hid (idxA_nonneg c h0 h1)
  have HB := hid (idxB_nonneg c h0 h1)
  have HC := hid (idxC_nonneg c h0 h1)
  go_enter Tryz.func73, Tryz.ntmps73
  go_wp2_with (first | (go_at_call_of 72 (Value.string ⟨#[47, 58, 59, 61, 64, 91, 92, 93, 124]⟩); refine (indexA _ _).mono ?_; rintro e w1 ⟨rfl, rfl⟩) | (go_at_call_of 72 (Value.string ⟨#[63, 94, 96, 123, 125]⟩); refine (indexB _ _).mono ?_; rintro e w1 ⟨rfl, rfl⟩) | (go_at_call_of 72 (Value.string ⟨#[32, 34, 60, 62]⟩); refine (indexC _ _).mono ?_; rintro e w1 ⟨rfl, rfl⟩))
  all_goals
    go_ret
    refine ⟨ret_bool ?_, rfl⟩
    have ha := HA.out; have hb := HB.out; have hc := HC.out
    try simp only [Bool.or_eq_true, Bool.and_eq_true, beq_iff_eq, decide_eq_true_eq, Bool.not_eq_true', decide_eq_false_iff_not, Bool.or_eq_false_iff, Bool.and_eq_false_iff, beq_eq_false_iff_ne, ne_eq] at *
    rw [Bool.eq_iff_iff, inSetI_iff]
    simp only [inSetP, Bool.or_eq_true, Bool.and_eq_true, beq_iff_eq, decide_eq_true_eq, Bool.false_eq_true, true_iff, false_iff, true_and, false_and, or_false, false_or]
    omega

set_option maxHeartbeats 1000000 in
theorem inSet_5 (c : Int) (w : World) (h0 : 0 ≤ c) (h1 : c ≤ 255) :
    Calls Tryz.prog 73 #[.int .u8 c, .int .i64 5] w fun e w' => e = .returned (.bool (inSetI c 5)) ∧ w = w' := by
  have HA := hid (idxA_nonneg c h0 h1)
  have HB := hid (idxB_nonneg c h0 h1)
  have HC := hid (idxC_nonneg c h0 h1)
  go_enter Tryz.func73, Tryz.ntmps73
  go_wp2_with (first | (go_at_call_of 72 (Value.string ⟨#[47, 58, 59, 61, 64, 91, 92, 93, 124]⟩); refine (indexA _ _).mono ?_; rintro e w1 ⟨rfl, rfl⟩) | (go_at_call_of 72 (Value.string ⟨#[63, 94, 96, 123, 125]⟩); refine (indexB _ _).mono ?_; rintro e w1 ⟨rfl, rfl⟩) | (go_at_call_of 72 (Value.string ⟨#[32, 34, 60, 62]⟩); refine (indexC _ _).mono ?_; rintro e w1 ⟨rfl, rfl⟩))
  all_goals
    go_ret
    refine ⟨ret_bool ?_, rfl⟩
    have ha := HA.out; have hb := HB.out; have hc := HC.out
    try simp only [Bool.or_eq_true, Bool.and_eq_true, beq_iff_eq, decide_eq_true_eq, Bool.not_eq_true', decide_eq_false_iff_not, Bool.or_eq_false_iff, Bool.and_eq_false_iff, beq_eq_false_iff_ne, ne_eq] at *
    rw [Bool.eq_iff_iff, inSetI_iff]
    simp only [inSetP, Bool.or_eq_true, Bool.and_eq_true, beq_iff_eq, decide_eq_true_eq, Bool.false_eq_true, true_iff, false_iff, true_and, false_and, or_false, false_or]
    omega

set_option maxHeartbeats 1000000 in
theorem inSet_6 (c : Int) (w : World) (h0 : 0 ≤ c) (h1 : c ≤ 255) :
    Calls Tryz.prog 73 #[.int .u8 c, .int .i64 6] w fun e w' => e = .returned (.bool (inSetI c 6)) ∧ w = w' := by
  have HA := hid (idxA_nonneg c h0 h1)
  have HB := hid (idxB_nonneg c h0 h1)
  have HC := hid (idxC_nonneg c h0 h1)
  go_enter Tryz.func73, Tryz.ntmps73
  go_wp2_with (first | (go_at_call_of 72 (Value.string ⟨#[47, 58, 59, 61, 64, 91, 92, 93, 124]⟩); refine (indexA _ _).mono ?_; rintro e w1 ⟨rfl, rfl⟩) | (go_at_call_of 72 (Value.string ⟨#[63, 94, 96, 123, 125]⟩); refine (indexB _ _).mono ?_; rintro e w1 ⟨rfl, rfl⟩) | (go_at_call_of 72 (Value.string ⟨#[32, 34, 60, 62]⟩); refine (indexC _ _).mono ?_; rintro e w1 ⟨rfl, rfl⟩))
  all_goals
    go_ret
    refine ⟨ret_bool ?_, rfl⟩
    have ha := HA.out; have hb := HB.out; have hc := HC.out
    try simp only [Bool.or_eq_true, Bool.and_eq_true, beq_iff_eq, decide_eq_true_eq, Bool.not_eq_true', decide_eq_false_iff_not, Bool.or_eq_false_iff, Bool.and_eq_false_iff, beq_eq_false_iff_ne, ne_eq] at *
    rw [Bool.eq_iff_iff, inSetI_iff]
    simp only [inSetP, Bool.or_eq_true, Bool.and_eq_true, beq_iff_eq, decide_eq_true_eq, Bool.false_eq_true, true_iff, false_iff, true_and, false_and, or_false, false_or]
    omega

set_option maxHeartbeats 1000000 in
theorem inSet_none (c set : Int) (w : World) (hs : ¬ (1 ≤ set ∧ set ≤ 6)) :
    Calls Tryz.prog 73 #[.int .u8 c, .int .i64 set] w fun e w' => e = .returned (.bool (inSetI c set)) ∧ w = w' := by
  have h1 : (set == 1) = false := by simp; omega
  have h2 : (set == 2) = false := by simp; omega
  have h3 : (set == 3) = false := by simp; omega
  have h4 : (set == 4) = false := by simp; omega
  have h5 : (set == 5) = false := by simp; omega
  have h6 : (set == 6) = false := by simp; omega
  have HS := hid hs
  clear hs
  go_enter Tryz.func73, Tryz.ntmps73
  go_wp2
  go_ret
  refine ⟨ret_bool ?_, rfl⟩
  rw [Bool.eq_iff_iff, inSetI_iff]
  have := HS.out
  simp only [inSetP, Bool.false_eq_true, false_iff]
  omega

theorem inSet_any (c set : Int) (w : World) (h0 : 0 ≤ c) (h1 : c ≤ 255) :
    Calls Tryz.prog 73 #[.int .u8 c, .int .i64 set] w fun e w' => e = .returned (.bool (inSetI c set)) ∧ w = w' := by
  by_cases hs : 1 ≤ set ∧ set ≤ 6
  · rcases (show set = 1 ∨ set = 2 ∨ set = 3 ∨ set = 4 ∨ set = 5 ∨ set = 6 from by omega) with rfl | rfl | rfl | rfl | rfl | rfl
    · exact inSet_1 c w h0 h1
    · exact inSet_2 c w h0 h1
    · exact inSet_3 c w h0 h1
    · exact inSet_4 c w h0 h1
    · exact inSet_5 c w h0 h1
    · exact inSet_6 c w h0 h1
  · exact inSet_none c set w hs

end Go.Proofs.YtdpihilikhbamaaGreatDoor
