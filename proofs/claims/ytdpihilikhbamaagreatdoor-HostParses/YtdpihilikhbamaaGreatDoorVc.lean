/-
  The walks of host.number and host.Numbered.
-/
import Derived.Test.YtdpihilikhbamaaGreatDoorVb
set_option linter.unusedSimpArgs false
set_option linter.unusedVariables false
namespace Go.Proofs.YtdpihilikhbamaaGreatDoor
open Go.RowKit

theorem numV_marked {l : List UInt8} (h : marked l = true) : numV l = valV 16 (behind l) := by simp [numV, behind, h]
theorem numV_nil : numV [] = none := by decide
theorem numV_zero {l : List UInt8} (h : marked (48 :: l) = false) : numV (48 :: l) = valV 8 l := by simp [numV, h]
theorem numV_ten {l : List UInt8} {c : UInt8} (h : marked (c :: l) = false) (hc : c ≠ 48) : numV (c :: l) = valV 10 (c :: l) := by simp [numV, h, hc]

theorem behind_le (l : List UInt8) : (behind l).length ≤ l.length := by
  unfold behind; split <;> simp

theorem size_le {l : List UInt8} {s : ByteArray} {n : Nat} (h : l.length ≤ s.data.toList.length) (hs : s.size ≤ n) : (⟨l.toArray⟩ : ByteArray).size ≤ n := by
  have e : (⟨l.toArray⟩ : ByteArray).size = l.length := by show l.toArray.size = _; simp
  simp at h
  omega

theorem empty_yes (s : ByteArray) (h : s.data.toList = []) : s.toList.isEmpty = true := by rw [Lib.toList_data, h]; rfl
theorem empty_no (s : ByteArray) (h : s.data.toList ≠ []) : s.toList.isEmpty = false := by
  rw [Lib.toList_data]; cases hl : s.data.toList with
  | nil => exact absurd hl h
  | cons a l => rfl

set_option maxHeartbeats 1000000 in
theorem number_any (s : ByteArray) (w : World) (hs : s.size ≤ 4000000000) :
    Calls Tryz.prog 32 #[.string s] w fun e w' => e = .returned (.tuple #[.int .u64 ((numV s.data.toList).getD 0 : Nat), .bool (numV s.data.toList).isSome]) ∧ w = w' := by
  by_cases hm : marked s.data.toList = true
  · have HN := hid (numV_marked hm)
    have hl := size_le (behind_le s.data.toList) hs
    go_enter Tryz.func32, Tryz.ntmps32
    go_wp2_with (first | (go_at_call 38; refine (behindMark_any _ _ hs).mono ?_; rintro e w' ⟨rfl, rfl⟩) | (go_at_call 60; refine (valueOf_any _ _ _ (by decide) (by omega)).mono ?_; rintro e w' ⟨rfl, rfl⟩))
    go_ret2
    rw [HN.out]
    exact ⟨rfl, rfl⟩
  · have hm' : marked s.data.toList = false := by simpa using hm
    clear hm
    by_cases h0 : s.data.toList = []
    · have HN := hid (show numV s.data.toList = none by rw [h0]; exact numV_nil)
      have he := empty_yes s h0
      clear h0
      go_enter Tryz.func32, Tryz.ntmps32
      go_wp2_with (first | (go_at_call 38; refine (behindMark_any _ _ hs).mono ?_; rintro e w' ⟨rfl, rfl⟩))
      go_ret2
      rw [HN.out]
      exact ⟨rfl, rfl⟩
    · have he := empty_no s h0
      have hz : 0 < s.size := by
        have : 0 < s.data.toList.length := List.length_pos_iff.2 h0
        simpa using this
      obtain ⟨r, hr⟩ := list_one s hz
      have hz' : (0 : Int) < (s.size : Int) := by omega
      have h1' : (1 : Int) ≤ (s.size : Int) := by omega
      have HR := hid hr
      have HM := hid hm'
      clear h0 hr
      by_cases hc : s[0] = 48
      · have HN := hid (show numV s.data.toList = valV 8 r by
          have hm2 := HM.out
          have hr := HR.out
          rw [hc] at hr
          rw [hr] at hm2 ⊢
          rw [numV_zero hm2])
        have HX := hid (show (s.extract 1 s.size).data.toList = r by rw [extract_drop, HR.out]; rfl)
        have hc' : (s[0].toNat : Int) = 48 := by rw [hc]; rfl
        have hx : (s.extract 1 s.size).size ≤ 140737488351232 := by simp; omega
        clear hc
        go_enter Tryz.func32, Tryz.ntmps32
        go_wp2_with (first | (go_at_call 38; refine (behindMark_any _ _ hs).mono ?_; rintro e w' ⟨rfl, rfl⟩) | (go_at_call 60; refine (valueOf_l _ r _ _ HX.out (by decide) hx).mono ?_; rintro e w' ⟨rfl, rfl⟩))
        go_ret2
        rw [HN.out]
        exact ⟨rfl, rfl⟩
      · have HN := hid (show numV s.data.toList = valV 10 s.data.toList by
          have hm2 := HM.out
          have hr := HR.out
          rw [hr] at hm2 ⊢
          exact numV_ten hm2 hc)
        have hc' : ((s[0].toNat : Int) == 48) = false := by
          rw [beq_eq_false_iff_ne]
          intro e
          apply hc
          exact UInt8.toNat_inj.1 (by have : (48 : UInt8).toNat = 48 := rfl; omega)
        clear hc
        go_enter Tryz.func32, Tryz.ntmps32
        go_wp2_with (first | (go_at_call 38; refine (behindMark_any _ _ hs).mono ?_; rintro e w' ⟨rfl, rfl⟩) | (go_at_call 60; refine (valueOf_any _ _ _ (by decide) (by omega)).mono ?_; rintro e w' ⟨rfl, rfl⟩))
        go_ret2
        rw [HN.out]
        exact ⟨rfl, rfl⟩

theorem numbered_marked {l : List UInt8} (h : marked (lastLab (noDot l)) = true) : numberedV l = (valV 16 (behind (lastLab (noDot l)))).isSome := by simp [numberedV, behind, h]
theorem numbered_plain {l : List UInt8} (h : marked (lastLab (noDot l)) = false) (h0 : lastLab (noDot l) ≠ []) : numberedV l = (valV 10 (lastLab (noDot l))).isSome := by simp [numberedV, h, h0]
theorem numbered_nil {l : List UInt8} (h0 : lastLab (noDot l) = []) : numberedV l = false := by
  have : marked ([] : List UInt8) = false := by decide
  simp [numberedV, h0, this]

theorem lastLab_le (l : List UInt8) : (lastLab l).length ≤ l.length := by
  unfold lastLab
  rw [List.length_reverse]
  have := (List.takeWhile_prefix (fun c : UInt8 => c != 46) (l := l.reverse)).length_le
  simpa using this

theorem isEmpty_bne (s : ByteArray) : (!s.toList.isEmpty) = !s.toList.isEmpty := rfl

set_option maxHeartbeats 1000000 in
theorem numbered_any (s : ByteArray) (w : World) (hs : s.size ≤ 4000000000) :
    Calls Tryz.prog 12 #[.string s] w fun e w' => e = .returned (.bool (numberedV s.data.toList)) ∧ w = w' := by
  obtain ⟨d, hd⟩ : ∃ d : ByteArray, d = ⟨(noDot s.data.toList).toArray⟩ := ⟨_, rfl⟩
  have hdl : d.data.toList = noDot s.data.toList := by rw [hd]
  have hds : d.size ≤ 4000000000 := by rw [hd]; exact size_le (noDot_le _) hs
  obtain ⟨k, hk, hi, hl⟩ := lastIdx_lab d
  have hx : (d.extract k d.size).data.toList = lastLab (noDot s.data.toList) := by rw [extract_drop, hl, hdl]
  obtain ⟨x, hxe⟩ : ∃ x : ByteArray, x = d.extract k d.size := ⟨_, rfl⟩
  have hxs : x.size ≤ 4000000000 := by rw [hxe]; simp; omega
  rw [← hxe] at hx
  have hk0 : (0 : Int) ≤ (k : Int) := by omega
  have hk1 : (k : Int) ≤ (d.size : Int) := by omega
  have HX := hid hx
  have HXE := hid hxe.symm
  have HI := hid hi
  have HDD := hid hd
  clear hx hxe hi hl hdl hd
  by_cases hm : marked (lastLab (noDot s.data.toList)) = true
  · have HN := hid (numbered_marked hm)
    have hm' : marked x.data.toList = true := by rw [HX.out]; exact hm
    have hbl := size_le (behind_le x.data.toList) hxs
    have HB := hid (show (⟨(behind x.data.toList).toArray⟩ : ByteArray).data.toList = behind (lastLab (noDot s.data.toList)) by rw [HX.out])
    clear hm
    go_enter Tryz.func12, Tryz.ntmps12
    go_wp2_with (first | (go_at_call 30; refine (withoutLastDot_any _ _ hs).mono ?_; rintro e w' ⟨rfl, rfl⟩; rw [← HDD.out]) | (go_at_call 37; refine (Tryz.strings_LastIndexByte _ _ (by omega) _).mono ?_; rintro e w' ⟨rfl, rfl⟩; rw [HI.out]) | (go_at_call 38; rw [HXE.out]; refine (behindMark_any _ _ hxs).mono ?_; rintro e w' ⟨rfl, rfl⟩) | (go_at_call 39; refine (digitsAlone_l _ _ _ _ HB.out (by decide) (by omega)).mono ?_; rintro e w' ⟨rfl, rfl⟩))
    go_ret
    rw [HN.out]; exact ⟨rfl, rfl⟩
  · have hm2 : marked x.data.toList = false := by rw [HX.out]; simpa using hm
    by_cases h0 : lastLab (noDot s.data.toList) = []
    · have HN := hid (numbered_nil h0)
      have he := empty_yes x (HX.out.trans h0)
      clear h0 hm
      go_enter Tryz.func12, Tryz.ntmps12
      go_wp2_with (first | (go_at_call 30; refine (withoutLastDot_any _ _ hs).mono ?_; rintro e w' ⟨rfl, rfl⟩; rw [← HDD.out]) | (go_at_call 37; refine (Tryz.strings_LastIndexByte _ _ (by omega) _).mono ?_; rintro e w' ⟨rfl, rfl⟩; rw [HI.out]) | (go_at_call 38; rw [HXE.out]; refine (behindMark_any _ _ hxs).mono ?_; rintro e w' ⟨rfl, rfl⟩))
      go_ret
      rw [HN.out]; exact ⟨rfl, rfl⟩
    · have HN := hid (numbered_plain (by simpa using hm) h0)
      have he := empty_no x (by rw [HX.out]; exact h0)
      clear h0 hm
      go_enter Tryz.func12, Tryz.ntmps12
      go_wp2_with (first | (go_at_call 30; refine (withoutLastDot_any _ _ hs).mono ?_; rintro e w' ⟨rfl, rfl⟩; rw [← HDD.out]) | (go_at_call 37; refine (Tryz.strings_LastIndexByte _ _ (by omega) _).mono ?_; rintro e w' ⟨rfl, rfl⟩; rw [HI.out]) | (go_at_call 38; rw [HXE.out]; refine (behindMark_any _ _ hxs).mono ?_; rintro e w' ⟨rfl, rfl⟩) | (go_at_call 39; refine (digitsAlone_l _ _ _ _ HX.out (by decide) (by omega)).mono ?_; rintro e w' ⟨rfl, rfl⟩))
      go_ret
      rw [HN.out]; exact ⟨rfl, rfl⟩

end Go.Proofs.YtdpihilikhbamaaGreatDoor
