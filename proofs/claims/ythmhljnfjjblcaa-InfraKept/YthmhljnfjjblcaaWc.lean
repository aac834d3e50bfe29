/-
  The walks of infra.withoutBlanks and infra.withoutPadding.
-/
import Derived.Test.YthmhljnfjjblcaaWa
import Derived.Test.YthmhljnfjjblcaaWb
import Derived.Test.YthmhljnfjjblcaaPb
import Derived.Test.YthmhljnfjjblcaaSh
import Derived.Laws.IdiomStrings
import Derived.Laws.BytesString
set_option linter.unusedSimpArgs false
set_option linter.unusedVariables false
namespace Go.Proofs.Ythmhljnfjjblcaa
open Go.RowKit

set_option maxHeartbeats 1000000 in
theorem withoutBlanks_any (s : ByteArray) (w : World) (hs : s.size ≤ 140737488351232) :
    Calls Try.prog 41 #[.string s] w fun e w' => e = .returned (.string ⟨(noBlanks s.data.toList).toArray⟩) ∧ Below w.heap.size w w' := by
  obtain ⟨i0, hi, hz0, hz1, hz2⟩ := info_parts infoByte
  go_enter Try.func41, Try.ntmps41
  go_wp2_with (at_make; refine wpList_make_own _ rfl _ _ 22 rfl w.heap.size 5 i0 (.int .u8 0) 1 Try.underlying22 hi hz0 hz1 .i64 .i64 _ s.size rfl rfl rfl (by rw [hz2]; omega) (by unfold maxLen; omega) (Nat.le_refl _) ?_)
  intro w0 hown0 hgrow0
  have hb0 : Below w.heap.size w w0 := (Below.refl _ w).grown hgrow0 (Nat.le_refl _) (fun k hk => by simp at hk)
  clear hgrow0
  go_wp2
  go_loopw [3, 10] (fun v i wr => ∃ k : Nat, k ≤ s.size ∧ i = .int .i64 k ∧ wr.ownsRow w.heap.size 5 1 v (noBlanks (s.data.toList.take k)).length (Lib.byteCells (noBlanks (s.data.toList.take k))) ∧ Below w.heap.size w wr ∧ v ≠ .slice none 0 0)
    (fun _ i _ => s.size - (intOf i).toNat)
  case atStart => exact ⟨0, Nat.zero_le _, rfl, hown0, hb0, by simp⟩
  case round =>
    obtain ⟨k, hk, rfl, hown, hbw, hnn⟩ := hrel
    have hle := noBlanks_le (s.data.toList.take k)
    have htl : (s.data.toList.take k).length ≤ k := List.length_take_le _ _
    by_cases hlt : k < s.size
    · have HT : Hid (s.data.toList.take (k + 1) = s.data.toList.take k ++ [s[k]]) := take_snoc s k hlt
      by_cases hbl : blankI (s[k].toNat : Int) = true
      · go_wp2_with (go_at_call 45; refine (blank_any _ _).mono ?_; rintro e w' ⟨rfl, rfl⟩)
        go_roundw
        case rel =>
          refine ⟨k + 1, by omega, by go_num, ?_, hbw, hnn⟩
          rw [HT.out, noBlanks_snoc_yes _ _ hbl]; exact hown
        case measure => simp [intOf]; omega
      · have hbl' : blankI (s[k].toNat : Int) = false := by simpa using hbl
        clear hbl
        go_wp2_with (first | (go_at_call 45; refine (blank_any _ _).mono ?_; rintro e w' ⟨rfl, rfl⟩) | (at_builtin; refine wpList_append_own _ rfl _ _ 22 rfl w.heap.size 5 i0 (.int .u8 0) 1 1 Try.underlying22 hi hz0 hz1 hz2 rfl (by decide) _ _ _ rfl (hown.alloc _) ⟨wr.heap.size, 0, none⟩ 1 1 [.int .u8 s[k].toNat] rfl rfl ?c1 ?c2 ?c3 ?c4 ?c5 ?_))
        case c1 =>
          intro j u hj
          match j, hj with
          | 0, hj => simp at hj; subst hj; simp [Addr.add]
        case c2 => intro u hu; simp at hu; subst hu; rfl
        case c3 => unfold maxLen; omega
        case c4 => omega
        case c5 => have := hbw.size; simp; omega
        intro v' w2 hown' hgrow hnil
        go_wp2
        go_roundw
        case rel =>
          refine ⟨k + 1, by omega, by go_num, ?_, ?_, fun h => by first | exact hnil h | exact absurd (hnil.1 h).2 (by decide)⟩
          · rw [HT.out, noBlanks_snoc_no _ _ hbl', Lib.byteCells_append, byteCells_one]; simpa using hown'
          · exact (hbw.alloc hbw.size _).grown hgrow (by have := hbw.size; simp; omega) (fun g hg => (hown.lt g hg).1)
        case measure => simp [intOf]; omega
    · rw [take_all s k hlt] at hown
      have hcv := run_string_own (P := Try.prog) (src := 22) (dst := 9) Try.underlying22 Try.underlying5 Try.underlying9 hown hnn
      go_wp2
      go_ret
      exact ⟨rfl, hbw⟩

set_option maxHeartbeats 400000 in
theorem withoutPadding_any (s : ByteArray) (w : World) (hs : s.size ≤ 140737488351232) :
    Calls Try.prog 40 #[.string s] w fun e w' => e = .returned (.string ⟨(noPadding s.data.toList).toArray⟩) ∧ w = w' := by
  by_cases h4 : s.size % 4 = 0
  · have h4' : ((s.size : Int) % 4 != 0) = false := by simp; omega
    have HN := hid (show noPadding s.data.toList = Lib.trimSuffix (Lib.trimSuffix s.data.toList [61]) [61] by simp [noPadding, h4])
    have ht := Lib.trimSuffix_le s.data.toList [61]
    have hsz : s.data.toList.length ≤ 140737488351232 := by simpa using hs
    go_enter Try.func40, Try.ntmps40
    go_wp2_with fail
    refine (Try.strings_TrimSuffix s _ w (by omega)).mono ?_
    rintro e w1 ⟨rfl, hw1⟩
    have hw1 := hw1.symm; subst hw1
    go_wp2_with fail
    refine (Try.strings_TrimSuffix ⟨(Lib.trimSuffix s.data.toList [61]).toArray⟩ _ w (by show (Lib.trimSuffix s.data.toList [61]).toArray.size ≤ _; simp; omega)).mono ?_
    rintro e w1 ⟨rfl, hw1⟩
    have hw1 := hw1.symm; subst hw1
    go_wp2
    go_ret
    rw [HN.out]
    exact ⟨rfl, rfl⟩
  · have h4' : ((s.size : Int) % 4 != 0) = true := by simp; omega
    have HN := hid (show noPadding s.data.toList = s.data.toList by simp [noPadding, h4])
    go_enter Try.func40, Try.ntmps40
    go_wp2
    go_ret
    rw [HN.out]
    exact ⟨rfl, rfl⟩

end Go.Proofs.Ythmhljnfjjblcaa
