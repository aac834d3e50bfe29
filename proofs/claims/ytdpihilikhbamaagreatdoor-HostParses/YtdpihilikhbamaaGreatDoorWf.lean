/-
  The walk of infra.Percent.
-/
import Derived.Test.YtdpihilikhbamaaGreatDoorWb
import Derived.Test.YtdpihilikhbamaaGreatDoorWe
import Derived.Test.YtdpihilikhbamaaGreatDoorPe
set_option linter.unusedSimpArgs false
set_option linter.unusedVariables false
namespace Go.Proofs.YtdpihilikhbamaaGreatDoor
open Go.RowKit

set_option maxHeartbeats 1000000 in
theorem percent_any (s : ByteArray) (set : Int) (w : World) (hs : s.size ≤ 35184372088832) :
    Calls Tryz.prog 53 #[.string s, .int .i64 set] w fun e w' => e = .returned (.string ⟨(pct set s.data.toList).toArray⟩) ∧ Below w.heap.size w w' := by
  go_enter Tryz.func53, Tryz.ntmps53
  go_wp2
  go_loopw [10] (fun i wr => ∃ k : Nat, k ≤ s.size ∧ i = .int .i64 k ∧ Lib.IsBuilderF 71 5 w.heap.size w.heap.size (Lib.byteCells (pct set (s.data.toList.take k))) wr ∧ Below w.heap.size w wr)
    (fun i _ => s.size - (intOf i).toNat)
  case atStart =>
    exact ⟨0, Nat.zero_le _, rfl, Lib.IsBuilderF.of (Lib.fresh_isBuilder 71 5 w), (Below.refl _ w).alloc (Nat.le_refl _) _⟩
  case round =>
    obtain ⟨k, hk, rfl, hI, hbw⟩ := hrel
    have hle := pct_le set (s.data.toList.take k)
    have htl : (s.data.toList.take k).length ≤ k := List.length_take_le _ _
    by_cases hlt : k < s.size
    · have HT := hid (take_snoc s k hlt)
      have HP := hid (pct_snoc set (s.data.toList.take k) s[k])
      generalize pct set (s.data.toList.take k) = acc at *
      have hc8 : s[k].toNat < 256 := s[k].toNat_lt
      by_cases hin : inSetI (s[k].toNat : Int) set = true
      · go_wp2_with (first | (go_at_call 73; refine (inSet_any _ _ _ (by omega) (by omega)).mono ?_; rintro e w' ⟨rfl, rfl⟩))
        refine (writeByte_k w.heap.size w.heap.size _ 37 _ hI (by rw [Lib.byteCells_length]; omega) hbw.size).mono ?_
        rintro e w1 ⟨rfl, h1, b1, _⟩
        go_wp2_with fail
        rw [hexD_at]
        refine (writeByte_k w.heap.size w.heap.size _ _ _ (.inr h1) (by rw [List.length_append, Lib.byteCells_length]; simp; omega) (by have := hbw.size; have := b1.size; omega)).mono ?_
        rintro e w2 ⟨rfl, h2, b2, _⟩
        have ha := and15 s[k].toNat hc8
        go_wp2_with fail
        rw [hexD_at]
        refine (writeByte_k w.heap.size w.heap.size _ _ _ (.inr h2) (by rw [List.length_append, List.length_append, Lib.byteCells_length]; simp; omega) (by have := hbw.size; have := b1.size; have := b2.size; omega)).mono ?_
        rintro e w3 ⟨rfl, h3, b3, _⟩
        go_wp2
        go_roundw
        case rel =>
          refine ⟨k + 1, by omega, by go_num, ?_, ((hbw.trans b1).trans b2).trans b3⟩
          rw [HT.out, HP.out, pct1, hin, Lib.byteCells_append]
          refine .inr ?_
          have e3 : Lib.byteCells (esc s[k]) = [.int .u8 37] ++ [.int .u8 (hexD (s[k].toNat / 16)).toNat] ++ [.int .u8 (hexD (s[k].toNat % 16)).toNat] := rfl
          rw [if_pos rfl, e3]
          simpa using h3
        case measure => simp [intOf]; omega
      · have hin' : inSetI (s[k].toNat : Int) set = false := by simpa using hin
        clear hin
        go_wp2_with (first | (go_at_call 73; refine (inSet_any _ _ _ (by omega) (by omega)).mono ?_; rintro e w' ⟨rfl, rfl⟩))
        refine (writeByte_k w.heap.size w.heap.size _ _ _ hI (by rw [Lib.byteCells_length]; omega) hbw.size).mono ?_
        rintro e w1 ⟨rfl, h1, b1, _⟩
        go_wp2
        go_roundw
        case rel =>
          refine ⟨k + 1, by omega, by go_num, ?_, hbw.trans b1⟩
          rw [HT.out, HP.out, pct1, hin', Lib.byteCells_append]
          exact .inr h1
        case measure => simp [intOf]; omega
    · rw [take_all s k hlt] at hI
      go_wp2_with (go_at_call 51; refine (Tryz.Builder_String_any_k w.heap.size w.heap.size _ _ hI hbw.size).mono ?_)
      rintro e w1 ⟨rfl, _, b1, _⟩
      go_wp2
      go_ret
      exact ⟨rfl, hbw.trans b1⟩

end Go.Proofs.YtdpihilikhbamaaGreatDoor
