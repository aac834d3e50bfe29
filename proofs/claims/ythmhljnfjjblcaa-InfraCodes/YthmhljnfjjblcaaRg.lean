/-
  The walks of the document's own answers of chapter 1: ostiaryref1's Escape, Percent, Hex, Unpercent.
-/
import Derived.Test.YthmhljnfjjblcaaRd
import Derived.Test.YthmhljnfjjblcaaWf
import Derived.Deep.RegionWith
import Derived.Deep.QuietTactic
import Derived.BigQuiet
set_option linter.unusedSimpArgs false
set_option linter.unusedVariables false
namespace Go.Proofs.Ythmhljnfjjblcaa
open Go.RowKit

theorem extract_hex : ∀ n, n < 16 → ((ByteArray.mk #[48, 49, 50, 51, 52, 53, 54, 55, 56, 57, 65, 66, 67, 68, 69, 70]).extract n (n + 1)).data.toList = [hexD n] := by decide +kernel

set_option maxHeartbeats 1000000 in
theorem rescape_any (c : UInt8) (w : World) :
    Calls Try.prog 59 #[.int .u8 c.toNat] w fun e w' => e = .returned (.string ⟨(esc c).toArray⟩) ∧ Below w.heap.size w w' := by
  have hc8 := c.toNat_lt
  have ha := and15 c.toNat hc8
  have hsz : (ByteArray.mk #[48, 49, 50, 51, 52, 53, 54, 55, 56, 57, 65, 66, 67, 68, 69, 70]).size = 16 := rfl
  have h1 : (c.toNat : Int) / 16 ≤ 15 := by omega
  have h2 : (c.toNat : Int) % 16 ≤ 15 := by omega
  have h3 : (0 : Int) ≤ (c.toNat : Int) / 16 := by omega
  have h4 : (0 : Int) ≤ (c.toNat : Int) % 16 := by omega
  go_enter Try.func59, Try.ntmps59
  go_wp2
  go_quiet (fail)
  go_wp2
  go_ret
  refine ⟨ret_str ?_, below_drewN (Below.refl _ w) _⟩
  rw [ByteArray.data_append, ByteArray.data_append, Array.toList_append, Array.toList_append, extract_hex _ (by omega), extract_hex _ (by omega)]
  rfl

/-- A text's one byte. -/
theorem extract_at (s : ByteArray) (k : Nat) (h : k < s.size) : (s.extract k (k + 1)).data.toList = [s[k]] := by
  rw [Lib.extract_data]
  have h' : k < s.data.toList.length := by simpa using h
  have := List.drop_eq_getElem_cons h'
  rw [List.take_drop] at *
  simp [this, List.drop_take]
  rfl

set_option maxHeartbeats 1000000 in
theorem rpercent_any (s : ByteArray) (set : Int) (w : World) (hs : s.size ≤ 1000000) :
    Calls Try.prog 32 #[.string s, .int .i64 set] w fun e w' => e = .returned (.string ⟨(pct set s.data.toList).toArray⟩) ∧ Below w.heap.size w w' := by
  go_enter Try.func32, Try.ntmps32
  go_wp2
  go_loopw [5, 6] (fun o i wr => ∃ (k : Nat) (t : ByteArray), k ≤ s.size ∧ i = .int .i64 k ∧ o = .string t ∧ t.data.toList = pct set (s.data.toList.take k) ∧ Below w.heap.size w wr) (fun _ i _ => s.size - (intOf i).toNat)
  case atStart => exact ⟨0, _, Nat.zero_le _, rfl, rfl, rfl, Below.refl _ w⟩
  case round =>
    obtain ⟨k, t, hk, rfl, rfl, ht, hbw⟩ := hrel
    have htl : t.size ≤ 3 * k := by
      rw [Lib.size_eq, ht]
      have := pct_le set (s.data.toList.take k)
      simp at this
      omega
    have HT := hid ht
    clear ht
    by_cases hlt : k < s.size
    · have HS := hid (take_snoc s k hlt)
      have HP := hid (pct_snoc set (s.data.toList.take k) s[k])
      by_cases hin : inSetI (s[k].toNat : Int) set = true
      · go_wp2_with (first | (go_at_call 58; refine (rin_any _ _ _).mono ?_; rintro e w' ⟨rfl, rfl⟩))
        refine (rescape_any s[k] wr).mono ?_
        rintro e w1 ⟨rfl, hb1⟩
        have hes : (ByteArray.mk (esc s[k]).toArray).size = 3 := rfl
        go_wp2
        go_roundw
        case rel =>
          refine ⟨k + 1, _, by omega, by go_num, rfl, ?_, hbw.trans (hb1.mono hbw.size)⟩
          rw [ByteArray.data_append, Array.toList_append, HT.out, HS.out, HP.out, pct1, if_pos hin]
        case measure => simp [intOf]; omega
      · have hin' : inSetI (s[k].toNat : Int) set = false := by simpa using hin
        clear hin
        go_wp2_with (first | (go_at_call 58; refine (rin_any _ _ _).mono ?_; rintro e w' ⟨rfl, rfl⟩))
        go_roundw
        case rel =>
          refine ⟨k + 1, _, by omega, by go_num, rfl, ?_, hbw⟩
          rw [ByteArray.data_append, Array.toList_append, HT.out, HS.out, HP.out, pct1, hin', extract_at s k hlt]
          rfl
        case measure => simp [intOf]; omega
    · have ht := HT.out
      rw [take_all s k hlt] at ht
      have HT2 := hid ht
      clear ht HT
      go_wp2
      go_ret
      exact ⟨ret_str HT2.out, hbw⟩

def hexI (c : Int) : Int := if is16I c then val16I c else -1

set_option maxHeartbeats 400000 in
theorem rhex_any (c : Int) (w : World) (h0 : 0 ≤ c) (h1 : c ≤ 255) :
    Calls Try.prog 61 #[.int .u8 c] w fun e w' => e = .returned (.int .i64 (hexI c)) ∧ w = w' := by
  by_cases hd : digitI c = true
  · have hd2 : 48 ≤ c ∧ c ≤ 57 := by simp [digitI] at hd; omega
    go_enter Try.func61, Try.ntmps61
    go_wp2_with (go_at_call 51; refine (rdigit_any _ _).mono ?_; rintro e w' ⟨rfl, rfl⟩)
    all_goals
      go_ret
      exact ⟨ret_int (by simp [hexI, is16I, val16I, hd, digitI]; omega), rfl⟩
  · have hd' : digitI c = false := by simpa using hd
    have hd2 : c < 48 ∨ 57 < c := by simp [digitI] at hd'; omega
    clear hd
    have hc : (97 ≤ c ∧ c ≤ 102) ∨ (65 ≤ c ∧ c ≤ 70) ∨ (c < 65 ∨ (70 < c ∧ c < 97) ∨ 102 < c) := by omega
    rcases hc with ⟨h3, h4⟩ | ⟨h3, h4⟩ | h3 | ⟨h3, h4⟩ | h3
    all_goals
      go_enter Try.func61, Try.ntmps61
      go_wp2_with (go_at_call 51; refine (rdigit_any _ _).mono ?_; rintro e w' ⟨rfl, rfl⟩)
    all_goals
      go_ret
      refine ⟨ret_int ?_, rfl⟩
      have e1 : is16I c = (decide (65 ≤ c) && decide (c ≤ 70) || decide (97 ≤ c) && decide (c ≤ 102)) := by simp [is16I, hd']
      unfold hexI
      rw [e1]
      simp [val16I, digitI]
      omega

end Go.Proofs.Ythmhljnfjjblcaa
