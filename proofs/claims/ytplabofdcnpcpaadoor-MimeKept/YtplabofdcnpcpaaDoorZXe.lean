/-
  The walks of headers' closing and cutPiece.
-/
import Derived.Test.YtplabofdcnpcpaaDoorZXc
import Derived.Test.YtplabofdcnpcpaaDoorZXd
import Derived.Test.YtplabofdcnpcpaaDoorZWi
import Derived.Test.YtplabofdcnpcpaaDoorZGa
import Derived.Deep.QuietTactic
import Derived.BigQuiet
set_option linter.unusedSimpArgs false
set_option linter.unusedVariables false
namespace Go.Proofs.YtplabofdcnpcpaaDoor
open Go.RowKit

theorem byteInt (c : UInt8) (n : Nat) (h : n < 256) : ((c.toNat : Int) == (n : Int)) = decide (c = UInt8.ofNat n) := by
  have h1 : (UInt8.ofNat n).toNat = n := by simp [UInt8.toNat_ofNat']; omega
  rw [Bool.eq_iff_iff]
  simp only [beq_iff_eq, decide_eq_true_eq]
  constructor
  · intro e; exact UInt8.toNat_inj.1 (by rw [h1]; omega)
  · intro e; rw [e, h1]

theorem byteNe {c : UInt8} {n : Nat} (h : n < 256) (e : c ≠ UInt8.ofNat n) : ((c.toNat : Int) == (n : Int)) = false := by
  rw [byteInt c n h]; simpa using e

set_option maxHeartbeats 1000000 in
theorem closing_any (s : ByteArray) (i : Nat) (w : World) (hs : s.size ≤ 140737488351232) (hi : i < s.size) :
    Calls Tryd.prog 56 #[.string s, .int .i64 i] w fun e w' => e = .returned (.int .i64 ((i + 1 + clos (s.data.toList.drop (i + 1)) : Nat) : Int)) ∧ w = w' := by
  go_enter Tryd.func56, Tryd.ntmps56
  go_wp2
  go_loop [1] (fun v => ∃ k : Nat, k ≤ s.size + 1 ∧ v = .int .i64 k ∧ k + clos (s.data.toList.drop k) = i + 1 + clos (s.data.toList.drop (i + 1))) (fun v => s.size + 2 - (intOf v).toNat)
  case atStart => exact ⟨i + 1, by omega, by go_num, rfl⟩
  case round =>
    obtain ⟨k, hk, rfl, hc⟩ := hrel
    have HC := hid hc
    clear hc
    by_cases hlt : k < s.size
    · have hlt' : (k : Int) < (s.size : Int) := by omega
      have HD := hid (drop_cons s k hlt)
      by_cases h1 : s[k] = 34
      · have h1' : (s[k].toNat : Int) = 34 := by rw [h1]; rfl
        have HR := hid (show k = i + 1 + clos (s.data.toList.drop (i + 1)) by have := HC.out; rw [HD.out, h1, clos_quote] at this; omega)
        clear h1
        go_wp2
        go_ret
        exact ⟨ret_int (by have := HR.out; omega), rfl⟩
      · have h1' : ((s[k].toNat : Int) == 34) = false := byteNe (n := 34) (by omega) h1
        by_cases h2 : s[k] = 92
        · have h2' : (s[k].toNat : Int) = 92 := by rw [h2]; rfl
          have HR := hid (show k + 2 + clos (s.data.toList.drop (k + 2)) = i + 1 + clos (s.data.toList.drop (i + 1)) by
            have := HC.out; rw [HD.out, h2, clos_back, List.drop_drop] at this
            rw [show k + 1 + 1 = k + 2 by omega] at this; omega)
          clear h1 h2
          go_wp2
          go_round
          case rel =>
            exact ⟨k + 2, by omega, by go_num, HR.out⟩
          case measure => simp [intOf]; omega
        · have h2' : ((s[k].toNat : Int) == 92) = false := byteNe (n := 92) (by omega) h2
          have HR := hid (show k + 1 + clos (s.data.toList.drop (k + 1)) = i + 1 + clos (s.data.toList.drop (i + 1)) by
            have := HC.out; rw [HD.out, clos_other _ _ h1 h2] at this; omega)
          clear h1 h2
          go_wp2
          go_round
          case rel =>
            exact ⟨k + 1, by omega, by go_num, HR.out⟩
          case measure => simp [intOf]; omega
    · have hlt' : decide ((k : Int) < (s.size : Int)) = false := by rw [decide_eq_false_iff_not]; omega
      have HR := hid (show k = i + 1 + clos (s.data.toList.drop (i + 1)) by
        have := HC.out; rw [List.drop_eq_nil_of_le (by simp; omega)] at this; simp [clos] at this; omega)
      go_wp2
      go_ret
      exact ⟨ret_int (by have := HR.out; omega), rfl⟩

theorem clos_le : ∀ (n : Nat) (l : List UInt8), l.length ≤ n → clos l ≤ l.length + 1 := by
  intro n
  induction n with
  | zero =>
    intro l hl
    have : l = [] := List.eq_nil_of_length_eq_zero (by omega)
    subst this; simp [clos]
  | succ n ih =>
    intro l hl
    cases l with
    | nil => simp [clos]
    | cons c r =>
      simp at hl
      by_cases h1 : c = 34
      · subst h1; rw [clos_quote]; simp
      · by_cases h2 : c = 92
        · subst h2
          rw [clos_back]
          have := ih (r.drop 1) (by simp; omega)
          cases r with
          | nil => simp [clos]
          | cons d r => simp at this ⊢; omega
        · rw [clos_other c r h1 h2]
          have := ih r (by omega)
          simp; omega

/-- What cutPiece answers. -/
def cutA (l : List UInt8) : List UInt8 := match cutQ false l with | none => l | some k => l.take k
def cutR (l : List UInt8) : List UInt8 := match cutQ false l with | none => [] | some k => l.drop (k + 1)
def cutB (l : List UInt8) : Bool := (cutQ false l).isSome

theorem xret_ssb {a b c d : ByteArray} {x y : Bool} (h : a = b) (h2 : c = d) (g : x = y) : Ending.returned (.tuple #[.string a, .string c, .bool x]) = .returned (.tuple #[.string b, .string d, .bool y]) := by rw [h, h2, g]

theorem xext {a : ByteArray} {l : List UInt8} (h : a.data.toList = l) : a = ⟨l.toArray⟩ := xba h

set_option maxHeartbeats 1000000 in
theorem cutPiece_any (s : ByteArray) (w : World) (hs : s.size ≤ 140737488351232) :
    Calls Tryd.prog 30 #[.string s] w fun e w' => e = .returned (.tuple #[.string ⟨(cutA s.data.toList).toArray⟩, .string ⟨(cutR s.data.toList).toArray⟩, .bool (cutB s.data.toList)]) ∧ Below w.heap.size w w' := by
  go_enter Tryd.func30, Tryd.ntmps30
  go_wp2
  go_loop [5] (fun v => ∃ k : Nat, k ≤ s.size + 2 ∧ v = .int .i64 k ∧ cutQ false s.data.toList = (cutQ false (s.data.toList.drop k)).map (· + k)) (fun v => s.size + 3 - (intOf v).toNat)
  case atStart => exact ⟨0, by omega, by go_num, by simp⟩
  case round =>
    obtain ⟨k, hk, rfl, hc⟩ := hrel
    have HC := hid hc
    clear hc
    by_cases hlt : k < s.size
    · have hlt' : (k : Int) < (s.size : Int) := by omega
      have HD := hid (drop_cons s k hlt)
      by_cases h1 : s[k] = 44
      · have h1' : (s[k].toNat : Int) = 44 := by rw [h1]; rfl
        have HR := hid (show cutQ false s.data.toList = some k by have := HC.out; rw [HD.out, h1, cutQ_comma] at this; simpa using this)
        have hk0 : (0 : Int) ≤ (k : Int) := by omega
        have hk1 : (k : Int) ≤ (s.size : Int) := by omega
        have hk2 : (k : Int) + 1 ≤ (s.size : Int) := by omega
        clear h1
        go_wp2
        go_quiet (fail)
        go_wp2
        go_ret3
        refine ⟨xret_ssb (xext ?_) (xext ?_) ?_, Go.below_drewN (Below.refl _ _) _⟩
        · rw [cutA, HR.out, Lib.extract_data]; simp
        · rw [cutR, HR.out]; exact extract_drop s (k + 1)
        · rw [cutB, HR.out]; rfl
      · have h1' : ((s[k].toNat : Int) == 44) = false := byteNe (n := 44) (by omega) h1
        by_cases h2 : s[k] = 34
        · have h2' : (s[k].toNat : Int) = 34 := by rw [h2]; rfl
          have hcl : clos (s.data.toList.drop (k + 1)) + (k + 1) ≤ s.size + 1 := by have := clos_le _ (s.data.toList.drop (k + 1)) (Nat.le_refl _); simp at this; omega
          have HR := hid (show cutQ false s.data.toList = (cutQ false (s.data.toList.drop (k + 1 + clos (s.data.toList.drop (k + 1)) + 1))).map (· + (k + 1 + clos (s.data.toList.drop (k + 1)) + 1)) by
            have := HC.out
            rw [HD.out, h2, cutQ_false_open, map_map_add, List.drop_drop] at this
            rw [this, show k + 1 + (clos (s.data.toList.drop (k + 1)) + 1) = k + 1 + clos (s.data.toList.drop (k + 1)) + 1 by omega, show clos (s.data.toList.drop (k + 1)) + 2 + k = k + 1 + clos (s.data.toList.drop (k + 1)) + 1 by omega])
          clear h1 h2
          obtain ⟨q, hq⟩ : ∃ q, q = clos (s.data.toList.drop (k + 1)) := ⟨_, rfl⟩
          rw [← hq] at hcl HR
          have HQ := hid hq
          clear hq
          go_wp2_with (go_at_call 56; refine (closing_any s k _ hs hlt).mono ?_; rintro e w' ⟨rfl, rfl⟩; rw [← HQ.out])
          go_round
          case rel =>
            exact ⟨k + 1 + q + 1, by omega, by go_num, HR.out⟩
          case measure => simp [intOf]; omega
        · have h2' : ((s[k].toNat : Int) == 34) = false := byteNe (n := 34) (by omega) h2
          have HR := hid (show cutQ false s.data.toList = (cutQ false (s.data.toList.drop (k + 1))).map (· + (k + 1)) by
            have := HC.out
            rw [HD.out, cutQ_other _ _ h1 h2, map_map_add] at this
            rw [this, Nat.add_comm 1 k])
          clear h1 h2
          go_wp2
          go_round
          case rel =>
            exact ⟨k + 1, by omega, by go_num, HR.out⟩
          case measure => simp [intOf]; omega
    · have hlt' : ¬ (k : Int) < (s.size : Int) := by omega
      have HR := hid (show cutQ false s.data.toList = none by
        have := HC.out; rw [List.drop_eq_nil_of_le (by simp; omega)] at this; simpa [cutQ] using this)
      go_wp2
      go_ret3
      refine ⟨xret_ssb (xext ?_) (xext ?_) ?_, Below.refl _ _⟩
      · rw [cutA, HR.out]
      · rw [cutR, HR.out]
      · rw [cutB, HR.out]; rfl

end Go.Proofs.YtplabofdcnpcpaaDoor
