/-
  The walks of the document's own answers of chapter 1: ostiaryref1's Blank, Digit, Letter, Lower, Strip, Token, Int.
-/
import Derived.Test.YtiemggepdeaogaaGreatDoorWi
import Derived.Test.YtiemggepdeaogaaGreatDoorWj
import Derived.Test.YtiemggepdeaogaaGreatDoorWl
import Derived.Test.YtiemggepdeaogaaGreatDoorWh
import Derived.Test.YtiemggepdeaogaaGreatDoorPe
import Derived.LoopN
set_option linter.unusedSimpArgs false
set_option linter.unusedVariables false
namespace Go.Proofs.YtiemggepdeaogaaGreatDoor
open Go.RowKit

set_option maxHeartbeats 400000 in
theorem rdigit_any (c : Int) (w : World) :
    Calls Tryz.prog 67 #[.int .u8 c] w fun e w' => e = .returned (.bool (digitI c)) ∧ w = w' := by
  go_enter Tryz.func67, Tryz.ntmps67
  go_wp2
  all_goals
    go_ret
    exact ⟨ret_bool (by rw [Bool.eq_iff_iff]; simp [digitI]; omega), rfl⟩

set_option maxHeartbeats 400000 in
theorem rletter_any (c : Int) (w : World) :
    Calls Tryz.prog 66 #[.int .u8 c] w fun e w' => e = .returned (.bool (letterI c)) ∧ w = w' := by
  go_enter Tryz.func66, Tryz.ntmps66
  go_wp2
  all_goals
    go_ret
    exact ⟨ret_bool (by rw [Bool.eq_iff_iff]; simp [letterI]; omega), rfl⟩

set_option maxHeartbeats 1000000 in
theorem rlower_any (s : ByteArray) (w : World) (hs : s.size ≤ 140737488351232) :
    Calls Tryz.prog 22 #[.string s] w fun e w' => e = .returned (.string ⟨(low s.data.toList).toArray⟩) ∧ Below w.heap.size w w' := by
  have hcv := run_bytes_of_string (P := Tryz.prog) w 9 71 5 s Tryz.underlying9 Tryz.underlying71 Tryz.underlying5
  have hcap := grownCap_ge w s.size 0 5
  have hr0 := rowIs_bytes w 5 s (grownCap w s.size 0 5) hcap
  have hb0 : Below w.heap.size w (w.drew.alloc (.cells (bytesRow s (grownCap w s.size 0 5)) 5 ((bytesRow s (grownCap w s.size 0 5)).size, (bytesRow s (grownCap w s.size 0 5)).size + 1))) := (Below.refl _ w).drew.alloc (Nat.le_refl _) _
  generalize (w.drew.alloc (.cells (bytesRow s (grownCap w s.size 0 5)) 5 ((bytesRow s (grownCap w s.size 0 5)).size, (bytesRow s (grownCap w s.size 0 5)).size + 1))) = w0 at hcv hr0 hb0
  generalize grownCap w s.size 0 5 = cap at hcv hcap
  go_enter Tryz.func22, Tryz.ntmps22
  go_wp2
  clear hcv
  go_loopw [4] (fun i wr => ∃ k : Nat, k ≤ s.size ∧ i = .int .i64 k ∧ rowIs wr w.heap.size 5 (lowTo s.data.toList k) ∧ Below w.heap.size w wr)
    (fun i _ => s.size - (intOf i).toNat)
  case atStart => exact ⟨0, Nat.zero_le _, rfl, by rw [lowTo_zero]; exact hr0, hb0⟩
  case round =>
    obtain ⟨k, hk, rfl, hr, hbw⟩ := hrel
    by_cases hlt : k < s.size
    · have hl : k < s.data.toList.length := by simpa using hlt
      have hl' : k < (lowTo s.data.toList k).length := by rw [lowTo_length]; exact hl
      have hc := hr.cell k hl'
      rw [lowTo_at _ _ hl] at hc
      have hf := hr.frozen k hl'
      have hsucc := lowTo_succ s.data.toList k hl
      have hat := lowTo_at s.data.toList k hl hl'
      generalize s.data.toList[k] = c at hc hsucc hat
      have HS := hid hsucc
      have HAt := hid hat
      clear hsucc hat
      have hc8 : c.toNat < 256 := c.toNat_lt
      by_cases hu : 65 ≤ c.toNat ∧ c.toNat ≤ 90
      · have h1 : (65 : Int) ≤ (c.toNat : Int) := by omega
        have h2 : (c.toNat : Int) ≤ 90 := by omega
        have HL := hid (lowC_yes c hu)
        clear hu
        go_wp2
        go_roundw
        case rel =>
          refine ⟨k + 1, by omega, by go_num, ?_, hbw.setCell (p := ⟨w.heap.size, k, none⟩) (Nat.le_refl _) _⟩
          rw [HS.out, ← HL.out]
          exact hr.set k _
        case measure => simp [intOf]; omega
      · have HL := hid (lowC_no c hu)
        have hu' : (c.toNat : Int) < 65 ∨ 90 < (c.toNat : Int) := by omega
        clear hu
        rcases hu' with h1 | h1
        all_goals
          go_wp2
          go_roundw
          case rel =>
            refine ⟨k + 1, by omega, by go_num, ?_, hbw⟩
            have e : lowC c = (lowTo s.data.toList k)[k] := by rw [HL.out, HAt.out]
            rw [HS.out, e, List.set_getElem_self]
            exact hr
          case measure => simp [intOf]; omega
    · have hk' : k = s.data.toList.length := by simp; omega
      have hr' : rowIs wr w.heap.size 5 (low s.data.toList) := by rw [← lowTo_all, ← hk']; exact hr
      clear hr hk'
      have hcv := hr'.string (P := Tryz.prog) (src := 71) (dst := 9) (cap := cap) Tryz.underlying71 Tryz.underlying5 Tryz.underlying9
      rw [show (low s.data.toList).length = s.size by simp [low]] at hcv
      go_wp2
      go_ret
      exact ⟨rfl, hbw⟩

def strN : Value → Nat
  | .string s => s.size
  | _ => 0

theorem data_ext {t u : ByteArray} (h : t.data.toList = u.data.toList) : t = u := by
  apply ByteArray.ext
  exact Array.toList_inj.1 h

theorem extract_one (t : ByteArray) (h : 0 < t.size) : t.data.toList = t[0] :: (t.extract 1 t.size).data.toList := by
  rw [extract_drop]
  have := drop_cons t 0 h
  simpa using this

theorem extract_last (u : ByteArray) (h : u.size - 1 < u.size) : u.data.toList = (u.extract 0 (u.size - 1)).data.toList ++ [u[u.size - 1]] := by
  rw [Lib.extract_data]
  have := take_snoc u (u.size - 1) h
  rw [take_all u (u.size - 1 + 1) (by omega)] at this
  simpa using this

theorem strip_ref (s A M B : List UInt8) (e : s = A ++ M ++ B) (hA : A.all blC = true) (hB : B.all blC = true) (h : M = [] ∨ (∃ c r, M = c :: r ∧ blC c = false) ∧ ∃ r c, M = r ++ [c] ∧ blC c = false) : M = strip s := by
  rw [e, strip_parts A M B hA hB h]

def signsL : List UInt8 := [33, 35, 36, 37, 38, 39, 42, 43, 45, 46, 94, 95, 96, 124, 126]

/-- The first k signs, or a letter, or a digit. -/
def tokTo (c : Int) (k : Nat) : Bool := (letterI c || digitI c) || (signsL.take k).any fun x => c == (x.toNat : Int)

theorem tokTo_zero (c : Int) : tokTo c 0 = (letterI c || digitI c) := by simp [tokTo]

theorem tokTo_all (c : Int) : tokTo c 15 = tokI c := by
  have : signsL.take 15 = signsL := rfl
  unfold tokTo tokI signI
  rw [this]
  simp only [signsL, List.any_cons, List.any_nil, Bool.or_false]
  rw [Bool.or_comm]
  rfl

theorem tokTo_succ (c : Int) (k : Nat) (h : k < (ByteArray.mk #[33, 35, 36, 37, 38, 39, 42, 43, 45, 46, 94, 95, 96, 124, 126]).size) : tokTo c (k + 1) = (tokTo c k || c == ((ByteArray.mk #[33, 35, 36, 37, 38, 39, 42, 43, 45, 46, 94, 95, 96, 124, 126])[k].toNat : Int)) := by
  have h' : k < signsL.length := h
  unfold tokTo
  rw [List.take_succ_eq_append_getElem h', List.any_append, Bool.or_assoc]
  have e : [signsL[k]].any (fun x => c == (x.toNat : Int)) = (c == (signsL[k].toNat : Int)) := by simp
  rw [e]
  simp only [Bool.or_assoc]
  rfl

set_option maxHeartbeats 1000000 in
theorem rtoken_any (s : ByteArray) (w : World) (hs : s.size ≤ 140737488351232) :
    Calls Tryz.prog 40 #[.string s] w fun e w' => e = .returned (.bool (tokL s.data.toList)) ∧ w = w' := by
  have hs15 : (ByteArray.mk #[33, 35, 36, 37, 38, 39, 42, 43, 45, 46, 94, 95, 96, 124, 126]).size = 15 := rfl
  go_enter Tryz.func40, Tryz.ntmps40
  go_wp2
  go_loop [3] (fun i => ∃ k : Nat, k ≤ s.size ∧ i = .int .i64 k ∧ (s.data.toList.take k).all tokC = true) (fun i => s.size - (intOf i).toNat)
  case atStart => exact ⟨0, Nat.zero_le _, rfl, rfl⟩
  case round =>
    obtain ⟨k, hk, rfl, hall⟩ := hrel
    have HA := hid hall
    clear hall
    by_cases hlt : k < s.size
    · have HT := hid (take_snoc s k hlt)
      obtain ⟨z, hz⟩ : ∃ z, z = (letterI (s[k].toNat : Int) || digitI (s[k].toNat : Int)) := ⟨_, rfl⟩
      have hlet : letterI (s[k].toNat : Int) = true ∨ letterI (s[k].toNat : Int) = false := by cases letterI (s[k].toNat : Int) <;> simp
      rcases hlet with hlet | hlet
      all_goals
        go_wp2_with (first | (go_at_call 66; refine (rletter_any _ _).mono ?_; rintro e w' ⟨rfl, rfl⟩) | (go_at_call 67; refine (rdigit_any _ _).mono ?_; rintro e w' ⟨rfl, rfl⟩))
        go_loop [5, 6] (fun o j => ∃ m : Nat, m ≤ 15 ∧ j = .int .i64 m ∧ o = .bool (tokTo (s[k].toNat : Int) m)) (fun _ j => 15 - (intOf j).toNat)
        case atStart => exact ⟨0, by omega, rfl, by rw [tokTo_zero]; simp [hlet]⟩
        case round =>
          obtain ⟨m, hm, rfl, rfl⟩ := hrel
          by_cases hm15 : m < 15
          · have HS := hid (tokTo_succ (s[k].toNat : Int) m (by rw [hs15]; exact hm15))
            have hot : tokTo (s[k].toNat : Int) m = true ∨ tokTo (s[k].toNat : Int) m = false := by cases tokTo (s[k].toNat : Int) m <;> simp
            rcases hot with hot | hot
            all_goals
              go_wp2
              go_round
              case rel => exact ⟨m + 1, by omega, by go_num, by rw [HS.out, hot]; simp⟩
              case measure => simp [intOf]; omega
          · obtain rfl : m = 15 := by omega
            have hall := tokTo_all (s[k].toNat : Int)
            by_cases ht : tokI (s[k].toNat : Int) = true
            · rw [ht] at hall
              go_wp2
              go_round
              case rel => exact ⟨k + 1, by omega, by go_num, by rw [HT.out, List.all_append, HA.out]; simp [tokC, ht]⟩
              case measure => simp [intOf]; omega
            · have ht' : tokI (s[k].toNat : Int) = false := by simpa using ht
              rw [ht'] at hall
              go_wp2
              go_ret
              refine ⟨ret_bool ?_, rfl⟩
              have : s.data.toList.all tokC = false := by
                rw [List.all_eq_false]
                refine ⟨s[k], ?_, by simp [tokC, ht']⟩
                have : s[k] = s.data.toList[k]'(by simpa using hlt) := rfl
                rw [this]; exact List.getElem_mem _
              simp [tokL, this]
    · have ha := HA.out
      rw [take_all s k hlt] at ha
      have HA2 := hid ha
      clear ha
      go_wp2
      go_ret
      refine ⟨ret_bool ?_, rfl⟩
      by_cases h0 : 0 < s.size
      · have h1 : s.data.toList.isEmpty = false := by
          rw [List.isEmpty_eq_false_iff]
          intro h
          have h5 : s.data.toList.length = 0 := by rw [h]; rfl
          rw [← Lib.size_eq] at h5
          omega
        simp [tokL, HA2.out, h1, h0]
      · have h1 : s.data.toList = [] := List.eq_nil_of_length_eq_zero (by rw [← Lib.size_eq]; omega)
        have h2 : tokL s.data.toList = false := by rw [h1]; rfl
        rw [h2]
        simp only [decide_eq_false_iff_not]
        omega

end Go.Proofs.YtiemggepdeaogaaGreatDoor
