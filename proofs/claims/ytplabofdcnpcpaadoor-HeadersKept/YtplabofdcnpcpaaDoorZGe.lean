/-
  The walks of package infra's functions on single bytes.
  The walks of infra.Lower and infra.Strip.
  The walk of infra.Int.
  The walk of infra.Strip.
  The walk of infra.Token.
-/
import Derived.Test.YtplabofdcnpcpaaDoorProg
import Derived.Test.YtplabofdcnpcpaaDoorZGa
import Derived.WalkKit
import Derived.WalkSpells
import Derived.WalkLawsBesides
set_option linter.unusedSimpArgs false
set_option linter.unusedVariables false
namespace Go.Proofs.YtplabofdcnpcpaaDoor
open Go.RowKit

set_option maxHeartbeats 400000 in
theorem blank_any (c : Int) (w : World) :
    Calls Tryd.prog 109 #[.int .u8 c] w fun e w' => e = .returned (.bool (blankI c)) ∧ w = w' := by
  go_enter Tryd.func109, Tryd.ntmps109
  go_wp2
  all_goals
    go_ret
    exact ⟨ret_bool (by simp [blankI, *]), rfl⟩

set_option maxHeartbeats 400000 in
theorem digit_any (c : Int) (w : World) :
    Calls Tryd.prog 98 #[.int .u8 c] w fun e w' => e = .returned (.bool (digitI c)) ∧ w = w' := by
  go_enter Tryd.func98, Tryd.ntmps98
  go_wp2
  all_goals
    go_ret
    exact ⟨ret_bool (by rw [Bool.eq_iff_iff]; simp [digitI]; omega), rfl⟩

set_option maxHeartbeats 400000 in
theorem letter_any (c : Int) (w : World) :
    Calls Tryd.prog 97 #[.int .u8 c] w fun e w' => e = .returned (.bool (letterI c)) ∧ w = w' := by
  go_enter Tryd.func97, Tryd.ntmps97
  go_wp2
  all_goals
    go_ret
    exact ⟨ret_bool (by rw [Bool.eq_iff_iff]; simp [letterI]; omega), rfl⟩

set_option maxHeartbeats 1000000 in
theorem tokenByte_any (c : Int) (w : World) :
    Calls Tryd.prog 72 #[.int .u8 c] w fun e w' => e = .returned (.bool (tokI c)) ∧ w = w' := by
  go_enter Tryd.func72, Tryd.ntmps72
  go_wp2_with (first | (go_at_call 97; refine (letter_any _ _).mono ?_; rintro e w' ⟨rfl, rfl⟩) | (go_at_call 98; refine (digit_any _ _).mono ?_; rintro e w' ⟨rfl, rfl⟩))
  all_goals
    go_ret
    exact ⟨ret_bool (by simp [tokI, signI, *]), rfl⟩

end Go.Proofs.YtplabofdcnpcpaaDoor

namespace Go.Proofs.YtplabofdcnpcpaaDoor
open Go.RowKit

set_option maxHeartbeats 1000000 in
theorem lower_any (s : ByteArray) (w : World) (hs : s.size ≤ 140737488351232) :
    Calls Tryd.prog 33 #[.string s] w fun e w' => e = .returned (.string ⟨(low s.data.toList).toArray⟩) ∧ Below w.heap.size w w' := by
  have hcv := run_bytes_of_string (P := Tryd.prog) w 9 83 5 s Tryd.underlying9 Tryd.underlying83 Tryd.underlying5
  have hcap := grownCap_ge w s.size 0 5
  have hr0 := rowIs_bytes w 5 s (grownCap w s.size 0 5) hcap
  have hb0 : Below w.heap.size w (w.drew.alloc (.cells (bytesRow s (grownCap w s.size 0 5)) 5 ((bytesRow s (grownCap w s.size 0 5)).size, (bytesRow s (grownCap w s.size 0 5)).size + 1))) := (Below.refl _ w).drew.alloc (Nat.le_refl _) _
  generalize (w.drew.alloc (.cells (bytesRow s (grownCap w s.size 0 5)) 5 ((bytesRow s (grownCap w s.size 0 5)).size, (bytesRow s (grownCap w s.size 0 5)).size + 1))) = w0 at hcv hr0 hb0
  generalize grownCap w s.size 0 5 = cap at hcv hcap
  go_enter Tryd.func33, Tryd.ntmps33
  go_wp2
  clear hcv
  go_loopw [10] (fun i wr => ∃ k : Nat, k ≤ s.size ∧ i = .int .i64 k ∧ rowIs wr w.heap.size 5 (lowTo s.data.toList k) ∧ Below w.heap.size w wr)
    (fun i _ => s.size - (intOf i).toNat)
  case atStart => exact ⟨0, Nat.zero_le _, rfl, by rw [lowTo_zero]; exact hr0, hb0⟩
  case round =>
    obtain ⟨k, hk, rfl, hr, hbw⟩ := hrel
    by_cases hlt : k < s.size
    · have hl : k < s.data.toList.length := by simpa using hlt
      have hl' : k < (lowTo s.data.toList k).length := by rw [lowTo_length]; exact hl
      have hc := hr.cell k hl'
      rw [lowTo_at _ _ hl] at hc
      have hf := hr.frozen k hl'
      have hsucc := lowTo_succ s.data.toList k hl
      have hat := lowTo_at s.data.toList k hl hl'
      generalize s.data.toList[k] = c at hc hsucc hat
      have HS := hid hsucc
      have HAt := hid hat
      clear hsucc hat
      have hc8 : c.toNat < 256 := c.toNat_lt
      by_cases hu : 65 ≤ c.toNat ∧ c.toNat ≤ 90
      · have h1 : (65 : Int) ≤ (c.toNat : Int) := by omega
        have h2 : (c.toNat : Int) ≤ 90 := by omega
        have HL := hid (lowC_yes c hu)
        clear hu
        go_wp2
        go_roundw
        case rel =>
          refine ⟨k + 1, by omega, by go_num, ?_, hbw.setCell (p := ⟨w.heap.size, k, none⟩) (Nat.le_refl _) _⟩
          rw [HS.out, ← HL.out]
          exact hr.set k _
        case measure => simp [intOf]; omega
      · have HL := hid (lowC_no c hu)
        have hu' : (c.toNat : Int) < 65 ∨ 90 < (c.toNat : Int) := by omega
        clear hu
        rcases hu' with h1 | h1
        all_goals
          go_wp2
          go_roundw
          case rel =>
            refine ⟨k + 1, by omega, by go_num, ?_, hbw⟩
            have e : lowC c = (lowTo s.data.toList k)[k] := by rw [HL.out, HAt.out]
            rw [HS.out, e, List.set_getElem_self]
            exact hr
          case measure => simp [intOf]; omega
    · have hk' : k = s.data.toList.length := by simp; omega
      have hr' : rowIs wr w.heap.size 5 (low s.data.toList) := by rw [← lowTo_all, ← hk']; exact hr
      clear hr hk'
      have hcv := hr'.string (P := Tryd.prog) (src := 83) (dst := 9) (cap := cap) Tryd.underlying83 Tryd.underlying5 Tryd.underlying9
      rw [show (low s.data.toList).length = s.size by simp [low]] at hcv
      go_wp2
      go_ret
      exact ⟨rfl, hbw⟩

end Go.Proofs.YtplabofdcnpcpaaDoor

namespace Go.Proofs.YtplabofdcnpcpaaDoor
open Go.RowKit

set_option maxHeartbeats 400000 in
theorem timesTenAnd_any (n d : Int) (w : World) (h0 : 0 ≤ n) (h1 : n ≤ 9223372036854775807) (h2 : 0 ≤ d) (h3 : d ≤ 9) :
    Calls Tryd.prog 124 #[.int .i64 n, .int .i64 d] w fun e w' => e = .returned (.int .i64 (ten n d)) ∧ w = w' := by
  by_cases h : (9223372036854775807 - d) / 10 < n
  · have HT := hid (show ten n d = 9223372036854775807 by unfold ten; rw [if_pos h])
    go_enter Tryd.func124, Tryd.ntmps124
    go_wp2
    go_ret
    exact ⟨ret_int HT.out.symm, rfl⟩
  · have HT := hid (show ten n d = n * 10 + d by unfold ten; rw [if_neg h])
    have h' : n ≤ (9223372036854775807 - d) / 10 := by omega
    clear h
    go_enter Tryd.func124, Tryd.ntmps124
    go_wp2
    go_ret
    exact ⟨ret_int HT.out.symm, rfl⟩

set_option maxHeartbeats 1000000 in
theorem int_any (s : ByteArray) (w : World) (hs : s.size ≤ 140737488351232) :
    Calls Tryd.prog 111 #[.string s] w fun e w' => e = .returned (.tuple #[.int .i64 (intV s.data.toList), .bool (intOk s.data.toList)]) ∧ w = w' := by
  by_cases he : s.size = 0
  · have hl : s.data.toList = [] := List.eq_nil_of_length_eq_zero (by simpa using he)
    have he' : s.toList.isEmpty = true := by rw [Lib.toList_data, hl]; rfl
    have HV := hid (show intV s.data.toList = 0 by rw [hl]; rfl)
    have HO := hid (show intOk s.data.toList = false by rw [hl]; rfl)
    clear hl
    go_enter Tryd.func111, Tryd.ntmps111
    go_wp2
    go_ret2
    exact ⟨ret_ib HV.out.symm HO.out.symm, rfl⟩
  · have hl : s.data.toList.isEmpty = false := by
      rw [List.isEmpty_eq_false_iff]
      intro h
      apply he
      have := congrArg List.length h
      simpa using this
    have he' : s.toList.isEmpty = false := by rw [Lib.toList_data, hl]
    have HL := hid hl
    clear hl
    go_enter Tryd.func111, Tryd.ntmps111
    go_wp2
    go_loop [4, 10] (fun n i => ∃ k : Nat, k ≤ s.size ∧ i = .int .i64 k ∧ (s.data.toList.take k).all digP = true ∧ n = .int .i64 (numI (s.data.toList.take k))) (fun _ i => s.size - (intOf i).toNat)
    case atStart => exact ⟨0, Nat.zero_le _, rfl, rfl, rfl⟩
    case round =>
      obtain ⟨k, hk, rfl, hall, rfl⟩ := hrel
      have hr := numI_range _ hall
      have HA := hid hall
      clear hall
      by_cases hlt : k < s.size
      · have HT := hid (take_snoc s k hlt)
        have HN := hid (numI_snoc (s.data.toList.take k) s[k])
        generalize numI (s.data.toList.take k) = n at *
        by_cases hd : digitI (s[k].toNat : Int) = true
        · have hd2 : 48 ≤ (s[k].toNat : Int) ∧ (s[k].toNat : Int) ≤ 57 := by simp [digitI] at hd; omega
          obtain ⟨hd3, hd4⟩ := hd2
          go_wp2_with (first | (go_at_call 98; refine (digit_any _ _).mono ?_; rintro e w' ⟨rfl, rfl⟩) | (go_at_call 124; refine (timesTenAnd_any _ _ _ (by omega) (by omega) (by omega) (by omega)).mono ?_; rintro e w' ⟨rfl, rfl⟩))
          go_round
          case rel => exact ⟨k + 1, by omega, by go_num, by rw [HT.out, List.all_append, HA.out]; simp [digP, hd], by rw [HT.out, HN.out]⟩
          case measure => simp [intOf]; omega
        · have hd' : digitI (s[k].toNat : Int) = false := by simpa using hd
          clear hd
          go_wp2_with (go_at_call 98; refine (digit_any _ _).mono ?_; rintro e w' ⟨rfl, rfl⟩)
          go_ret2
          have : s.data.toList.all digP = false := by
            rw [List.all_eq_false]
            refine ⟨s[k], ?_, by simp [digP, hd']⟩
            have : s[k] = s.data.toList[k]'(by simpa using hlt) := rfl
            rw [this]; exact List.getElem_mem _
          exact ⟨ret_ib (by simp [intV, this]) (by simp [intOk, this]), rfl⟩
      · have ha := HA.out
        rw [take_all s k hlt] at ha ⊢
        have ha' := hid ha
        clear ha
        go_wp2
        go_ret2
        exact ⟨ret_ib (by simp [intV, ha'.out, HL.out]) (by simp [intOk, ha'.out, HL.out]), rfl⟩

end Go.Proofs.YtplabofdcnpcpaaDoor

namespace Go.Proofs.YtplabofdcnpcpaaDoor
open Go.RowKit

theorem ret_str {l : List UInt8} {t : ByteArray} (h : t.data.toList = l) : Ending.returned (.string t) = .returned (.string ⟨l.toArray⟩) := by
  rw [← h]

theorem strip_extract (s : ByteArray) (k m : Nat) (hkm : k ≤ m) (hm : m ≤ s.size) (hA : (s.data.toList.take k).all blC = true) (hB : (s.data.toList.drop m).all blC = true)
    (h : k = m ∨ ∃ h1 : k < s.size, ∃ h2 : m - 1 < s.size, k < m ∧ blankI (s[k].toNat : Int) = false ∧ blankI (s[m - 1].toNat : Int) = false) : (s.extract k m).data.toList = strip s.data.toList := by
  rw [Lib.extract_data, strip_between s.data.toList k m hkm (by simpa using hm) hA hB ?_, List.drop_take]
  rcases h with h | ⟨h1, h2, h3, c1, c2⟩
  · exact .inl h
  · exact .inr ⟨by simpa using h1, by simpa using h2, h3, c1, c2⟩

set_option maxHeartbeats 1000000 in
theorem strip_any (s : ByteArray) (w : World) (hs : s.size ≤ 140737488351232) :
    Calls Tryd.prog 90 #[.string s] w fun e w' => e = .returned (.string ⟨(strip s.data.toList).toArray⟩) ∧ w = w' := by
  go_enter Tryd.func90, Tryd.ntmps90
  go_wp2
  go_loop [3] (fun f => ∃ k : Nat, k ≤ s.size ∧ f = .int .i64 k ∧ (s.data.toList.take k).all blC = true) (fun f => s.size - (intOf f).toNat)
  case atStart => exact ⟨0, Nat.zero_le _, rfl, rfl⟩
  case round =>
    obtain ⟨k, hk, rfl, hall⟩ := hrel
    have HA := hid hall
    clear hall
    by_cases hc : ∃ hlt : k < s.size, blankI (s[k].toNat : Int) = true
    · obtain ⟨hlt, hbl⟩ := hc
      have HT := hid (take_snoc s k hlt)
      go_wp2_with (go_at_call 109; refine (blank_any _ _).mono ?_; rintro e w' ⟨rfl, rfl⟩)
      go_round
      case rel => exact ⟨k + 1, by omega, by go_num, by rw [HT.out, List.all_append, HA.out]; simp [blC, hbl]⟩
      case measure => simp [intOf]; omega
    · have hkN : k = s.size ∨ ∃ hlt : k < s.size, blankI (s[k].toNat : Int) = false := by
        by_cases hlt : k < s.size
        · right; exact ⟨hlt, by
            have := fun h => hc ⟨hlt, h⟩
            simpa using this⟩
        · left; omega
      have HK := hid hkN
      clear hc
      have hsplit : (k < s.size → False) ∨ ∃ hlt : k < s.size, blankI (s[k].toNat : Int) = false := by
        rcases hkN with h | h
        · left; intro; omega
        · right; exact h
      clear hkN
      rcases hsplit with hge | ⟨hlt, hbl⟩
      · have hge : ¬ k < s.size := hge
        obtain rfl : k = s.size := by omega
        go_wp2
        go_loop [4] (fun t => ∃ m : Nat, s.size ≤ m ∧ m ≤ s.size ∧ t = .int .i64 m ∧ (s.data.toList.drop m).all blC = true) (fun t => (intOf t).toNat)
        case atStart => exact ⟨s.size, Nat.le_refl _, Nat.le_refl _, rfl, by rw [drop_none s s.size (by omega)]; rfl⟩
        case round =>
          obtain ⟨m, hkm, hm, rfl, hallB⟩ := hrel
          have HB := hid hallB
          clear hallB
          by_cases hkm2 : s.size < m
          · exact absurd hkm2 (by omega)
          · obtain rfl : m = s.size := by omega
            go_wp2
            go_ret
            refine ⟨ret_str (by have := strip_extract s s.size s.size (Nat.le_refl _) (by omega) HA.out HB.out (.inl rfl); simpa using this), rfl⟩
      · go_wp2_with (go_at_call 109; refine (blank_any _ _).mono ?_; rintro e w' ⟨rfl, rfl⟩)
        go_loop [4] (fun t => ∃ m : Nat, k ≤ m ∧ m ≤ s.size ∧ t = .int .i64 m ∧ (s.data.toList.drop m).all blC = true) (fun t => (intOf t).toNat)
        case atStart => exact ⟨s.size, by omega, Nat.le_refl _, rfl, by rw [drop_none s s.size (by omega)]; rfl⟩
        case round =>
          obtain ⟨m, hkm, hm, rfl, hallB⟩ := hrel
          have HB := hid hallB
          clear hallB
          by_cases hkm2 : k < m
          · obtain ⟨q, rfl⟩ : ∃ q, m = q + 1 := ⟨m - 1, by omega⟩
            have hq : q < s.size := by omega
            have HD := hid (drop_cons s q hq)
            by_cases hbq : blankI (s[q].toNat : Int) = true
            · go_wp2_with (go_at_call 109; refine (blank_any _ _).mono ?_; rintro e w' ⟨rfl, rfl⟩)
              go_round
              case rel => exact ⟨q, by omega, by omega, by go_num, by rw [HD.out, List.all_cons, HB.out]; simp [blC, hbq]⟩
              case measure => simp [intOf]
            · have hbq' : blankI (s[q].toNat : Int) = false := by simpa using hbq
              clear hbq
              go_wp2_with (go_at_call 109; refine (blank_any _ _).mono ?_; rintro e w' ⟨rfl, rfl⟩)
              go_ret
              refine ⟨ret_str (strip_extract s k (q + 1) (by omega) (by omega) HA.out HB.out (.inr ⟨hlt, hq, by omega, hbl, hbq'⟩)), rfl⟩
          · obtain rfl : m = k := by omega
            go_wp2
            go_ret
            refine ⟨ret_str (by have := strip_extract s m m (Nat.le_refl _) (by omega) HA.out HB.out (.inl rfl); simpa using this), rfl⟩

end Go.Proofs.YtplabofdcnpcpaaDoor

namespace Go.Proofs.YtplabofdcnpcpaaDoor
open Go.RowKit

def tokC (c : UInt8) : Bool := tokI c.toNat
/-- Not empty, and each byte one of a token's. -/
def tokL (l : List UInt8) : Bool := l.all tokC && !l.isEmpty

set_option maxHeartbeats 400000 in
theorem token_any (s : ByteArray) (w : World) (hs : s.size ≤ 140737488351232) :
    Calls Tryd.prog 46 #[.string s] w fun e w' => e = .returned (.bool (tokL s.data.toList)) ∧ w = w' := by
  go_enter Tryd.func46, Tryd.ntmps46
  go_wp2
  go_loop [6] (fun i => ∃ k : Nat, k ≤ s.size ∧ i = .int .i64 k ∧ (s.data.toList.take k).all tokC = true) (fun i => s.size - (intOf i).toNat)
  case atStart => exact ⟨0, Nat.zero_le _, rfl, rfl⟩
  case round =>
    obtain ⟨k, hk, rfl, hall⟩ := hrel
    have HA := hid hall
    clear hall
    by_cases hlt : k < s.size
    · have HT := hid (take_snoc s k hlt)
      by_cases ht : tokI (s[k].toNat : Int) = true
      · go_wp2_with (go_at_call 72; refine (tokenByte_any _ _).mono ?_; rintro e w' ⟨rfl, rfl⟩)
        go_round
        case rel => exact ⟨k + 1, by omega, by go_num, by rw [HT.out, List.all_append, HA.out]; simp [tokC, ht]⟩
        case measure => simp [intOf]; omega
      · have ht' : tokI (s[k].toNat : Int) = false := by simpa using ht
        clear ht
        go_wp2_with (go_at_call 72; refine (tokenByte_any _ _).mono ?_; rintro e w' ⟨rfl, rfl⟩)
        go_ret
        refine ⟨ret_bool ?_, rfl⟩
        have : s.data.toList.all tokC = false := by
          rw [List.all_eq_false]
          refine ⟨s[k], ?_, by simp [tokC, ht']⟩
          have : s[k] = s.data.toList[k]'(by simpa using hlt) := rfl
          rw [this]; exact List.getElem_mem _
        simp [tokL, this]
    · have ha := HA.out
      rw [take_all s k hlt] at ha
      go_wp2
      go_ret
      exact ⟨ret_bool (by rw [Lib.toList_data]; simp [tokL, ha]), rfl⟩

end Go.Proofs.YtplabofdcnpcpaaDoor
