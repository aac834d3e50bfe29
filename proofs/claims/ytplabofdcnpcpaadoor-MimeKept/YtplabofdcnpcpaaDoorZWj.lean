/-
  The walk of infra.Strip. 
-/
import Derived.Test.YtplabofdcnpcpaaDoorZWa
import Derived.Test.YtplabofdcnpcpaaDoorZGa
set_option linter.unusedSimpArgs false
set_option linter.unusedVariables false
namespace Go.Proofs.YtplabofdcnpcpaaDoor
open Go.RowKit

theorem ret_str {l : List UInt8} {t : ByteArray} (h : t.data.toList = l) : Ending.returned (.string t) = .returned (.string ⟨l.toArray⟩) := by
  rw [← h]

theorem strip_extract (s : ByteArray) (k m : Nat) (hkm : k ≤ m) (hm : m ≤ s.size) (hA : (s.data.toList.take k).all blC = true) (hB : (s.data.toList.drop m).all blC = true)
    (h : k = m ∨ ∃ h1 : k < s.size, ∃ h2 : m - 1 < s.size, k < m ∧ blankI (s[k].toNat : Int) = false ∧ blankI (s[m - 1].toNat : Int) = false) : (s.extract k m).data.toList = strip s.data.toList := by
  rw [Lib.extract_data, strip_between s.data.toList k m hkm (by simpa using hm) hA hB ?_, List.drop_take]
  rcases h with h | ⟨h1, h2, h3, c1, c2⟩
  · exact .inl h
  · exact .inr ⟨by simpa using h1, by simpa using h2, h3, c1, c2⟩

set_option maxHeartbeats 1000000 in
theorem strip_any (s : ByteArray) (w : World) (hs : s.size ≤ 140737488351232) :
    Calls Tryd.prog 90 #[.string s] w fun e w' => e = .returned (.string ⟨(strip s.data.toList).toArray⟩) ∧ w = w' := by
  go_enter Tryd.func90, Tryd.ntmps90
  go_wp2
  go_loop [3] (fun f => ∃ k : Nat, k ≤ s.size ∧ f = .int .i64 k ∧ (s.data.toList.take k).all blC = true) (fun f => s.size - (intOf f).toNat)
  case atStart => exact ⟨0, Nat.zero_le _, rfl, rfl⟩
  case round =>
    obtain ⟨k, hk, rfl, hall⟩ := hrel
    have HA := hid hall
    clear hall
    by_cases hc : ∃ hlt : k < s.size, blankI (s[k].toNat : Int) = true
    · obtain ⟨hlt, hbl⟩ := hc
      have HT := hid (take_snoc s k hlt)
      go_wp2_with (go_at_call 109; refine (blank_any _ _).mono ?_; rintro e w' ⟨rfl, rfl⟩)
      go_round
      case rel => exact ⟨k + 1, by omega, by go_num, by rw [HT.out, List.all_append, HA.out]; simp [blC, hbl]⟩
      case measure => simp [intOf]; omega
    · have hkN : k = s.size ∨ ∃ hlt : k < s.size, blankI (s[k].toNat : Int) = false := by
        by_cases hlt : k < s.size
        · right; exact ⟨hlt, by
            have := fun h => hc ⟨hlt, h⟩
            simpa using this⟩
        · left; omega
      have HK := hid hkN
      clear hc
      have hsplit : (k < s.size → False) ∨ ∃ hlt : k < s.size, blankI (s[k].toNat : Int) = false := by
        rcases hkN with h | h
        · left; intro; omega
        · right; exact h
      clear hkN
      rcases hsplit with hge | ⟨hlt, hbl⟩
      · have hge : ¬ k < s.size := hge
        obtain rfl : k = s.size := by omega
        go_wp2
        go_loop [4] (fun t => ∃ m : Nat, s.size ≤ m ∧ m ≤ s.size ∧ t = .int .i64 m ∧ (s.data.toList.drop m).all blC = true) (fun t => (intOf t).toNat)
        case atStart => exact ⟨s.size, Nat.le_refl _, Nat.le_refl _, rfl, by rw [drop_none s s.size (by omega)]; rfl⟩
        case round =>
          obtain ⟨m, hkm, hm, rfl, hallB⟩ := hrel
          have HB := hid hallB
          clear hallB
          by_cases hkm2 : s.size < m
          · exact absurd hkm2 (by omega)
          · obtain rfl : m = s.size := by omega
            go_wp2
            go_ret
            refine ⟨ret_str (by have := strip_extract s s.size s.size (Nat.le_refl _) (by omega) HA.out HB.out (.inl rfl); simpa using this), rfl⟩
      · go_wp2_with (go_at_call 109; refine (blank_any _ _).mono ?_; rintro e w' ⟨rfl, rfl⟩)
        go_loop [4] (fun t => ∃ m : Nat, k ≤ m ∧ m ≤ s.size ∧ t = .int .i64 m ∧ (s.data.toList.drop m).all blC = true) (fun t => (intOf t).toNat)
        case atStart => exact ⟨s.size, by omega, Nat.le_refl _, rfl, by rw [drop_none s s.size (by omega)]; rfl⟩
        case round =>
          obtain ⟨m, hkm, hm, rfl, hallB⟩ := hrel
          have HB := hid hallB
          clear hallB
          by_cases hkm2 : k < m
          · obtain ⟨q, rfl⟩ : ∃ q, m = q + 1 := ⟨m - 1, by omega⟩
            have hq : q < s.size := by omega
            have HD := hid (drop_cons s q hq)
            by_cases hbq : blankI (s[q].toNat : Int) = true
            · go_wp2_with (go_at_call 109; refine (blank_any _ _).mono ?_; rintro e w' ⟨rfl, rfl⟩)
              go_round
              case rel => exact ⟨q, by omega, by omega, by go_num, by rw [HD.out, List.all_cons, HB.out]; simp [blC, hbq]⟩
              case measure => simp [intOf]
            · have hbq' : blankI (s[q].toNat : Int) = false := by simpa using hbq
              clear hbq
              go_wp2_with (go_at_call 109; refine (blank_any _ _).mono ?_; rintro e w' ⟨rfl, rfl⟩)
              go_ret
              refine ⟨ret_str (strip_extract s k (q + 1) (by omega) (by omega) HA.out HB.out (.inr ⟨hlt, hq, by omega, hbl, hbq'⟩)), rfl⟩
          · obtain rfl : m = k := by omega
            go_wp2
            go_ret
            refine ⟨ret_str (by have := strip_extract s m m (Nat.le_refl _) (by omega) HA.out HB.out (.inl rfl); simpa using this), rfl⟩

end Go.Proofs.YtplabofdcnpcpaaDoor
