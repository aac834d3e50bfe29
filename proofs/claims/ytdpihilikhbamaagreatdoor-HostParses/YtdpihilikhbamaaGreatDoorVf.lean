/-
  The walks of host.isForbidden, nameBytes, coded, parseOther and parseName.
-/
import Derived.Test.YtdpihilikhbamaaGreatDoorVe
import Derived.Test.YtdpihilikhbamaaGreatDoorWf
set_option linter.unusedSimpArgs false
set_option linter.unusedVariables false
namespace Go.Proofs.YtdpihilikhbamaaGreatDoor
open Go.RowKit

set_option maxHeartbeats 400000 in
theorem isForbidden_any (c : UInt8) (w : World) :
    Calls Tryz.prog 52 #[.int .u8 c.toNat] w fun e w' => e = .returned (.bool (forb c)) ∧ w = w' := by
  have e1 : ((c.toNat : Int)).toNat.toUInt8 = c := by simp
  have HE := hid e1
  clear e1
  have HF := hid (show forb c = decide (0 ≤ Lib.indexByte forbL c) from rfl)
  go_enter Tryz.func52, Tryz.ntmps52
  go_wp2_with (go_at_call 72; refine (Tryz.strings_IndexByte _ _ _).mono ?_; rintro e w' ⟨rfl, rfl⟩; rw [HE.out, show (⟨#[0, 9, 10, 13, 32, 35, 47, 58, 60, 62, 63, 64, 91, 92, 93, 94, 124]⟩ : ByteArray).data.toList = forbL from rfl])
  go_ret
  rw [HF.out]
  exact ⟨rfl, rfl⟩

theorem all_at {p : UInt8 → Bool} (s : ByteArray) (k : Nat) (h : k < s.size) (hp : p s[k] = false) : s.data.toList.all p = false := by
  rw [List.all_eq_false]
  refine ⟨s[k], ?_, by simp [hp]⟩
  have : s[k] = s.data.toList[k]'(by simpa using h) := rfl
  rw [this]; exact List.getElem_mem _

theorem any_at {p : UInt8 → Bool} (s : ByteArray) (k : Nat) (h : k < s.size) (hp : p s[k] = true) : s.data.toList.any p = true := by
  rw [List.any_eq_true]
  refine ⟨s[k], ?_, hp⟩
  have : s[k] = s.data.toList[k]'(by simpa using h) := rfl
  rw [this]; exact List.getElem_mem _

set_option maxHeartbeats 1000000 in
theorem nameBytes_any (s : ByteArray) (w : World) (hs : s.size ≤ 4000000000) :
    Calls Tryz.prog 46 #[.string s] w fun e w' => e = .returned (.bool (allN s.data.toList)) ∧ w = w' := by
  go_enter Tryz.func46, Tryz.ntmps46
  go_wp2
  go_loop [7] (fun i => ∃ k : Nat, k ≤ s.size ∧ i = .int .i64 k ∧ allN (s.data.toList.take k) = true) (fun i => s.size - (intOf i).toNat)
  case atStart => exact ⟨0, Nat.zero_le _, rfl, rfl⟩
  case round =>
    obtain ⟨k, hk, rfl, hall⟩ := hrel
    have HA := hid hall
    clear hall
    by_cases hlt : k < s.size
    · have HT := hid (take_snoc s k hlt)
      have hc8 : s[k].toNat < 256 := s[k].toNat_lt
      by_cases hb : nameB s[k] = true
      · have hb2 := hb
        simp only [nameB, Bool.not_eq_true', Bool.or_eq_false_iff, decide_eq_false_iff_not, beq_eq_false_iff_ne] at hb2
        obtain ⟨h1, h2, h3, h4⟩ := hb2
        have h1' : (33 : Int) ≤ (s[k].toNat : Int) := by omega
        have h2' : (s[k].toNat : Int) ≤ 126 := by omega
        have h3' : ((s[k].toNat : Int) == 37) = false := by
          rw [beq_eq_false_iff_ne]
          intro e; apply h3
          exact UInt8.toNat_inj.1 (by have : (37 : UInt8).toNat = 37 := rfl; omega)
        have HB := hid hb
        clear hb h1 h2 h3
        go_wp2_with (go_at_call 52; refine (isForbidden_any _ _).mono ?_; rintro e w' ⟨rfl, rfl⟩; rw [h4])
        go_round
        case rel => exact ⟨k + 1, by omega, by go_num, by rw [HT.out, allN, List.all_append, show List.all _ nameB = true from HA.out]; simp [HB.out]⟩
        case measure => simp [intOf]; omega
      · have hb' : nameB s[k] = false := by simpa using hb
        have HN := hid (show allN s.data.toList = false from all_at s k hlt hb')
        have hb2 := hb'
        simp only [nameB, Bool.not_eq_false', Bool.or_eq_true, decide_eq_true_eq, beq_iff_eq] at hb2
        clear hb hb'
        by_cases h1 : s[k].toNat < 33
        · have h1' : (s[k].toNat : Int) < 33 := by omega
          clear hb2
          go_wp2_with (go_at_call 52; refine (isForbidden_any _ _).mono ?_; rintro e w' ⟨rfl, rfl⟩)
          go_ret
          rw [HN.out]
          exact ⟨rfl, rfl⟩
        · have h1' : (33 : Int) ≤ (s[k].toNat : Int) := by omega
          by_cases h2 : 126 < s[k].toNat
          · have h2' : (126 : Int) < (s[k].toNat : Int) := by omega
            clear hb2
            go_wp2_with (go_at_call 52; refine (isForbidden_any _ _).mono ?_; rintro e w' ⟨rfl, rfl⟩)
            go_ret
            rw [HN.out]
            exact ⟨rfl, rfl⟩
          · have h2' : (s[k].toNat : Int) ≤ 126 := by omega
            by_cases h3 : s[k] = 37
            · have h3' : (s[k].toNat : Int) = 37 := by rw [h3]; rfl
              clear hb2 h3
              go_wp2_with (go_at_call 52; refine (isForbidden_any _ _).mono ?_; rintro e w' ⟨rfl, rfl⟩)
              go_ret
              rw [HN.out]
              exact ⟨rfl, rfl⟩
            · have h4 : forb s[k] = true := by
                rcases hb2 with h | h | h | h
                · exact absurd h h1
                · exact absurd h h2
                · exact absurd h h3
                · exact h
              have h3' : ((s[k].toNat : Int) == 37) = false := by
                rw [beq_eq_false_iff_ne]
                intro e; apply h3
                exact UInt8.toNat_inj.1 (by have : (37 : UInt8).toNat = 37 := rfl; omega)
              clear hb2 h3
              go_wp2_with (go_at_call 52; refine (isForbidden_any _ _).mono ?_; rintro e w' ⟨rfl, rfl⟩; rw [h4])
              go_ret
              rw [HN.out]
              exact ⟨rfl, rfl⟩
    · have ha := HA.out
      rw [take_all s k hlt] at ha
      have HN := hid ha
      clear ha
      go_wp2
      go_ret
      rw [HN.out]
      exact ⟨rfl, rfl⟩

set_option maxHeartbeats 400000 in
theorem coded_any (s : ByteArray) (w : World) (hg : Gd w) (hs : s.size ≤ 4000000000) :
    Calls Tryz.prog 47 #[.string s] w fun e w' => e = .returned (.bool (coded s.data.toList)) ∧ w = w' := by
  have HC := hid (show coded s.data.toList = (Lib.hasPrefix s.data.toList [120, 110, 45, 45] || Lib.contains s.data.toList [46, 120, 110, 45, 45]) from rfl)
  have HG := hid hg
  clear hg
  by_cases h1 : Lib.hasPrefix s.data.toList [120, 110, 45, 45] = true
  · go_enter Tryz.func47, Tryz.ntmps47
    go_wp2_with (first | (go_at_call 15; refine (hasPrefix_any _ _ _).mono ?_; rintro e w' ⟨rfl, rfl⟩) | (go_at_call 68; refine (contains_any _ _ _ HG.out hs).mono ?_; rintro e w' ⟨rfl, rfl⟩))
    go_ret
    rw [HC.out, h1]
    exact ⟨rfl, rfl⟩
  · have h1' : Lib.hasPrefix s.data.toList [120, 110, 45, 45] = false := by simpa using h1
    clear h1
    go_enter Tryz.func47, Tryz.ntmps47
    go_wp2_with (first | (go_at_call 15; refine (hasPrefix_any _ _ _).mono ?_; rintro e w' ⟨rfl, rfl⟩) | (go_at_call 68; refine (contains_any _ _ _ HG.out hs).mono ?_; rintro e w' ⟨rfl, rfl⟩))
    go_ret
    rw [HC.out, h1']
    exact ⟨rfl, rfl⟩

theorem ret_se {a b : ByteArray} {x y : Int} (h : a = b) (g : x = y) : Ending.returned (.tuple #[.string a, .int .i64 x]) = .returned (.tuple #[.string b, .int .i64 y]) := by rw [h, g]
theorem txt_none {o : Option (List UInt8)} (h : o = none) : (⟨#[]⟩ : ByteArray) = ⟨(o.getD []).toArray⟩ := by rw [h]; rfl
theorem txt_some {o : Option (List UInt8)} {l : List UInt8} (h : o = some l) : (⟨l.toArray⟩ : ByteArray) = ⟨(o.getD []).toArray⟩ := by rw [h]; rfl

set_option maxHeartbeats 1000000 in
theorem parseOther_any (s : ByteArray) (w : World) (hs : s.size ≤ 4000000000) :
    Calls Tryz.prog 20 #[.string s] w fun e w' => e = .returned (.tuple #[.string ⟨((otherV s.data.toList).getD []).toArray⟩, .int .i64 (er (otherV s.data.toList))]) ∧ Below w.heap.size w w' := by
  go_enter Tryz.func20, Tryz.ntmps20
  go_wp2
  go_loop [7] (fun i => ∃ k : Nat, k ≤ s.size ∧ i = .int .i64 k ∧ (s.data.toList.take k).any forb = false) (fun i => s.size - (intOf i).toNat)
  case atStart => exact ⟨0, Nat.zero_le _, rfl, rfl⟩
  case round =>
    obtain ⟨k, hk, rfl, hall⟩ := hrel
    have HA := hid hall
    clear hall
    by_cases hlt : k < s.size
    · have HT := hid (take_snoc s k hlt)
      by_cases hb : forb s[k] = true
      · have HN := hid (show otherV s.data.toList = none by rw [otherV, if_pos (any_at s k hlt hb)])
        go_wp2_with (go_at_call 52; refine (isForbidden_any _ _).mono ?_; rintro e w' ⟨rfl, rfl⟩; rw [hb])
        go_ret2
        exact ⟨ret_se (txt_none HN.out) (er_none HN.out).symm, Below.refl _ _⟩
      · have hb' : forb s[k] = false := by simpa using hb
        clear hb
        go_wp2_with (go_at_call 52; refine (isForbidden_any _ _).mono ?_; rintro e w' ⟨rfl, rfl⟩; rw [hb'])
        go_round
        case rel => exact ⟨k + 1, by omega, by go_num, by rw [HT.out, List.any_append, HA.out]; simp [hb']⟩
        case measure => simp [intOf]; omega
    · have ha := HA.out
      rw [take_all s k hlt] at ha
      have HN := hid (show otherV s.data.toList = some (pct 1 s.data.toList) by rw [otherV, ha]; rfl)
      clear ha
      go_wp2_with (go_at_call 53; refine (percent_any _ _ _ (by omega)).mono ?_; rintro e w1 ⟨rfl, hb1⟩)
      go_ret2
      exact ⟨ret_se (txt_some HN.out) (er_some HN.out).symm, hb1⟩

theorem nameV_bad {l : List UInt8} (h : l = [] ∨ allN l = false ∨ coded l = true) : nameV l = none := by rw [nameV, if_pos h]
theorem nameV_name {l : List UInt8} (h0 : l ≠ []) (h1 : allN l = true) (h2 : coded l = false) (h3 : numberedV l = false) : nameV l = some l := by simp [nameV, h0, h1, h2, h3]
theorem nameV_num {l : List UInt8} (h0 : l ≠ []) (h1 : allN l = true) (h2 : coded l = false) (h3 : numberedV l = true) : nameV l = (fourV l).map text4 := by simp [nameV, h0, h1, h2, h3]

theorem fourN_lt : ∀ (r h : Nat) (l : List UInt8) (n : Nat), r ≤ 4 → h < 2 ^ (8 * (4 - r)) → fourN r h l = some n → n < 4294967296
  | 0, _, _, _, _, _, e => by cases e
  | r + 1, h, l, n, hr, hh, e => by
    have ep : 2 ^ (8 * (4 - (r + 1))) * 2 ^ (8 * (r + 1)) = 4294967296 := by
      rw [← Nat.pow_add, show 8 * (4 - (r + 1)) + 8 * (r + 1) = 32 by omega]
    rw [fourN] at e
    split at e
    · cases e
    · split at e
      · split at e
        · cases e
        · refine fourN_lt r _ _ n (by omega) ?_ e
          have e2 : 8 * (4 - r) = 8 * (4 - (r + 1)) + 8 := by omega
          rw [e2, Nat.pow_add]
          omega
      · split at e
        · rename_i m _ _ hm
          cases e
          have h1 : (h + 1) * 2 ^ (8 * (r + 1)) ≤ 2 ^ (8 * (4 - (r + 1))) * 2 ^ (8 * (r + 1)) := Nat.mul_le_mul_right _ hh
          rw [ep, Nat.add_mul, Nat.one_mul] at h1
          omega
        · cases e

theorem fourV_lt {l : List UInt8} {n : Nat} (h : fourV l = some n) : n < 4294967296 := fourN_lt 4 0 _ n (by omega) (by decide) h

set_option maxHeartbeats 1000000 in
theorem parseName_any (s : ByteArray) (w : World) (hg : Gd w) (hs : s.size ≤ 4000000000) :
    Calls Tryz.prog 17 #[.string s] w fun e w' => e = .returned (.tuple #[.string ⟨((nameV s.data.toList).getD []).toArray⟩, .int .i64 (er (nameV s.data.toList))]) ∧ Below w.heap.size w w' := by
  have HG := hid hg
  clear hg
  by_cases h0 : s.data.toList = []
  · have HN := hid (nameV_bad (l := s.data.toList) (.inl h0))
    have he := empty_yes s h0
    clear h0
    go_enter Tryz.func17, Tryz.ntmps17
    go_wp2_with (first | (go_at_call 46; refine (nameBytes_any _ _ hs).mono ?_; rintro e w' ⟨rfl, rfl⟩))
    go_ret2
    exact ⟨ret_se (txt_none HN.out) (er_none HN.out).symm, Below.refl _ _⟩
  · have he := empty_no s h0
    have H0 := hid h0
    clear h0
    by_cases h1 : allN s.data.toList = true
    · by_cases h2 : coded s.data.toList = true
      · have HN := hid (nameV_bad (l := s.data.toList) (.inr (.inr h2)))
        go_enter Tryz.func17, Tryz.ntmps17
        go_wp2_with (first | (go_at_call 46; refine (nameBytes_any _ _ hs).mono ?_; rintro e w' ⟨rfl, rfl⟩; rw [h1]) | (go_at_call 47; refine (coded_any _ _ HG.out hs).mono ?_; rintro e w' ⟨rfl, rfl⟩; rw [h2]))
        go_ret2
        exact ⟨ret_se (txt_none HN.out) (er_none HN.out).symm, Below.refl _ _⟩
      · have h2' : coded s.data.toList = false := by simpa using h2
        clear h2
        by_cases h3 : numberedV s.data.toList = true
        · cases h4 : fourV s.data.toList with
          | none =>
            have HN := hid (show nameV s.data.toList = none by rw [nameV_num H0.out h1 h2' h3, h4]; rfl)
            have e4 := er_none h4
            clear h4
            go_enter Tryz.func17, Tryz.ntmps17
            go_wp2_with (first | (go_at_call 46; refine (nameBytes_any _ _ hs).mono ?_; rintro e w' ⟨rfl, rfl⟩; rw [h1]) | (go_at_call 47; refine (coded_any _ _ HG.out hs).mono ?_; rintro e w' ⟨rfl, rfl⟩; rw [h2']) | (go_at_call 12; refine (numbered_any _ _ hs).mono ?_; rintro e w' ⟨rfl, rfl⟩; rw [h3]) | (go_at_call 7; refine (four_any _ _ HG.out hs).mono ?_; rintro e w1 ⟨rfl, hb1⟩; rw [e4]))
            go_ret2
            exact ⟨ret_se (txt_none HN.out) (er_none HN.out).symm, hb1⟩
          | some n =>
            have HN := hid (show nameV s.data.toList = some (text4 n) by rw [nameV_num H0.out h1 h2' h3, h4]; rfl)
            have e4 := er_some h4
            have g4 := getD_some h4
            have hn := fourV_lt h4
            clear h4
            go_enter Tryz.func17, Tryz.ntmps17
            go_wp2_with (first | (go_at_call 46; refine (nameBytes_any _ _ hs).mono ?_; rintro e w' ⟨rfl, rfl⟩; rw [h1]) | (go_at_call 47; refine (coded_any _ _ HG.out hs).mono ?_; rintro e w' ⟨rfl, rfl⟩; rw [h2']) | (go_at_call 12; refine (numbered_any _ _ hs).mono ?_; rintro e w' ⟨rfl, rfl⟩; rw [h3]) | (go_at_call 7; refine (four_any _ _ HG.out hs).mono ?_; rintro e w1 ⟨rfl, hb1⟩; rw [e4, g4]) | (go_at_call 48; refine (text4_any _ _ (HG.out.kept hb1) hn).mono ?_; rintro e w2 ⟨rfl, hb2⟩))
            go_ret2
            exact ⟨ret_se (txt_some HN.out) (er_some HN.out).symm, below2 hb1 hb2⟩
        · have h3' : numberedV s.data.toList = false := by simpa using h3
          clear h3
          have HN := hid (nameV_name H0.out h1 h2' h3')
          go_enter Tryz.func17, Tryz.ntmps17
          go_wp2_with (first | (go_at_call 46; refine (nameBytes_any _ _ hs).mono ?_; rintro e w' ⟨rfl, rfl⟩; rw [h1]) | (go_at_call 47; refine (coded_any _ _ HG.out hs).mono ?_; rintro e w' ⟨rfl, rfl⟩; rw [h2']) | (go_at_call 12; refine (numbered_any _ _ hs).mono ?_; rintro e w' ⟨rfl, rfl⟩; rw [h3']))
          go_ret2
          exact ⟨ret_se (by rw [HN.out]; exact (Lib.mk_data s).symm) (er_some HN.out).symm, Below.refl _ _⟩
    · have h1' : allN s.data.toList = false := by simpa using h1
      clear h1
      have HN := hid (nameV_bad (l := s.data.toList) (.inr (.inl h1')))
      go_enter Tryz.func17, Tryz.ntmps17
      go_wp2_with (first | (go_at_call 46; refine (nameBytes_any _ _ hs).mono ?_; rintro e w' ⟨rfl, rfl⟩; rw [h1']))
      go_ret2
      exact ⟨ret_se (txt_none HN.out) (er_none HN.out).symm, Below.refl _ _⟩

end Go.Proofs.YtdpihilikhbamaaGreatDoor
