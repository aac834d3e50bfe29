/-
  The walks of host.plainByte and host.dotted.
-/
import Derived.Test.YtdpihilikhbamaaGreatDoorVf
set_option linter.unusedSimpArgs false
set_option linter.unusedVariables false
namespace Go.Proofs.YtdpihilikhbamaaGreatDoor
open Go.RowKit

theorem plainB_none {l : List UInt8} (h : valV 10 l = none) : plainB l = none := by rw [plainB, h]
theorem plainB_big {l : List UInt8} {n : Nat} (h : valV 10 l = some n) (h2 : 255 < n ∨ l = [] ∨ (l.head? = some 48 ∧ l ≠ [48])) : plainB l = none := by rw [plainB, h]; simp only; rw [if_pos h2]
theorem plainB_some {l : List UInt8} {n : Nat} (h : valV 10 l = some n) (h2 : ¬ (255 < n ∨ l = [] ∨ (l.head? = some 48 ∧ l ≠ [48]))) : plainB l = some n := by rw [plainB, h]; simp only; rw [if_neg h2]

theorem ret_u32b {a b : Int} {x y : Bool} (h : a = b) (g : x = y) : Ending.returned (.tuple #[.int .u32 a, .bool x]) = .returned (.tuple #[.int .u32 b, .bool y]) := by rw [h, g]

theorem list_ne (s : ByteArray) (l : List UInt8) (h : s.data.toList ≠ l) : (s.toList == l) = false := by
  rw [Lib.toList_data, beq_eq_false_iff_ne]; exact h
theorem list_eq (s : ByteArray) (l : List UInt8) (h : s.data.toList = l) : (s.toList == l) = true := by
  rw [Lib.toList_data, h]; simp

set_option maxHeartbeats 1000000 in
theorem plainByte_any (s : ByteArray) (w : World) (hs : s.size ≤ 4000000000) :
    Calls Tryz.prog 76 #[.string s] w fun e w' => e = .returned (.tuple #[.int .u32 ((plainB s.data.toList).getD 0 : Nat), .bool (plainB s.data.toList).isSome]) ∧ w = w' := by
  cases hv : valV 10 s.data.toList with
  | none =>
    have HN := hid (plainB_none hv)
    have h1 := isSome_none hv
    clear hv
    go_enter Tryz.func76, Tryz.ntmps76
    go_wp2_with (go_at_call 60; refine (valueOf_any _ _ _ (by decide) (by omega)).mono ?_; rintro e w' ⟨rfl, rfl⟩; rw [h1])
    go_ret2
    exact ⟨ret_u32b (by rw [getD_none HN.out]; rfl) (isSome_none HN.out).symm, rfl⟩
  | some n =>
    have h1 := isSome_some hv
    have h2 := getD_some hv
    have HV := hid hv
    clear hv
    by_cases h255 : 255 < n
    · have HN := hid (plainB_big HV.out (.inl h255))
      go_enter Tryz.func76, Tryz.ntmps76
      go_wp2_with (go_at_call 60; refine (valueOf_any _ _ _ (by decide) (by omega)).mono ?_; rintro e w' ⟨rfl, rfl⟩; rw [h1, h2])
      go_ret2
      exact ⟨ret_u32b (by rw [getD_none HN.out]; rfl) (isSome_none HN.out).symm, rfl⟩
    · have h255' : (n : Int) ≤ 255 := by omega
      by_cases h0 : s.data.toList = []
      · have HN := hid (plainB_big HV.out (.inr (.inl h0)))
        have he := empty_yes s h0
        clear h0
        go_enter Tryz.func76, Tryz.ntmps76
        go_wp2_with (go_at_call 60; refine (valueOf_any _ _ _ (by decide) (by omega)).mono ?_; rintro e w' ⟨rfl, rfl⟩; rw [h1, h2])
        go_ret2
        exact ⟨ret_u32b (by rw [getD_none HN.out]; rfl) (isSome_none HN.out).symm, rfl⟩
      · have he := empty_no s h0
        have hz : 0 < s.size := by
          have : 0 < s.data.toList.length := List.length_pos_iff.2 h0
          simpa using this
        have hz' : (0 : Int) < (s.size : Int) := by omega
        obtain ⟨r, hr⟩ := list_one s hz
        have hhead : s.data.toList.head? = some s[0] := by rw [hr]; rfl
        by_cases hc : s[0] = 48
        · have hc' : (s[0].toNat : Int) = 48 := by rw [hc]; rfl
          by_cases h48 : s.data.toList = [48]
          · have HN := hid (plainB_some HV.out (by rintro (h | h | ⟨_, h⟩); exact h255 h; exact h0 h; exact h h48))
            have hq := list_eq s [48] h48
            clear h0 hr hhead hc h48
            go_enter Tryz.func76, Tryz.ntmps76
            go_wp2_with (go_at_call 60; refine (valueOf_any _ _ _ (by decide) (by omega)).mono ?_; rintro e w' ⟨rfl, rfl⟩; rw [h1, h2])
            go_ret2
            exact ⟨ret_u32b (by rw [getD_some HN.out]) (isSome_some HN.out).symm, rfl⟩
          · have HN := hid (plainB_big HV.out (.inr (.inr ⟨by rw [hhead, hc], h48⟩)))
            have hq := list_ne s [48] h48
            clear h0 hr hhead hc h48
            go_enter Tryz.func76, Tryz.ntmps76
            go_wp2_with (go_at_call 60; refine (valueOf_any _ _ _ (by decide) (by omega)).mono ?_; rintro e w' ⟨rfl, rfl⟩; rw [h1, h2])
            go_ret2
            exact ⟨ret_u32b (by rw [getD_none HN.out]; rfl) (isSome_none HN.out).symm, rfl⟩
        · have HN := hid (plainB_some HV.out (by rintro (h | h | ⟨h, _⟩); exact h255 h; exact h0 h; rw [hhead] at h; exact hc (Option.some.inj h)))
          have hc' : ((s[0].toNat : Int) == 48) = false := by
            rw [beq_eq_false_iff_ne]
            intro e
            apply hc
            exact UInt8.toNat_inj.1 (by have : (48 : UInt8).toNat = 48 := rfl; omega)
          clear h0 hr hhead hc
          go_enter Tryz.func76, Tryz.ntmps76
          go_wp2_with (go_at_call 60; refine (valueOf_any _ _ _ (by decide) (by omega)).mono ?_; rintro e w' ⟨rfl, rfl⟩; rw [h1, h2])
          go_ret2
          exact ⟨ret_u32b (by rw [getD_some HN.out]) (isSome_some HN.out).symm, rfl⟩

theorem plainB_le {l : List UInt8} {n : Nat} (h : plainB l = some n) : n ≤ 255 := by
  unfold plainB at h
  split at h
  · cases h
  · split at h
    · cases h
    · cases h; omega

theorem dotN_none {r n : Nat} {l : List UInt8} (h : plainB (Lib.cut l [46]).1 = none) : dotN (r + 1) n l = none := by rw [dotN, h]
theorem dotN_off {r n b : Nat} {l : List UInt8} (h : plainB (Lib.cut l [46]).1 = some b) (h2 : (Lib.cut l [46]).2.2 ≠ decide (r ≠ 0)) : dotN (r + 1) n l = none := by rw [dotN, h]; simp only; rw [if_neg h2]
theorem dotN_on {r n b : Nat} {l : List UInt8} (h : plainB (Lib.cut l [46]).1 = some b) (h2 : (Lib.cut l [46]).2.2 = decide (r ≠ 0)) : dotN (r + 1) n l = dotN r (n * 256 + b) (Lib.cut l [46]).2.1 := by rw [dotN, h]; simp only; rw [if_pos h2]

theorem or32_256 (h n : Nat) (hn : n < 256) (hh : h < 16777216) : bits .or .u32 ((h : Int) * 256) (n : Int) = (h : Int) * 256 + n := by
  have e : (h : Int) * 256 = ((h * 256 : Nat) : Int) := by simp
  rw [e, u32_or_nat _ _ (by omega) (by omega), nat_join 8 _ _ (by omega) (by omega)]
  simp

theorem ret_dot {a b c d : Int} {x y : Bool} (h : a = b) (h2 : c = d) (g : x = y) : Ending.returned (.tuple #[.int .u16 a, .int .u16 c, .bool x]) = .returned (.tuple #[.int .u16 b, .int .u16 d, .bool y]) := by rw [h, h2, g]

set_option maxHeartbeats 2000000 in
theorem dotted_any (s : ByteArray) (w : World) (hg : Gd w) (hs : s.size ≤ 4000000000) :
    Calls Tryz.prog 61 #[.string s] w fun e w' => e = .returned (.tuple #[.int .u16 ((dottedV s.data.toList).getD 0 / 65536 : Nat), .int .u16 ((dottedV s.data.toList).getD 0 % 65536 : Nat), .bool (dottedV s.data.toList).isSome]) ∧ Below w.heap.size w w' := by
  have HG0 := hid hg
  clear hg
  go_enter Tryz.func61, Tryz.ntmps61
  go_wp2
  go_loopg [5, 6, 14] 4 (fun r n rest i wr => ∃ (h : Nat) (l : List UInt8), r ≤ 4 ∧ i = .int .i64 (4 - r) ∧ n = .int .u32 h ∧ rest = .string ⟨l.toArray⟩ ∧ l.length ≤ 4000000000 ∧ h < 2 ^ (8 * (4 - r)) ∧ dotN r h l = dottedV s.data.toList ∧ Below w.heap.size w wr)
  case atStart => exact ⟨0, s.data.toList, by omega, rfl, rfl, by rw [Lib.mk_data], by simpa using hs, by decide, rfl, Below.refl _ _⟩
  case round =>
    obtain ⟨h, l, hr, rfl, rfl, rfl, hl, hh, hf, hbw⟩ := hrel
    have HF := hid hf
    clear hf
    have HG := hid (HG0.out.kept hbw)
    have hls : (⟨l.toArray⟩ : ByteArray).size ≤ 4000000000 := by show l.toArray.size ≤ _; simpa using hl
    cases gk with
    | zero =>
      have HN := hid (show dottedV s.data.toList = some h by rw [← HF.out]; rfl)
      simp at hh
      go_wp2
      go_ret3
      exact ⟨ret_dot (by rw [getD_some HN.out]; omega) (by rw [getD_some HN.out]; first | omega | (rw [IntKind.wrap_u16]; omega)) (isSome_some HN.out).symm, hbw⟩
    | succ r =>
      obtain ⟨⟨a, b, m⟩, hc⟩ : ∃ x, Lib.cut l [46] = x := ⟨_, rfl⟩
      have HC := hid hc
      have hcl := cut_le l [46]
      rw [hc] at hcl
      obtain ⟨hal, hbl⟩ := hcl
      simp only at hal hbl
      have hal' : (⟨a.toArray⟩ : ByteArray).size ≤ 4000000000 := by show a.toArray.size ≤ _; simp; omega
      have hbl' : b.length ≤ 4000000000 := by omega
      clear hc
      have hh32 : h < 16777216 := by
        obtain rfl | rfl | rfl | rfl : r = 0 ∨ r = 1 ∨ r = 2 ∨ r = 3 := by omega
        all_goals simp at hh <;> omega
      cases hnum : plainB a with
      | none =>
        have HN := hid (show dottedV s.data.toList = none by rw [← HF.out]; exact dotN_none (by rw [HC.out]; exact hnum))
        have h1 := isSome_none hnum
        clear hnum
        go_wp2_with (first | (go_at_call 31; refine (cut_any _ _ _ HG.out hls).mono ?_; rintro e w1 ⟨rfl, hb1⟩; rw [show (⟨l.toArray⟩ : ByteArray).data.toList = l from rfl, show (⟨#[46]⟩ : ByteArray).data.toList = [46] from rfl, HC.out]) | (go_at_call 76; refine (plainByte_any _ _ hal').mono ?_; rintro e w' ⟨rfl, rfl⟩; rw [show (⟨a.toArray⟩ : ByteArray).data.toList = a from rfl, h1]))
        go_ret3
        exact ⟨ret_dot (by rw [getD_none HN.out]; rfl) (by rw [getD_none HN.out]; rfl) (isSome_none HN.out).symm, below2 hbw hb1⟩
      | some n =>
        have h1 := isSome_some hnum
        have h2 := getD_some hnum
        have hn := plainB_le hnum
        have HU := hid (show plainB (Lib.cut l [46]).1 = some n by rw [HC.out]; exact hnum)
        have HM := hid (show (Lib.cut l [46]).2.2 = m by rw [HC.out])
        clear hnum
        by_cases hm : m = decide (r ≠ 0)
        · have HN := hid (show dotN r (h * 256 + n) b = dottedV s.data.toList by rw [← HF.out, dotN_on HU.out (by rw [HM.out]; exact hm), HC.out])
          have hh2 : h * 256 + n < 2 ^ (8 * (4 - r)) := by
            have e : 8 * (4 - r) = 8 * (4 - (r + 1)) + 8 := by omega
            rw [e, Nat.pow_add]
            omega
          have ho := or32_256 h n (by omega) (by omega)
          have HH := hid hh2
          clear hh2 hh
          by_cases hr0 : r = 0
          · subst hr0
            simp at hm
            subst hm
            go_wp2_with (first | (go_at_call 31; refine (cut_any _ _ _ HG.out hls).mono ?_; rintro e w1 ⟨rfl, hb1⟩; rw [show (⟨l.toArray⟩ : ByteArray).data.toList = l from rfl, show (⟨#[46]⟩ : ByteArray).data.toList = [46] from rfl, HC.out]) | (go_at_call 76; refine (plainByte_any _ _ hal').mono ?_; rintro e w' ⟨rfl, rfl⟩; rw [show (⟨a.toArray⟩ : ByteArray).data.toList = a from rfl, h1, h2]))
            go_roundg 0
            case measure => omega
            case rel => exact ⟨h * 256 + n, b, by omega, by go_num, by go_num, rfl, hbl', HH.out, HN.out, below2 hbw hb1⟩
          · have hm' : m = true := by rw [hm]; simp [hr0]
            subst hm'
            clear hm
            have hr1 : (4 - ((r : Int) + 1)) < 3 := by omega
            go_wp2_with (first | (go_at_call 31; refine (cut_any _ _ _ HG.out hls).mono ?_; rintro e w1 ⟨rfl, hb1⟩; rw [show (⟨l.toArray⟩ : ByteArray).data.toList = l from rfl, show (⟨#[46]⟩ : ByteArray).data.toList = [46] from rfl, HC.out]) | (go_at_call 76; refine (plainByte_any _ _ hal').mono ?_; rintro e w' ⟨rfl, rfl⟩; rw [show (⟨a.toArray⟩ : ByteArray).data.toList = a from rfl, h1, h2]))
            go_roundg r
            case measure => omega
            case rel => exact ⟨h * 256 + n, b, by omega, by go_num, by go_num, rfl, hbl', HH.out, HN.out, below2 hbw hb1⟩
        · have HN := hid (show dottedV s.data.toList = none by rw [← HF.out]; exact dotN_off HU.out (by rw [HM.out]; exact hm))
          by_cases hr0 : r = 0
          · subst hr0
            have hm' : m = true := by cases m <;> simp at hm ⊢
            subst hm'
            clear hm
            go_wp2_with (first | (go_at_call 31; refine (cut_any _ _ _ HG.out hls).mono ?_; rintro e w1 ⟨rfl, hb1⟩; rw [show (⟨l.toArray⟩ : ByteArray).data.toList = l from rfl, show (⟨#[46]⟩ : ByteArray).data.toList = [46] from rfl, HC.out]) | (go_at_call 76; refine (plainByte_any _ _ hal').mono ?_; rintro e w' ⟨rfl, rfl⟩; rw [show (⟨a.toArray⟩ : ByteArray).data.toList = a from rfl, h1, h2]))
            go_ret3
            exact ⟨ret_dot (by rw [getD_none HN.out]; rfl) (by rw [getD_none HN.out]; rfl) (isSome_none HN.out).symm, below2 hbw hb1⟩
          · have hm' : m = false := by cases m <;> simp [hr0] at hm ⊢
            subst hm'
            clear hm
            have hr1 : (4 - ((r : Int) + 1)) < 3 := by omega
            go_wp2_with (first | (go_at_call 31; refine (cut_any _ _ _ HG.out hls).mono ?_; rintro e w1 ⟨rfl, hb1⟩; rw [show (⟨l.toArray⟩ : ByteArray).data.toList = l from rfl, show (⟨#[46]⟩ : ByteArray).data.toList = [46] from rfl, HC.out]) | (go_at_call 76; refine (plainByte_any _ _ hal').mono ?_; rintro e w' ⟨rfl, rfl⟩; rw [show (⟨a.toArray⟩ : ByteArray).data.toList = a from rfl, h1, h2]))
            go_ret3
            exact ⟨ret_dot (by rw [getD_none HN.out]; rfl) (by rw [getD_none HN.out]; rfl) (isSome_none HN.out).symm, below2 hbw hb1⟩

end Go.Proofs.YtdpihilikhbamaaGreatDoor
