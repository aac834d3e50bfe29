/-
  UNDER WAY, NOT CLEAN: the walk of ostiaryref8.pad, for blocks of 128 bytes. Stands: both appends, loop 1, loop 2's relation. Left: the return behind loop 2 (the shape of bodyPost_ret's last argument), loop 2's round at k < 8 ('maximum recursion depth': try k as literals 0 .. 7, great bounds hidden) and at 8 ≤ k.
-/
import Derived.Test.YtbdlicomkpnalaaDoorZIi6
set_option linter.unusedSimpArgs false
set_option linter.unusedVariables false
namespace Go.Proofs.YtbdlicomkpnalaaDoor
open Go.RowKit

theorem take_next6 (n k : Nat) (hk : k < 16) : (lenB6 n).take (16 - k) = (lenB6 n).take (16 - (k + 1)) ++ [UInt8.ofNat (if k < 8 then n * 8 / 2 ^ (8 * k) % 256 else 0)] := by
  have h := len_at6 n k hk
  have e : 16 - k = (16 - 1 - k) + 1 := by omega
  have e2 : 16 - (k + 1) = 16 - 1 - k := by omega
  rw [e, e2, List.take_add_one]
  have h' : (lenB6 n)[16 - 1 - k]? = some (UInt8.ofNat (if k < 8 then n * 8 / 2 ^ (8 * k) % 256 else 0)) := h
  rw [h']
  rfl

set_option maxHeartbeats 4000000 in
set_option maxRecDepth 100000 in
theorem rpad6 (a0 : Option Addr) (len cap : Nat) (l : List UInt8) (w : World) (hv : SlB w (.slice a0 len cap) l) (hn : a0 = none → cap = 0) (hl : l.length ≤ 100000000) :
    Calls Tryd.prog 35 #[.slice a0 len cap, .int .i64 128] w fun e w' => ∃ v' n', e = .returned v' ∧ PdR6 w w' v' n' (padL6 l (padN6 l.length) ++ lenB6 l.length) := by
  obtain ⟨i0, hi, hz0, hz1, hz2⟩ := info_parts infoByte8
  obtain rfl : len = l.length := hv.ln
  obtain ⟨len, hnl⟩ : ∃ n, n = l.length := ⟨_, rfl⟩
  rw [← hnl] at hv hl ⊢
  have HNL := hid hnl
  have HV := hid hv
  have hmx : len + 1000 ≤ maxLen := by unfold maxLen; omega
  clear hv hnl
  go_enter Tryd.func35, Tryd.ntmps35
  go_wp2_with (at_builtin; first
    | (refine append_sl6 rfl _ _ 22 rfl w.heap.size 5 i0 (.int .u8 0) Tryd.underlying22 hi hz0 hz1 hz2 rfl _ 0 [] rfl (World.ownsRow_made w #[] 0 (Nat.le_refl _) (Nat.zero_le _) rfl) a0 len cap l rfl (HV.out.alloc _) hn (by have := HNL.out; omega) (by have := HNL.out; omega) (by simp) ?_; intro v1 w1 hown1 hgrow1; have HP1 := hid (show PdR6 w w1 v1 len l from ⟨by have h := hown1; rw [Nat.zero_add, List.nil_append, ← HNL.out] at h; exact h, ((Below.refl _ w).alloc (Nat.le_refl _) _).grown hgrow1 (by simp) (fun k hk => ((World.ownsRow_made (base := w.heap.size) (e := 5) (size := 1) w #[] 0 (Nat.le_refl _) (Nat.zero_le _) rfl).lt k hk).1), HNL.out⟩); clear hown1 hgrow1)
    | (refine wpList_append_own _ rfl _ _ 22 rfl w.heap.size 5 i0 (.int .u8 0) 1 1 Tryd.underlying22 hi hz0 hz1 hz2 rfl (by decide) _ _ _ rfl (own_kept HP1.out.1 ((Below.refl _ _).alloc (Nat.le_refl _) _)) ⟨w1.heap.size, 0, none⟩ 1 1 [.int .u8 128] rfl rfl (cell_one_new _ _ _) (by simp [Value.oneCell']) (by unfold maxLen; omega) (by omega) (by have := HP1.out.2.1.size; simp; omega) ?_; intro v2 w2 hown hgrow hnil; have HP2 := hid (show PdR6 w w2 v2 (len + 1) (padL6 l 0) from HP1.out.more (c := 128) hown hgrow); clear hown hgrow hnil))
  go_loopw [5] (fun v5 wr => ∃ j n : Nat, j ≤ padN6 len ∧ n = len + 1 + j ∧ Hid (PdR6 w wr v5 n (padL6 l j))) (fun v5 _ => padN6 len + len + 1 - (match v5 with | .slice _ n _ => n | _ => 0))
  case atStart => exact ⟨0, len + 1, Nat.zero_le _, rfl, HP2.out⟩
  case round =>
    clear HP1 HP2
    obtain ⟨j, m, hj, hmv, HP⟩ := hrel
    obtain ⟨va, vc, hva⟩ := own_len HP.out.1
    subst hva
    have hjz := pad_le6 len
    obtain ⟨r, hr⟩ : ∃ r, r = m % 128 := ⟨_, rfl⟩
    have r1 : (m : Int).tmod 128 = (r : Int) := by rw [hr, Int.tmod_eq_emod_of_nonneg (by omega)]; omega
    have r2 : (m : Int) % 128 = (r : Int) := by rw [hr]; omega
    by_cases hlt : j < padN6 len
    · have hne : (r : Int) ≠ 112 := by have := pad_more6 len j hlt; rw [← hmv, ← hr] at this; omega
      clear hr
      go_wp2_with (at_builtin; refine wpList_append_own _ rfl _ _ 22 rfl w.heap.size 5 i0 (.int .u8 0) 1 1 Tryd.underlying22 hi hz0 hz1 hz2 rfl (by decide) _ _ _ rfl (own_kept HP.out.1 ((Below.refl _ _).alloc (Nat.le_refl _) _)) ⟨wr.heap.size, 0, none⟩ 1 1 [.int .u8 0] rfl rfl (cell_one_new _ _ _) (by simp [Value.oneCell']) (by unfold maxLen; omega) (by omega) (by have := HP.out.2.1.size; simp; omega) ?_; intro v3 w3 hown hgrow hnil)
      have HP2 := hid (show PdR6 w w3 v3 (m + 1) (padL6 l (j + 1)) by
        have := HP.out.more (c := 0) hown hgrow
        rwa [show padL6 l j ++ [0] = padL6 l (j + 1) by simp [padL6, List.replicate_succ']] at this)
      have HO2 := hid (own_len HP2.out.1)
      clear hown hgrow hnil
      go_wp2_with fail
      go_roundw
      case rel =>
        first
          | exact ⟨j + 1, m + 1, by omega, by omega, HP2.out⟩
          | ((repeat apply Exists.intro); refine ⟨?_, rfl⟩; exact ⟨j + 1, m + 1, by omega, by omega, HP2.out⟩)
      case measure =>
        obtain ⟨a2, c2, rfl⟩ := HO2.out
        simp only
        omega
    · obtain rfl : j = padN6 len := by omega
      obtain rfl : r = 112 := by have := pad_stop6 len; rw [← hmv, ← hr] at this; exact this
      have HP0 := hid (show PdR6 w wr (.slice va m vc) m (padL6 l (padN6 len) ++ (lenB6 len).take (16 - 16)) by
        rw [Nat.sub_self, List.take_zero, List.append_nil]
        exact HP.out)
      have hmle : m ≤ len + 1 + 2 * 128 := by omega
      clear hr hlt hj HP hmv hjz
      go_wp2_with fail
      go_loopw [5, 6] (fun v5 v6 wq => ∃ (k n : Nat) (z : Int), k ≤ 16 ∧ n ≤ len + 1 + 2 * 128 + (16 - k) ∧ z = (k : Int) - 1 ∧ v6 = .int .i64 z ∧ Hid (PdR6 w wq v5 n (padL6 l (padN6 len) ++ (lenB6 len).take (16 - k)))) (fun _ v6 _ => (intOf v6 + 1).toNat)
      case atStart => exact ⟨16, m, 16 - 1, Nat.le_refl _, by omega, rfl, rfl, HP0.out⟩
      case round =>
        clear HP0
        obtain ⟨k, m2, z, hk, hm2, hz, rfl, HP⟩ := hrel
        obtain ⟨vb, vd, hvb⟩ := own_len HP.out.1
        subst hvb
        cases k with
        | zero =>
          have hneg : z < 0 := by omega
          have hneg2 : ¬ (0 ≤ z) := by omega
          have HF := hid (show PdR6 w wr (.slice vb m2 vd) m2 (padL6 l (padN6 len) ++ lenB6 len) by
            have := HP.out
            rwa [Nat.sub_zero, List.take_of_length_le (by rw [len_len6]; exact Nat.le_refl _)] at this)
          clear HP hz
          go_wp2_with fail
          exact bodyPost_ret (by first | rfl | kernel_rfl) rfl ⟨_, rfl, _, HF.out⟩
        | succ k =>
          obtain rfl : z = (k : Int) := by omega
          have HBD := hid hl
          have HM2 := hid hm2
          have HKL := hid (show k < 16 by omega)
          have x1 : IntKind.wrap .u64 (len : Int) = (len : Int) := by simp [IntKind.wrap, IntKind.bits, IntKind.signed]; omega
          obtain ⟨X, hX⟩ : ∃ X, X = len * 8 := ⟨_, rfl⟩
          have x2 : IntKind.wrap .u64 ((len : Int) * 8) = (X : Int) := by rw [hX]; simp [IntKind.wrap, IntKind.bits, IntKind.signed]; omega
          obtain ⟨c, hc⟩ : ∃ c : UInt8, c = UInt8.ofNat (if k < 8 then X / 2 ^ (8 * k) % 256 else 0) := ⟨_, rfl⟩
          have HTK := hid (show (lenB6 len).take (16 - k) = (lenB6 len).take (16 - (k + 1)) ++ [c] by rw [hc, hX]; exact take_next6 len k (by omega))
          have HCN := hid (show c.toNat = (if k < 8 then X / 2 ^ (8 * k) % 256 else 0) by
            rw [hc]
            split
            · rw [UInt8.toNat_ofNat']; omega
            · rfl)
          clear hl hmx hm2 hmle hX hk hz hc
          by_cases h8 : k < 8
          · rcases (show k = 0 ∨ k = 1 ∨ k = 2 ∨ k = 3 ∨ k = 4 ∨ k = 5 ∨ k = 6 ∨ k = 7 by omega) with rfl | rfl | rfl | rfl | rfl | rfl | rfl | rfl
            · have fc : (X : Int) % 256 = (c.toNat : Int) := by rw [HCN.out, if_pos (by decide)]; omega
              clear h8
              go_wp2_with (at_builtin; refine wpList_append_own _ rfl _ _ 22 rfl w.heap.size 5 i0 (.int .u8 0) 1 1 Tryd.underlying22 hi hz0 hz1 hz2 rfl (by decide) _ _ _ rfl (own_kept HP.out.1 ((Below.refl _ _).alloc (Nat.le_refl _) _)) ⟨wr.heap.size, 0, none⟩ 1 1 [.int .u8 (c.toNat : Int)] rfl rfl (cell_one_new _ _ _) (by simp [Value.oneCell']) (by have := HM2.out; have := HBD.out; unfold maxLen; omega) (by have := HM2.out; have := HBD.out; omega) (by have := HP.out.2.1.size; simp; omega) ?_; intro v3 w3 hown hgrow hnil)
              have HP3 := hid (show PdR6 w w3 v3 (m2 + 1) (padL6 l (padN6 len) ++ (lenB6 len).take (16 - 0)) by
                rw [HTK.out, ← List.append_assoc]
                exact HP.out.more (c := c) hown hgrow)
              clear hown hgrow hnil
              go_wp2_with fail
              go_roundw
              case rel =>
                have := HM2.out
                first
                  | exact ⟨0, m2 + 1, (0 : Int) - 1, by have := HKL.out; omega, by have := HKL.out; omega, rfl, by first | rfl | go_num, HP3.out⟩
                  | ((repeat apply Exists.intro); refine ⟨?_, rfl⟩; exact ⟨0, m2 + 1, (0 : Int) - 1, by have := HKL.out; omega, by have := HKL.out; omega, rfl, by first | rfl | go_num, HP3.out⟩)
              case measure => simp [intOf]
            · have fc : (X : Int) / 256 % 256 = (c.toNat : Int) := by rw [HCN.out, if_pos (by decide)]; omega
              clear h8
              go_wp2_with (at_builtin; refine wpList_append_own _ rfl _ _ 22 rfl w.heap.size 5 i0 (.int .u8 0) 1 1 Tryd.underlying22 hi hz0 hz1 hz2 rfl (by decide) _ _ _ rfl (own_kept HP.out.1 ((Below.refl _ _).alloc (Nat.le_refl _) _)) ⟨wr.heap.size, 0, none⟩ 1 1 [.int .u8 (c.toNat : Int)] rfl rfl (cell_one_new _ _ _) (by simp [Value.oneCell']) (by have := HM2.out; have := HBD.out; unfold maxLen; omega) (by have := HM2.out; have := HBD.out; omega) (by have := HP.out.2.1.size; simp; omega) ?_; intro v3 w3 hown hgrow hnil)
              have HP3 := hid (show PdR6 w w3 v3 (m2 + 1) (padL6 l (padN6 len) ++ (lenB6 len).take (16 - 1)) by
                rw [HTK.out, ← List.append_assoc]
                exact HP.out.more (c := c) hown hgrow)
              clear hown hgrow hnil
              go_wp2_with fail
              go_roundw
              case rel =>
                have := HM2.out
                first
                  | exact ⟨1, m2 + 1, (1 : Int) - 1, by have := HKL.out; omega, by have := HKL.out; omega, rfl, by first | rfl | go_num, HP3.out⟩
                  | ((repeat apply Exists.intro); refine ⟨?_, rfl⟩; exact ⟨1, m2 + 1, (1 : Int) - 1, by have := HKL.out; omega, by have := HKL.out; omega, rfl, by first | rfl | go_num, HP3.out⟩)
              case measure => simp [intOf]
            · have fc : (X : Int) / 65536 % 256 = (c.toNat : Int) := by rw [HCN.out, if_pos (by decide)]; omega
              clear h8
              go_wp2_with (at_builtin; refine wpList_append_own _ rfl _ _ 22 rfl w.heap.size 5 i0 (.int .u8 0) 1 1 Tryd.underlying22 hi hz0 hz1 hz2 rfl (by decide) _ _ _ rfl (own_kept HP.out.1 ((Below.refl _ _).alloc (Nat.le_refl _) _)) ⟨wr.heap.size, 0, none⟩ 1 1 [.int .u8 (c.toNat : Int)] rfl rfl (cell_one_new _ _ _) (by simp [Value.oneCell']) (by have := HM2.out; have := HBD.out; unfold maxLen; omega) (by have := HM2.out; have := HBD.out; omega) (by have := HP.out.2.1.size; simp; omega) ?_; intro v3 w3 hown hgrow hnil)
              have HP3 := hid (show PdR6 w w3 v3 (m2 + 1) (padL6 l (padN6 len) ++ (lenB6 len).take (16 - 2)) by
                rw [HTK.out, ← List.append_assoc]
                exact HP.out.more (c := c) hown hgrow)
              clear hown hgrow hnil
              go_wp2_with fail
              go_roundw
              case rel =>
                have := HM2.out
                first
                  | exact ⟨2, m2 + 1, (2 : Int) - 1, by have := HKL.out; omega, by have := HKL.out; omega, rfl, by first | rfl | go_num, HP3.out⟩
                  | ((repeat apply Exists.intro); refine ⟨?_, rfl⟩; exact ⟨2, m2 + 1, (2 : Int) - 1, by have := HKL.out; omega, by have := HKL.out; omega, rfl, by first | rfl | go_num, HP3.out⟩)
              case measure => simp [intOf]
            · have fc : (X : Int) / 16777216 % 256 = (c.toNat : Int) := by rw [HCN.out, if_pos (by decide)]; omega
              clear h8
              go_wp2_with (at_builtin; refine wpList_append_own _ rfl _ _ 22 rfl w.heap.size 5 i0 (.int .u8 0) 1 1 Tryd.underlying22 hi hz0 hz1 hz2 rfl (by decide) _ _ _ rfl (own_kept HP.out.1 ((Below.refl _ _).alloc (Nat.le_refl _) _)) ⟨wr.heap.size, 0, none⟩ 1 1 [.int .u8 (c.toNat : Int)] rfl rfl (cell_one_new _ _ _) (by simp [Value.oneCell']) (by have := HM2.out; have := HBD.out; unfold maxLen; omega) (by have := HM2.out; have := HBD.out; omega) (by have := HP.out.2.1.size; simp; omega) ?_; intro v3 w3 hown hgrow hnil)
              have HP3 := hid (show PdR6 w w3 v3 (m2 + 1) (padL6 l (padN6 len) ++ (lenB6 len).take (16 - 3)) by
                rw [HTK.out, ← List.append_assoc]
                exact HP.out.more (c := c) hown hgrow)
              clear hown hgrow hnil
              go_wp2_with fail
              go_roundw
              case rel =>
                have := HM2.out
                first
                  | exact ⟨3, m2 + 1, (3 : Int) - 1, by have := HKL.out; omega, by have := HKL.out; omega, rfl, by first | rfl | go_num, HP3.out⟩
                  | ((repeat apply Exists.intro); refine ⟨?_, rfl⟩; exact ⟨3, m2 + 1, (3 : Int) - 1, by have := HKL.out; omega, by have := HKL.out; omega, rfl, by first | rfl | go_num, HP3.out⟩)
              case measure => simp [intOf]
            · have fc : (X : Int) / 4294967296 % 256 = (c.toNat : Int) := by rw [HCN.out, if_pos (by decide)]; omega
              clear h8
              go_wp2_with (at_builtin; refine wpList_append_own _ rfl _ _ 22 rfl w.heap.size 5 i0 (.int .u8 0) 1 1 Tryd.underlying22 hi hz0 hz1 hz2 rfl (by decide) _ _ _ rfl (own_kept HP.out.1 ((Below.refl _ _).alloc (Nat.le_refl _) _)) ⟨wr.heap.size, 0, none⟩ 1 1 [.int .u8 (c.toNat : Int)] rfl rfl (cell_one_new _ _ _) (by simp [Value.oneCell']) (by have := HM2.out; have := HBD.out; unfold maxLen; omega) (by have := HM2.out; have := HBD.out; omega) (by have := HP.out.2.1.size; simp; omega) ?_; intro v3 w3 hown hgrow hnil)
              have HP3 := hid (show PdR6 w w3 v3 (m2 + 1) (padL6 l (padN6 len) ++ (lenB6 len).take (16 - 4)) by
                rw [HTK.out, ← List.append_assoc]
                exact HP.out.more (c := c) hown hgrow)
              clear hown hgrow hnil
              go_wp2_with fail
              go_roundw
              case rel =>
                have := HM2.out
                first
                  | exact ⟨4, m2 + 1, (4 : Int) - 1, by have := HKL.out; omega, by have := HKL.out; omega, rfl, by first | rfl | go_num, HP3.out⟩
                  | ((repeat apply Exists.intro); refine ⟨?_, rfl⟩; exact ⟨4, m2 + 1, (4 : Int) - 1, by have := HKL.out; omega, by have := HKL.out; omega, rfl, by first | rfl | go_num, HP3.out⟩)
              case measure => simp [intOf]
            · have fc : (X : Int) / 1099511627776 % 256 = (c.toNat : Int) := by rw [HCN.out, if_pos (by decide)]; omega
              clear h8
              go_wp2_with (at_builtin; refine wpList_append_own _ rfl _ _ 22 rfl w.heap.size 5 i0 (.int .u8 0) 1 1 Tryd.underlying22 hi hz0 hz1 hz2 rfl (by decide) _ _ _ rfl (own_kept HP.out.1 ((Below.refl _ _).alloc (Nat.le_refl _) _)) ⟨wr.heap.size, 0, none⟩ 1 1 [.int .u8 (c.toNat : Int)] rfl rfl (cell_one_new _ _ _) (by simp [Value.oneCell']) (by have := HM2.out; have := HBD.out; unfold maxLen; omega) (by have := HM2.out; have := HBD.out; omega) (by have := HP.out.2.1.size; simp; omega) ?_; intro v3 w3 hown hgrow hnil)
              have HP3 := hid (show PdR6 w w3 v3 (m2 + 1) (padL6 l (padN6 len) ++ (lenB6 len).take (16 - 5)) by
                rw [HTK.out, ← List.append_assoc]
                exact HP.out.more (c := c) hown hgrow)
              clear hown hgrow hnil
              go_wp2_with fail
              go_roundw
              case rel =>
                have := HM2.out
                first
                  | exact ⟨5, m2 + 1, (5 : Int) - 1, by have := HKL.out; omega, by have := HKL.out; omega, rfl, by first | rfl | go_num, HP3.out⟩
                  | ((repeat apply Exists.intro); refine ⟨?_, rfl⟩; exact ⟨5, m2 + 1, (5 : Int) - 1, by have := HKL.out; omega, by have := HKL.out; omega, rfl, by first | rfl | go_num, HP3.out⟩)
              case measure => simp [intOf]
            · have fc : (X : Int) / 281474976710656 % 256 = (c.toNat : Int) := by rw [HCN.out, if_pos (by decide)]; omega
              clear h8
              go_wp2_with (at_builtin; refine wpList_append_own _ rfl _ _ 22 rfl w.heap.size 5 i0 (.int .u8 0) 1 1 Tryd.underlying22 hi hz0 hz1 hz2 rfl (by decide) _ _ _ rfl (own_kept HP.out.1 ((Below.refl _ _).alloc (Nat.le_refl _) _)) ⟨wr.heap.size, 0, none⟩ 1 1 [.int .u8 (c.toNat : Int)] rfl rfl (cell_one_new _ _ _) (by simp [Value.oneCell']) (by have := HM2.out; have := HBD.out; unfold maxLen; omega) (by have := HM2.out; have := HBD.out; omega) (by have := HP.out.2.1.size; simp; omega) ?_; intro v3 w3 hown hgrow hnil)
              have HP3 := hid (show PdR6 w w3 v3 (m2 + 1) (padL6 l (padN6 len) ++ (lenB6 len).take (16 - 6)) by
                rw [HTK.out, ← List.append_assoc]
                exact HP.out.more (c := c) hown hgrow)
              clear hown hgrow hnil
              go_wp2_with fail
              go_roundw
              case rel =>
                have := HM2.out
                first
                  | exact ⟨6, m2 + 1, (6 : Int) - 1, by have := HKL.out; omega, by have := HKL.out; omega, rfl, by first | rfl | go_num, HP3.out⟩
                  | ((repeat apply Exists.intro); refine ⟨?_, rfl⟩; exact ⟨6, m2 + 1, (6 : Int) - 1, by have := HKL.out; omega, by have := HKL.out; omega, rfl, by first | rfl | go_num, HP3.out⟩)
              case measure => simp [intOf]
            · have fc : (X : Int) / 72057594037927936 % 256 = (c.toNat : Int) := by rw [HCN.out, if_pos (by decide)]; omega
              clear h8
              go_wp2_with (at_builtin; refine wpList_append_own _ rfl _ _ 22 rfl w.heap.size 5 i0 (.int .u8 0) 1 1 Tryd.underlying22 hi hz0 hz1 hz2 rfl (by decide) _ _ _ rfl (own_kept HP.out.1 ((Below.refl _ _).alloc (Nat.le_refl _) _)) ⟨wr.heap.size, 0, none⟩ 1 1 [.int .u8 (c.toNat : Int)] rfl rfl (cell_one_new _ _ _) (by simp [Value.oneCell']) (by have := HM2.out; have := HBD.out; unfold maxLen; omega) (by have := HM2.out; have := HBD.out; omega) (by have := HP.out.2.1.size; simp; omega) ?_; intro v3 w3 hown hgrow hnil)
              have HP3 := hid (show PdR6 w w3 v3 (m2 + 1) (padL6 l (padN6 len) ++ (lenB6 len).take (16 - 7)) by
                rw [HTK.out, ← List.append_assoc]
                exact HP.out.more (c := c) hown hgrow)
              clear hown hgrow hnil
              go_wp2_with fail
              go_roundw
              case rel =>
                have := HM2.out
                first
                  | exact ⟨7, m2 + 1, (7 : Int) - 1, by have := HKL.out; omega, by have := HKL.out; omega, rfl, by first | rfl | go_num, HP3.out⟩
                  | ((repeat apply Exists.intro); refine ⟨?_, rfl⟩; exact ⟨7, m2 + 1, (7 : Int) - 1, by have := HKL.out; omega, by have := HKL.out; omega, rfl, by first | rfl | go_num, HP3.out⟩)
              case measure => simp [intOf]
          · have h8I : ¬ ((k : Int) < 8) := by omega
            have fc : (0 : Int) = (c.toNat : Int) := by rw [HCN.out, if_neg h8]; rfl
            obtain rfl : c = 0 := by
              apply UInt8.toNat_inj.1
              show c.toNat = 0
              omega
            have hkI : (k : Int) < 16 := by have := HKL.out; omega
            have hkw : IntKind.i64.wrap ((k : Int) - 1) = (k : Int) - 1 := wrap_i64_id _ (by omega) (by omega)
            clear fc HCN
            go_wp2_with (at_builtin; refine wpList_append_own _ rfl _ _ 22 rfl w.heap.size 5 i0 (.int .u8 0) 1 1 Tryd.underlying22 hi hz0 hz1 hz2 rfl (by decide) _ _ _ rfl (own_kept HP.out.1 ((Below.refl _ _).alloc (Nat.le_refl _) _)) ⟨wr.heap.size, 0, none⟩ 1 1 [.int .u8 0] rfl rfl (cell_one_new _ _ _) (by simp [Value.oneCell']) (by have := HM2.out; have := HBD.out; unfold maxLen; omega) (by have := HM2.out; have := HBD.out; omega) (by have := HP.out.2.1.size; simp; omega) ?_; intro v3 w3 hown hgrow hnil)
            have HP3 := hid (show PdR6 w w3 v3 (m2 + 1) (padL6 l (padN6 len) ++ (lenB6 len).take (16 - k)) by
              rw [HTK.out, ← List.append_assoc]
              exact HP.out.more (c := 0) hown hgrow)
            clear hown hgrow hnil
            go_wp2_with fail
            go_roundw
            case rel =>
              have := HM2.out
              first
                | exact ⟨k, m2 + 1, (k : Int) - 1, by have := HKL.out; omega, by have := HKL.out; omega, rfl, by first | rfl | go_num, HP3.out⟩
                | ((repeat apply Exists.intro); refine ⟨?_, rfl⟩; exact ⟨k, m2 + 1, (k : Int) - 1, by have := HKL.out; omega, by have := HKL.out; omega, rfl, by first | rfl | go_num, HP3.out⟩)
            case measure => first | (simp [intOf]; done) | (simp [intOf]; omega)

end Go.Proofs.YtbdlicomkpnalaaDoor
