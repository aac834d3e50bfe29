/-
  UNDER WAY, NOT CLEAN: the walk of ostiaryref8.pad, for blocks of 128 bytes. Stands: both appends, loop 1, loop 2's relation. Left: the return behind loop 2 (the shape of bodyPost_ret's last argument), loop 2's round at k < 8 ('maximum recursion depth': try k as literals 0 .. 7, great bounds hidden) and at 8 ≤ k.
  One block in ostiaryref8's Sum, at 64 bits.
-/
import Derived.Test.YtbdlicomkpnalaaGreatDoorZo
import Derived.Test.YtbdlicomkpnalaaGreatDoorZm
import Derived.Test.YtbdlicomkpnalaaGreatDoorZq
import Derived.Test.YtbdlicomkpnalaaGreatDoorZl
set_option linter.unusedSimpArgs false
set_option linter.unusedVariables false
namespace Go.Proofs.YtbdlicomkpnalaaGreatDoor
open Go.RowKit

theorem take_next6 (n k : Nat) (hk : k < 16) : (lenB6 n).take (16 - k) = (lenB6 n).take (16 - (k + 1)) ++ [UInt8.ofNat (if k < 8 then n * 8 / 2 ^ (8 * k) % 256 else 0)] := by
  have h := len_at6 n k hk
  have e : 16 - k = (16 - 1 - k) + 1 := by omega
  have e2 : 16 - (k + 1) = 16 - 1 - k := by omega
  rw [e, e2, List.take_add_one]
  have h' : (lenB6 n)[16 - 1 - k]? = some (UInt8.ofNat (if k < 8 then n * 8 / 2 ^ (8 * k) % 256 else 0)) := h
  rw [h']
  rfl

set_option maxHeartbeats 4000000 in
set_option maxRecDepth 100000 in
theorem rpad6 (a0 : Option Addr) (len cap : Nat) (l : List UInt8) (w : World) (hv : SlB w (.slice a0 len cap) l) (hn : a0 = none → cap = 0) (hl : l.length ≤ 100000000) :
    Calls Tryz.prog 48 #[.slice a0 len cap, .int .i64 128] w fun e w' => ∃ v' n', e = .returned v' ∧ PdR6 w w' v' n' (padL6 l (padN6 l.length) ++ lenB6 l.length) := by
  obtain ⟨i0, hi, hz0, hz1, hz2⟩ := info_parts infoByte8
  obtain rfl : len = l.length := hv.ln
  obtain ⟨len, hnl⟩ : ∃ n, n = l.length := ⟨_, rfl⟩
  rw [← hnl] at hv hl ⊢
  have HNL := hid hnl
  have HV := hid hv
  have hmx : len + 1000 ≤ maxLen := by unfold maxLen; omega
  clear hv hnl
  go_enter Tryz.func48, Tryz.ntmps48
  go_wp2_with (at_builtin; first
    | (refine append_sl6 rfl _ _ 22 rfl w.heap.size 5 i0 (.int .u8 0) Tryz.underlying22 hi hz0 hz1 hz2 rfl _ 0 [] rfl (World.ownsRow_made w #[] 0 (Nat.le_refl _) (Nat.zero_le _) rfl) a0 len cap l rfl (HV.out.alloc _) hn (by have := HNL.out; omega) (by have := HNL.out; omega) (by simp) ?_; intro v1 w1 hown1 hgrow1; have HP1 := hid (show PdR6 w w1 v1 len l from ⟨by have h := hown1; rw [Nat.zero_add, List.nil_append, ← HNL.out] at h; exact h, ((Below.refl _ w).alloc (Nat.le_refl _) _).grown hgrow1 (by simp) (fun k hk => ((World.ownsRow_made (base := w.heap.size) (e := 5) (size := 1) w #[] 0 (Nat.le_refl _) (Nat.zero_le _) rfl).lt k hk).1), HNL.out⟩); clear hown1 hgrow1)
    | (refine wpList_append_own _ rfl _ _ 22 rfl w.heap.size 5 i0 (.int .u8 0) 1 1 Tryz.underlying22 hi hz0 hz1 hz2 rfl (by decide) _ _ _ rfl (own_kept HP1.out.1 ((Below.refl _ _).alloc (Nat.le_refl _) _)) ⟨w1.heap.size, 0, none⟩ 1 1 [.int .u8 128] rfl rfl (cell_one_new _ _ _) (by simp [Value.oneCell']) (by unfold maxLen; omega) (by omega) (by have := HP1.out.2.1.size; simp; omega) ?_; intro v2 w2 hown hgrow hnil; have HP2 := hid (show PdR6 w w2 v2 (len + 1) (padL6 l 0) from HP1.out.more (c := 128) hown hgrow); clear hown hgrow hnil))
  go_loopw [5] (fun v5 wr => ∃ j n : Nat, j ≤ padN6 len ∧ n = len + 1 + j ∧ Hid (PdR6 w wr v5 n (padL6 l j))) (fun v5 _ => padN6 len + len + 1 - (match v5 with | .slice _ n _ => n | _ => 0))
  case atStart => exact ⟨0, len + 1, Nat.zero_le _, rfl, HP2.out⟩
  case round =>
    clear HP1 HP2
    obtain ⟨j, m, hj, hmv, HP⟩ := hrel
    obtain ⟨va, vc, hva⟩ := own_len HP.out.1
    subst hva
    have hjz := pad_le6 len
    obtain ⟨r, hr⟩ : ∃ r, r = m % 128 := ⟨_, rfl⟩
    have r1 : (m : Int).tmod 128 = (r : Int) := by rw [hr, Int.tmod_eq_emod_of_nonneg (by omega)]; omega
    have r2 : (m : Int) % 128 = (r : Int) := by rw [hr]; omega
    by_cases hlt : j < padN6 len
    · have hne : (r : Int) ≠ 112 := by have := pad_more6 len j hlt; rw [← hmv, ← hr] at this; omega
      clear hr
      go_wp2_with (at_builtin; refine wpList_append_own _ rfl _ _ 22 rfl w.heap.size 5 i0 (.int .u8 0) 1 1 Tryz.underlying22 hi hz0 hz1 hz2 rfl (by decide) _ _ _ rfl (own_kept HP.out.1 ((Below.refl _ _).alloc (Nat.le_refl _) _)) ⟨wr.heap.size, 0, none⟩ 1 1 [.int .u8 0] rfl rfl (cell_one_new _ _ _) (by simp [Value.oneCell']) (by unfold maxLen; omega) (by omega) (by have := HP.out.2.1.size; simp; omega) ?_; intro v3 w3 hown hgrow hnil)
      have HP2 := hid (show PdR6 w w3 v3 (m + 1) (padL6 l (j + 1)) by
        have := HP.out.more (c := 0) hown hgrow
        rwa [show padL6 l j ++ [0] = padL6 l (j + 1) by simp [padL6, List.replicate_succ']] at this)
      have HO2 := hid (own_len HP2.out.1)
      clear hown hgrow hnil
      go_wp2_with fail
      go_roundw
      case rel =>
        first
          | exact ⟨j + 1, m + 1, by omega, by omega, HP2.out⟩
          | ((repeat apply Exists.intro); refine ⟨?_, rfl⟩; exact ⟨j + 1, m + 1, by omega, by omega, HP2.out⟩)
      case measure =>
        obtain ⟨a2, c2, rfl⟩ := HO2.out
        simp only
        omega
    · obtain rfl : j = padN6 len := by omega
      obtain rfl : r = 112 := by have := pad_stop6 len; rw [← hmv, ← hr] at this; exact this
      have HP0 := hid (show PdR6 w wr (.slice va m vc) m (padL6 l (padN6 len) ++ (lenB6 len).take (16 - 16)) by
        rw [Nat.sub_self, List.take_zero, List.append_nil]
        exact HP.out)
      have hmle : m ≤ len + 1 + 2 * 128 := by omega
      clear hr hlt hj HP hmv hjz
      go_wp2_with fail
      go_loopw [5, 6] (fun v5 v6 wq => ∃ (k n : Nat) (z : Int), k ≤ 16 ∧ n ≤ len + 1 + 2 * 128 + (16 - k) ∧ z = (k : Int) - 1 ∧ v6 = .int .i64 z ∧ Hid (PdR6 w wq v5 n (padL6 l (padN6 len) ++ (lenB6 len).take (16 - k)))) (fun _ v6 _ => (intOf v6 + 1).toNat)
      case atStart => exact ⟨16, m, 16 - 1, Nat.le_refl _, by omega, rfl, rfl, HP0.out⟩
      case round =>
        clear HP0
        obtain ⟨k, m2, z, hk, hm2, hz, rfl, HP⟩ := hrel
        obtain ⟨vb, vd, hvb⟩ := own_len HP.out.1
        subst hvb
        cases k with
        | zero =>
          have hneg : z < 0 := by omega
          have hneg2 : ¬ (0 ≤ z) := by omega
          have HF := hid (show PdR6 w wr (.slice vb m2 vd) m2 (padL6 l (padN6 len) ++ lenB6 len) by
            have := HP.out
            rwa [Nat.sub_zero, List.take_of_length_le (by rw [len_len6]; exact Nat.le_refl _)] at this)
          clear HP hz
          go_wp2_with fail
          exact bodyPost_ret (by first | rfl | kernel_rfl) rfl ⟨_, rfl, _, HF.out⟩
        | succ k =>
          obtain rfl : z = (k : Int) := by omega
          have HBD := hid hl
          have HM2 := hid hm2
          have HKL := hid (show k < 16 by omega)
          have x1 : IntKind.wrap .u64 (len : Int) = (len : Int) := by simp [IntKind.wrap, IntKind.bits, IntKind.signed]; omega
          obtain ⟨X, hX⟩ : ∃ X, X = len * 8 := ⟨_, rfl⟩
          have x2 : IntKind.wrap .u64 ((len : Int) * 8) = (X : Int) := by rw [hX]; simp [IntKind.wrap, IntKind.bits, IntKind.signed]; omega
          obtain ⟨c, hc⟩ : ∃ c : UInt8, c = UInt8.ofNat (if k < 8 then X / 2 ^ (8 * k) % 256 else 0) := ⟨_, rfl⟩
          have HTK := hid (show (lenB6 len).take (16 - k) = (lenB6 len).take (16 - (k + 1)) ++ [c] by rw [hc, hX]; exact take_next6 len k (by omega))
          have HCN := hid (show c.toNat = (if k < 8 then X / 2 ^ (8 * k) % 256 else 0) by
            rw [hc]
            split
            · rw [UInt8.toNat_ofNat']; omega
            · rfl)
          clear hl hmx hm2 hmle hX hk hz hc
          by_cases h8 : k < 8
          · rcases (show k = 0 ∨ k = 1 ∨ k = 2 ∨ k = 3 ∨ k = 4 ∨ k = 5 ∨ k = 6 ∨ k = 7 by omega) with rfl | rfl | rfl | rfl | rfl | rfl | rfl | rfl
            · have fc : (X : Int) % 256 = (c.toNat : Int) := by rw [HCN.out, if_pos (by decide)]; omega
              clear h8
              go_wp2_with (at_builtin; refine wpList_append_own _ rfl _ _ 22 rfl w.heap.size 5 i0 (.int .u8 0) 1 1 Tryz.underlying22 hi hz0 hz1 hz2 rfl (by decide) _ _ _ rfl (own_kept HP.out.1 ((Below.refl _ _).alloc (Nat.le_refl _) _)) ⟨wr.heap.size, 0, none⟩ 1 1 [.int .u8 (c.toNat : Int)] rfl rfl (cell_one_new _ _ _) (by simp [Value.oneCell']) (by have := HM2.out; have := HBD.out; unfold maxLen; omega) (by have := HM2.out; have := HBD.out; omega) (by have := HP.out.2.1.size; simp; omega) ?_; intro v3 w3 hown hgrow hnil)
              have HP3 := hid (show PdR6 w w3 v3 (m2 + 1) (padL6 l (padN6 len) ++ (lenB6 len).take (16 - 0)) by
                rw [HTK.out, ← List.append_assoc]
                exact HP.out.more (c := c) hown hgrow)
              clear hown hgrow hnil
              go_wp2_with fail
              go_roundw
              case rel =>
                have := HM2.out
                first
                  | exact ⟨0, m2 + 1, (0 : Int) - 1, by have := HKL.out; omega, by have := HKL.out; omega, rfl, by first | rfl | go_num, HP3.out⟩
                  | ((repeat apply Exists.intro); refine ⟨?_, rfl⟩; exact ⟨0, m2 + 1, (0 : Int) - 1, by have := HKL.out; omega, by have := HKL.out; omega, rfl, by first | rfl | go_num, HP3.out⟩)
              case measure => simp [intOf]
            · have fc : (X : Int) / 256 % 256 = (c.toNat : Int) := by rw [HCN.out, if_pos (by decide)]; omega
              clear h8
              go_wp2_with (at_builtin; refine wpList_append_own _ rfl _ _ 22 rfl w.heap.size 5 i0 (.int .u8 0) 1 1 Tryz.underlying22 hi hz0 hz1 hz2 rfl (by decide) _ _ _ rfl (own_kept HP.out.1 ((Below.refl _ _).alloc (Nat.le_refl _) _)) ⟨wr.heap.size, 0, none⟩ 1 1 [.int .u8 (c.toNat : Int)] rfl rfl (cell_one_new _ _ _) (by simp [Value.oneCell']) (by have := HM2.out; have := HBD.out; unfold maxLen; omega) (by have := HM2.out; have := HBD.out; omega) (by have := HP.out.2.1.size; simp; omega) ?_; intro v3 w3 hown hgrow hnil)
              have HP3 := hid (show PdR6 w w3 v3 (m2 + 1) (padL6 l (padN6 len) ++ (lenB6 len).take (16 - 1)) by
                rw [HTK.out, ← List.append_assoc]
                exact HP.out.more (c := c) hown hgrow)
              clear hown hgrow hnil
              go_wp2_with fail
              go_roundw
              case rel =>
                have := HM2.out
                first
                  | exact ⟨1, m2 + 1, (1 : Int) - 1, by have := HKL.out; omega, by have := HKL.out; omega, rfl, by first | rfl | go_num, HP3.out⟩
                  | ((repeat apply Exists.intro); refine ⟨?_, rfl⟩; exact ⟨1, m2 + 1, (1 : Int) - 1, by have := HKL.out; omega, by have := HKL.out; omega, rfl, by first | rfl | go_num, HP3.out⟩)
              case measure => simp [intOf]
            · have fc : (X : Int) / 65536 % 256 = (c.toNat : Int) := by rw [HCN.out, if_pos (by decide)]; omega
              clear h8
              go_wp2_with (at_builtin; refine wpList_append_own _ rfl _ _ 22 rfl w.heap.size 5 i0 (.int .u8 0) 1 1 Tryz.underlying22 hi hz0 hz1 hz2 rfl (by decide) _ _ _ rfl (own_kept HP.out.1 ((Below.refl _ _).alloc (Nat.le_refl _) _)) ⟨wr.heap.size, 0, none⟩ 1 1 [.int .u8 (c.toNat : Int)] rfl rfl (cell_one_new _ _ _) (by simp [Value.oneCell']) (by have := HM2.out; have := HBD.out; unfold maxLen; omega) (by have := HM2.out; have := HBD.out; omega) (by have := HP.out.2.1.size; simp; omega) ?_; intro v3 w3 hown hgrow hnil)
              have HP3 := hid (show PdR6 w w3 v3 (m2 + 1) (padL6 l (padN6 len) ++ (lenB6 len).take (16 - 2)) by
                rw [HTK.out, ← List.append_assoc]
                exact HP.out.more (c := c) hown hgrow)
              clear hown hgrow hnil
              go_wp2_with fail
              go_roundw
              case rel =>
                have := HM2.out
                first
                  | exact ⟨2, m2 + 1, (2 : Int) - 1, by have := HKL.out; omega, by have := HKL.out; omega, rfl, by first | rfl | go_num, HP3.out⟩
                  | ((repeat apply Exists.intro); refine ⟨?_, rfl⟩; exact ⟨2, m2 + 1, (2 : Int) - 1, by have := HKL.out; omega, by have := HKL.out; omega, rfl, by first | rfl | go_num, HP3.out⟩)
              case measure => simp [intOf]
            · have fc : (X : Int) / 16777216 % 256 = (c.toNat : Int) := by rw [HCN.out, if_pos (by decide)]; omega
              clear h8
              go_wp2_with (at_builtin; refine wpList_append_own _ rfl _ _ 22 rfl w.heap.size 5 i0 (.int .u8 0) 1 1 Tryz.underlying22 hi hz0 hz1 hz2 rfl (by decide) _ _ _ rfl (own_kept HP.out.1 ((Below.refl _ _).alloc (Nat.le_refl _) _)) ⟨wr.heap.size, 0, none⟩ 1 1 [.int .u8 (c.toNat : Int)] rfl rfl (cell_one_new _ _ _) (by simp [Value.oneCell']) (by have := HM2.out; have := HBD.out; unfold maxLen; omega) (by have := HM2.out; have := HBD.out; omega) (by have := HP.out.2.1.size; simp; omega) ?_; intro v3 w3 hown hgrow hnil)
              have HP3 := hid (show PdR6 w w3 v3 (m2 + 1) (padL6 l (padN6 len) ++ (lenB6 len).take (16 - 3)) by
                rw [HTK.out, ← List.append_assoc]
                exact HP.out.more (c := c) hown hgrow)
              clear hown hgrow hnil
              go_wp2_with fail
              go_roundw
              case rel =>
                have := HM2.out
                first
                  | exact ⟨3, m2 + 1, (3 : Int) - 1, by have := HKL.out; omega, by have := HKL.out; omega, rfl, by first | rfl | go_num, HP3.out⟩
                  | ((repeat apply Exists.intro); refine ⟨?_, rfl⟩; exact ⟨3, m2 + 1, (3 : Int) - 1, by have := HKL.out; omega, by have := HKL.out; omega, rfl, by first | rfl | go_num, HP3.out⟩)
              case measure => simp [intOf]
            · have fc : (X : Int) / 4294967296 % 256 = (c.toNat : Int) := by rw [HCN.out, if_pos (by decide)]; omega
              clear h8
              go_wp2_with (at_builtin; refine wpList_append_own _ rfl _ _ 22 rfl w.heap.size 5 i0 (.int .u8 0) 1 1 Tryz.underlying22 hi hz0 hz1 hz2 rfl (by decide) _ _ _ rfl (own_kept HP.out.1 ((Below.refl _ _).alloc (Nat.le_refl _) _)) ⟨wr.heap.size, 0, none⟩ 1 1 [.int .u8 (c.toNat : Int)] rfl rfl (cell_one_new _ _ _) (by simp [Value.oneCell']) (by have := HM2.out; have := HBD.out; unfold maxLen; omega) (by have := HM2.out; have := HBD.out; omega) (by have := HP.out.2.1.size; simp; omega) ?_; intro v3 w3 hown hgrow hnil)
              have HP3 := hid (show PdR6 w w3 v3 (m2 + 1) (padL6 l (padN6 len) ++ (lenB6 len).take (16 - 4)) by
                rw [HTK.out, ← List.append_assoc]
                exact HP.out.more (c := c) hown hgrow)
              clear hown hgrow hnil
              go_wp2_with fail
              go_roundw
              case rel =>
                have := HM2.out
                first
                  | exact ⟨4, m2 + 1, (4 : Int) - 1, by have := HKL.out; omega, by have := HKL.out; omega, rfl, by first | rfl | go_num, HP3.out⟩
                  | ((repeat apply Exists.intro); refine ⟨?_, rfl⟩; exact ⟨4, m2 + 1, (4 : Int) - 1, by have := HKL.out; omega, by have := HKL.out; omega, rfl, by first | rfl | go_num, HP3.out⟩)
              case measure => simp [intOf]
            · have fc : (X : Int) / 1099511627776 % 256 = (c.toNat : Int) := by rw [HCN.out, if_pos (by decide)]; omega
              clear h8
              go_wp2_with (at_builtin; refine wpList_append_own _ rfl _ _ 22 rfl w.heap.size 5 i0 (.int .u8 0) 1 1 Tryz.underlying22 hi hz0 hz1 hz2 rfl (by decide) _ _ _ rfl (own_kept HP.out.1 ((Below.refl _ _).alloc (Nat.le_refl _) _)) ⟨wr.heap.size, 0, none⟩ 1 1 [.int .u8 (c.toNat : Int)] rfl rfl (cell_one_new _ _ _) (by simp [Value.oneCell']) (by have := HM2.out; have := HBD.out; unfold maxLen; omega) (by have := HM2.out; have := HBD.out; omega) (by have := HP.out.2.1.size; simp; omega) ?_; intro v3 w3 hown hgrow hnil)
              have HP3 := hid (show PdR6 w w3 v3 (m2 + 1) (padL6 l (padN6 len) ++ (lenB6 len).take (16 - 5)) by
                rw [HTK.out, ← List.append_assoc]
                exact HP.out.more (c := c) hown hgrow)
              clear hown hgrow hnil
              go_wp2_with fail
              go_roundw
              case rel =>
                have := HM2.out
                first
                  | exact ⟨5, m2 + 1, (5 : Int) - 1, by have := HKL.out; omega, by have := HKL.out; omega, rfl, by first | rfl | go_num, HP3.out⟩
                  | ((repeat apply Exists.intro); refine ⟨?_, rfl⟩; exact ⟨5, m2 + 1, (5 : Int) - 1, by have := HKL.out; omega, by have := HKL.out; omega, rfl, by first | rfl | go_num, HP3.out⟩)
              case measure => simp [intOf]
            · have fc : (X : Int) / 281474976710656 % 256 = (c.toNat : Int) := by rw [HCN.out, if_pos (by decide)]; omega
              clear h8
              go_wp2_with (at_builtin; refine wpList_append_own _ rfl _ _ 22 rfl w.heap.size 5 i0 (.int .u8 0) 1 1 Tryz.underlying22 hi hz0 hz1 hz2 rfl (by decide) _ _ _ rfl (own_kept HP.out.1 ((Below.refl _ _).alloc (Nat.le_refl _) _)) ⟨wr.heap.size, 0, none⟩ 1 1 [.int .u8 (c.toNat : Int)] rfl rfl (cell_one_new _ _ _) (by simp [Value.oneCell']) (by have := HM2.out; have := HBD.out; unfold maxLen; omega) (by have := HM2.out; have := HBD.out; omega) (by have := HP.out.2.1.size; simp; omega) ?_; intro v3 w3 hown hgrow hnil)
              have HP3 := hid (show PdR6 w w3 v3 (m2 + 1) (padL6 l (padN6 len) ++ (lenB6 len).take (16 - 6)) by
                rw [HTK.out, ← List.append_assoc]
                exact HP.out.more (c := c) hown hgrow)
              clear hown hgrow hnil
              go_wp2_with fail
              go_roundw
              case rel =>
                have := HM2.out
                first
                  | exact ⟨6, m2 + 1, (6 : Int) - 1, by have := HKL.out; omega, by have := HKL.out; omega, rfl, by first | rfl | go_num, HP3.out⟩
                  | ((repeat apply Exists.intro); refine ⟨?_, rfl⟩; exact ⟨6, m2 + 1, (6 : Int) - 1, by have := HKL.out; omega, by have := HKL.out; omega, rfl, by first | rfl | go_num, HP3.out⟩)
              case measure => simp [intOf]
            · have fc : (X : Int) / 72057594037927936 % 256 = (c.toNat : Int) := by rw [HCN.out, if_pos (by decide)]; omega
              clear h8
              go_wp2_with (at_builtin; refine wpList_append_own _ rfl _ _ 22 rfl w.heap.size 5 i0 (.int .u8 0) 1 1 Tryz.underlying22 hi hz0 hz1 hz2 rfl (by decide) _ _ _ rfl (own_kept HP.out.1 ((Below.refl _ _).alloc (Nat.le_refl _) _)) ⟨wr.heap.size, 0, none⟩ 1 1 [.int .u8 (c.toNat : Int)] rfl rfl (cell_one_new _ _ _) (by simp [Value.oneCell']) (by have := HM2.out; have := HBD.out; unfold maxLen; omega) (by have := HM2.out; have := HBD.out; omega) (by have := HP.out.2.1.size; simp; omega) ?_; intro v3 w3 hown hgrow hnil)
              have HP3 := hid (show PdR6 w w3 v3 (m2 + 1) (padL6 l (padN6 len) ++ (lenB6 len).take (16 - 7)) by
                rw [HTK.out, ← List.append_assoc]
                exact HP.out.more (c := c) hown hgrow)
              clear hown hgrow hnil
              go_wp2_with fail
              go_roundw
              case rel =>
                have := HM2.out
                first
                  | exact ⟨7, m2 + 1, (7 : Int) - 1, by have := HKL.out; omega, by have := HKL.out; omega, rfl, by first | rfl | go_num, HP3.out⟩
                  | ((repeat apply Exists.intro); refine ⟨?_, rfl⟩; exact ⟨7, m2 + 1, (7 : Int) - 1, by have := HKL.out; omega, by have := HKL.out; omega, rfl, by first | rfl | go_num, HP3.out⟩)
              case measure => simp [intOf]
          · have h8I : ¬ ((k : Int) < 8) := by omega
            have fc : (0 : Int) = (c.toNat : Int) := by rw [HCN.out, if_neg h8]; rfl
            obtain rfl : c = 0 := by
              apply UInt8.toNat_inj.1
              show c.toNat = 0
              omega
            have hkI : (k : Int) < 16 := by have := HKL.out; omega
            have hkw : IntKind.i64.wrap ((k : Int) - 1) = (k : Int) - 1 := wrap_i64_id _ (by omega) (by omega)
            clear fc HCN
            go_wp2_with (at_builtin; refine wpList_append_own _ rfl _ _ 22 rfl w.heap.size 5 i0 (.int .u8 0) 1 1 Tryz.underlying22 hi hz0 hz1 hz2 rfl (by decide) _ _ _ rfl (own_kept HP.out.1 ((Below.refl _ _).alloc (Nat.le_refl _) _)) ⟨wr.heap.size, 0, none⟩ 1 1 [.int .u8 0] rfl rfl (cell_one_new _ _ _) (by simp [Value.oneCell']) (by have := HM2.out; have := HBD.out; unfold maxLen; omega) (by have := HM2.out; have := HBD.out; omega) (by have := HP.out.2.1.size; simp; omega) ?_; intro v3 w3 hown hgrow hnil)
            have HP3 := hid (show PdR6 w w3 v3 (m2 + 1) (padL6 l (padN6 len) ++ (lenB6 len).take (16 - k)) by
              rw [HTK.out, ← List.append_assoc]
              exact HP.out.more (c := 0) hown hgrow)
            clear hown hgrow hnil
            go_wp2_with fail
            go_roundw
            case rel =>
              have := HM2.out
              first
                | exact ⟨k, m2 + 1, (k : Int) - 1, by have := HKL.out; omega, by have := HKL.out; omega, rfl, by first | rfl | go_num, HP3.out⟩
                | ((repeat apply Exists.intro); refine ⟨?_, rfl⟩; exact ⟨k, m2 + 1, (k : Int) - 1, by have := HKL.out; omega, by have := HKL.out; omega, rfl, by first | rfl | go_num, HP3.out⟩)
            case measure => first | (simp [intOf]; done) | (simp [intOf]; omega)

end Go.Proofs.YtbdlicomkpnalaaGreatDoor

namespace Go.Proofs.YtbdlicomkpnalaaGreatDoor
open Go.RowKit

noncomputable def srg23_6 : Code := (Tryz.f23.body.bind (regionOf 23)).getD .skip

set_option maxHeartbeats 4000000 in
set_option maxRecDepth 100000 in
theorem rs23_6 (T b8 b11 g n cap p p2 ra rb rc rd re rf rg rh za zb zc zd ze zf zg zh : Nat) (wr : World) (K : Act → World → Prop) (t1 t2 t3 t4 t5 t6 t7 t10 t12 t15 t16 t17 t18 t19 t20 t21 t22 t23 t24 t25 t26 t27 t28 t29 t30 t31 t32 t33 t34 t35 t36 t37 t38 t39 t40 t41 t42 t43 t44 t45 t46 t47 t48 t49 t50 t51 t52 t53 t54 t55 t56 t57 t58 t59 t60 t61 t62 t63 t64 t65 t66 t67 t68 t69 t70 t71 t72 t73 t74 t75 t76 t77 t78 t79 t80 t81 t82 t83 t84 t85 t86 t87 t88 t89 t90 t91 t92 t93 t94 : Value)
    (HA : Hid (wr.heap[b8]? = some (.cells #[.int .u64 64] 97 (0, 0)))) (HR : Hid (Rw wr b11 .u64 98 [ra, rb, rc, rd, re, rf, rg, rh]))
    (HP : Hid (p2 = p + 128 ∧ p2 ≤ cap ∧ cap ≤ maxLen))
    (HC : Hid (∀ X, Below wr.heap.size wr X → Calls Tryz.prog 49 #[.pointer (some ⟨T, 0, none⟩), .agg #[.int .u64 64], .agg #[.int .u64 (ra : Int), .int .u64 (rb : Int), .int .u64 (rc : Int), .int .u64 (rd : Int), .int .u64 (re : Int), .int .u64 (rf : Int), .int .u64 (rg : Int), .int .u64 (rh : Int)], .slice (some ⟨g, p, none⟩) 128 (cap - p)] X fun e' w' => e' = .returned (.agg #[.int .u64 (za : Int), .int .u64 (zb : Int), .int .u64 (zc : Int), .int .u64 (zd : Int), .int .u64 (ze : Int), .int .u64 (zf : Int), .int .u64 (zg : Int), .int .u64 (zh : Int)]) ∧ Below X.heap.size X w'))
    (HK : Hid (∀ (u59 u60 u61 u62 u63 u64 u65 u66 u67 u68 : Value) (w1 w2 : World), Below wr.heap.size wr w1 → w2 = w1.setCells b11 0 (cW .u64 [za, zb, zc, zd, ze, zf, zg, zh]) → K ⟨#[.pointer (some ⟨T, 0, none⟩), t1, t2, t3, t4, t5, t6, t7, .pointer (some ⟨b8, 0, none⟩), .int .i64 128, t10, .pointer (some ⟨b11, 0, none⟩), t12, .slice (some ⟨g, 0, none⟩) n cap, .int .i64 (p : Int), t15, t16, t17, t18, t19, t20, t21, t22, t23, t24, t25, t26, t27, t28, t29, t30, t31, t32, t33, t34, t35, t36, t37, t38, t39, t40, t41, t42, t43, t44, t45, t46, t47, t48, t49, t50, t51, t52, t53, t54, t55, t56, t57, t58, u59, u60, u61, u62, u63, u64, u65, u66, u67, u68, t69, t70, t71, t72, t73, t74, t75, t76, t77, t78, t79, t80, t81, t82, t83, t84, t85, t86, t87, t88, t89, t90, t91, t92, t93, t94], []⟩ w2)) :
    Code.wp Tryz.prog srg23_6 (Exit.then K fun _ _ _ => False) ⟨#[.pointer (some ⟨T, 0, none⟩), t1, t2, t3, t4, t5, t6, t7, .pointer (some ⟨b8, 0, none⟩), .int .i64 128, t10, .pointer (some ⟨b11, 0, none⟩), t12, .slice (some ⟨g, 0, none⟩) n cap, .int .i64 (p : Int), t15, t16, t17, t18, t19, t20, t21, t22, t23, t24, t25, t26, t27, t28, t29, t30, t31, t32, t33, t34, t35, t36, t37, t38, t39, t40, t41, t42, t43, t44, t45, t46, t47, t48, t49, t50, t51, t52, t53, t54, t55, t56, t57, t58, t59, t60, t61, t62, t63, t64, t65, t66, t67, t68, t69, t70, t71, t72, t73, t74, t75, t76, t77, t78, t79, t80, t81, t82, t83, t84, t85, t86, t87, t88, t89, t90, t91, t92, t93, t94], []⟩ wr := by
  have hmx : maxLen = 9223372036854775807 := rfl
  have f1 : IntKind.wrap .i64 ((p : Int) + 128) = (p2 : Int) := by
    have := HP.out
    rw [wrap_i64_id _ (by omega) (by omega)]
    omega
  have hsl : ∀ wx : World, (Instr.sliceAt 22 (.slice (some ⟨g, 0, none⟩) n cap) (some (.int .i64 (p : Int))) (some (.int .i64 (p2 : Int))) none).run Tryz.prog wx = .ok (.slice (some ⟨g, p, none⟩) 128 (cap - p)) wx := fun wx => by
    have h := HP.out
    have := slice_lh ⟨g, 0, none⟩ n cap p p2 wx (p : Int) (p2 : Int) rfl rfl (by omega) (by omega) (by omega)
    rw [Addr.add_lit, Nat.zero_add, show p2 - p = 128 by omega] at this
    exact this
  have c0 : wr.cell? ⟨b8, 0, none⟩ = some (.int .u64 64) := Lib.cell_of_heap HA.out 0
  have HC0 := hid c0
  have s0 : wr.cell? ⟨b11, 0, none⟩ = some (.int .u64 (ra : Int)) := HR.out.cell 0 (by simp)
  have z0 : wr.frozen? ⟨b11, 0, none⟩ = false := HR.out.free 0
  have s1 : wr.cell? ⟨b11, 1, none⟩ = some (.int .u64 (rb : Int)) := HR.out.cell 1 (by simp)
  have z1 : wr.frozen? ⟨b11, 1, none⟩ = false := HR.out.free 1
  have s2 : wr.cell? ⟨b11, 2, none⟩ = some (.int .u64 (rc : Int)) := HR.out.cell 2 (by simp)
  have z2 : wr.frozen? ⟨b11, 2, none⟩ = false := HR.out.free 2
  have s3 : wr.cell? ⟨b11, 3, none⟩ = some (.int .u64 (rd : Int)) := HR.out.cell 3 (by simp)
  have z3 : wr.frozen? ⟨b11, 3, none⟩ = false := HR.out.free 3
  have s4 : wr.cell? ⟨b11, 4, none⟩ = some (.int .u64 (re : Int)) := HR.out.cell 4 (by simp)
  have z4 : wr.frozen? ⟨b11, 4, none⟩ = false := HR.out.free 4
  have s5 : wr.cell? ⟨b11, 5, none⟩ = some (.int .u64 (rf : Int)) := HR.out.cell 5 (by simp)
  have z5 : wr.frozen? ⟨b11, 5, none⟩ = false := HR.out.free 5
  have s6 : wr.cell? ⟨b11, 6, none⟩ = some (.int .u64 (rg : Int)) := HR.out.cell 6 (by simp)
  have z6 : wr.frozen? ⟨b11, 6, none⟩ = false := HR.out.free 6
  have s7 : wr.cell? ⟨b11, 7, none⟩ = some (.int .u64 (rh : Int)) := HR.out.cell 7 (by simp)
  have z7 : wr.frozen? ⟨b11, 7, none⟩ = false := HR.out.free 7
  clear hmx
  conv => arg 2; whnf
  have FIRST := hid (fun (Y : World) (h : Below wr.drew.heap.size wr.drew Y) => (⟨h.os, h.tape, h.output, h.size, h.block⟩ : Below wr.heap.size wr Y))
  have HSK := hid (fun (Y : World) (h : Below wr.heap.size wr Y) => (show (fun wx : World => Below wr.heap.size wr wx ∧ wx.cell? ⟨b8, 0, none⟩ = some (.int .u64 64) ∧ wx.cell? ⟨b11, 0, none⟩ = some (.int .u64 (ra : Int)) ∧ wx.cell? ⟨b11, 1, none⟩ = some (.int .u64 (rb : Int)) ∧ wx.cell? ⟨b11, 2, none⟩ = some (.int .u64 (rc : Int)) ∧ wx.cell? ⟨b11, 3, none⟩ = some (.int .u64 (rd : Int)) ∧ wx.cell? ⟨b11, 4, none⟩ = some (.int .u64 (re : Int)) ∧ wx.cell? ⟨b11, 5, none⟩ = some (.int .u64 (rf : Int)) ∧ wx.cell? ⟨b11, 6, none⟩ = some (.int .u64 (rg : Int)) ∧ wx.cell? ⟨b11, 7, none⟩ = some (.int .u64 (rh : Int))) Y from ⟨h, kept_cell HC0.out h, kept_cell s0 h, kept_cell s1 h, kept_cell s2 h, kept_cell s3 h, kept_cell s4 h, kept_cell s5 h, kept_cell s6 h, kept_cell s7 h⟩))
  have HS0 := hid (HSK.out wr.drew ((Below.refl _ wr).drew))
  have HCD := hid (HC.out wr.drew ((Below.refl _ wr).drew))
  clear c0 HC0
  refine AnyBut.start (S := (fun wx : World => Below wr.heap.size wr wx ∧ wx.cell? ⟨b8, 0, none⟩ = some (.int .u64 64) ∧ wx.cell? ⟨b11, 0, none⟩ = some (.int .u64 (ra : Int)) ∧ wx.cell? ⟨b11, 1, none⟩ = some (.int .u64 (rb : Int)) ∧ wx.cell? ⟨b11, 2, none⟩ = some (.int .u64 (rc : Int)) ∧ wx.cell? ⟨b11, 3, none⟩ = some (.int .u64 (rd : Int)) ∧ wx.cell? ⟨b11, 4, none⟩ = some (.int .u64 (re : Int)) ∧ wx.cell? ⟨b11, 5, none⟩ = some (.int .u64 (rf : Int)) ∧ wx.cell? ⟨b11, 6, none⟩ = some (.int .u64 (rg : Int)) ∧ wx.cell? ⟨b11, 7, none⟩ = some (.int .u64 (rh : Int)))) (n := 10) (by kernel_rfl) ?_
  refine' AnyBut.take (i := 0) (v := _) rfl (by kernel_rfl) (by kernel_rfl) (fun _ _ _ h => h) _ _ _ _ (by kernel_rfl) (by kernel_rfl) (Or.inl ⟨by kernel_rfl, ?hy0⟩) HS0.out ?rest0
  case hy0 => (intro wx hSw; obtain ⟨hBx, e0, d0, d1, d2, d3, d4, d5, d6, d7⟩ := hSw; clear hBx; go_simp; first | done | with_reducible rfl)
  (try simp only [Act.put, List.setIfInBounds_toArray, List.set_cons_zero, List.set_cons_succ])
  refine' AnyBut.take (i := 1) (v := _) rfl (by kernel_rfl) (by kernel_rfl) (fun _ _ _ h => h) _ _ _ _ (by kernel_rfl) (by kernel_rfl) (Or.inl ⟨by kernel_rfl, ?hy1⟩) HS0.out ?rest1
  case hy1 => (intro wx hSw; obtain ⟨hBx, e0, d0, d1, d2, d3, d4, d5, d6, d7⟩ := hSw; clear hBx; go_simp; first | done | with_reducible rfl)
  (try simp only [Act.put, List.setIfInBounds_toArray, List.set_cons_zero, List.set_cons_succ])
  refine' AnyBut.take (i := 2) (v := _) rfl (by kernel_rfl) (by kernel_rfl) (fun _ _ _ h => h) _ _ _ _ (by kernel_rfl) (by kernel_rfl) (Or.inl ⟨by kernel_rfl, ?hy2⟩) HS0.out ?rest2
  case hy2 => (intro wx hSw; obtain ⟨hBx, e0, d0, d1, d2, d3, d4, d5, d6, d7⟩ := hSw; clear hBx; go_simp; first | done | with_reducible rfl)
  (try simp only [Act.put, List.setIfInBounds_toArray, List.set_cons_zero, List.set_cons_succ])
  refine' AnyBut.take (i := 3) (v := _) rfl (by kernel_rfl) (by kernel_rfl) (fun _ _ _ h => h) _ _ _ _ (by kernel_rfl) (by kernel_rfl) (Or.inl ⟨by kernel_rfl, ?hy3⟩) HS0.out ?rest3
  case hy3 => (intro wx hSw; obtain ⟨hBx, e0, d0, d1, d2, d3, d4, d5, d6, d7⟩ := hSw; clear hBx; go_simp; first | done | with_reducible rfl)
  (try simp only [Act.put, List.setIfInBounds_toArray, List.set_cons_zero, List.set_cons_succ])
  refine' AnyBut.take (i := 4) (v := _) rfl (by kernel_rfl) (by kernel_rfl) (fun _ _ _ h => h) _ _ _ _ (by kernel_rfl) (by kernel_rfl) (Or.inl ⟨by kernel_rfl, ?hy4⟩) HS0.out ?rest4
  case hy4 => (intro wx hSw; obtain ⟨hBx, e0, d0, d1, d2, d3, d4, d5, d6, d7⟩ := hSw; clear hBx; go_simp; first | done | with_reducible rfl)
  (try simp only [Act.put, List.setIfInBounds_toArray, List.set_cons_zero, List.set_cons_succ])
  refine' AnyBut.take (i := 5) (v := _) rfl (by kernel_rfl) (by kernel_rfl) (fun _ _ _ h => h) _ _ _ _ (by kernel_rfl) (by kernel_rfl) (Or.inl ⟨by kernel_rfl, ?hy5⟩) HS0.out ?rest5
  case hy5 => (intro wx hSw; obtain ⟨hBx, e0, d0, d1, d2, d3, d4, d5, d6, d7⟩ := hSw; clear hBx; go_simp; first | done | with_reducible rfl)
  (try simp only [Act.put, List.setIfInBounds_toArray, List.set_cons_zero, List.set_cons_succ])
  refine' AnyBut.take (i := 6) (v := _) rfl (by kernel_rfl) (by kernel_rfl) (fun _ _ _ h => h) _ _ _ _ (by kernel_rfl) (by kernel_rfl) (Or.inl ⟨by kernel_rfl, ?hy6⟩) HS0.out ?rest6
  case hy6 => (intro wx hSw; obtain ⟨hBx, e0, d0, d1, d2, d3, d4, d5, d6, d7⟩ := hSw; clear hBx; go_simp; first | done | with_reducible rfl)
  (try simp only [Act.put, List.setIfInBounds_toArray, List.set_cons_zero, List.set_cons_succ])
  refine' AnyBut.take (i := 7) (v := _) rfl (by kernel_rfl) (by kernel_rfl) (fun _ _ _ h => h) _ _ _ _ (by kernel_rfl) (by kernel_rfl) (Or.inl ⟨by kernel_rfl, ?hy7⟩) HS0.out ?rest7
  case hy7 => (intro wx hSw; obtain ⟨hBx, e0, d0, d1, d2, d3, d4, d5, d6, d7⟩ := hSw; clear hBx; go_simp; first | done | with_reducible rfl)
  (try simp only [Act.put, List.setIfInBounds_toArray, List.set_cons_zero, List.set_cons_succ])
  refine' AnyBut.take (i := 8) (v := _) rfl (by kernel_rfl) (by kernel_rfl) (fun _ _ _ h => h) _ _ _ _ (by kernel_rfl) (by kernel_rfl) (Or.inl ⟨by kernel_rfl, ?hy8⟩) HS0.out ?rest8
  case hy8 => (intro wx hSw; obtain ⟨hBx, e0, d0, d1, d2, d3, d4, d5, d6, d7⟩ := hSw; clear hBx; go_simp; first | done | with_reducible rfl)
  (try simp only [Act.put, List.setIfInBounds_toArray, List.set_cons_zero, List.set_cons_succ])
  refine AnyBut.one (i := 9) (by kernel_rfl) rfl (fun K' hK => ?_)
  rw [if_pos (by kernel_rfl)]
  go_simp
  go_wp2_with (go_at_call 49; refine HCD.out.mono ?_; rintro e wa ⟨rfl, hba⟩)
  have HQ1 := hid (FIRST.out wa hba)
  have HS1 := hid (HSK.out wa HQ1.out)
  clear hba
  refine hK.out _ _ HS1.out ?_
  clear hK K' HS0
  obtain ⟨p0, y0⟩ := kept_both (X := wr) (a := ⟨b11, 0, none⟩) (v := .int .u64 (ra : Int)) s0 z0 HQ1.out; obtain ⟨p1, y1⟩ := kept_both (X := wr) (a := ⟨b11, 1, none⟩) (v := .int .u64 (rb : Int)) s1 z1 HQ1.out; obtain ⟨p2, y2⟩ := kept_both (X := wr) (a := ⟨b11, 2, none⟩) (v := .int .u64 (rc : Int)) s2 z2 HQ1.out; obtain ⟨p3, y3⟩ := kept_both (X := wr) (a := ⟨b11, 3, none⟩) (v := .int .u64 (rd : Int)) s3 z3 HQ1.out; obtain ⟨p4, y4⟩ := kept_both (X := wr) (a := ⟨b11, 4, none⟩) (v := .int .u64 (re : Int)) s4 z4 HQ1.out; obtain ⟨p5, y5⟩ := kept_both (X := wr) (a := ⟨b11, 5, none⟩) (v := .int .u64 (rf : Int)) s5 z5 HQ1.out; obtain ⟨p6, y6⟩ := kept_both (X := wr) (a := ⟨b11, 6, none⟩) (v := .int .u64 (rg : Int)) s6 z6 HQ1.out; obtain ⟨p7, y7⟩ := kept_both (X := wr) (a := ⟨b11, 7, none⟩) (v := .int .u64 (rh : Int)) s7 z7 HQ1.out
  refine AnyBut.last (by kernel_rfl) (by kernel_rfl) rfl (fun K' hK => ?_)
  rw [if_pos (by kernel_rfl)]
  go_simp
  go_wp2_with fail
  refine hK.out _ _ ?_
  exact HK.out _ _ _ _ _ _ _ _ _ _ wa _ HQ1.out rfl

theorem far_cells6 {w : World} {a : Addr} {b : Nat} {v : Value} (h : w.cell? a = some v) (hne : a.block ≠ b) (vs : List Value) (o : Nat) : (w.setCells b o vs).cell? a = some v := by
  rw [← h]
  unfold World.cell?
  rw [setCells_far hne]

/-- What lies in memory while the blocks are worked in. -/
def SmM6 (w wr : World) (T g : Nat) (PT : List UInt8) (S : List Nat) : Prop :=
  wr.heap[w.heap.size]? = some (.cells #[.int .u64 64] 97 (0, 0)) ∧ Rw wr (w.heap.size + 1) .u64 98 S ∧ (∀ j (h : j < PT.length), wr.cell? ⟨g, j, none⟩ = some (.int .u8 (PT[j].toNat : Int))) ∧ (∀ k, k < 80 → wr.cell? ⟨T, k, none⟩ = some (.int .u64 (cbr.getD k 0 : Nat))) ∧ Below w.heap.size w wr

theorem SmM6.next {w wr w1 : World} {T g : Nat} {PT : List UInt8} {S Z : List Nat} (h : SmM6 w wr T g PT S) (hg : w.heap.size + 1 < g) (hT : T < w.heap.size) (hb : Below wr.heap.size wr w1) (hS : Z.length = S.length) : SmM6 w (w1.setCells (w.heap.size + 1) 0 (cW .u64 Z)) T g PT Z := by
  obtain ⟨hA, hR, hP, hC, hB⟩ := h
  refine ⟨?_, (hR.kept hb).put Z hS, fun j hj => far_cells6 (kept_cell (hP j hj) hb) (by show g ≠ _; omega) _ _, fun k hk => far_cells6 (kept_cell (hC k hk) hb) (by show T ≠ _; omega) _ _, below_setCells (by omega) _ _ _ (hB.trans (hb.mono hB.size))⟩
  rw [setCells_far (by omega)]
  exact row_kept hA hb

theorem work_bd6 (Ks : List Nat) (n : Nat) : ∀ (m : Nat) (s : St) (l : List UInt8), BdS (2 ^ 64) s → BdS (2 ^ 64) (workV wid Ks n m s l)
  | 0, s, l, h => h
  | m + 1, s, l, h => by
    rw [workV]
    split
    · exact work_bd6 Ks n m _ _ (add_bd wid _ _)
    · exact h

end Go.Proofs.YtbdlicomkpnalaaGreatDoor
