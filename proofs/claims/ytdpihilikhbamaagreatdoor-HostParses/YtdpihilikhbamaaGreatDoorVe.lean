/-
  The walks of host.decimal and host.Text4.
-/
import Derived.Test.YtdpihilikhbamaaGreatDoorVd
import Derived.Deep.LoopGhost
set_option linter.unusedSimpArgs false
set_option linter.unusedVariables false
namespace Go.Proofs.YtdpihilikhbamaaGreatDoor
open Go.RowKit

theorem decDigits_dec8 (n : Nat) (h : n < 256) : Lib.decDigits n = dec8 n := by
  unfold dec8
  rw [Lib.decDigits]
  split
  · rfl
  · rw [Lib.decDigits]
    split
    · rw [if_pos (by omega)]; rfl
    · rw [Lib.decDigits, dif_pos (by omega), if_neg (by omega)]
      have e : n / 10 / 10 = n / 100 := by omega
      rw [e]; rfl

theorem itoa_dec8 (n : Nat) (h : n < 256) : Lib.itoa (n : Int) = dec8 n := by
  unfold Lib.itoa
  rw [if_neg (by omega)]
  exact decDigits_dec8 n h

theorem itoa_any (n : Nat) (w : World) (hg : Gd w) (h : n < 256) :
    Calls Tryz.prog 82 #[.int .i64 n] w fun e w' => e = .returned (.string ⟨(dec8 n).toArray⟩) ∧ Below w.heap.size w w' := by
  refine (Tryz.strconv_Itoa n (by omega) (by omega) w hg.2.1).mono ?_
  rintro e w' ⟨rfl, k, os, rfl⟩
  exact ⟨by rw [itoa_dec8 n h], Lib.below_grow _ _ (Nat.le_refl _) _ _⟩

theorem and255 (n : Nat) (h : n < 4294967296) : bits .and .u32 (n : Int) 255 = ((n % 256 : Nat) : Int) := by
  have := u32_and_nat n 255 h (by omega)
  rw [nat_mask8] at this
  simpa using this

set_option maxHeartbeats 400000 in
theorem decimal_any (n : Nat) (w : World) (hg : Gd w) (h : n < 4294967296) :
    Calls Tryz.prog 69 #[.int .u32 n] w fun e w' => e = .returned (.string ⟨(dec8 (n % 256)).toArray⟩) ∧ Below w.heap.size w w' := by
  have ha := and255 n h
  obtain ⟨m, hm⟩ : ∃ m : Nat, m = n % 256 := ⟨_, rfl⟩
  rw [← hm] at ha ⊢
  have hm2 : m < 256 := by omega
  clear hm
  go_enter Tryz.func69, Tryz.ntmps69
  go_wp2_with (go_at_call 82; refine (itoa_any _ _ hg (by omega)).mono ?_; rintro e w' ⟨rfl, hb1⟩)
  go_ret
  exact ⟨rfl, hb1⟩

/-- What is written when g bytes are still to come. -/
def txt4 (n : Nat) : Nat → List UInt8
  | 0 => text4 n
  | 1 => dec8 (n / 16777216 % 256) ++ ([46] ++ dec8 (n / 65536 % 256)) ++ ([46] ++ dec8 (n / 256 % 256))
  | 2 => dec8 (n / 16777216 % 256) ++ ([46] ++ dec8 (n / 65536 % 256))
  | _ => dec8 (n / 16777216 % 256)

theorem dec8_le (n : Nat) : (dec8 n).length ≤ 3 := by
  unfold dec8; split
  · simp
  · split <;> simp

theorem text4_le (n : Nat) : (text4 n).length ≤ 15 := by
  unfold text4
  have h1 := dec8_le (n / 16777216 % 256)
  have h2 := dec8_le (n / 65536 % 256)
  have h3 := dec8_le (n / 256 % 256)
  have h4 := dec8_le (n % 256)
  simp; omega

theorem txt4_le (n g : Nat) : (txt4 n g).length ≤ 15 := by
  have h1 := dec8_le (n / 16777216 % 256)
  have h2 := dec8_le (n / 65536 % 256)
  have h3 := dec8_le (n / 256 % 256)
  unfold txt4
  split
  · exact text4_le n
  · simp; omega
  · simp; omega
  · omega

theorem ba_app (a b : List UInt8) : (⟨a.toArray⟩ : ByteArray) ++ ⟨b.toArray⟩ = ⟨(a ++ b).toArray⟩ := by
  refine ba_ext ?_
  simp

set_option maxHeartbeats 1000000 in
theorem text4_any (n : Nat) (w : World) (hg : Gd w) (h : n < 4294967296) :
    Calls Tryz.prog 48 #[.int .u32 n] w fun e w' => e = .returned (.string ⟨(text4 n).toArray⟩) ∧ Below w.heap.size w w' := by
  have i0 : ∀ (a b c : Int) w, (Instr.index 91 (.agg #[.int .u32 a, .int .u32 b, .int .u32 c]) (.int .i64 0)).run Tryz.prog w = .ok (.int .u32 a) w := fun _ _ _ _ => by kernel_rfl
  have i1 : ∀ (a b c : Int) w, (Instr.index 91 (.agg #[.int .u32 a, .int .u32 b, .int .u32 c]) (.int .i64 1)).run Tryz.prog w = .ok (.int .u32 b) w := fun _ _ _ _ => by kernel_rfl
  have i2 : ∀ (a b c : Int) w, (Instr.index 91 (.agg #[.int .u32 a, .int .u32 b, .int .u32 c]) (.int .i64 2)).run Tryz.prog w = .ok (.int .u32 c) w := fun _ _ _ _ => by kernel_rfl
  have HG := hid hg
  clear hg
  go_enter Tryz.func48, Tryz.ntmps48
  go_wp2_with (go_at_call 69; go_must (refine (decimal_any (n / 16777216) _ HG.out (by omega)).mono ?_; rintro e w1 ⟨rfl, hb1⟩))
  go_loopg [3, 15] 3 (fun g s3 s15 wr => g ≤ 3 ∧ s15 = .int .i64 (3 - g) ∧ s3 = .string ⟨(txt4 n g).toArray⟩ ∧ Below w.heap.size w wr)
  case atStart => exact ⟨by omega, rfl, rfl, hb1⟩
  case round =>
    obtain ⟨hk, rfl, rfl, hbw⟩ := hrel
    have HR := hid (HG.out.kept hbw)
    obtain rfl | rfl | rfl | rfl : gk = 0 ∨ gk = 1 ∨ gk = 2 ∨ gk = 3 := by omega
    · go_wp2
      go_ret
      exact ⟨rfl, hbw⟩
    · have hl1 := txt4_le n 1
      have hl2 := dec8_le (n % 256)
      have HT := hid (show (⟨(txt4 n 1).toArray⟩ : ByteArray) ++ (⟨#[46]⟩ ++ ⟨(dec8 (n % 256)).toArray⟩) = ⟨(txt4 n 0).toArray⟩ by rw [show (⟨#[46]⟩ : ByteArray) = ⟨[46].toArray⟩ from rfl, ba_app, ba_app]; simp [txt4, text4])
      go_wp2_with (go_at_call 69; go_must (refine (decimal_any n _ HR.out (by omega)).mono ?_; rintro e w2 ⟨rfl, hb2⟩))
      go_roundg 0
      case measure => omega
      case rel => exact ⟨by omega, by go_num, by rw [HT.out], below2 hbw hb2⟩
    · have hl1 := txt4_le n 2
      have hl2 := dec8_le (n / 256 % 256)
      have HT := hid (show (⟨(txt4 n 2).toArray⟩ : ByteArray) ++ (⟨#[46]⟩ ++ ⟨(dec8 (n / 256 % 256)).toArray⟩) = ⟨(txt4 n 1).toArray⟩ by rw [show (⟨#[46]⟩ : ByteArray) = ⟨[46].toArray⟩ from rfl, ba_app, ba_app]; simp [txt4, text4])
      go_wp2_with (go_at_call 69; go_must (refine (decimal_any (n / 256) _ HR.out (by omega)).mono ?_; rintro e w2 ⟨rfl, hb2⟩))
      go_roundg 1
      case measure => omega
      case rel => exact ⟨by omega, by go_num, by rw [HT.out], below2 hbw hb2⟩
    · have hl1 := txt4_le n 3
      have hl2 := dec8_le (n / 65536 % 256)
      have HT := hid (show (⟨(txt4 n 3).toArray⟩ : ByteArray) ++ (⟨#[46]⟩ ++ ⟨(dec8 (n / 65536 % 256)).toArray⟩) = ⟨(txt4 n 2).toArray⟩ by rw [show (⟨#[46]⟩ : ByteArray) = ⟨[46].toArray⟩ from rfl, ba_app, ba_app]; simp [txt4, text4])
      go_wp2_with (go_at_call 69; go_must (refine (decimal_any (n / 65536) _ HR.out (by omega)).mono ?_; rintro e w2 ⟨rfl, hb2⟩))
      go_roundg 2
      case measure => omega
      case rel => exact ⟨by omega, by go_num, by rw [HT.out], below2 hbw hb2⟩

end Go.Proofs.YtdpihilikhbamaaGreatDoor
