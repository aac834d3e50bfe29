/-
  The walk of the document's own Text4.
-/
import Derived.Test.YtdpihilikhbamaaGreatDoorRm
set_option linter.unusedSimpArgs false
set_option linter.unusedVariables false
namespace Go.Proofs.YtdpihilikhbamaaGreatDoor
open Go.RowKit

theorem numeral_dec8 (n : Nat) (w : World) (h : n < 256) :
    Calls Tryz.prog 57 #[.int .i64 n] w fun e w' => e = .returned (.string ⟨(dec8 n).toArray⟩) ∧ w = w' := by
  rw [dec8_digs n h]; exact numeral_nat n w (by omega)

/-- What is written when g bytes are still to come; four: nothing. -/
def rt4 (n : Nat) : Nat → List UInt8
  | 4 => []
  | g => txt4 n g

theorem rt4_le (n g : Nat) : (rt4 n g).length ≤ 15 := by
  unfold rt4; split
  · simp
  · exact txt4_le n _

set_option maxHeartbeats 2000000 in
theorem rtext4_any (n : Nat) (w : World) (h : n < 4294967296) :
    Calls Tryz.prog 29 #[.int .u32 n] w fun e w' => e = .returned (.string ⟨(text4 n).toArray⟩) ∧ Below w.heap.size w w' := by
  have hd1 := dec8_ne (n / 16777216 % 256) (by omega)
  go_enter Tryz.func29, Tryz.ntmps29
  go_wp2
  go_loopg [3, 4] 4 (fun g s3 s4 wr => g ≤ 4 ∧ s4 = .int .i64 (8 * (g : Int) - 8) ∧ s3 = .string ⟨(rt4 n g).toArray⟩ ∧ Below w.heap.size w wr)
  case atStart => exact ⟨by omega, rfl, rfl, Below.refl _ _⟩
  case round =>
    obtain ⟨hk, rfl, rfl, hbw⟩ := hrel
    obtain rfl | rfl | rfl | rfl | rfl : gk = 0 ∨ gk = 1 ∨ gk = 2 ∨ gk = 3 ∨ gk = 4 := by omega
    · go_wp2
      go_ret
      exact ⟨rfl, hbw⟩
    · have hl2 := dec8_le (n % 256)
      have ha := and255 (n) (by omega)
      have hlt : n % 256 < 256 := by omega
      have HT := hid (show (⟨(rt4 n 1).toArray⟩ : ByteArray) ++ ⟨#[46]⟩ ++ ⟨(dec8 (n % 256)).toArray⟩ = ⟨(rt4 n 0).toArray⟩ by rw [show (⟨#[46]⟩ : ByteArray) = ⟨[46].toArray⟩ from rfl, ba_app, ba_app]; simp [rt4, txt4, text4])
      have hl1 := rt4_le n 1
      have he : (rt4 n 1).isEmpty = false := by simp [rt4, txt4, hd1]
      have HM := hid (fun W => numeral_dec8 (n % 256) W hlt)
      obtain ⟨m, hm⟩ : ∃ m : Nat, m = n % 256 := ⟨_, rfl⟩
      rw [← hm] at ha hlt HM hl2 HT
      clear hm
      go_wp2_with (go_at_call 57; go_must (refine (HM.out _).mono ?_; rintro e w2 ⟨rfl, rfl⟩))
      go_roundg 0
      case measure => omega
      case rel => exact ⟨by omega, by go_num, by rw [← HT.out], hbw⟩
    · have hl2 := dec8_le (n / 256 % 256)
      have ha : bits .and .u32 ((n : Int) / 256) 255 = ((n / 256 % 256 : Nat) : Int) := and255 (n / 256) (by omega)
      have hlt : n / 256 % 256 < 256 := by omega
      have HT := hid (show (⟨(rt4 n 2).toArray⟩ : ByteArray) ++ ⟨#[46]⟩ ++ ⟨(dec8 (n / 256 % 256)).toArray⟩ = ⟨(rt4 n 1).toArray⟩ by rw [show (⟨#[46]⟩ : ByteArray) = ⟨[46].toArray⟩ from rfl, ba_app, ba_app]; simp [rt4, txt4, text4])
      have hl1 := rt4_le n 2
      have he : (rt4 n 2).isEmpty = false := by simp [rt4, txt4, hd1]
      have HM := hid (fun W => numeral_dec8 (n / 256 % 256) W hlt)
      obtain ⟨m, hm⟩ : ∃ m : Nat, m = n / 256 % 256 := ⟨_, rfl⟩
      rw [← hm] at ha hlt HM hl2 HT
      clear hm
      go_wp2_with (go_at_call 57; go_must (refine (HM.out _).mono ?_; rintro e w2 ⟨rfl, rfl⟩))
      go_roundg 1
      case measure => omega
      case rel => exact ⟨by omega, by go_num, by rw [← HT.out], hbw⟩
    · have hl2 := dec8_le (n / 65536 % 256)
      have ha : bits .and .u32 ((n : Int) / 65536) 255 = ((n / 65536 % 256 : Nat) : Int) := and255 (n / 65536) (by omega)
      have hlt : n / 65536 % 256 < 256 := by omega
      have HT := hid (show (⟨(rt4 n 3).toArray⟩ : ByteArray) ++ ⟨#[46]⟩ ++ ⟨(dec8 (n / 65536 % 256)).toArray⟩ = ⟨(rt4 n 2).toArray⟩ by rw [show (⟨#[46]⟩ : ByteArray) = ⟨[46].toArray⟩ from rfl, ba_app, ba_app]; simp [rt4, txt4, text4])
      have hl1 := rt4_le n 3
      have he : (rt4 n 3).isEmpty = false := by simp [rt4, txt4, hd1]
      have HM := hid (fun W => numeral_dec8 (n / 65536 % 256) W hlt)
      obtain ⟨m, hm⟩ : ∃ m : Nat, m = n / 65536 % 256 := ⟨_, rfl⟩
      rw [← hm] at ha hlt HM hl2 HT
      clear hm
      go_wp2_with (go_at_call 57; go_must (refine (HM.out _).mono ?_; rintro e w2 ⟨rfl, rfl⟩))
      go_roundg 2
      case measure => omega
      case rel => exact ⟨by omega, by go_num, by rw [← HT.out], hbw⟩
    · rw [show rt4 n 4 = [] from rfl]
      have hl2 := dec8_le (n / 16777216 % 256)
      have ha : bits .and .u32 ((n : Int) / 16777216) 255 = ((n / 16777216 % 256 : Nat) : Int) := and255 (n / 16777216) (by omega)
      have hlt : n / 16777216 % 256 < 256 := by omega
      have HT := hid (show (⟨(dec8 (n / 16777216 % 256)).toArray⟩ : ByteArray) = ⟨(rt4 n 3).toArray⟩ from rfl)
      have HM := hid (fun W => numeral_dec8 (n / 16777216 % 256) W hlt)
      obtain ⟨m, hm⟩ : ∃ m : Nat, m = n / 16777216 % 256 := ⟨_, rfl⟩
      rw [← hm] at ha hlt HM hl2 HT
      clear hm
      go_wp2_with (go_at_call 57; go_must (refine (HM.out _).mono ?_; rintro e w2 ⟨rfl, rfl⟩))
      go_roundg 3
      case measure => omega
      case rel => exact ⟨by omega, by go_num, by rw [← HT.out]; simp; exact ba_app [] _, hbw⟩

end Go.Proofs.YtdpihilikhbamaaGreatDoor
