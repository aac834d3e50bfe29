/-
  The walk of the law's hex.
-/
import Derived.Test.YtmjokddplikegaaDoorLv
import Derived.BigQuiet
import Derived.WalkSmall
import Derived.Deep.QuietTactic
set_option linter.unusedSimpArgs false
set_option linter.unusedVariables false
namespace Go.Proofs.YtmjokddplikegaaDoor
open Go.RowKit

def dgH : List UInt8 := [48, 49, 50, 51, 52, 53, 54, 55, 56, 57, 97, 98, 99, 100, 101, 102]
def dg1 (h : Nat) : UInt8 := dgH.getD h 48
def hexV (l : List UInt8) : List UInt8 := l.flatMap fun c => [dg1 (c.toNat / 16), dg1 (c.toNat % 16)]
def hexA (l : List UInt8) : ByteArray := ⟨(hexV l).toArray⟩
def one1 (h : Nat) : ByteArray := ⟨#[dg1 h]⟩

theorem dig_slice (h : Nat) (hh : h < 16) (w : World) : (Instr.sliceAt 9 (.string ⟨#[48, 49, 50, 51, 52, 53, 54, 55, 56, 57, 97, 98, 99, 100, 101, 102]⟩) (some (.int .u8 (h : Int))) (some (.int .u8 ((h + 1 : Nat) : Int))) none).run Tryd.prog w = .ok (.string (one1 h)) w := by
  rcases (show h = 0 ∨ h = 1 ∨ h = 2 ∨ h = 3 ∨ h = 4 ∨ h = 5 ∨ h = 6 ∨ h = 7 ∨ h = 8 ∨ h = 9 ∨ h = 10 ∨ h = 11 ∨ h = 12 ∨ h = 13 ∨ h = 14 ∨ h = 15 by omega) with rfl | rfl | rfl | rfl | rfl | rfl | rfl | rfl | rfl | rfl | rfl | rfl | rfl | rfl | rfl | rfl <;> kernel_rfl

theorem and15 (c : UInt8) : bits .and .u8 (c.toNat : Int) 15 = ((c.toNat % 16 : Nat) : Int) := by
  have := u8_and_nat c.toNat 15 c.toNat_lt (by decide)
  rw [show ((15 : Nat) : Int) = 15 from rfl] at this
  rw [this, show (15 : Nat) = 2 ^ 4 - 1 by decide, Nat.and_two_pow_sub_one_eq_mod]

theorem hexA_step (l : List UInt8) (k : Nat) (hk : k < l.length) : hexA (l.take k) ++ one1 (l[k].toNat / 16) ++ one1 (l[k].toNat % 16) = hexA (l.take (k + 1)) := by
  apply ByteArray.ext
  unfold hexA one1
  have e : l.take (k + 1) = l.take k ++ [l[k]] := by rw [List.take_add_one]; simp [hk]
  rw [ByteArray.data_append, ByteArray.data_append, e]
  unfold hexV
  rw [List.flatMap_append]
  simp

theorem hexA_size (l : List UInt8) : (hexA l).size = 2 * l.length := by
  show (hexV l).toArray.size = _
  simp only [List.size_toArray]
  induction l with
  | nil => rfl
  | cons c r ih =>
    rw [hexV, List.flatMap_cons, List.length_append]
    have : (r.flatMap fun c => [dg1 (c.toNat / 16), dg1 (c.toNat % 16)]).length = 2 * r.length := ih
    rw [this]
    simp
    omega

theorem ret_s8 {a b : ByteArray} (h : a = b) : Ending.returned (.string a) = .returned (.string b) := by rw [h]

set_option maxHeartbeats 2000000 in
set_option maxRecDepth 100000 in
theorem hex_any (a1 : Option Addr) (n1 c1 : Nat) (l : List UInt8) (w : World) (h1 : SlB w (.slice a1 n1 c1) l) (hn : n1 ≤ 1000) :
    Calls Tryd.prog 24 #[.slice a1 n1 c1] w fun e w' => e = .returned (.string (hexA l)) ∧ Below w.heap.size w w' := by
  have HLN := hid h1.ln
  have H1 := hid h1
  clear h1
  go_enter Tryd.func24, Tryd.ntmps24
  go_wp2
  go_loopw [3, 4] (fun v3 v4 wr => ∃ (k : Nat) (A : ByteArray), k ≤ n1 ∧ v4 = .int .i64 k ∧ v3 = .string A ∧ Hid (A = hexA (l.take k)) ∧ Hid (Below w.heap.size w wr)) (fun _ v4 _ => n1 - (intOf v4).toNat)
  case atStart => exact ⟨0, ⟨#[]⟩, Nat.zero_le _, rfl, rfl, rfl, Below.refl _ _⟩
  case round =>
    obtain ⟨k, A, hk, rfl, rfl, HA, HB⟩ := hrel
    by_cases hlt : k < n1
    · have hkl : k < l.length := by have := HLN.out; omega
      obtain ⟨x, rfl, cx⟩ := H1.out.at k hkl
      have cy : wr.cell? (x.add k) = some (.int .u8 (l[k].toNat : Int)) := kept_cell cx HB.out
      obtain ⟨p, hp⟩ : ∃ p, p = l[k] := ⟨_, rfl⟩
      rw [← hp] at cy
      have h8 := p.toNat_lt
      obtain ⟨H, hH⟩ : ∃ H, H = p.toNat / 16 := ⟨_, rfl⟩
      obtain ⟨M, hM⟩ : ∃ M, M = p.toNat % 16 := ⟨_, rfl⟩
      obtain ⟨H1', hH1⟩ : ∃ x, x = H + 1 := ⟨_, rfl⟩
      obtain ⟨M1, hM1⟩ : ∃ x, x = M + 1 := ⟨_, rfl⟩
      have e1 : (p.toNat : Int) / 16 = (H : Int) := by omega
      have e2 : IntKind.u8.wrap ((H : Int) + 1) = (H1' : Int) := by rw [IntKind.wrap_u8']; omega
      have e3 : bits .and .u8 (p.toNat : Int) 15 = (M : Int) := by rw [hM]; exact and15 p
      have e4 : IntKind.u8.wrap ((M : Int) + 1) = (M1 : Int) := by rw [IntKind.wrap_u8']; omega
      have e2' : ((H : Int) + 1) % 256 = (H1' : Int) := by omega
      have e4' : ((M : Int) + 1) % 256 = (M1 : Int) := by omega
      obtain ⟨D1, hD1⟩ : ∃ D, D = one1 H := ⟨_, rfl⟩
      obtain ⟨D2, hD2⟩ : ∃ D, D = one1 M := ⟨_, rfl⟩
      have s1 : ∀ wx : World, (Instr.sliceAt 9 (.string ⟨#[48, 49, 50, 51, 52, 53, 54, 55, 56, 57, 97, 98, 99, 100, 101, 102]⟩) (some (.int .u8 (H : Int))) (some (.int .u8 (H1' : Int))) none).run Tryd.prog wx = .ok (.string D1) wx := by intro wx; rw [hH1, hD1]; exact dig_slice H (by omega) wx
      have s2 : ∀ wx : World, (Instr.sliceAt 9 (.string ⟨#[48, 49, 50, 51, 52, 53, 54, 55, 56, 57, 97, 98, 99, 100, 101, 102]⟩) (some (.int .u8 (M : Int))) (some (.int .u8 (M1 : Int))) none).run Tryd.prog wx = .ok (.string D2) wx := by intro wx; rw [hM1, hD2]; exact dig_slice M (by omega) wx
      have z1 : A.size ≤ 2000 := by rw [HA.out, hexA_size]; simp; omega
      have z2 : D1.size = 1 := by rw [hD1]; rfl
      have z3 : D2.size = 1 := by rw [hD2]; rfl
      have HN := hid (show A ++ D1 ++ D2 = hexA (l.take (k + 1)) by rw [HA.out, hD1, hD2, hH, hM, hp]; exact hexA_step l k hkl)
      have HZ2 := hid z2
      have HZ3 := hid z3
      have y2 : D1.size ≤ 1 := by omega
      have y3 : D2.size ≤ 1 := by omega
      clear hp hH hM hH1 hM1 hD1 hD2 hkl cx z2 z3 h8
      have hkn : (k : Int) < (n1 : Int) := by omega
      go_wp2_with fail
      go_quiet (fail)
      go_wp2
      exact ⟨⟨k + 1, A ++ D1 ++ D2, by omega, by go_num, rfl, HN.out, below_drewN HB.out nq⟩, by simp [intOf]; omega⟩
    · have HN := hid (show A = hexA l by rw [HA.out, List.take_of_length_le (by have := HLN.out; omega)])
      go_wp2
      go_ret
      exact ⟨ret_s8 HN.out, HB.out⟩

end Go.Proofs.YtmjokddplikegaaDoor
