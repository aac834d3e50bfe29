/-
  The walks of digest.Same and of the law's hex.
-/
import Derived.Test.YtmjokddplikegaaDoorLy
import Derived.BigRegion
import Derived.BigQuiet
import Derived.Deep.QuietTactic
set_option linter.unusedSimpArgs false
set_option linter.unusedVariables false
namespace Go.Proofs.YtmjokddplikegaaDoor
open Go.RowKit

theorem xor8 (a b : UInt8) : bits .xor .u8 (a.toNat : Int) (b.toNat : Int) = ((a ^^^ b).toNat : Int) := by
  rw [u8_xor_nat _ _ a.toNat_lt b.toNat_lt, UInt8.toNat_xor]
theorem or8 (a b : UInt8) : bits .or .u8 (a.toNat : Int) (b.toNat : Int) = ((a ||| b).toNat : Int) := by
  rw [u8_or_nat _ _ a.toNat_lt b.toNat_lt, UInt8.toNat_or]

/-- What is unlike among the first bytes. -/
def unlV : UInt8 → List UInt8 → List UInt8 → UInt8
  | u, a :: l, b :: m => unlV (u ||| (a ^^^ b)) l m
  | u, _, _ => u

theorem or_zero8 (a b : UInt8) : a ||| b = 0 ↔ a = 0 ∧ b = 0 := by
  constructor
  · intro h
    have h' : a.toNat ||| b.toNat = 0 := by rw [← UInt8.toNat_or, h]; rfl
    have ha : a.toNat = 0 := Nat.le_antisymm (h' ▸ Nat.left_le_or) (Nat.zero_le _)
    have hb : b.toNat = 0 := Nat.le_antisymm (h' ▸ Nat.right_le_or) (Nat.zero_le _)
    exact ⟨UInt8.toNat_inj.1 ha, UInt8.toNat_inj.1 hb⟩
  · rintro ⟨rfl, rfl⟩; rfl
theorem xor_zero8 (a b : UInt8) : a ^^^ b = 0 ↔ a = b := by
  constructor
  · intro h
    have := congrArg (· ^^^ b) h
    simpa [UInt8.xor_assoc] using this
  · rintro rfl; simp

theorem unl_zero : ∀ (l m : List UInt8) (u : UInt8), l.length = m.length → (unlV u l m = 0 ↔ u = 0 ∧ l = m)
  | [], [], u, _ => by simp [unlV]
  | a :: l, b :: m, u, h => by
    rw [unlV, unl_zero l m _ (by simpa using h), or_zero8, xor_zero8]
    simp [and_assoc]
  | [], _ :: _, _, h => by simp at h
  | _ :: _, [], _, h => by simp at h

theorem SlB.ln {w : World} {a : Option Addr} {n c : Nat} {l : List UInt8} (h : SlB w (.slice a n c) l) : n = l.length := by
  rcases h with ⟨c, e, rfl⟩ | ⟨x, c, e, hc⟩
  · obtain ⟨_, rfl, _⟩ := Value.slice.inj e
    rfl
  · obtain ⟨_, rfl, _⟩ := Value.slice.inj e
    rfl

theorem SlB.at {w : World} {a : Option Addr} {n c : Nat} {l : List UInt8} (h : SlB w (.slice a n c) l) (k : Nat) (hk : k < l.length) : ∃ x, a = some x ∧ w.cell? (x.add k) = some (.int .u8 (l[k].toNat : Int)) := by
  rcases h with ⟨c, e, rfl⟩ | ⟨x, c, e, hc⟩
  · simp at hk
  · obtain ⟨rfl, _, _⟩ := Value.slice.inj e
    exact ⟨x, rfl, hc k hk⟩

theorem ret_b8 {a b : Bool} (h : a = b) : Ending.returned (.bool a) = .returned (.bool b) := by rw [h]

set_option maxHeartbeats 1000000 in
theorem same_d (a1 a2 : Option Addr) (n1 c1 n2 c2 : Nat) (l m : List UInt8) (w : World) (h1 : SlB w (.slice a1 n1 c1) l) (h2 : SlB w (.slice a2 n2 c2) m) (hn1 : n1 ≤ 1000000) :
    Calls Tryd.prog 9 #[.slice a1 n1 c1, .slice a2 n2 c2] w fun e w' => e = .returned (.bool (decide (l = m))) ∧ w = w' := by
  have e1 := h1.ln
  have e2 := h2.ln
  have H1 := hid h1
  have H2 := hid h2
  clear h1 h2
  by_cases hne : n1 = n2
  · subst hne
    have E1 := hid e1
    have E2 := hid e2
    clear e1 e2
    go_enter Tryd.func9, Tryd.ntmps9
    go_wp2
    go_loop [5, 15] (fun v5 v15 => ∃ (k : Nat) (u : UInt8), k ≤ n1 ∧ v15 = .int .i64 k ∧ v5 = .int .u8 (u.toNat : Int) ∧ Hid (unlV u (l.drop k) (m.drop k) = unlV 0 l m)) (fun _ v15 => n1 - (intOf v15).toNat)
    case atStart => exact ⟨0, 0, Nat.zero_le _, rfl, rfl, rfl⟩
    case round =>
      obtain ⟨k, u, hk, rfl, rfl, HU⟩ := hrel
      by_cases hlt : k < n1
      · have hkl : k < l.length := by have := E1.out; omega
        have hkm : k < m.length := by have := E2.out; omega
        obtain ⟨x, rfl, cx⟩ := H1.out.at k hkl
        obtain ⟨y, rfl, cy⟩ := H2.out.at k hkm
        obtain ⟨p, hp⟩ : ∃ p, p = l[k] := ⟨_, rfl⟩
        obtain ⟨q, hq⟩ : ∃ q, q = m[k] := ⟨_, rfl⟩
        rw [← hp] at cx
        rw [← hq] at cy
        obtain ⟨X, hX⟩ : ∃ X, X = p ^^^ q := ⟨_, rfl⟩
        obtain ⟨O, hO⟩ : ∃ O, O = u ||| X := ⟨_, rfl⟩
        have hx := xor8 p q
        rw [← hX] at hx
        have ho := or8 u X
        rw [← hO] at ho
        have HN := hid (show unlV O (l.drop (k + 1)) (m.drop (k + 1)) = unlV 0 l m by
          rw [← HU.out, List.drop_eq_getElem_cons hkl, List.drop_eq_getElem_cons hkm, unlV, hO, hX, hp, hq])
        clear hp hq hkl hkm hX hO
        go_wp2
        go_round
        case rel => exact ⟨k + 1, O, by omega, by go_num, by first | rfl | rw [ho] | (rw [hx, ho]), HN.out⟩
        case measure => simp [intOf]; omega
      · have HN := hid (show u = unlV 0 l m by
          have e1 := E1.out
          have e2 := E2.out
          rw [← HU.out, List.drop_eq_nil_of_le (by omega)]; cases m.drop k <;> rfl)
        go_wp2
        go_ret
        refine ⟨ret_b8 ?_, rfl⟩
        have e1 := E1.out
        have e2 := E2.out
        have hz := unl_zero l m 0 (by omega)
        rw [← HN.out] at hz
        by_cases hu : u = 0
        · subst hu
          have : l = m := (hz.1 rfl).2
          simp [this]
        · have : l ≠ m := fun h => hu (hz.2 ⟨rfl, h⟩)
          have h3 : u.toNat ≠ 0 := fun h => hu (UInt8.toNat_inj.1 h)
          simp [this]
          omega
  · have hd : ((n1 : Int) != (n2 : Int)) = true := by simp; omega
    have HLM := hid (show decide (l = m) = false by
      apply decide_eq_false
      rintro rfl
      omega)
    clear e1 e2
    go_enter Tryd.func9, Tryd.ntmps9
    go_wp2
    go_ret
    exact ⟨ret_b8 HLM.out.symm, rfl⟩

end Go.Proofs.YtmjokddplikegaaDoor
