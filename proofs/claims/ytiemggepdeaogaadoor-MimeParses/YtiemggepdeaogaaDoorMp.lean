/-
  The walk of ostiarylaw6.known.
-/
import Derived.Test.YtiemggepdeaogaaDoorMo
set_option linter.unusedSimpArgs false
set_option linter.unusedVariables false
namespace Go.Proofs.YtiemggepdeaogaaDoor
open Go.RowKit

def ctL : List UInt8 := [99, 111, 110, 116, 101, 110, 116, 45, 116, 121, 112, 101]
/-- What a list of kinds tells. -/
def exV (P : List (List UInt8)) : Kn × Bool := extV (pcsV (kindsH P) ctL)

theorem kinds_szd (P : List (List UInt8)) (h : ∀ p ∈ P, p.length ≤ 100000) : Szd 140737488351232 (kindsH P) := by
  intro x hx
  obtain ⟨p, hp, rfl⟩ := List.mem_map.1 hx
  have := h p hp
  exact ⟨by show ctN.length ≤ _; decide, by show p.length ≤ _; omega⟩

theorem kinds_bulk (P : List (List UInt8)) (h : ∀ p ∈ P, p.length ≤ 100000) : bulkV (kindsH P) ≤ P.length * 100002 := by
  unfold bulkV
  induction P with
  | nil => simp [kindsH]
  | cons p P ih =>
    have h1 := ih fun q hq => h q (by simp [hq])
    have h2 := h p (by simp)
    simp only [kindsH, List.map_cons, List.sum_cons, List.length_cons, Nat.succ_mul] at h1 ⊢
    omega

theorem exk_any {B : Nat} (v : Value) (P : List (List UInt8)) (w : World) (hG : G5 w) (ho : w.ownsRow B 25 2 v (kindsH P).length (cellsH (kindsH P))) (h : ∀ p ∈ P, p.length ≤ 100000) (hl : P.length ≤ 100) :
    Calls Tryd.prog 10 #[v] w (ExPost (exV P) w) :=
  extract_any v (kindsH P) w hG (own_hd ho) (kinds_szd P h) (by rw [kindsH_len]; omega) (by have := kinds_bulk P h; omega)

def knP : List (List UInt8) := [[116, 101, 120, 116, 47, 97, 59, 99, 104, 97, 114, 115, 101, 116, 61, 120], [116, 101, 120, 116, 47, 97]]
def knT : Kn := ⟨[116, 101, 120, 116], [97], [⟨[99, 104, 97, 114, 115, 101, 116], [120]⟩]⟩
theorem knP_ex : exV knP = (knT, true) := by decide +kernel
theorem kn_t1 : texV [84, 101, 120, 116, 47, 72, 84, 77, 76, 32, 59, 32, 67, 104, 97, 114, 115, 101, 116, 61, 34, 97, 92, 34, 98, 34, 32, 59, 120] = [116, 101, 120, 116, 47, 104, 116, 109, 108, 59, 99, 104, 97, 114, 115, 101, 116, 61, 34, 97, 92, 34, 98, 34] := by decide +kernel
theorem kn_t2 : texV [97, 47] = [] := by decide +kernel
theorem knT_txt : txtV knT = [116, 101, 120, 116, 47, 97, 59, 99, 104, 97, 114, 115, 101, 116, 61, 120] := by decide +kernel

set_option maxHeartbeats 2000000 in
set_option maxRecDepth 100000 in
theorem known6_any (w : World) (hG : G5 w) : Calls Tryd.prog 14 #[] w fun e w' => e = .returned (.bool true) ∧ Below w.heap.size w w' := by
  have HG := hid hG
  clear hG
  have HTx := hid (tx_new6 w knP 9 (by decide))
  have HB0 := hid (show Below w.heap.size w (w.alloc (.cells (cellsT knP).toArray 9)) from (Below.refl _ w).alloc (Nat.le_refl _) _)
  have HK := hid (kinds_any _ knP _ HTx.out (by decide))
  go_enter Tryd.func14, Tryd.ntmps14
  go_wp2_with fail
  refine HK.out.mono ?_
  rintro e w1 ⟨v1, rfl, ho1, hb1⟩
  have HB1 := hid (belowT HB0.out hb1)
  have HO1 := hid ho1
  obtain ⟨a1, a2, a3, rfl⟩ := own_slice ho1
  clear ho1 hb1
  go_wp2_with fail
  refine (exk_any _ knP _ (HG.out.kept HB1.out) HO1.out (by decide) (by decide)).mono ?_
  rintro e w2 ⟨v2, rfl, ho2, hb2⟩
  rw [knP_ex] at ho2 ⊢
  obtain ⟨q1, q2, q3, rfl⟩ := own_slice ho2
  have HB2 := hid (belowT HB1.out hb2)
  have HBa := hid (HB2.out.alloc HB2.out.size (.cells #[.string (ba knT.major), .string (ba knT.minor), .slice q1 q2 q3] 28))
  have HT := hid (show Tri (w2.alloc (.cells #[.string (ba knT.major), .string (ba knT.minor), .slice q1 q2 q3] 28)) w2.heap.size (ba knT.major) (ba knT.minor) (.slice q1 q2 q3) from heap_alloc_new _ _)
  have HH := hid ((own_hd ho2).kept ((Below.refl _ w2).alloc (Nat.le_refl _) (.cells #[.string (ba knT.major), .string (ba knT.minor), .slice q1 q2 q3] 28)))
  clear ho2 hb2
  unfold knVal
  go_wp2_with fail
  generalize (w2.alloc (.cells #[.string (ba knT.major), .string (ba knT.minor), .slice q1 q2 q3] 28)) = X at *
  refine (tex_any _ _ (HG.out.kept HBa.out) (by decide)).mono ?_
  rintro e w3 ⟨rfl, hb3⟩
  have HB3 := hid (belowT HBa.out hb3)
  have HT3 := hid (HT.out.kept hb3)
  have HH3 := hid (HH.out.kept hb3)
  obtain ⟨x0, x1, x2⟩ := HT3.out.cells
  clear hb3
  rw [show (⟨#[84, 101, 120, 116, 47, 72, 84, 77, 76, 32, 59, 32, 67, 104, 97, 114, 115, 101, 116, 61, 34, 97, 92, 34, 98, 34, 32, 59, 120]⟩ : ByteArray).data.toList = [84, 101, 120, 116, 47, 72, 84, 77, 76, 32, 59, 32, 67, 104, 97, 114, 115, 101, 116, 61, 34, 97, 92, 34, 98, 34, 32, 59, 120] from rfl, kn_t1]
  unfold ba
  go_wp2_with fail
  refine (text6_any (ba knT.major) (ba knT.minor) (.slice q1 q2 q3) knT.params w3 (HG.out.kept HB3.out) HH3.out (show (txtV knT).length ≤ 400000000 by decide +kernel)).mono ?_
  rintro e w4 ⟨rfl, hb4⟩
  have HB4 := hid (belowT HB3.out hb4)
  rw [show txtV ⟨(ba knT.major).data.toList, (ba knT.minor).data.toList, knT.params⟩ = [116, 101, 120, 116, 47, 97, 59, 99, 104, 97, 114, 115, 101, 116, 61, 120] from knT_txt]
  clear hb4
  unfold ba
  go_wp2_with fail
  refine (tex_any _ _ (HG.out.kept HB4.out) (by decide)).mono ?_
  rintro e w5 ⟨rfl, hb5⟩
  rw [show (⟨#[97, 47]⟩ : ByteArray).data.toList = [97, 47] from rfl, kn_t2]
  unfold ba
  go_wp2
  go_ret
  exact ⟨rfl, belowT HB4.out hb5⟩

end Go.Proofs.YtiemggepdeaogaaDoor
