/-
  The walk of the law HeadersRanges.
-/
import Derived.Test.YtknlmifjadolpaaDoorXm
import Derived.Test.YtknlmifjadolpaaDoorXq
set_option linter.unusedSimpArgs false
set_option linter.unusedVariables false
namespace Go.Proofs.YtknlmifjadolpaaDoor
open Go.RowKit

theorem digits_tail {n : Nat} (T : List UInt8) (h : Dec n T) : T.length ≤ 40 := h.2.2.2

theorem app_mk (a b : List UInt8) : (⟨a.toArray⟩ : ByteArray) ++ ⟨b.toArray⟩ = ⟨(a ++ b).toArray⟩ := by
  refine xext ?_
  rw [ByteArray.data_append, Array.toList_append]

def sRangeU : List UInt8 := [82, 97, 110, 103, 101]

theorem safe_range (A B : List UInt8) (h : 45 ∉ A) (hl : A.length ≤ 40 ∧ B.length ≤ 40) : safeV sRangeU (sBytes ++ A ++ 45 :: B) = (rOk (sBytes ++ A ++ 45 :: B) && decide (0 ≤ rFrom (sBytes ++ A ++ 45 :: B))) := by
  unfold safeV
  rw [if_neg (by simp [sBytes]; omega)]
  rfl

/-- What the law asks of a range: its first and its last number, if they are told. -/
theorem rng_both (a b : Nat) (A B : List UInt8) (hA : Dec a A) (hB : Dec b B) (hab : a ≤ b) : rOk (sBytes ++ A ++ 45 :: B) = true ∧ rFrom (sBytes ++ A ++ 45 :: B) = a ∧ rTo (sBytes ++ A ++ 45 :: B) = b ∧ rOk (sBytes ++ A ++ 45 :: (B ++ [32])) = false ∧ safeV sRangeU (sBytes ++ A ++ 45 :: B) = true := by
  have n1 : 45 ∉ A := hA.no 45 (by decide)
  have e1 : rOk (sBytes ++ A ++ 45 :: B) = true := by
    rw [rng_ok A B n1, hA.int.2, hB.int.2, hA.int.1, hB.int.1]
    unfold spansI
    rw [if_neg (by omega)]
    simp; omega
  have e2 := rng_from A B n1 e1
  rw [hA.int.1, hB.int.1] at e2
  refine ⟨e1, e2.1, e2.2, ?_, ?_⟩
  · rw [rng_ok A _ n1, bnd_blank]; simp
  · rw [safe_range A B n1 ⟨hA.2.2.2, hB.2.2.2⟩, e1, e2.1]; simp

theorem rng_first (a : Nat) (A : List UInt8) (hA : Dec a A) : rOk (sBytes ++ A ++ 45 :: []) = true ∧ rFrom (sBytes ++ A ++ 45 :: []) = a ∧ rTo (sBytes ++ A ++ 45 :: []) = -1 ∧ rOk (sBytes ++ A ++ 45 :: ([] ++ [32])) = false ∧ safeV sRangeU (sBytes ++ A ++ 45 :: []) = true := by
  have n1 : 45 ∉ A := hA.no 45 (by decide)
  have e1 : rOk (sBytes ++ A ++ 45 :: []) = true := by
    rw [rng_ok A [] n1, hA.int.2, bnd_nil.2, hA.int.1, bnd_nil.1]
    unfold spansI
    rw [if_pos (by omega)]
    simp
  have e2 := rng_from A [] n1 e1
  rw [hA.int.1, bnd_nil.1] at e2
  refine ⟨e1, e2.1, e2.2, ?_, ?_⟩
  · rw [rng_ok A _ n1, bnd_blank]; simp
  · rw [safe_range A [] n1 ⟨hA.2.2.2, by simp⟩, e1, e2.1]; simp

theorem rng_last (b : Nat) (B : List UInt8) (hB : Dec b B) : rOk (sBytes ++ [] ++ 45 :: B) = true ∧ rFrom (sBytes ++ [] ++ 45 :: B) = -1 ∧ rTo (sBytes ++ [] ++ 45 :: B) = b ∧ rOk (sBytes ++ [] ++ 45 :: (B ++ [32])) = false ∧ safeV sRangeU (sBytes ++ [] ++ 45 :: B) = false := by
  have n1 : (45 : UInt8) ∉ ([] : List UInt8) := by simp
  have e1 : rOk (sBytes ++ [] ++ 45 :: B) = true := by
    rw [rng_ok [] B n1, hB.int.2, bnd_nil.2, hB.int.1, bnd_nil.1]
    unfold spansI
    rw [if_neg (by omega)]
    simp
  have e2 := rng_from [] B n1 e1
  rw [hB.int.1, bnd_nil.1] at e2
  refine ⟨e1, e2.1, e2.2, ?_, ?_⟩
  · rw [rng_ok [] _ n1, bnd_blank]; simp
  · rw [safe_range [] B n1 ⟨by simp, hB.2.2.2⟩, e1, e2.1]; decide

theorem rng_none : rOk (sBytes ++ [] ++ 45 :: []) = false := by decide

set_option maxHeartbeats 4000000 in
set_option maxRecDepth 100000 in
theorem headersRanges_walk (a b : Int) (fi la : Bool) (w : World) (ha : (Lit.int .i64 a).wf = true) (hb : (Lit.int .i64 b).wf = true) (hg : G5 w) :
    Calls Tryd.prog 10 #[.int .i64 a, .int .i64 b, .bool fi, .bool la] w fun e w' => e = .returned (.bool true) ∧ Below w.heap.size w w' := by
  have HG := hid hg
  clear hg
  have ha2 := bounds_i64 ha
  have hb2 := bounds_i64 hb
  have xa := xwithinI_bounds a 0 1048576 (by omega)
  have xb := xwithinI_bounds b 0 1048576 (by omega)
  obtain ⟨A, hA⟩ : ∃ A : Nat, xwithinI a 0 1048576 = A := ⟨(xwithinI a 0 1048576).toNat, by omega⟩
  obtain ⟨B, hB⟩ : ∃ B : Nat, xwithinI b 0 1048576 = B := ⟨(xwithinI b 0 1048576).toNat, by omega⟩
  have hA1 : A ≤ 1048576 := by omega
  have hB1 : B ≤ 1048576 := by omega
  have HA : Hid (∀ w : World, Calls Tryd.prog 40 #[.int .i64 a, .int .i64 0, .int .i64 1048576] w fun e w' => e = .returned (.int .i64 (A : Int)) ∧ w = w') := fun w => by
    have := xwithin_any a 0 1048576 w ha2.1 ha2.2 (by omega) (by omega) (by omega)
    rw [hA] at this
    exact this
  have HB : Hid (∀ w : World, Calls Tryd.prog 40 #[.int .i64 b, .int .i64 0, .int .i64 1048576] w fun e w' => e = .returned (.int .i64 (B : Int)) ∧ w = w') := fun w => by
    have := xwithin_any b 0 1048576 w hb2.1 hb2.2 (by omega) (by omega) (by omega)
    rw [hB] at this
    exact this
  clear hA hB xa xb ha2 hb2 ha hb
  cases fi with
  | true =>
    cases la with
    | true =>
      go_enter Tryd.func10, Tryd.ntmps10
      go_wp2_with fail
      refine (HA.out _).mono ?_
      rintro e w1 ⟨rfl, rfl⟩
      go_wp2_with fail
      refine (HB.out _).mono ?_
      rintro e w1 ⟨rfl, rfl⟩
      go_wp2_with fail
      refine (digits5_any A _ (by omega)).mono ?_
      rintro e w1 ⟨TA, rfl, hTA, rfl⟩
      have lA : TA.length ≤ 40 := hTA.2.2.2
      have DA := hid hTA
      clear hTA
      go_wp2_with fail
      rw [show (A : Int) + (B : Int) = ((A + B : Nat) : Int) by omega]
      refine (digits5_any (A + B) _ (by omega)).mono ?_
      rintro e w1 ⟨TB, rfl, hTB, rfl⟩
      have lB : TB.length ≤ 40 := hTB.2.2.2
      have DB := hid hTB
      clear hTB
      have HL := hid (rng_both A (A + B) TA TB DA.out DB.out (by omega))
      obtain ⟨S, hS⟩ : ∃ x : ByteArray, x = ⟨(sBytes ++ TA ++ 45 :: TB).toArray⟩ := ⟨_, rfl⟩
      have HSl := hid (show S.data.toList = sBytes ++ TA ++ 45 :: TB by rw [hS])
      have hSs : S.size ≤ 100 := by rw [hS, xsize]; simp [sBytes]; omega
      have HR : Hid (∀ w : World, G5 w → Calls Tryd.prog 17 #[.string S] w fun e w' => e = .returned (.tuple #[.int .i64 (A : Int), .int .i64 ((A + B : Nat) : Int), .bool true]) ∧ Below w.heap.size w w') := fun w hg => by
        have := range_any S w hg (by omega)
        rw [HSl.out, HL.out.1, HL.out.2.1, HL.out.2.2.1] at this
        exact this
      have HR2 : Hid (∀ w : World, G5 w → Calls Tryd.prog 17 #[.string (S ++ ⟨#[32]⟩)] w fun e w' => (∃ p q, e = .returned (.tuple #[.int .i64 p, .int .i64 q, .bool false])) ∧ Below w.heap.size w w') := fun w hg => by
        have := range_any (S ++ ⟨#[32]⟩) w hg (by rw [ByteArray.size_append, show (⟨#[32]⟩ : ByteArray).size = 1 from rfl]; omega)
        rw [show (S ++ (⟨#[32]⟩ : ByteArray)).data.toList = sBytes ++ TA ++ 45 :: (TB ++ [32]) by rw [ByteArray.data_append, Array.toList_append, HSl.out]; simp, HL.out.2.2.2.1] at this
        exact this.mono fun e w' h => ⟨⟨_, _, h.1⟩, h.2⟩
      have HSf : Hid (∀ w : World, G5 w → Calls Tryd.prog 19 #[.string ⟨#[82, 97, 110, 103, 101]⟩, .string S] w fun e w' => e = .returned (.bool true) ∧ Below w.heap.size w w') := fun w hg => by
        have := safe_any ⟨#[82, 97, 110, 103, 101]⟩ S w hg (by decide) (by omega)
        rw [HSl.out, show (⟨#[82, 97, 110, 103, 101]⟩ : ByteArray).data.toList = sRangeU from rfl, HL.out.2.2.2.2] at this
        exact this
      have HE := hid (show (⟨#[98, 121, 116, 101, 115, 61]⟩ : ByteArray) ++ ⟨TA.toArray⟩ ++ ⟨#[45]⟩ ++ ⟨TB.toArray⟩ = S by
        refine xba ?_
        rw [HSl.out]
        simp [ByteArray.data_append, sBytes])
      clear hS
      go_wp2_with fail
      rw [HE.out]
      refine (HR.out _ HG.out).mono ?_
      rintro e w2 ⟨rfl, hb2⟩
      have G2 := hid (HG.out.kept hb2)
      have hABi : ((A + B : Nat) : Int) = (A : Int) + (B : Int) := by omega
      go_wp2_with fail
      refine (HR2.out _ G2.out).mono ?_
      rintro e w3 ⟨⟨p3, q3, rfl⟩, hb3⟩
      have G3 := hid (G2.out.kept hb3)
      have hb23 := belowT hb2 hb3
      go_wp2_with fail
      refine (HSf.out _ G3.out).mono ?_
      rintro e w4 ⟨rfl, hb4⟩
      have G4 := hid (G3.out.kept hb4)
      have hb24 := belowT hb23 hb4
      go_wp2_with fail
      refine (known_any _ G4.out).mono ?_
      rintro e w5 ⟨rfl, hb5⟩
      go_wp2
      go_ret
      exact ⟨rfl, belowT hb24 hb5⟩
    | false =>
      go_enter Tryd.func10, Tryd.ntmps10
      go_wp2_with fail
      refine (HA.out _).mono ?_
      rintro e w1 ⟨rfl, rfl⟩
      go_wp2_with fail
      refine (HB.out _).mono ?_
      rintro e w1 ⟨rfl, rfl⟩
      go_wp2_with fail
      refine (digits5_any A _ (by omega)).mono ?_
      rintro e w1 ⟨TA, rfl, hTA, rfl⟩
      have lA : TA.length ≤ 40 := hTA.2.2.2
      have DA := hid hTA
      clear hTA
      have HL := hid (rng_first A TA DA.out)
      obtain ⟨S, hS⟩ : ∃ x : ByteArray, x = ⟨(sBytes ++ TA ++ 45 :: []).toArray⟩ := ⟨_, rfl⟩
      have HSl := hid (show S.data.toList = sBytes ++ TA ++ 45 :: [] by rw [hS])
      have hSs : S.size ≤ 100 := by rw [hS, xsize]; simp [sBytes]; omega
      have HR : Hid (∀ w : World, G5 w → Calls Tryd.prog 17 #[.string S] w fun e w' => e = .returned (.tuple #[.int .i64 (A : Int), .int .i64 (-1 : Int), .bool true]) ∧ Below w.heap.size w w') := fun w hg => by
        have := range_any S w hg (by omega)
        rw [HSl.out, HL.out.1, HL.out.2.1, HL.out.2.2.1] at this
        exact this
      have HR2 : Hid (∀ w : World, G5 w → Calls Tryd.prog 17 #[.string (S ++ ⟨#[32]⟩)] w fun e w' => (∃ p q, e = .returned (.tuple #[.int .i64 p, .int .i64 q, .bool false])) ∧ Below w.heap.size w w') := fun w hg => by
        have := range_any (S ++ ⟨#[32]⟩) w hg (by rw [ByteArray.size_append, show (⟨#[32]⟩ : ByteArray).size = 1 from rfl]; omega)
        rw [show (S ++ (⟨#[32]⟩ : ByteArray)).data.toList = sBytes ++ TA ++ 45 :: ([] ++ [32]) by rw [ByteArray.data_append, Array.toList_append, HSl.out]; simp, HL.out.2.2.2.1] at this
        exact this.mono fun e w' h => ⟨⟨_, _, h.1⟩, h.2⟩
      have HSf : Hid (∀ w : World, G5 w → Calls Tryd.prog 19 #[.string ⟨#[82, 97, 110, 103, 101]⟩, .string S] w fun e w' => e = .returned (.bool true) ∧ Below w.heap.size w w') := fun w hg => by
        have := safe_any ⟨#[82, 97, 110, 103, 101]⟩ S w hg (by decide) (by omega)
        rw [HSl.out, show (⟨#[82, 97, 110, 103, 101]⟩ : ByteArray).data.toList = sRangeU from rfl, HL.out.2.2.2.2] at this
        exact this
      have HE := hid (show (⟨#[98, 121, 116, 101, 115, 61]⟩ : ByteArray) ++ ⟨TA.toArray⟩ ++ ⟨#[45]⟩ = S by
        refine xba ?_
        rw [HSl.out]
        simp [ByteArray.data_append, sBytes])
      clear hS
      go_wp2_with fail
      rw [HE.out]
      refine (HR.out _ HG.out).mono ?_
      rintro e w2 ⟨rfl, hb2⟩
      have G2 := hid (HG.out.kept hb2)
      have hABi : ((A + B : Nat) : Int) = (A : Int) + (B : Int) := by omega
      go_wp2_with fail
      refine (HR2.out _ G2.out).mono ?_
      rintro e w3 ⟨⟨p3, q3, rfl⟩, hb3⟩
      have G3 := hid (G2.out.kept hb3)
      have hb23 := belowT hb2 hb3
      go_wp2_with fail
      refine (HSf.out _ G3.out).mono ?_
      rintro e w4 ⟨rfl, hb4⟩
      have G4 := hid (G3.out.kept hb4)
      have hb24 := belowT hb23 hb4
      go_wp2_with fail
      refine (known_any _ G4.out).mono ?_
      rintro e w5 ⟨rfl, hb5⟩
      go_wp2
      go_ret
      exact ⟨rfl, belowT hb24 hb5⟩
  | false =>
    cases la with
    | true =>
      go_enter Tryd.func10, Tryd.ntmps10
      go_wp2_with fail
      refine (HA.out _).mono ?_
      rintro e w1 ⟨rfl, rfl⟩
      go_wp2_with fail
      refine (HB.out _).mono ?_
      rintro e w1 ⟨rfl, rfl⟩
      go_wp2_with fail
      rw [show (A : Int) + (B : Int) = ((A + B : Nat) : Int) by omega]
      refine (digits5_any (A + B) _ (by omega)).mono ?_
      rintro e w1 ⟨TB, rfl, hTB, rfl⟩
      have lB : TB.length ≤ 40 := hTB.2.2.2
      have DB := hid hTB
      clear hTB
      have HL := hid (rng_last (A + B) TB DB.out)
      obtain ⟨S, hS⟩ : ∃ x : ByteArray, x = ⟨(sBytes ++ [] ++ 45 :: TB).toArray⟩ := ⟨_, rfl⟩
      have HSl := hid (show S.data.toList = sBytes ++ [] ++ 45 :: TB by rw [hS])
      have hSs : S.size ≤ 100 := by rw [hS, xsize]; simp [sBytes]; omega
      have HR : Hid (∀ w : World, G5 w → Calls Tryd.prog 17 #[.string S] w fun e w' => e = .returned (.tuple #[.int .i64 (-1 : Int), .int .i64 ((A + B : Nat) : Int), .bool true]) ∧ Below w.heap.size w w') := fun w hg => by
        have := range_any S w hg (by omega)
        rw [HSl.out, HL.out.1, HL.out.2.1, HL.out.2.2.1] at this
        exact this
      have HR2 : Hid (∀ w : World, G5 w → Calls Tryd.prog 17 #[.string (S ++ ⟨#[32]⟩)] w fun e w' => (∃ p q, e = .returned (.tuple #[.int .i64 p, .int .i64 q, .bool false])) ∧ Below w.heap.size w w') := fun w hg => by
        have := range_any (S ++ ⟨#[32]⟩) w hg (by rw [ByteArray.size_append, show (⟨#[32]⟩ : ByteArray).size = 1 from rfl]; omega)
        rw [show (S ++ (⟨#[32]⟩ : ByteArray)).data.toList = sBytes ++ [] ++ 45 :: (TB ++ [32]) by rw [ByteArray.data_append, Array.toList_append, HSl.out]; simp, HL.out.2.2.2.1] at this
        exact this.mono fun e w' h => ⟨⟨_, _, h.1⟩, h.2⟩
      have HSf : Hid (∀ w : World, G5 w → Calls Tryd.prog 19 #[.string ⟨#[82, 97, 110, 103, 101]⟩, .string S] w fun e w' => e = .returned (.bool false) ∧ Below w.heap.size w w') := fun w hg => by
        have := safe_any ⟨#[82, 97, 110, 103, 101]⟩ S w hg (by decide) (by omega)
        rw [HSl.out, show (⟨#[82, 97, 110, 103, 101]⟩ : ByteArray).data.toList = sRangeU from rfl, HL.out.2.2.2.2] at this
        exact this
      have HE := hid (show (⟨#[98, 121, 116, 101, 115, 61]⟩ : ByteArray) ++ ⟨#[45]⟩ ++ ⟨TB.toArray⟩ = S by
        refine xba ?_
        rw [HSl.out]
        simp [ByteArray.data_append, sBytes])
      clear hS
      go_wp2_with fail
      rw [HE.out]
      refine (HR.out _ HG.out).mono ?_
      rintro e w2 ⟨rfl, hb2⟩
      have G2 := hid (HG.out.kept hb2)
      have hABi : ((A + B : Nat) : Int) = (A : Int) + (B : Int) := by omega
      go_wp2_with fail
      refine (HR2.out _ G2.out).mono ?_
      rintro e w3 ⟨⟨p3, q3, rfl⟩, hb3⟩
      have G3 := hid (G2.out.kept hb3)
      have hb23 := belowT hb2 hb3
      go_wp2_with fail
      refine (HSf.out _ G3.out).mono ?_
      rintro e w4 ⟨rfl, hb4⟩
      have G4 := hid (G3.out.kept hb4)
      have hb24 := belowT hb23 hb4
      go_wp2_with fail
      refine (known_any _ G4.out).mono ?_
      rintro e w5 ⟨rfl, hb5⟩
      go_wp2
      go_ret
      exact ⟨rfl, belowT hb24 hb5⟩
    | false =>
      go_enter Tryd.func10, Tryd.ntmps10
      go_wp2_with fail
      refine (HA.out _).mono ?_
      rintro e w1 ⟨rfl, rfl⟩
      go_wp2_with fail
      refine (HB.out _).mono ?_
      rintro e w1 ⟨rfl, rfl⟩
      have HE := hid (show (⟨#[98, 121, 116, 101, 115, 61]⟩ : ByteArray) ++ ⟨#[45]⟩ = ⟨(sBytes ++ [] ++ 45 :: []).toArray⟩ from by decide)
      go_wp2_with fail
      rw [HE.out]
      refine (range_any _ _ HG.out (by decide)).mono ?_
      rintro e w2 ⟨rfl, hb2⟩
      rw [xmk, show rOk (sBytes ++ [] ++ [45]) = false from rng_none]
      go_wp2_with fail
      refine (known_any _ (HG.out.kept hb2)).mono ?_
      rintro e w5 ⟨rfl, hb5⟩
      go_wp2
      go_ret
      exact ⟨rfl, belowT hb2 hb5⟩

end Go.Proofs.YtknlmifjadolpaaDoor
