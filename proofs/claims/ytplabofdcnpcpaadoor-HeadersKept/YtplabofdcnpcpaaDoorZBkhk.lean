/-
  The walk of the law's mark: the marks of lists of headers.
-/
import Derived.Test.YtplabofdcnpcpaaDoorZBkhb
import Derived.Test.YtplabofdcnpcpaaDoorZGf
import Derived.Laws.Runes
set_option linter.unusedSimpArgs false
set_option linter.unusedVariables false
namespace Go.Proofs.YtplabofdcnpcpaaDoor
open Go.RowKit

def mk0h (_i _j : Nat) : ByteArray := ⟨#[109, 97, 114, 107]⟩
def mk1h (i j : Nat) : ByteArray := ⟨#[UInt8.ofNat (97 + i % 26), UInt8.ofNat (97 + j % 26)]⟩

theorem ench_low (n : Nat) (h : n < 128) : Utf8.encode (n : Int) = ⟨#[UInt8.ofNat n]⟩ := by
  have h2 : ∀ m : Fin 128, Utf8.encode (m.val : Int) = ⟨#[UInt8.ofNat m.val]⟩ := by decide +kernel
  exact h2 ⟨n, h⟩

theorem below_seth {B : Nat} {w0 w : World} {b : Nat} {x y : Value} (h : Below B w0 w) (hb : B ≤ b) : Below B w0 ((w.setCell ⟨b, 0, none⟩ x).setCell ⟨b, 1, none⟩ y) :=
  (h.setCell (p := ⟨b, 0, none⟩) hb x).setCell (p := ⟨b, 1, none⟩) hb y

set_option maxHeartbeats 2000000 in
set_option maxRecDepth 100000 in
theorem markh_any (i j : Nat) (hi : i ≤ 201) (hj : j ≤ 9223372036854775807) (w : World) :
    Calls Tryd.prog 14 #[.int .i64 (i : Int), .int .i64 (j : Int)] w fun e w' => e = .returned (.agg #[.string (mk0h i j), .string (mk1h i j)]) ∧ Below w.heap.size w w' := by
  obtain ⟨a, ha⟩ : ∃ a, a = i % 26 := ⟨_, rfl⟩
  obtain ⟨b, hb⟩ : ∃ a, a = j % 26 := ⟨_, rfl⟩
  obtain ⟨I, hI⟩ : ∃ I : Int, I = (i : Int) := ⟨_, rfl⟩
  obtain ⟨J, hJ⟩ : ∃ I : Int, I = (j : Int) := ⟨_, rfl⟩
  obtain ⟨A, hA⟩ : ∃ A : ByteArray, A = ⟨#[UInt8.ofNat (97 + a)]⟩ := ⟨_, rfl⟩
  obtain ⟨C, hC⟩ : ∃ A : ByteArray, A = ⟨#[UInt8.ofNat (97 + b)]⟩ := ⟨_, rfl⟩
  have HE := hid (show A ++ C = mk1h i j by
    unfold mk1h
    rw [← ha, ← hb, hA, hC, ← Lib.mk_data (_ ++ _)]
    congr 2)
  have ha26 : a < 26 := by omega
  have hb26 : b < 26 := by omega
  have r1 : I.tmod 26 = (a : Int) := by rw [hI, ha]; exact Int.ofNat_tmod i 26
  have r2 : J.tmod 26 = (b : Int) := by rw [hJ, hb]; exact Int.ofNat_tmod j 26
  have e1 : Utf8.encode (97 + (a : Int)) = A := by rw [hA]; exact ench_low (97 + a) (by omega)
  have e2 : Utf8.encode (97 + (b : Int)) = C := by rw [hC]; exact ench_low (97 + b) (by omega)
  have s1 : A.size = 1 := by rw [hA]; rfl
  have s2 : C.size = 1 := by rw [hC]; rfl
  have hI0 : 0 ≤ I ∧ I ≤ 201 := by omega
  have hJ0 : 0 ≤ J ∧ J ≤ 9223372036854775807 := by omega
  rw [← hI, ← hJ]
  clear hI hJ hi hj ha hb hA hC
  go_enter Tryd.func14, Tryd.ntmps14
  go_wp2_with fail
  refine (h_any _ _ _).mono ?_
  rintro e w2 ⟨rfl, hb2⟩
  have hr : w2.heap[w.heap.size]? = some (.cells #[.string ⟨#[]⟩, .string ⟨#[]⟩] 38 (0, 0)) := row_kept (heap_alloc_new w _) hb2
  have d0 : w2.cell? ⟨w.heap.size, 0, none⟩ = some (.string ⟨#[]⟩) := by rw [Lib.cell_of_heap hr]; rfl
  have d1 : w2.cell? ⟨w.heap.size, 1, none⟩ = some (.string ⟨#[]⟩) := by rw [Lib.cell_of_heap hr]; rfl
  have g0 : w2.frozen? ⟨w.heap.size, 0, none⟩ = false := Lib.frozen_of_heap hr 0
  have g1 : w2.frozen? ⟨w.heap.size, 1, none⟩ = false := Lib.frozen_of_heap hr 1
  have HB2 := hid (below2 ((Below.refl _ w).alloc (Nat.le_refl _) _) hb2)
  have HR := hid hr
  clear hb2 hr e1 e2 r1 r2 hI0 hJ0 s1 s2
  unfold hdVal
  go_wp2_with fail
  rw [← HE.out]
  have h1 := Lib.heap_setCell_same HR.out (i := 0) (.string ⟨#[109, 97, 114, 107]⟩)
  have h2 := Lib.heap_setCell_same h1 (i := 1) (.string (A ++ C))
  refine bodyPost_ret (results_h1 rfl _ _ w.heap.size ⟨#[109, 97, 114, 107]⟩ (A ++ C) rfl (fun j u hu => by
    rw [Nat.zero_add, Lib.cell_of_heap h2]
    match j, hu with
    | 0, hu => simpa using hu
    | 1, hu => simpa using hu
    | j + 2, hu => simp at hu)) rfl ⟨rfl, below_seth HB2.out (Nat.le_refl _)⟩

end Go.Proofs.YtplabofdcnpcpaaDoor
