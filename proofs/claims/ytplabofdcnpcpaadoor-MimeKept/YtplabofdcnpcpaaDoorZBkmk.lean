/-
  The walk of the law's mark: the marks of lists of parameters.
-/
import Derived.Test.YtplabofdcnpcpaaDoorZBkmb
import Derived.Laws.Runes
set_option linter.unusedSimpArgs false
set_option linter.unusedVariables false
namespace Go.Proofs.YtplabofdcnpcpaaDoor
open Go.RowKit

def mk0m (_i _j : Nat) : ByteArray := ⟨#[109, 97, 114, 107]⟩
def mk1m (i j : Nat) : ByteArray := ⟨#[UInt8.ofNat (97 + i % 26), UInt8.ofNat (97 + j % 26)]⟩

theorem encm_low (n : Nat) (h : n < 128) : Utf8.encode (n : Int) = ⟨#[UInt8.ofNat n]⟩ := by
  have h2 : ∀ m : Fin 128, Utf8.encode (m.val : Int) = ⟨#[UInt8.ofNat m.val]⟩ := by decide +kernel
  exact h2 ⟨n, h⟩

theorem results_m1 {fn : Func} {p : Tmp} (h : fn.results = #[.cell p 60]) (tmps : Array Value) (w : World) (b : Nat) (v o : ByteArray) (hp : tmps.getD p undef = .pointer (some ⟨b, 0, none⟩)) (hc : w.rangeAt b 0 [.string v, .string o]) : (results fn tmps).run Tryd.prog w = .ok (.agg #[.string v, .string o]) w := by
  rw [Array.getD_eq_getD_getElem?] at hp
  simp only [results, h]
  simp [Sem.run_bind, Result.andThen, hp, asAddr, run_loadVar_mid w b 0 60 [.string v, .string o] _ hc Tryd.underlying60 rfl (by kernel_rfl)]

theorem range_m {w : World} {b : Nat} {x y : Value} (h : w.heap[b]? = some (.cells #[x, y] 60 (0, 0))) : w.rangeAt b 0 [x, y] := fun j u hu => by
  rw [Nat.zero_add, Lib.cell_of_heap h]
  match j, hu with
  | 0, hu => simpa using hu
  | 1, hu => simpa using hu
  | j + 2, hu => simp at hu

set_option maxHeartbeats 2000000 in
set_option maxRecDepth 100000 in
theorem markm_any (i j : Nat) (hi : i ≤ 201) (hj : j ≤ 9223372036854775807) (w : World) :
    Calls Tryd.prog 24 #[.int .i64 (i : Int), .int .i64 (j : Int)] w fun e w' => e = .returned (.agg #[.string (mk0m i j), .string (mk1m i j)]) ∧ Below w.heap.size w w' := by
  obtain ⟨a, ha⟩ : ∃ a, a = i % 26 := ⟨_, rfl⟩
  obtain ⟨b, hb⟩ : ∃ a, a = j % 26 := ⟨_, rfl⟩
  obtain ⟨I, hI⟩ : ∃ I : Int, I = (i : Int) := ⟨_, rfl⟩
  obtain ⟨J, hJ⟩ : ∃ I : Int, I = (j : Int) := ⟨_, rfl⟩
  obtain ⟨A, hA⟩ : ∃ A : ByteArray, A = ⟨#[UInt8.ofNat (97 + a)]⟩ := ⟨_, rfl⟩
  obtain ⟨C, hC⟩ : ∃ A : ByteArray, A = ⟨#[UInt8.ofNat (97 + b)]⟩ := ⟨_, rfl⟩
  have HE := hid (show A ++ C = mk1m i j by
    unfold mk1m
    rw [← ha, ← hb, hA, hC, ← Lib.mk_data (_ ++ _)]
    congr 2)
  have ha26 : a < 26 := by omega
  have hb26 : b < 26 := by omega
  have r1 : I.tmod 26 = (a : Int) := by rw [hI, ha]; exact Int.ofNat_tmod i 26
  have r2 : J.tmod 26 = (b : Int) := by rw [hJ, hb]; exact Int.ofNat_tmod j 26
  have e1 : Utf8.encode (97 + (a : Int)) = A := by rw [hA]; exact encm_low (97 + a) (by omega)
  have e2 : Utf8.encode (97 + (b : Int)) = C := by rw [hC]; exact encm_low (97 + b) (by omega)
  have s1 : A.size = 1 := by rw [hA]; rfl
  have s2 : C.size = 1 := by rw [hC]; rfl
  have hI0 : 0 ≤ I ∧ I ≤ 201 := by omega
  have hJ0 : 0 ≤ J ∧ J ≤ 9223372036854775807 := by omega
  rw [← hI, ← hJ]
  clear hI hJ hi hj ha hb hA hC
  go_enter Tryd.func24, Tryd.ntmps24
  go_wp2_with fail
  rw [← HE.out]
  exact bodyPost_ret (results_m1 rfl _ _ w.heap.size _ (A ++ C) rfl (range_m (heap_alloc_new w _))) rfl ⟨rfl, (Below.refl _ w).alloc (Nat.le_refl _) _⟩

end Go.Proofs.YtplabofdcnpcpaaDoor
