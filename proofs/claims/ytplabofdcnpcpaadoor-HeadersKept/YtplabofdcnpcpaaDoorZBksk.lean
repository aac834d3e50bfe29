/-
  The walk of ostiarybook's Strings: the marks of lists of texts.
-/
import Derived.Test.YtplabofdcnpcpaaDoorZBksb
import Derived.Laws.IdiomStrings
set_option linter.unusedSimpArgs false
set_option linter.unusedVariables false
namespace Go.Proofs.YtplabofdcnpcpaaDoor
open Go.RowKit

def mk0s (i _j : Nat) : ByteArray := ⟨#[109, 97, 114, 107, 32, UInt8.ofNat i, 0, 0]⟩

theorem conv_mark (w : World) (i : Nat) (hi : i ≤ 201) : (convert 83 9 (.slice (some ⟨w.heap.size, 0, none⟩) 3 3)).run Tryd.prog (w.alloc (.cells #[.int .u8 (i : Int), .int .u8 ((i : Int) / 256), .int .u8 ((i : Int) / 65536)] 5 (0, 0))) = .ok (.string ⟨#[UInt8.ofNat i, 0, 0]⟩) (w.alloc (.cells #[.int .u8 (i : Int), .int .u8 ((i : Int) / 256), .int .u8 ((i : Int) / 65536)] 5 (0, 0))) := by
  have h1 : (i : Int) / 256 = 0 := by omega
  have h2 : (i : Int) / 65536 = 0 := by omega
  have h3 : ((UInt8.ofNat i).toNat : Int) = (i : Int) := by
    rw [UInt8.toNat_ofNat']
    omega
  rw [h1, h2]
  refine run_convert_bytes_back (P := Tryd.prog) _ 83 9 5 ⟨w.heap.size, 0, none⟩ 3 [UInt8.ofNat i, 0, 0] Tryd.underlying83 Tryd.underlying5 Tryd.underlying9 ?_
  intro j hj
  match j, hj with
  | 0, _ => simp [Addr.add]; omega
  | 1, _ => simp [Addr.add]
  | 2, _ => simp [Addr.add]

set_option maxHeartbeats 1000000 in
set_option maxRecDepth 100000 in
theorem marks_any (i j : Nat) (hi : i ≤ 201) (hj : j ≤ 9223372036854775807) (w : World) :
    Calls Tryd.prog 16 #[.int .i64 (i : Int), .int .i64 (j : Int)] w fun e w' => e = .returned (.string (mk0s i j)) ∧ Below w.heap.size w w' := by
  have hcv := conv_mark w i hi
  have HE := hid (show (⟨#[109, 97, 114, 107, 32]⟩ : ByteArray) ++ ⟨#[UInt8.ofNat i, 0, 0]⟩ = mk0s i j by
    unfold mk0s
    rw [← Lib.mk_data (_ ++ _)]
    congr 2)
  clear hj
  obtain ⟨Z, hZ⟩ : ∃ Z : ByteArray, Z = ⟨#[UInt8.ofNat i, 0, 0]⟩ := ⟨_, rfl⟩
  have hZs : Z.size = 3 := by rw [hZ]; rfl
  rw [← hZ] at hcv HE
  clear hZ
  go_enter Tryd.func16, Tryd.ntmps16
  go_wp2
  go_ret
  rw [← HE.out]
  exact ⟨rfl, (Below.refl _ w).alloc (Nat.le_refl _) _⟩

end Go.Proofs.YtplabofdcnpcpaaDoor
