/-
  The walk of digest's told, at 64 bits and 48 bytes.
-/
import Derived.Test.YtmjokddplikegaaDoorZLk6
import Derived.Test.YtmjokddplikegaaDoorZ0
import Derived.Deep.DeepAppendRoom
set_option linter.unusedSimpArgs false
set_option linter.unusedVariables false
namespace Go.Proofs.YtmjokddplikegaaDoor
open Go.RowKit

theorem made48 (w : World) : (Instr.makeSlice 22 (.int .i64 0) (.int .i64 48)).run Tryd.prog w = .ok (.slice (some ⟨w.heap.size, 0, none⟩) 0 48) (w.alloc (.cells (Array.replicate 48 (.int .u8 0)) 5)) := by kernel_rfl

set_option maxHeartbeats 2000000 in
set_option maxRecDepth 100000 in
theorem told48 (a b c d e f g h : Nat) (w : World) (hbd : BdS (2 ^ 64) ⟨a, b, c, d, e, f, g, h⟩) :
    Calls Tryd.prog 36 #[.agg #[.int .u64 64, .int .i64 80, .int .u64 1, .int .u64 8, .int .u64 7, .int .u64 19, .int .u64 61, .int .u64 6, .int .u64 28, .int .u64 34, .int .u64 39, .int .u64 14, .int .u64 18, .int .u64 41], .agg #[.int .u64 (a : Int), .int .u64 (b : Int), .int .u64 (c : Int), .int .u64 (d : Int), .int .u64 (e : Int), .int .u64 (f : Int), .int .u64 (g : Int), .int .u64 (h : Int)], .int .i64 48] w fun e' w' =>
      ∃ G, e' = .returned (.slice (some ⟨G, 0, none⟩) 48 48) ∧ w'.ownsRow w.heap.size 5 1 (.slice (some ⟨G, 0, none⟩) 48 48) 48 (Lib.byteCells ((toldV wid ⟨a, b, c, d, e, f, g, h⟩).take 48)) ∧ Below w.heap.size w w' := by
  obtain ⟨S, hS⟩ : ∃ S, S = [a, b, c, d, e, f, g, h] := ⟨_, rfl⟩
  have HS8 := hid (show S.length = 8 by rw [hS]; rfl)
  have HT := hid (show (toldV wid ⟨a, b, c, d, e, f, g, h⟩).take 48 = (S.take (48 / 8)).flatMap (bytesV 8) by rw [hS]; exact told_take wid _ (48 / 8) (by decide))
  have HBD := hid (show ∀ i, S.getD i 0 < 2 ^ 64 by rw [hS]; exact bd_get hbd)
  rw [HT.out]
  obtain ⟨i0, hi, hz0, hz1, hz2⟩ := info_parts infoByte8
  have hmk := made48
  have HS := hid hS
  clear hS hbd
  go_enter Tryd.func36, Tryd.ntmps36
  go_wp2_with fail
  refine (wordBytes64 _).mono ?_
  rintro e1 w1 ⟨rfl, hb1⟩
  have HA := hid (row_kept (row_kept (row_kept (heap_alloc_new w _) ((Below.refl _ _).alloc (Nat.le_refl _) _)) ((Below.refl _ _).alloc (Nat.le_refl _) _)) hb1)
  have HR := hid (show Rw w1 (w.heap.size + 1) .u64 65 S by rw [HS.out]; exact ((Rw.laid (l := [a, b, c, d, e, f, g, h]) (K := .u64) (World.size_alloc _ _).symm (by rfl)).more _).kept hb1)
  have HO := hid (own_kept (own_made ((w.alloc (.cells #[.int .u64 64, .int .i64 80, .int .u64 1, .int .u64 8, .int .u64 7, .int .u64 19, .int .u64 61, .int .u64 6, .int .u64 28, .int .u64 34, .int .u64 39, .int .u64 14, .int .u64 18, .int .u64 41] 53)).alloc (.cells #[.int .u64 (a : Int), .int .u64 (b : Int), .int .u64 (c : Int), .int .u64 (d : Int), .int .u64 (e : Int), .int .u64 (f : Int), .int .u64 (g : Int), .int .u64 (h : Int)] 65)) w.heap.size 48 5 (by simp; omega) (by decide)) hb1)
  have HB := hid (below2 ((((Below.refl _ w).alloc (Nat.le_refl _) _).alloc (by simp) _).alloc (by simp; omega) _) hb1)
  rw [show ((w.alloc (.cells #[.int .u64 64, .int .i64 80, .int .u64 1, .int .u64 8, .int .u64 7, .int .u64 19, .int .u64 61, .int .u64 6, .int .u64 28, .int .u64 34, .int .u64 39, .int .u64 14, .int .u64 18, .int .u64 41] 53)).alloc (.cells #[.int .u64 (a : Int), .int .u64 (b : Int), .int .u64 (c : Int), .int .u64 (d : Int), .int .u64 (e : Int), .int .u64 (f : Int), .int .u64 (g : Int), .int .u64 (h : Int)] 65)).heap.size = w.heap.size + 1 + 1 by simp] at HO
  clear hb1 hmk
  have hsl : ∀ wx : World, (Instr.sliceAt 65 (.pointer (some ⟨w.heap.size + 1, 0, none⟩)) none (some (.int .i64 6)) none).run Tryd.prog wx = .ok (.slice (some ⟨w.heap.size + 1, 0, none⟩) 6 8) wx := fun wx => by kernel_rfl
  go_wp2_with fail
  go_loopw [7, 19] (fun v7 v19 wr => ∃ i : Nat, i ≤ 6 ∧ v19 = .int .i64 i ∧ v7 = .slice (some ⟨w.heap.size + 1 + 1, 0, none⟩) (i * 8) 48 ∧ wr.heap[w.heap.size]? = some (.cells #[.int .u64 64, .int .i64 80, .int .u64 1, .int .u64 8, .int .u64 7, .int .u64 19, .int .u64 61, .int .u64 6, .int .u64 28, .int .u64 34, .int .u64 39, .int .u64 14, .int .u64 18, .int .u64 41] 53 (0, 0)) ∧ Rw wr (w.heap.size + 1) .u64 65 S ∧
      wr.ownsRow w.heap.size 5 1 (.slice (some ⟨w.heap.size + 1 + 1, 0, none⟩) (i * 8) 48) (i * 8) (Lib.byteCells ((S.take i).flatMap (bytesV 8))) ∧ Below w.heap.size w wr) (fun _ v19 _ => 6 - (intOf v19).toNat)
  case atStart => exact ⟨0, by omega, rfl, by simp, HA.out, HR.out, by simpa [Lib.byteCells] using HO.out, HB.out⟩
  case round =>
    clear HA HR HO HB hsl
    obtain ⟨i, hi8, rfl, rfl, hA, hR, hO, hB⟩ := hrel
    by_cases hlt : i < 6
    · obtain ⟨X, hX⟩ : ∃ X, X = S.getD i 0 := ⟨_, rfl⟩
      have c0 : wr.cell? ⟨w.heap.size, 0, none⟩ = some (.int .u64 64) := Lib.cell_of_heap hA 0
      have cx : wr.cell? ⟨w.heap.size + 1, i, none⟩ = some (.int .u64 (X : Int)) := by rw [hX]; exact hR.cell i (by rw [HS8.out]; omega)
      have hXb : X < 18446744073709551616 := by rw [hX]; exact HBD.out i
      have HX := hid (show S.take (i + 1) = S.take i ++ [X] by
        rw [List.take_add_one, hX]
        have hi' : i < S.length := by rw [HS8.out]; omega
        simp [hi'])
      have hin : (i : Int) < 6 := by omega
      have HA := hid hA
      have HR := hid hR
      have HO := hid hO
      have HB := hid hB
      clear hX hA hR hO hB
      go_wp2_with fail
      go_loopw [7, 10] (fun v7 v10 wr => ∃ j D : Nat, j ≤ 8 ∧ D = 64 - 8 * j ∧ v10 = .int .u64 (D : Int) ∧ v7 = .slice (some ⟨w.heap.size + 1 + 1, 0, none⟩) (i * 8 + j) 48 ∧ wr.heap[w.heap.size]? = some (.cells #[.int .u64 64, .int .i64 80, .int .u64 1, .int .u64 8, .int .u64 7, .int .u64 19, .int .u64 61, .int .u64 6, .int .u64 28, .int .u64 34, .int .u64 39, .int .u64 14, .int .u64 18, .int .u64 41] 53 (0, 0)) ∧ Rw wr (w.heap.size + 1) .u64 65 S ∧
          wr.ownsRow w.heap.size 5 1 (.slice (some ⟨w.heap.size + 1 + 1, 0, none⟩) (i * 8 + j) 48) (i * 8 + j) (Lib.byteCells ((S.take i).flatMap (bytesV 8) ++ (bytesV 8 X).take j)) ∧ Below w.heap.size w wr) (fun _ v10 _ => (intOf v10).toNat)
      case atStart => exact ⟨0, 64, by omega, rfl, rfl, rfl, HA.out, HR.out, by simpa using HO.out, HB.out⟩
      case round =>
        clear HA HR HO HB c0 cx
        obtain ⟨j, D, hj, hD, rfl, rfl, hA, hR, hO, hB⟩ := hrel
        by_cases hlj : j < 8
        · obtain ⟨E, hE⟩ : ∃ E, E = D - 8 := ⟨_, rfl⟩
          have h1 : (0 : Int) < (D : Int) := by omega
          have h2 : (D : Int) - 8 = (E : Int) := by omega
          have h2w : IntKind.u64.wrap ((D : Int) - 8) = (E : Int) := by rw [h2, IntKind.wrap_u64]; omega
          have hE64 : E < 64 := by omega
          obtain ⟨Y, hY⟩ : ∃ Y : UInt8, Y = UInt8.ofNat (X / 2 ^ E % 256) := ⟨_, rfl⟩
          have h3 : (X : Int) / 2 ^ E % 256 = (Y.toNat : Int) := by
            have e1 : (X : Int) / 2 ^ E = ((X / 2 ^ E : Nat) : Int) := by rw [Int.natCast_ediv, Int.natCast_pow]; rfl
            have e2 : Y.toNat = X / 2 ^ E % 256 := by rw [hY]; simp
            rw [e1, e2]; omega
          have HY := hid (show (bytesV 8 X).take (j + 1) = (bytesV 8 X).take j ++ [Y] by
            rw [List.take_add_one, bytes_get 8 X j hlj, hY, show 8 * (8 - 1 - j) = E by omega]
            rfl)
          have HA := hid hA
          have HR := hid hR
          have HO := hid hO
          have HB := hid hB
          have HE := hid hE
          have HD := hid hD
          clear hE hD hA hR hO hB hY
          go_wp2_with (at_builtin; refine wpList_append_own_spare _ rfl _ _ 22 rfl w.heap.size 5 i0 1 Tryd.underlying22 hi hz1 (w.heap.size + 1 + 1) (i * 8 + j) 48 _ rfl (own_kept HO.out ((Below.refl _ _).alloc (Nat.le_refl _) _)) ⟨wr.heap.size, 0, none⟩ 1 1 [.int .u8 (Y.toNat : Int)] rfl rfl (cell_one_new _ _ _) (by simp [Value.oneCell']) (by omega) ?_; intro w2 hown hgrow)
          have hX2 := HX.out
          clear hX2
          go_roundw
          case rel =>
            have hE := HE.out
            have hD := HD.out
            have e1 := grown_row hgrow (row_kept HA.out ((Below.refl _ _).alloc (Nat.le_refl _) _)) (by omega)
            have e2 : Rw w2 (w.heap.size + 1) .u64 65 S := grown_row hgrow (HR.out.more _) (by omega)
            have e3 := hown
            rw [show Lib.byteCells ((S.take i).flatMap (bytesV 8) ++ (bytesV 8 X).take j) ++ [Value.int .u8 (Y.toNat : Int)] = Lib.byteCells ((S.take i).flatMap (bytesV 8) ++ (bytesV 8 X).take (j + 1)) by rw [HY.out]; simp [Lib.byteCells]] at e3
            have e4 : Below w.heap.size w w2 := (HB.out.alloc HB.out.size _).grown hgrow (by have := HB.out.size; simp; omega) (fun k hk => by cases hk; omega)
            first
              | exact ⟨j + 1, E, by omega, by omega, by go_num, rfl, e1, e2, e3, e4⟩
              | ((repeat apply Exists.intro); refine ⟨?_, rfl⟩; exact ⟨j + 1, E, by omega, by omega, by go_num, rfl, e1, e2, e3, e4⟩)
          case measure => have := HE.out; simp [intOf]; omega
        · obtain rfl : j = 8 := by omega
          obtain rfl : D = 0 := by omega
          have hO2 := hO
          rw [show (bytesV 8 X).take 8 = bytesV 8 X from List.take_of_length_le (by rw [bytes_len]; exact Nat.le_refl _), show (S.take i).flatMap (bytesV 8) ++ bytesV 8 X = (S.take (i + 1)).flatMap (bytesV 8) by rw [HX.out]; simp, show i * 8 + 8 = (i + 1) * 8 by omega] at hO2
          have HA := hid hA
          have HR := hid hR
          have HO := hid hO2
          have HB := hid hB
          clear hO hO2 hA hR hB hD hj hlj
          go_wp2_with fail
          go_roundw
          case rel =>
            first
              | exact ⟨i + 1, by omega, by go_num, by congr 1 <;> omega, HA.out, HR.out, HO.out, HB.out⟩
              | ((repeat apply Exists.intro); refine ⟨?_, rfl⟩; exact ⟨i + 1, by omega, by go_num, by congr 1 <;> omega, HA.out, HR.out, HO.out, HB.out⟩)
          case measure => simp [intOf]; omega
    · obtain rfl : i = 6 := by omega
      have HO := hid hO
      have HB := hid hB
      clear hA hR hO hB hi8 hlt
      go_wp2_with fail
      go_ret
      exact ⟨w.heap.size + 1 + 1, rfl, HO.out, HB.out⟩

end Go.Proofs.YtmjokddplikegaaDoor
