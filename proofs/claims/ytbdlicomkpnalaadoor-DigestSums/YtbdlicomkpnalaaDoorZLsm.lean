/-
  The walk of the law's sum and known.
-/
import Derived.Test.YtbdlicomkpnalaaDoorZLu
import Derived.Test.YtbdlicomkpnalaaDoorZ0
import Derived.Laws.IdiomStrings
set_option linter.unusedSimpArgs false
set_option linter.unusedVariables false
namespace Go.Proofs.YtbdlicomkpnalaaDoor
open Go.RowKit

/-- '[]byte(s)'. -/
theorem conv8 (s : ByteArray) (w : World) (hs : s.size ≤ 1000) : ∃ W cap, (convert 9 22 (.string s)).run Tryd.prog w = .ok (.slice (some ⟨w.heap.size, 0, none⟩) s.size cap) W ∧ SlB W (.slice (some ⟨w.heap.size, 0, none⟩) s.size cap) s.data.toList ∧ Below w.heap.size w W ∧ s.size ≤ cap ∧ cap ≤ maxLen := by
  refine ⟨_, grownCap w s.size 0 5, run_bytes_of_string (P := Tryd.prog) w 9 22 5 s Tryd.underlying9 Tryd.underlying22 Tryd.underlying5, ?_, (Below.refl _ w).drew.alloc (Nat.le_refl _) _, grownCap_ge _ _ _ _, grownCap_le_maxLen _ _ _ _ (by unfold maxLen; omega)⟩
  refine .inr ⟨_, _, by rw [Lib.size_eq], fun j hj => ?_⟩
  have hj' : j < s.data.size := by simpa using hj
  rw [Addr.add_lit, Nat.zero_add]
  have e := heap_alloc_new w.drew (.cells (bytesRow s (grownCap w s.size 0 5)) 5 ((bytesRow s (grownCap w s.size 0 5)).size, (bytesRow s (grownCap w s.size 0 5)).size + 1))
  refine (Lib.cell_of_heap e _).trans ?_
  rw [bytesRow_at s _ j hj']
  simp

def sumA (bits : Int) (l : List UInt8) : ByteArray := hexA ((sumV sqr cbr bits l).getD [])

set_option maxHeartbeats 1000000 in
theorem lsum_any (bits : Int) (s : ByteArray) (w : World) (hg : Gt w) (hs : s.size ≤ 1000) :
    Calls Tryd.prog 38 #[.int .i64 bits, .string s] w fun e w' => e = .returned (.string (sumA bits s.data.toList)) ∧ Below w.heap.size w w' := by
  obtain ⟨W, cap, hcv, hsl, hb, hc1, hc2⟩ := conv8 s w hs
  have HSM := hid (sum_any bits _ _ cap s.data.toList W (hg.kept hb) hsl hc1 hc2 (by rw [← Lib.size_eq]; omega))
  have HB := hid hb
  clear hg hsl hb hc1 hc2
  go_enter Tryd.func38, Tryd.ntmps38
  go_wp2_with fail
  refine HSM.out.mono ?_
  rintro e w2 ⟨⟨hn, rfl⟩ | ⟨r, G, n, hr, hn, rfl, hown⟩, hb2⟩
  · have HB2 := hid (below2 HB.out hb2)
    have HE := hid (show hexA [] = sumA bits s.data.toList by unfold sumA; rw [hn]; rfl)
    clear hn hb2 hcv
    go_wp2_with fail
    refine (hex_any none 0 0 [] w2 (.inl ⟨0, rfl, rfl⟩) (by omega)).mono ?_
    rintro e w3 ⟨rfl, hb3⟩
    go_wp2_with fail
    go_ret
    exact ⟨ret_s8 HE.out, below2 HB2.out hb3⟩
  · have HB2 := hid (below2 HB.out hb2)
    have HE := hid (show hexA r = sumA bits s.data.toList by unfold sumA; rw [hr]; rfl)
    have hsb : SlB w2 (.slice (some ⟨G, 0, none⟩) n n) r := by
      subst hn
      exact SlB.own hown
    have hn64 : n ≤ 1000 := by
      rw [← hn]
      have := sumV_len hr
      omega
    have HX := hid (hex_any (some ⟨G, 0, none⟩) n n r w2 hsb hn64)
    clear hr hn hb2 hown hsb hcv hn64
    go_wp2_with fail
    refine HX.out.mono ?_
    rintro e w3 ⟨rfl, hb3⟩
    go_wp2_with fail
    go_ret
    exact ⟨ret_s8 HE.out, below2 HB2.out hb3⟩

theorem k256 : sumA 256 [97, 98, 99] = ⟨#[98, 97, 55, 56, 49, 54, 98, 102, 56, 102, 48, 49, 99, 102, 101, 97, 52, 49, 52, 49, 52, 48, 100, 101, 53, 100, 97, 101, 50, 50, 50, 51, 98, 48, 48, 51, 54, 49, 97, 51, 57, 54, 49, 55, 55, 97, 57, 99, 98, 52, 49, 48, 102, 102, 54, 49, 102, 50, 48, 48, 49, 53, 97, 100]⟩ := by
  have h : hexV ((sumV sqr cbr 256 [97, 98, 99]).getD []) = [98, 97, 55, 56, 49, 54, 98, 102, 56, 102, 48, 49, 99, 102, 101, 97, 52, 49, 52, 49, 52, 48, 100, 101, 53, 100, 97, 101, 50, 50, 50, 51, 98, 48, 48, 51, 54, 49, 97, 51, 57, 54, 49, 55, 55, 97, 57, 99, 98, 52, 49, 48, 102, 102, 54, 49, 102, 50, 48, 48, 49, 53, 97, 100] := by decide +kernel
  unfold sumA hexA
  rw [h]

theorem one_slb (w : World) (c : UInt8) (fz : Nat × Nat) : SlB (w.alloc (.cells #[.int .u8 (c.toNat : Int)] 5 fz)) (.slice (some ⟨w.heap.size, 0, none⟩) 1 1) [c] :=
  SlB.laid w _ _ fz [c] 1 rfl

set_option maxHeartbeats 2000000 in
theorem known8 (w : World) (hg : Gt w) :
    Calls Tryd.prog 15 #[] w fun e w' => e = .returned (.bool true) ∧ Below w.heap.size w w' := by
  have HS := hid (lsum_any 256 ⟨#[97, 98, 99]⟩ w hg (by decide))
  clear hg
  go_enter Tryd.func15, Tryd.ntmps15
  go_wp2_with fail
  refine HS.out.mono ?_
  rintro e w1 ⟨rfl, hb1⟩
  rw [k256]
  obtain ⟨A1, hA1⟩ : ∃ A, A = w1.alloc (.cells #[.int .u8 97] 5 (1, 2)) := ⟨_, rfl⟩
  obtain ⟨A2, hA2⟩ : ∃ A, A = A1.alloc (.cells #[.int .u8 97] 5 (1, 2)) := ⟨_, rfl⟩
  obtain ⟨A3, hA3⟩ : ∃ A, A = A2.alloc (.cells #[.int .u8 97] 5 (1, 2)) := ⟨_, rfl⟩
  obtain ⟨A4, hA4⟩ : ∃ A, A = A3.alloc (.cells #[.int .u8 98] 5 (1, 2)) := ⟨_, rfl⟩
  have k1 : (convert 22 22 (.slice (some ⟨w1.heap.size, 0, none⟩) 1 1)).run Tryd.prog (w1.alloc (.cells #[.int .u8 97] 5)) = .ok (.slice (some ⟨w1.heap.size, 0, none⟩) 1 1) A1 := by
    rw [hA1]; exact Lib.run_convert_bytes_const (P := Tryd.prog) w1 22 5 #[.int .u8 97] 1 1 Tryd.underlying22 Tryd.underlying5
  have k2 : (convert 22 22 (.slice (some ⟨A1.heap.size, 0, none⟩) 1 1)).run Tryd.prog (A1.alloc (.cells #[.int .u8 97] 5)) = .ok (.slice (some ⟨A1.heap.size, 0, none⟩) 1 1) A2 := by
    rw [hA2]; exact Lib.run_convert_bytes_const (P := Tryd.prog) A1 22 5 #[.int .u8 97] 1 1 Tryd.underlying22 Tryd.underlying5
  have k3 : (convert 22 22 (.slice (some ⟨A2.heap.size, 0, none⟩) 1 1)).run Tryd.prog (A2.alloc (.cells #[.int .u8 97] 5)) = .ok (.slice (some ⟨A2.heap.size, 0, none⟩) 1 1) A3 := by
    rw [hA3]; exact Lib.run_convert_bytes_const (P := Tryd.prog) A2 22 5 #[.int .u8 97] 1 1 Tryd.underlying22 Tryd.underlying5
  have k4 : (convert 22 22 (.slice (some ⟨A3.heap.size, 0, none⟩) 1 1)).run Tryd.prog (A3.alloc (.cells #[.int .u8 98] 5)) = .ok (.slice (some ⟨A3.heap.size, 0, none⟩) 1 1) A4 := by
    rw [hA4]; exact Lib.run_convert_bytes_const (P := Tryd.prog) A3 22 5 #[.int .u8 98] 1 1 Tryd.underlying22 Tryd.underlying5
  have q1 : SlB A1 (.slice (some ⟨w1.heap.size, 0, none⟩) 1 1) [97] := by rw [hA1]; exact one_slb w1 97 (1, 2)
  have q2 : SlB A2 (.slice (some ⟨A1.heap.size, 0, none⟩) 1 1) [97] := by rw [hA2]; exact one_slb A1 97 (1, 2)
  have q3 : SlB A3 (.slice (some ⟨A2.heap.size, 0, none⟩) 1 1) [97] := by rw [hA3]; exact one_slb A2 97 (1, 2)
  have q4 : SlB A4 (.slice (some ⟨A3.heap.size, 0, none⟩) 1 1) [98] := by rw [hA4]; exact one_slb A3 98 (1, 2)
  have b1 : Below w1.heap.size w1 A1 := by rw [hA1]; exact (Below.refl _ _).alloc (Nat.le_refl _) _
  have b2 : Below A1.heap.size A1 A2 := by rw [hA2]; exact (Below.refl _ _).alloc (Nat.le_refl _) _
  have b3 : Below A2.heap.size A2 A3 := by rw [hA3]; exact (Below.refl _ _).alloc (Nat.le_refl _) _
  have b4 : Below A3.heap.size A3 A4 := by rw [hA4]; exact (Below.refl _ _).alloc (Nat.le_refl _) _
  have HB := hid (below2 (below2 (below2 (below2 hb1 b1) b2) b3) b4)
  have HC1 := hid (show Calls Tryd.prog 13 #[.slice (some ⟨w1.heap.size, 0, none⟩) 1 1, .slice (some ⟨A1.heap.size, 0, none⟩) 1 1] A2 fun e w' => e = .returned (.bool true) ∧ A2 = w' from same_d _ _ 1 1 1 1 [97] [97] A2 (q1.kept b2) q2 (by omega))
  have HC2 := hid (show Calls Tryd.prog 13 #[.slice (some ⟨A2.heap.size, 0, none⟩) 1 1, .slice (some ⟨A3.heap.size, 0, none⟩) 1 1] A4 fun e w' => e = .returned (.bool false) ∧ A4 = w' from same_d _ _ 1 1 1 1 [97] [98] A4 (q3.kept b4) q4 (by omega))
  clear hA1 hA2 hA3 hA4 q1 q2 q3 q4 b1 b2 b3 b4 hb1
  go_wp2_with fail
  refine HC1.out.mono ?_
  rintro e x1 ⟨rfl, rfl⟩
  go_wp2_with fail
  refine HC2.out.mono ?_
  rintro e x2 ⟨rfl, rfl⟩
  go_wp2_with fail
  go_ret
  exact ⟨rfl, HB.out⟩

end Go.Proofs.YtbdlicomkpnalaaDoor
