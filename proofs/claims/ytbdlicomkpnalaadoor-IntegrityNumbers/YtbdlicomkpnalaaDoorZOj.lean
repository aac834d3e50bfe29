/-
  The walk of the law IntegrityNumbers.
-/
import Derived.Test.YtbdlicomkpnalaaDoorZOi
set_option linter.unusedSimpArgs false
set_option linter.unusedVariables false
namespace Go.Proofs.YtbdlicomkpnalaaDoor
open Go.RowKit

def knT : List UInt8 := [115, 104, 97, 50, 53, 54, 45, 117, 110, 103, 87, 118, 52, 56, 66, 122, 43, 112, 66, 81, 85, 68, 101, 88, 97, 52, 105, 73, 55, 65, 68, 89, 97, 79, 87, 70, 51, 113, 99, 116, 66, 68, 47, 89, 102, 73, 65, 70, 97, 48, 61]
def knR : List UInt8 := (sumV sqr cbr 256 [97, 98, 99]).getD []
theorem kn_sum : sumV sqr cbr 256 [97, 98, 99] = some knR := by kernel_rfl
theorem kn_none : sumV sqr cbr 5 [] = none := by kernel_rfl
theorem kn_text : mkV 256 knR = knT := by decide +kernel
theorem kn_yes : holdsV sqr cbr knT [97, 98, 99] = true := by decide +kernel
theorem kn_no : holdsV sqr cbr knT [97, 98, 100] = false := by decide +kernel
theorem kn_md : holdsV sqr cbr [109, 100, 53, 45, 120] [] = true := by decide +kernel
theorem kn_out : parse9 [115, 104, 97, 50, 53, 54] = [] := by kernel_rfl
theorem kn_str : strong [] = [] := rfl

theorem knA : mkA 256 knR = ⟨knT.toArray⟩ := by
  have h : (mkA 256 knR).data.toList = knT := by rw [mkA_list, kn_text]
  rw [← Lib.mk_data (mkA 256 knR), h]

theorem three_slb (w : World) (x y z : UInt8) (fz : Nat × Nat) : SlB (w.alloc (.cells #[.int .u8 (x.toNat : Int), .int .u8 (y.toNat : Int), .int .u8 (z.toNat : Int)] 5 fz)) (.slice (some ⟨w.heap.size, 0, none⟩) 3 3) [x, y, z] :=
  SlB.laid w _ _ fz [x, y, z] 3 rfl

theorem own_len0 {w : World} {B : Nat} {e : TypeId} {v : Value} {k : Nat} (h : w.ownsRow B e k v 0 []) : ∃ a c, v = .slice a 0 c := by
  rcases h.2 with ⟨hv, _⟩ | ⟨g, cap, cur, hv, _⟩
  · exact ⟨_, _, hv⟩
  · exact ⟨_, _, hv⟩

set_option maxHeartbeats 4000000 in
set_option maxRecDepth 100000 in
theorem integrityNumbers_walk (w : World) (hg : Gt w) (hm : Gm w) (hp : Gp w) :
    Calls Tryd.prog 5 #[] w fun e w' => e = .returned (.bool true) ∧ Below w.heap.size w w' := by
  have HG := hid hg
  have HM := hid hm
  have HP := hid hp
  clear hg hm hp
  obtain ⟨A1, hA1⟩ : ∃ A, A = w.alloc (.cells #[.int .u8 97, .int .u8 98, .int .u8 99] 5 (3, 4)) := ⟨_, rfl⟩
  have k1 : (convert 22 22 (.slice (some ⟨w.heap.size, 0, none⟩) 3 3)).run Tryd.prog (w.alloc (.cells #[.int .u8 97, .int .u8 98, .int .u8 99] 5)) = .ok (.slice (some ⟨w.heap.size, 0, none⟩) 3 3) A1 := by
    rw [hA1]; exact Lib.run_convert_bytes_const (P := Tryd.prog) w 22 5 #[.int .u8 97, .int .u8 98, .int .u8 99] 3 3 Tryd.underlying22 Tryd.underlying5
  have q1 : SlB A1 (.slice (some ⟨w.heap.size, 0, none⟩) 3 3) [97, 98, 99] := by rw [hA1]; exact three_slb w 97 98 99 (3, 4)
  have b1 : Below w.heap.size w A1 := by rw [hA1]; exact (Below.refl _ _).alloc (Nat.le_refl _) _
  have HMK := hid (make9_any 256 _ 3 3 [97, 98, 99] A1 (HG.out.kept b1) (HP.out.kept b1) q1 (Nat.le_refl _) (by decide) (by decide))
  unfold MkPost at HMK
  rw [kn_sum] at HMK
  dsimp only at HMK
  rw [knA] at HMK
  have HB1 := hid b1
  clear hA1 q1 b1
  go_enter Tryd.func5, Tryd.ntmps5
  go_wp2_with fail
  refine HMK.out.mono ?_
  rintro e w1 ⟨rfl, hb1⟩
  have HB2 := hid (below2 HB1.out hb1)
  clear hb1 k1
  have HM2 := hid (make9_any 5 none 0 0 [] w1 (HG.out.kept HB2.out) (HP.out.kept HB2.out) (nil_slb w1) (Nat.le_refl _) (by decide) (by decide))
  unfold MkPost at HM2
  rw [kn_none] at HM2
  dsimp only at HM2
  go_wp2_with fail
  refine HM2.out.mono ?_
  rintro e w2 ⟨rfl, hb2⟩
  have HB3 := hid (below2 HB2.out hb2)
  clear hb2
  have HH1 := hid (show Calls Tryd.prog 18 #[.string ⟨#[109, 100, 53, 45, 120]⟩, .slice none 0 0] w2 fun e w' => e = .returned (.bool true) ∧ Below w2.heap.size w2 w' by
    have := holds_any ⟨#[109, 100, 53, 45, 120]⟩ none 0 0 [] w2 (HG.out.kept HB3.out) (HM.out.kept HB3.out) (by decide) (nil_slb w2) (Nat.le_refl _) (by decide) (by decide)
    rw [show (⟨#[109, 100, 53, 45, 120]⟩ : ByteArray).data.toList = [109, 100, 53, 45, 120] from rfl, kn_md] at this
    exact this)
  go_wp2_with fail
  refine HH1.out.mono ?_
  rintro e w3 ⟨rfl, hb3⟩
  have HB4 := hid (below2 HB3.out hb3)
  clear hb3
  have HPR := hid (parse9_any ⟨#[115, 104, 97, 50, 53, 54]⟩ w3 (HM.out.kept HB4.out) (by decide))
  unfold ParsePost9 at HPR
  rw [show (⟨#[115, 104, 97, 50, 53, 54]⟩ : ByteArray).data.toList = [115, 104, 97, 50, 53, 54] from rfl, kn_out] at HPR
  go_wp2_with fail
  refine HPR.out.mono ?_
  rintro e w4 ⟨v4, rfl, hown4, hb4⟩
  obtain ⟨a4, c4, rfl⟩ := own_len0 hown4
  have HB5 := hid (below2 HB4.out hb4)
  clear hb4 hown4
  obtain ⟨A2, hA2⟩ : ∃ A, A = w4.alloc (.cells #[.int .u8 97, .int .u8 98, .int .u8 99] 5 (3, 4)) := ⟨_, rfl⟩
  have k2 : (convert 22 22 (.slice (some ⟨w4.heap.size, 0, none⟩) 3 3)).run Tryd.prog (w4.alloc (.cells #[.int .u8 97, .int .u8 98, .int .u8 99] 5)) = .ok (.slice (some ⟨w4.heap.size, 0, none⟩) 3 3) A2 := by
    rw [hA2]; exact Lib.run_convert_bytes_const (P := Tryd.prog) w4 22 5 #[.int .u8 97, .int .u8 98, .int .u8 99] 3 3 Tryd.underlying22 Tryd.underlying5
  have q2 : SlB A2 (.slice (some ⟨w4.heap.size, 0, none⟩) 3 3) [97, 98, 99] := by rw [hA2]; exact three_slb w4 97 98 99 (3, 4)
  have b2 : Below w4.heap.size w4 A2 := by rw [hA2]; exact (Below.refl _ _).alloc (Nat.le_refl _) _
  have HB6 := hid (below2 HB5.out b2)
  obtain ⟨KT, hKT⟩ : ∃ K : ByteArray, K = ⟨knT.toArray⟩ := ⟨_, rfl⟩
  have hke : (KT.toList == [115, 104, 97, 50, 53, 54, 45, 117, 110, 103, 87, 118, 52, 56, 66, 122, 43, 112, 66, 81, 85, 68, 101, 88, 97, 52, 105, 73, 55, 65, 68, 89, 97, 79, 87, 70, 51, 113, 99, 116, 66, 68, 47, 89, 102, 73, 65, 70, 97, 48, 61]) = true := by rw [hKT, ByteArray.toList_eq]; rfl
  have HH2 := hid (show Calls Tryd.prog 18 #[.string KT, .slice (some ⟨w4.heap.size, 0, none⟩) 3 3] A2 fun e w' => e = .returned (.bool true) ∧ Below A2.heap.size A2 w' by
    have := holds_any KT (some ⟨w4.heap.size, 0, none⟩) 3 3 [97, 98, 99] A2 (HG.out.kept HB6.out) (HM.out.kept HB6.out) (by rw [hKT]; decide) q2 (Nat.le_refl _) (by decide) (by decide)
    rw [show KT.data.toList = knT by rw [hKT], kn_yes] at this
    exact this)
  rw [hKT] at HH2
  clear hA2 q2 b2 hke hKT
  go_wp2_with fail
  refine HH2.out.mono ?_
  rintro e w5 ⟨rfl, hb5⟩
  have HB7 := hid (below2 HB6.out hb5)
  clear hb5 k2
  obtain ⟨A3, hA3⟩ : ∃ A, A = w5.alloc (.cells #[.int .u8 97, .int .u8 98, .int .u8 100] 5 (3, 4)) := ⟨_, rfl⟩
  have k3 : (convert 22 22 (.slice (some ⟨w5.heap.size, 0, none⟩) 3 3)).run Tryd.prog (w5.alloc (.cells #[.int .u8 97, .int .u8 98, .int .u8 100] 5)) = .ok (.slice (some ⟨w5.heap.size, 0, none⟩) 3 3) A3 := by
    rw [hA3]; exact Lib.run_convert_bytes_const (P := Tryd.prog) w5 22 5 #[.int .u8 97, .int .u8 98, .int .u8 100] 3 3 Tryd.underlying22 Tryd.underlying5
  have q3 : SlB A3 (.slice (some ⟨w5.heap.size, 0, none⟩) 3 3) [97, 98, 100] := by rw [hA3]; exact three_slb w5 97 98 100 (3, 4)
  have b3 : Below w5.heap.size w5 A3 := by rw [hA3]; exact (Below.refl _ _).alloc (Nat.le_refl _) _
  have HB8 := hid (below2 HB7.out b3)
  have HH3 := hid (show Calls Tryd.prog 18 #[.string ⟨knT.toArray⟩, .slice (some ⟨w5.heap.size, 0, none⟩) 3 3] A3 fun e w' => e = .returned (.bool false) ∧ Below A3.heap.size A3 w' by
    have := holds_any ⟨knT.toArray⟩ (some ⟨w5.heap.size, 0, none⟩) 3 3 [97, 98, 100] A3 (HG.out.kept HB8.out) (HM.out.kept HB8.out) (by decide) q3 (Nat.le_refl _) (by decide) (by decide)
    rw [show (⟨knT.toArray⟩ : ByteArray).data.toList = knT from rfl, kn_no] at this
    exact this)
  clear hA3 q3 b3
  go_wp2_with fail
  refine HH3.out.mono ?_
  rintro e w6 ⟨rfl, hb6⟩
  have HB9 := hid (below2 HB8.out hb6)
  clear hb6 k3
  have HST := hid (strongest_any (.slice none 0 0) [] w6 (it_nil w6) (by decide))
  unfold StrPost at HST
  rw [kn_str] at HST
  go_wp2_with fail
  refine HST.out.mono ?_
  rintro e w7 ⟨v7, rfl, hown7, hb7⟩
  obtain ⟨a7, c7, rfl⟩ := own_len0 hown7
  have HB10 := hid (below2 HB9.out hb7)
  clear hb7 hown7
  have HKN := hid (known9 w7 (HG.out.kept HB10.out) (HM.out.kept HB10.out))
  go_wp2_with fail
  refine HKN.out.mono ?_
  rintro e w8 ⟨rfl, hb8⟩
  have HB11 := hid (below2 HB10.out hb8)
  clear hb8
  go_wp2_with fail
  go_ret
  exact ⟨rfl, HB11.out⟩

end Go.Proofs.YtbdlicomkpnalaaDoor
