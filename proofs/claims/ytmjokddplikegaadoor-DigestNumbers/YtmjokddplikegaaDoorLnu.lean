/-
  The walk of the law DigestNumbers.
-/
import Derived.Test.YtmjokddplikegaaDoorLsm
set_option linter.unusedSimpArgs false
set_option linter.unusedVariables false
namespace Go.Proofs.YtmjokddplikegaaDoor
open Go.RowKit

def s512 : List UInt8 := [100, 100, 97, 102, 51, 53, 97, 49, 57, 51, 54, 49, 55, 97, 98, 97, 99, 99, 52, 49, 55, 51, 52, 57, 97, 101, 50, 48, 52, 49, 51, 49, 49, 50, 101, 54, 102, 97, 52, 101, 56, 57, 97, 57, 55, 101, 97, 50, 48, 97, 57, 101, 101, 101, 101, 54, 52, 98, 53, 53, 100, 51, 57, 97, 50, 49, 57, 50, 57, 57, 50, 97, 50, 55, 52, 102, 99, 49, 97, 56, 51, 54, 98, 97, 51, 99, 50, 51, 97, 51, 102, 101, 101, 98, 98, 100, 52, 53, 52, 100, 52, 52, 50, 51, 54, 52, 51, 99, 101, 56, 48, 101, 50, 97, 57, 97, 99, 57, 52, 102, 97, 53, 52, 99, 97, 52, 57, 102]
def s384 : List UInt8 := [99, 98, 48, 48, 55, 53, 51, 102, 52, 53, 97, 51, 53, 101, 56, 98, 98, 53, 97, 48, 51, 100, 54, 57, 57, 97, 99, 54, 53, 48, 48, 55, 50, 55, 50, 99, 51, 50, 97, 98, 48, 101, 100, 101, 100, 49, 54, 51, 49, 97, 56, 98, 54, 48, 53, 97, 52, 51, 102, 102, 53, 98, 101, 100, 56, 48, 56, 54, 48, 55, 50, 98, 97, 49, 101, 55, 99, 99, 50, 51, 53, 56, 98, 97, 101, 99, 97, 49, 51, 52, 99, 56, 50, 53, 97, 55]
def s256 : List UInt8 := [101, 51, 98, 48, 99, 52, 52, 50, 57, 56, 102, 99, 49, 99, 49, 52, 57, 97, 102, 98, 102, 52, 99, 56, 57, 57, 54, 102, 98, 57, 50, 52, 50, 55, 97, 101, 52, 49, 101, 52, 54, 52, 57, 98, 57, 51, 52, 99, 97, 52, 57, 53, 57, 57, 49, 98, 55, 56, 53, 50, 98, 56, 53, 53]
theorem k512 : sumA 512 [97, 98, 99] = ⟨s512.toArray⟩ := by
  have h : hexV ((sumV sqr cbr 512 [97, 98, 99]).getD []) = s512 := by decide +kernel
  unfold sumA hexA
  rw [h]
theorem k384 : sumA 384 [97, 98, 99] = ⟨s384.toArray⟩ := by
  have h : hexV ((sumV sqr cbr 384 [97, 98, 99]).getD []) = s384 := by decide +kernel
  unfold sumA hexA
  rw [h]
theorem k0 : sumA 256 [] = ⟨s256.toArray⟩ := by
  have h : hexV ((sumV sqr cbr 256 []).getD []) = s256 := by decide +kernel
  unfold sumA hexA
  rw [h]

set_option maxHeartbeats 2000000 in
set_option maxRecDepth 100000 in
theorem digestNumbers_walk (w : World) (hg : Gt w) :
    Calls Tryd.prog 3 #[] w fun e w' => e = .returned (.bool true) ∧ Below w.heap.size w w' := by
  have HG := hid hg
  clear hg
  go_enter Tryd.func3, Tryd.ntmps3
  go_wp2_with fail
  refine (sum_none 1 _ [] _ (by decide) (by decide) (by decide)).mono ?_
  rintro e w1 ⟨⟨hn, rfl⟩ | ⟨r, G, n, hr, hn, rfl, hown⟩, hb1⟩
  case inr => rw [sumV_none [] (by decide) (by decide) (by decide)] at hr; cases hr
  clear hn
  go_wp2_with fail
  refine (sum_none 0 _ [] _ (by decide) (by decide) (by decide)).mono ?_
  rintro e w2 ⟨⟨hn, rfl⟩ | ⟨r, G, n, hr, hn, rfl, hown⟩, hb2⟩
  case inr => rw [sumV_none [] (by decide) (by decide) (by decide)] at hr; cases hr
  clear hn
  have hb2' := below2 hb1 hb2
  clear hb1 hb2
  go_wp2_with fail
  refine (lsum_any 512 ⟨#[97, 98, 99]⟩ w2 (HG.out.kept hb2') (by decide)).mono ?_
  rintro e w3 ⟨rfl, hb3⟩
  have hb3' := below2 hb2' hb3
  clear hb2' hb3
  rw [show sumA 512 (⟨#[97, 98, 99]⟩ : ByteArray).data.toList = ⟨s512.toArray⟩ from k512]
  go_wp2_with fail
  refine (lsum_any 384 ⟨#[97, 98, 99]⟩ w3 (HG.out.kept hb3') (by decide)).mono ?_
  rintro e w4 ⟨rfl, hb4⟩
  have hb4' := below2 hb3' hb4
  clear hb3' hb4
  rw [show sumA 384 (⟨#[97, 98, 99]⟩ : ByteArray).data.toList = ⟨s384.toArray⟩ from k384]
  go_wp2_with fail
  refine (lsum_any 256 ⟨#[]⟩ w4 (HG.out.kept hb4') (by decide)).mono ?_
  rintro e w5 ⟨rfl, hb5⟩
  have hb5' := below2 hb4' hb5
  clear hb4' hb5
  rw [show sumA 256 (⟨#[]⟩ : ByteArray).data.toList = ⟨s256.toArray⟩ from k0]
  have HN := hid (show Calls Tryd.prog 9 #[.slice none 0 0, .slice none 0 0] w5 fun e w' => e = .returned (.bool true) ∧ w5 = w' from same_d none none 0 0 0 0 [] [] w5 (.inl ⟨0, rfl, rfl⟩) (.inl ⟨0, rfl, rfl⟩) (by omega))
  have HM := hid (show Calls Tryd.prog 9 #[.slice none 0 0, .slice (some ⟨w5.heap.size, 0, none⟩) 1 1] (w5.alloc (.cells #[.int .u8 0] 5)) fun e w' => e = .returned (.bool false) ∧ w5.alloc (.cells #[.int .u8 0] 5) = w' from same_d none _ 0 0 1 1 [] [0] _ (.inl ⟨0, rfl, rfl⟩) (one_slb w5 0 (0, 0)) (by omega))
  go_wp2_with fail
  refine HN.out.mono ?_
  rintro e x1 ⟨rfl, rfl⟩
  go_wp2_with fail
  refine HM.out.mono ?_
  rintro e x2 ⟨rfl, rfl⟩
  have hb6 : Below w.heap.size w (w5.alloc (.cells #[.int .u8 0] 5)) := hb5'.alloc hb5'.size _
  have HK := hid (known8 _ (HG.out.kept hb6))
  go_wp2_with fail
  refine HK.out.mono ?_
  rintro e x3 ⟨rfl, hb7⟩
  have HB := hid (below2 hb6 hb7)
  clear hb5' hb6 hb7
  go_wp2_with fail
  go_ret
  exact ⟨rfl, HB.out⟩

end Go.Proofs.YtmjokddplikegaaDoor
