/-
  The walk of the law MimeNumbers.
-/
import Derived.Test.YtiemggepdeaogaaDoorMw
set_option linter.unusedSimpArgs false
set_option linter.unusedVariables false
namespace Go.Proofs.YtiemggepdeaogaaDoor
open Go.RowKit

set_option maxHeartbeats 8000000 in
set_option maxRecDepth 100000 in
theorem mimeNumbers_walk (w : World) (hG : G5 w) : Calls Tryd.prog 3 #[] w fun e w' => e = .returned (.bool true) ∧ Below w.heap.size w w' := by
  obtain ⟨i0, hi, hz0, hz1, hz2⟩ := info3 infoHd
  have HG := hid hG
  clear hG
  have HBs := hid (Below.refl w.heap.size w)
  go_enter Tryd.func3, Tryd.ntmps3
  have HTxA := hid (tx_new6 w [[116, 101, 120, 116, 47, 112, 108, 97, 105, 110]] 9 (by decide))
  go_wp2_with fail
  refine (kinds_any _ [[116, 101, 120, 116, 47, 112, 108, 97, 105, 110]] _ HTxA.out (by decide)).mono ?_
  rintro e kA ⟨vA, rfl, hoA, hbA⟩
  have HKA := hid (show Below w.heap.size w kA from belowT ((Below.refl _ w).alloc (Nat.le_refl _) _) hbA)
  have HKwA := hid (show Below w.heap.size w kA from belowT HBs.out HKA.out)
  obtain ⟨iA, jA, lA, rfl⟩ := own_slice hoA
  have HOA := hid (own_base hoA (show w.heap.size ≤ (w.alloc (.cells (cellsT [[116, 101, 120, 116, 47, 112, 108, 97, 105, 110]]).toArray 9)).heap.size by simp))
  clear hoA hbA
  go_wp2_with (at_builtin; go_must (refine wpList_append_own _ rfl _ _ 22 rfl w.heap.size 25 i0 _ 2 32 Tryd.underlying22 hi hz0 hz1 hz2 rfl (by decide) _ _ _ rfl (HOA.out.alloc _) ⟨kA.heap.size, 0, none⟩ 1 1 [.string ⟨#[88, 45, 67, 111, 110, 116, 101, 110, 116, 45, 84, 121, 112, 101, 45, 79, 112, 116, 105, 111, 110, 115]⟩, .string ⟨#[78, 111, 83, 110, 105, 102, 102, 44, 32, 120]⟩] rfl rfl ?c1A ?c2A ?c3A ?c4A ?c5A ?_))
  case c1A =>
    intro q u hq
    match q, hq with
    | 0, hq => simp at hq; subst hq; simp [Addr.add]
    | 1, hq => simp at hq; subst hq; simp [Addr.add]
  case c2A => intro u hu; simp at hu; rcases hu with rfl | rfl <;> rfl
  case c3A => decide
  case c4A => decide
  case c5A => have := HKA.out.size; simp; omega
  intro vA' wA hownA hgrowA hnilA
  have HWA := hid (show Below w.heap.size w wA from (HKA.out.alloc HKA.out.size _).grown hgrowA (by have := HKA.out.size; simp; omega) (fun g hg => (HOA.out.lt g hg).1))
  have HHA := hid (show HdAt wA vA' nuA from own_hd (L := nuA) (B := w.heap.size) hownA)
  obtain ⟨iiA, jjA, llA, rfl⟩ := own_slice hownA
  clear hownA hgrowA hnilA
  have HBA := hid HWA.out
  have HTxB := hid (tx_new6 wA [[116, 101, 120, 116, 47, 106, 97, 118, 97, 115, 99, 114, 105, 112, 116]] 9 (by decide))
  go_wp2_with fail
  refine (kinds_any _ [[116, 101, 120, 116, 47, 106, 97, 118, 97, 115, 99, 114, 105, 112, 116]] _ HTxB.out (by decide)).mono ?_
  rintro e kB ⟨vB, rfl, hoB, hbB⟩
  have HKB := hid (show Below wA.heap.size wA kB from belowT ((Below.refl _ wA).alloc (Nat.le_refl _) _) hbB)
  have HKwB := hid (show Below w.heap.size w kB from belowT HBA.out HKB.out)
  obtain ⟨iB, jB, lB, rfl⟩ := own_slice hoB
  have HOB := hid (own_base hoB (show wA.heap.size ≤ (wA.alloc (.cells (cellsT [[116, 101, 120, 116, 47, 106, 97, 118, 97, 115, 99, 114, 105, 112, 116]]).toArray 9)).heap.size by simp))
  clear hoB hbB
  go_wp2_with (at_builtin; go_must (refine wpList_append_own _ rfl _ _ 22 rfl wA.heap.size 25 i0 _ 2 32 Tryd.underlying22 hi hz0 hz1 hz2 rfl (by decide) _ _ _ rfl (HOB.out.alloc _) ⟨kB.heap.size, 0, none⟩ 1 1 [.string ⟨#[88, 45, 67, 111, 110, 116, 101, 110, 116, 45, 84, 121, 112, 101, 45, 79, 112, 116, 105, 111, 110, 115]⟩, .string ⟨#[110, 111, 115, 110, 105, 102, 102]⟩] rfl rfl ?c1B ?c2B ?c3B ?c4B ?c5B ?_))
  case c1B =>
    intro q u hq
    match q, hq with
    | 0, hq => simp at hq; subst hq; simp [Addr.add]
    | 1, hq => simp at hq; subst hq; simp [Addr.add]
  case c2B => intro u hu; simp at hu; rcases hu with rfl | rfl <;> rfl
  case c3B => decide
  case c4B => decide
  case c5B => have := HKB.out.size; simp; omega
  intro vB' wB hownB hgrowB hnilB
  have HWB := hid (show Below wA.heap.size wA wB from (HKB.out.alloc HKB.out.size _).grown hgrowB (by have := HKB.out.size; simp; omega) (fun g hg => (HOB.out.lt g hg).1))
  have HHB := hid (show HdAt wB vB' nuB from own_hd (L := nuB) (B := wA.heap.size) hownB)
  obtain ⟨iiB, jjB, llB, rfl⟩ := own_slice hownB
  clear hownB hgrowB hnilB
  have HBB := hid (belowT HBA.out HWB.out)
  replace HHA := hid (HHA.out.kept HWB.out)
  go_wp2_with fail
  refine (exk_any (B := 0) _ [] _ (HG.out.kept HBB.out) (World.ownsRow_nil _ _ _ _) (by simp) (by decide)).mono ?_
  rintro e mN ⟨uN, rfl, hqN, hcN⟩
  rw [show exV [] = (knNone, false) from rfl] at hqN ⊢
  obtain ⟨n1, n2, n3, rfl⟩ := own_slice hqN
  have HBN := hid (belowT HBB.out hcN)
  replace HHA := hid (HHA.out.kept hcN)
  replace HHB := hid (HHB.out.kept hcN)
  have HBNx := hid (HBN.out.alloc HBN.out.size (.cells #[.string (ba knNone.major), .string (ba knNone.minor), .slice n1 n2 n3] 28))
  obtain ⟨xN, hxN⟩ : ∃ X, X = mN.alloc (.cells #[.string (ba knNone.major), .string (ba knNone.minor), .slice n1 n2 n3] 28) := ⟨_, rfl⟩
  rw [← hxN] at HBNx
  replace HHA := hid (HHA.out.kept (show Below mN.heap.size mN xN by rw [hxN]; exact (Below.refl _ _).alloc (Nat.le_refl _) _))
  replace HHB := hid (HHB.out.kept (show Below mN.heap.size mN xN by rw [hxN]; exact (Below.refl _ _).alloc (Nat.le_refl _) _))
  have HxN := hid hxN.symm
  have HszN := hid (show mN.heap.size + 1 = xN.heap.size by rw [hxN]; simp)
  clear hqN hcN hxN
  unfold knVal
  have HTxS := hid (tx_new6 xN [[42, 47, 42]] 9 (by decide))
  go_wp2_with fail
  rw [HxN.out, HszN.out]
  refine (kinds_any _ [[42, 47, 42]] _ HTxS.out (by decide)).mono ?_
  rintro e kS ⟨vS, rfl, hoS, hbS⟩
  have HKS := hid (show Below xN.heap.size xN kS from belowT ((Below.refl _ xN).alloc (Nat.le_refl _) _) hbS)
  have HKwS := hid (show Below w.heap.size w kS from belowT HBNx.out HKS.out)
  obtain ⟨iS, jS, lS, rfl⟩ := own_slice hoS
  have HOS := hid (own_base hoS (show xN.heap.size ≤ (xN.alloc (.cells (cellsT [[42, 47, 42]]).toArray 9)).heap.size by simp))
  clear hoS hbS
  go_wp2_with fail
  refine (exk_any _ [[42, 47, 42]] _ (HG.out.kept HKwS.out) HOS.out (by decide) (by decide)).mono ?_
  rintro e mS ⟨uS, rfl, hqS, hcS⟩
  rw [nu_star] at hqS ⊢
  obtain ⟨s1, s2, s3, rfl⟩ := own_slice hqS
  have HBS := hid (belowT HKwS.out hcS)
  replace HHA := hid ((HHA.out.kept HKS.out).kept hcS)
  replace HHB := hid ((HHB.out.kept HKS.out).kept hcS)
  have HBSx := hid (HBS.out.alloc HBS.out.size (.cells #[.string (ba knNone.major), .string (ba knNone.minor), .slice s1 s2 s3] 28))
  obtain ⟨xS, hxS⟩ : ∃ X, X = mS.alloc (.cells #[.string (ba knNone.major), .string (ba knNone.minor), .slice s1 s2 s3] 28) := ⟨_, rfl⟩
  rw [← hxS] at HBSx
  replace HHA := hid (HHA.out.kept (show Below mS.heap.size mS xS by rw [hxS]; exact (Below.refl _ _).alloc (Nat.le_refl _) _))
  replace HHB := hid (HHB.out.kept (show Below mS.heap.size mS xS by rw [hxS]; exact (Below.refl _ _).alloc (Nat.le_refl _) _))
  have HxS := hid hxS.symm
  clear hqS hcS hxS
  unfold knVal
  go_wp2_with fail
  rw [HxS.out]
  refine (tex_any ⟨#[97]⟩ _ (HG.out.kept HBSx.out) (by decide)).mono ?_
  rintro e z0 ⟨rfl, hz0⟩
  rw [show (⟨#[97]⟩ : ByteArray).data.toList = [97] from rfl, nu_t0]
  unfold ba
  have HBz0 := hid (belowT HBSx.out hz0)
  replace HHA := hid (HHA.out.kept hz0)
  replace HHB := hid (HHB.out.kept hz0)
  clear hz0
  go_wp2_with fail
  refine (tex_any ⟨#[47, 98]⟩ _ (HG.out.kept HBz0.out) (by decide)).mono ?_
  rintro e z1 ⟨rfl, hz1⟩
  rw [show (⟨#[47, 98]⟩ : ByteArray).data.toList = [47, 98] from rfl, nu_t1]
  unfold ba
  have HBz1 := hid (belowT HBz0.out hz1)
  replace HHA := hid (HHA.out.kept hz1)
  replace HHB := hid (HHB.out.kept hz1)
  clear hz1
  go_wp2_with fail
  refine (tex_any ⟨#[97, 47, 98, 59, 99, 61]⟩ _ (HG.out.kept HBz1.out) (by decide)).mono ?_
  rintro e z2 ⟨rfl, hz2⟩
  rw [show (⟨#[97, 47, 98, 59, 99, 61]⟩ : ByteArray).data.toList = [97, 47, 98, 59, 99, 61] from rfl, nu_t2]
  unfold ba
  have HBz2 := hid (belowT HBz1.out hz2)
  replace HHA := hid (HHA.out.kept hz2)
  replace HHB := hid (HHB.out.kept hz2)
  clear hz2
  go_wp2_with fail
  refine (tex_any ⟨#[97, 47, 98, 59, 99, 61, 49, 59, 67, 61, 50, 59, 100]⟩ _ (HG.out.kept HBz2.out) (by decide)).mono ?_
  rintro e z3 ⟨rfl, hz3⟩
  rw [show (⟨#[97, 47, 98, 59, 99, 61, 49, 59, 67, 61, 50, 59, 100]⟩ : ByteArray).data.toList = [97, 47, 98, 59, 99, 61, 49, 59, 67, 61, 50, 59, 100] from rfl, nu_t3]
  unfold ba
  have HBz3 := hid (belowT HBz2.out hz3)
  replace HHA := hid (HHA.out.kept hz3)
  replace HHB := hid (HHB.out.kept hz3)
  clear hz3
  go_wp2_with fail
  refine (grp6_any ⟨#[105, 109, 97, 103, 101, 47, 115, 118, 103, 43, 120, 109, 108]⟩ _ (HG.out.kept HBz3.out) (by decide)).mono ?_
  rintro e z4 ⟨rfl, hz4⟩
  rw [show (⟨#[105, 109, 97, 103, 101, 47, 115, 118, 103, 43, 120, 109, 108]⟩ : ByteArray).data.toList = [105, 109, 97, 103, 101, 47, 115, 118, 103, 43, 120, 109, 108] from rfl, nu_g0]
  have HBz4 := hid (belowT HBz3.out hz4)
  replace HHA := hid (HHA.out.kept hz4)
  replace HHB := hid (HHB.out.kept hz4)
  clear hz4
  go_wp2_with fail
  refine (grp6_any ⟨#[116, 101, 120, 116, 47, 106, 115, 99, 114, 105, 112, 116]⟩ _ (HG.out.kept HBz4.out) (by decide)).mono ?_
  rintro e z5 ⟨rfl, hz5⟩
  rw [show (⟨#[116, 101, 120, 116, 47, 106, 115, 99, 114, 105, 112, 116]⟩ : ByteArray).data.toList = [116, 101, 120, 116, 47, 106, 115, 99, 114, 105, 112, 116] from rfl, nu_g1]
  have HBz5 := hid (belowT HBz4.out hz5)
  replace HHA := hid (HHA.out.kept hz5)
  replace HHB := hid (HHB.out.kept hz5)
  clear hz5
  go_wp2_with fail
  refine (grp6_any ⟨#[97, 112, 112, 108, 105, 99, 97, 116, 105, 111, 110, 47, 108, 100, 43, 106, 115, 111, 110]⟩ _ (HG.out.kept HBz5.out) (by decide)).mono ?_
  rintro e z6 ⟨rfl, hz6⟩
  rw [show (⟨#[97, 112, 112, 108, 105, 99, 97, 116, 105, 111, 110, 47, 108, 100, 43, 106, 115, 111, 110]⟩ : ByteArray).data.toList = [97, 112, 112, 108, 105, 99, 97, 116, 105, 111, 110, 47, 108, 100, 43, 106, 115, 111, 110] from rfl, nu_g2]
  have HBz6 := hid (belowT HBz5.out hz6)
  replace HHA := hid (HHA.out.kept hz6)
  replace HHB := hid (HHB.out.kept hz6)
  clear hz6
  go_wp2_with fail
  refine (grp6_any ⟨#[105, 109, 97, 103, 101, 47, 112, 110, 103]⟩ _ (HG.out.kept HBz6.out) (by decide)).mono ?_
  rintro e z7 ⟨rfl, hz7⟩
  rw [show (⟨#[105, 109, 97, 103, 101, 47, 112, 110, 103]⟩ : ByteArray).data.toList = [105, 109, 97, 103, 101, 47, 112, 110, 103] from rfl, nu_g3]
  have HBz7 := hid (belowT HBz6.out hz7)
  replace HHA := hid (HHA.out.kept hz7)
  replace HHB := hid (HHB.out.kept hz7)
  clear hz7
  go_wp2_with fail
  refine (grp6_any ⟨#[116, 101, 120, 116, 47, 99, 115, 115]⟩ _ (HG.out.kept HBz7.out) (by decide)).mono ?_
  rintro e z8 ⟨rfl, hz8⟩
  rw [show (⟨#[116, 101, 120, 116, 47, 99, 115, 115]⟩ : ByteArray).data.toList = [116, 101, 120, 116, 47, 99, 115, 115] from rfl, nu_g4]
  have HBz8 := hid (belowT HBz7.out hz8)
  replace HHA := hid (HHA.out.kept hz8)
  replace HHB := hid (HHB.out.kept hz8)
  clear hz8
  go_wp2_with fail
  refine (grp6_any ⟨#[118, 105, 100, 101, 111, 47, 120]⟩ _ (HG.out.kept HBz8.out) (by decide)).mono ?_
  rintro e z9 ⟨rfl, hz9⟩
  rw [show (⟨#[118, 105, 100, 101, 111, 47, 120]⟩ : ByteArray).data.toList = [118, 105, 100, 101, 111, 47, 120] from rfl, nu_g5]
  have HBz9 := hid (belowT HBz8.out hz9)
  replace HHA := hid (HHA.out.kept hz9)
  replace HHB := hid (HHB.out.kept hz9)
  clear hz9
  go_wp2_with fail
  refine (grp6_any ⟨#[97, 47, 98]⟩ _ (HG.out.kept HBz9.out) (by decide)).mono ?_
  rintro e z10 ⟨rfl, hz10⟩
  rw [show (⟨#[97, 47, 98]⟩ : ByteArray).data.toList = [97, 47, 98] from rfl, nu_g6]
  have HBz10 := hid (belowT HBz9.out hz10)
  replace HHA := hid (HHA.out.kept hz10)
  replace HHB := hid (HHB.out.kept hz10)
  clear hz10
  go_wp2_with fail
  refine (nu_blk _ nuA 2 true _ (HG.out.kept HBz10.out) HHA.out (by decide) (by decide) (by decide) nu_b1).mono ?_
  rintro e z11 ⟨rfl, hz11⟩
  have HBz11 := hid (belowT HBz10.out hz11)
  replace HHA := hid (HHA.out.kept hz11)
  replace HHB := hid (HHB.out.kept hz11)
  clear hz11
  go_wp2_with fail
  refine (nu_blk _ nuA 3 true _ (HG.out.kept HBz11.out) HHA.out (by decide) (by decide) (by decide) nu_b2).mono ?_
  rintro e z12 ⟨rfl, hz12⟩
  have HBz12 := hid (belowT HBz11.out hz12)
  replace HHA := hid (HHA.out.kept hz12)
  replace HHB := hid (HHB.out.kept hz12)
  clear hz12
  go_wp2_with fail
  refine (nu_blk _ nuA 4 false _ (HG.out.kept HBz12.out) HHA.out (by decide) (by decide) (by decide) nu_b3).mono ?_
  rintro e z13 ⟨rfl, hz13⟩
  have HBz13 := hid (belowT HBz12.out hz13)
  replace HHA := hid (HHA.out.kept hz13)
  replace HHB := hid (HHB.out.kept hz13)
  clear hz13
  go_wp2_with fail
  refine (nu_blk _ nuB 2 false _ (HG.out.kept HBz13.out) HHB.out (by decide) (by decide) (by decide) nu_b4).mono ?_
  rintro e z14 ⟨rfl, hz14⟩
  have HBz14 := hid (belowT HBz13.out hz14)
  replace HHA := hid (HHA.out.kept hz14)
  replace HHB := hid (HHB.out.kept hz14)
  clear hz14
  have HTxC := hid (tx_new6 z14 [[120, 47, 121]] 9 (by decide))
  go_wp2_with fail
  refine (kinds_any _ [[120, 47, 121]] _ HTxC.out (by decide)).mono ?_
  rintro e kC ⟨vC, rfl, hoC, hbC⟩
  have HKC := hid (show Below z14.heap.size z14 kC from belowT ((Below.refl _ z14).alloc (Nat.le_refl _) _) hbC)
  have HKwC := hid (show Below w.heap.size w kC from belowT HBz14.out HKC.out)
  obtain ⟨iC, jC, lC, rfl⟩ := own_slice hoC
  have HOC := hid (own_base hoC (show z14.heap.size ≤ (z14.alloc (.cells (cellsT [[120, 47, 121]]).toArray 9)).heap.size by simp))
  clear hoC hbC
  go_wp2_with fail
  refine (nu_blk _ nuC 2 false _ (HG.out.kept HKwC.out) (own_hd HOC.out) (by decide) (by decide) (by decide) nu_b5).mono ?_
  rintro e zC ⟨rfl, hzC⟩
  have HBzC := hid (belowT HKwC.out hzC)
  clear hzC
  go_wp2_with fail
  refine (known6_any _ (HG.out.kept HBzC.out)).mono ?_
  rintro e w9 ⟨rfl, hb9⟩
  go_wp2
  go_ret
  exact ⟨rfl, belowT HBzC.out hb9⟩

end Go.Proofs.YtiemggepdeaogaaDoor
