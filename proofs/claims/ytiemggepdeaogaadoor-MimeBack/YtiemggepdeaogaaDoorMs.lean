/-
  The walk of the law MimeCharset.
-/
import Derived.Test.YtiemggepdeaogaaDoorMr
set_option linter.unusedSimpArgs false
set_option linter.unusedVariables false
namespace Go.Proofs.YtiemggepdeaogaaDoor
open Go.RowKit

theorem ba_kw (m : UInt8) (T : List UInt8) : (⟨#[m, 47]⟩ : ByteArray) ++ ⟨T.toArray⟩ = ⟨(kwT m T).toArray⟩ := xba (by simp [kwT])
theorem ba_kc (m : UInt8) (T Z : List UInt8) : (⟨(kwT m T).toArray⟩ : ByteArray) ++ ⟨#[59, 99, 104, 97, 114, 115, 101, 116, 61]⟩ ++ ⟨Z.toArray⟩ = ⟨(kcT m T Z).toArray⟩ := xba (by simp [kwT, kcT, csB])
theorem ba_ko (m : UInt8) (T : List UInt8) : (⟨(kwT m T).toArray⟩ : ByteArray) ++ ⟨#[59, 99, 104, 97, 114, 115, 101, 116, 61, 111, 116, 104, 101, 114]⟩ = ⟨(kcT m T otherZ).toArray⟩ := xba (by simp [kwT, kcT, csB, otherZ])
theorem kw_len (m : UInt8) (T : List UInt8) : (kwT m T).length = T.length + 2 := by simp [kwT]
theorem kc_len (m : UInt8) (T Z : List UInt8) : (kcT m T Z).length = T.length + Z.length + 11 := by simp [kcT, csB]; omega

/-- What stands in block p: the kind t, and its parameters. -/
def KAt (w : World) (p : Nat) (t : Kn) : Prop := ∃ x n c, Tri w p (ba t.major) (ba t.minor) (.slice x n c) ∧ HdAt w (.slice x n c) t.params

theorem KAt.kept {w w' : World} {p : Nat} {t : Kn} (h : KAt w p t) (hb : Below w.heap.size w w') : KAt w' p t := by
  obtain ⟨x, n, c, h1, h2⟩ := h
  exact ⟨x, n, c, h1.kept hb, h2.kept hb⟩

theorem kat_new {w : World} {B : Nat} {x : Option Addr} {n c : Nat} {t : Kn} (h : w.ownsRow B 49 2 (.slice x n c) t.params.length (cellsH t.params)) : KAt (w.alloc (.cells #[.string (ba t.major), .string (ba t.minor), .slice x n c] 28)) w.heap.size t :=
  ⟨x, n, c, heap_alloc_new _ _, (own_hd h).kept ((Below.refl _ w).alloc (Nat.le_refl _) _)⟩

theorem ktext_any (t : Kn) (R : List UInt8) (w : World) (x : Option Addr) (n c : Nat) (hG : G5 w) (h : HdAt w (.slice x n c) t.params) (hR : txtV t = R) (hl : R.length ≤ 100000) :
    Calls Tryd.prog 19 #[.agg #[.string (ba t.major), .string (ba t.minor), .slice x n c]] w fun e w' => e = .returned (.string ⟨R.toArray⟩) ∧ Below w.heap.size w w' := by
  have := text6_any (ba t.major) (ba t.minor) (.slice x n c) t.params w hG h (by
    show (txtV t).length ≤ _
    rw [hR]; omega)
  rw [show txtV ⟨(ba t.major).data.toList, (ba t.minor).data.toList, t.params⟩ = R from hR] at this
  exact this

set_option maxHeartbeats 8000000 in
set_option maxRecDepth 100000 in
theorem mimeCharset_walk (a b c : ByteArray) (w : World) (ha : a.size ≤ 140737488351232) (hb : b.size ≤ 140737488351232) (hc : c.size ≤ 140737488351232) (hG : G5 w) :
    Calls Tryd.prog 7 #[.string a, .string b, .string c] w fun e w' => e = .returned (.bool true) ∧ Below w.heap.size w w' := by
  have HG := hid hG
  clear hG
  go_enter Tryd.func7, Tryd.ntmps7
  go_wp2_with fail
  refine (word6_any a _ (by omega)).mono ?_
  rintro e w1 ⟨T, rfl, hT, hTl, rfl⟩
  have HT := hid hT
  clear hT
  have hTs : (⟨T.toArray⟩ : ByteArray).size ≤ 12 := by rw [xsize]; exact hTl
  go_wp2_with fail
  rw [ba_kw]
  refine (word6_any b _ (by omega)).mono ?_
  rintro e w1 ⟨U, rfl, hU, hUl, rfl⟩
  have HU := hid hU
  clear hU
  have hUs : (⟨U.toArray⟩ : ByteArray).size ≤ 12 := by rw [xsize]; exact hUl
  go_wp2_with fail
  rw [ba_kw]
  refine (word6_any c _ (by omega)).mono ?_
  rintro e w1 ⟨Z, rfl, hZ, hZl, rfl⟩
  have HZ := hid hZ
  clear hZ
  have hZs : (⟨Z.toArray⟩ : ByteArray).size ≤ 12 := by rw [xsize]; exact hZl
  have hXs : (⟨(kwT 120 T).toArray⟩ : ByteArray).size ≤ 14 := by rw [xsize, kw_len]; omega
  have hYs : (⟨(kwT 121 U).toArray⟩ : ByteArray).size ≤ 14 := by rw [xsize, kw_len]; omega
  have hXn : (kwT 120 T).length ≤ 14 := by rw [kw_len]; omega
  have hYn : (kwT 121 U).length ≤ 14 := by rw [kw_len]; omega
  have hLw : ∀ m T, List.length T ≤ 12 → (kwT m T).length ≤ 100000 := fun m T h => by rw [kw_len]; omega
  have hLc : ∀ m T Z, List.length T ≤ 12 → List.length Z ≤ 12 → (kcT m T Z).length ≤ 100000 := fun m T Z h1 h2 => by rw [kc_len]; omega
  have HLw := hid hLw
  have HLc := hid hLc
  clear hLw hLc
  have HEA := hid (ex_A T Z HT.out HZ.out)
  have HPA := hid (show ∀ p ∈ [kcT 120 T Z, junkT, kwT 120 T, starT], p.length ≤ 100000 by
    intro p hp
    simp only [List.mem_cons, List.not_mem_nil, or_false] at hp
    rcases hp with rfl | rfl | rfl | rfl <;> first | exact HLw.out _ _ (by assumption) | exact HLc.out _ _ _ (by assumption) (by assumption) | exact HLc.out _ _ _ (by assumption) (by decide) | decide)
  have HTxA := hid (tx_new6 w [kcT 120 T Z, junkT, kwT 120 T, starT] 9 (by simp))
  go_wp2_with fail
  rw [ba_kc]
  refine (kinds_any _ [kcT 120 T Z, junkT, kwT 120 T, starT] _ HTxA.out (by simp)).mono ?_
  rintro e kA ⟨vA, rfl, hoA, hbA⟩
  have HKA := hid (show Below w.heap.size w kA from belowT ((Below.refl _ w).alloc (Nat.le_refl _) _) hbA)
  obtain ⟨iA, jA, lA, rfl⟩ := own_slice hoA
  have HOA := hid hoA
  have HBA := hid (HKA.out)
  clear hoA hbA
  go_wp2_with fail
  refine (exk_any _ [kcT 120 T Z, junkT, kwT 120 T, starT] _ (HG.out.kept HBA.out) HOA.out HPA.out (by simp)).mono ?_
  rintro e mA ⟨uA, rfl, hqA, hcA⟩
  rw [HEA.out] at hqA ⊢
  obtain ⟨qA, rA, sA, rfl⟩ := own_slice hqA
  have HMA := hid (belowT HBA.out hcA)
  have HKAA := hid (kat_new (t := kc 120 T Z) hqA)
  have HBxA := hid (HMA.out.alloc HMA.out.size (.cells #[.string (ba (kc 120 T Z).major), .string (ba (kc 120 T Z).minor), .slice qA rA sA] 28))
  obtain ⟨xA, hxA⟩ : ∃ X, X = mA.alloc (.cells #[.string (ba (kc 120 T Z).major), .string (ba (kc 120 T Z).minor), .slice qA rA sA] 28) := ⟨_, rfl⟩
  rw [← hxA] at HKAA HBxA
  have HxA := hid hxA.symm
  have HszA := hid (show mA.heap.size + 1 = xA.heap.size by rw [hxA]; simp)
  clear hqA hcA hxA
  unfold knVal
  have HEB := hid (ex_B T U Z HT.out HU.out HZ.out)
  have HPB := hid (show ∀ p ∈ [kcT 120 T Z, kwT 121 U], p.length ≤ 100000 by
    intro p hp
    simp only [List.mem_cons, List.not_mem_nil, or_false] at hp
    rcases hp with rfl | rfl <;> first | exact HLw.out _ _ (by assumption) | exact HLc.out _ _ _ (by assumption) (by assumption) | exact HLc.out _ _ _ (by assumption) (by decide) | decide)
  have HTxB := hid (tx_new6 xA [kcT 120 T Z, kwT 121 U] 9 (by simp))
  go_wp2_with fail
  rw [HxA.out, HszA.out]
  rw [ba_kc]
  refine (kinds_any _ [kcT 120 T Z, kwT 121 U] _ HTxB.out (by simp)).mono ?_
  rintro e kB ⟨vB, rfl, hoB, hbB⟩
  have HKB := hid (show Below xA.heap.size xA kB from belowT ((Below.refl _ xA).alloc (Nat.le_refl _) _) hbB)
  obtain ⟨iB, jB, lB, rfl⟩ := own_slice hoB
  have HOB := hid hoB
  have HBB := hid (belowT HBxA.out HKB.out)
  clear hoB hbB
  go_wp2_with fail
  refine (exk_any _ [kcT 120 T Z, kwT 121 U] _ (HG.out.kept HBB.out) HOB.out HPB.out (by simp)).mono ?_
  rintro e mB ⟨uB, rfl, hqB, hcB⟩
  rw [HEB.out] at hqB ⊢
  obtain ⟨qB, rB, sB, rfl⟩ := own_slice hqB
  have HMB := hid (belowT HBB.out hcB)
  have HKAB := hid (kat_new (t := kw 121 U) hqB)
  have HBxB := hid (HMB.out.alloc HMB.out.size (.cells #[.string (ba (kw 121 U).major), .string (ba (kw 121 U).minor), .slice qB rB sB] 28))
  obtain ⟨xB, hxB⟩ : ∃ X, X = mB.alloc (.cells #[.string (ba (kw 121 U).major), .string (ba (kw 121 U).minor), .slice qB rB sB] 28) := ⟨_, rfl⟩
  rw [← hxB] at HKAB HBxB
  have HxB := hid hxB.symm
  have HszB := hid (show mB.heap.size + 1 = xB.heap.size by rw [hxB]; simp)
  replace HKAA := hid (HKAA.out.kept (show Below xA.heap.size xA xB by rw [hxB]; exact (belowT HKB.out hcB).alloc (belowT HKB.out hcB).size _))
  clear hqB hcB hxB
  unfold knVal
  have HEC := hid (ex_C T Z HT.out HZ.out)
  have HPC := hid (show ∀ p ∈ [kcT 120 T Z, kcT 120 T otherZ], p.length ≤ 100000 by
    intro p hp
    simp only [List.mem_cons, List.not_mem_nil, or_false] at hp
    rcases hp with rfl | rfl <;> first | exact HLw.out _ _ (by assumption) | exact HLc.out _ _ _ (by assumption) (by assumption) | exact HLc.out _ _ _ (by assumption) (by decide) | decide)
  have HTxC := hid (tx_new6 xB [kcT 120 T Z, kcT 120 T otherZ] 9 (by simp))
  go_wp2_with fail
  rw [HxB.out, HszB.out]
  rw [ba_kc, ba_ko]
  refine (kinds_any _ [kcT 120 T Z, kcT 120 T otherZ] _ HTxC.out (by simp)).mono ?_
  rintro e kC ⟨vC, rfl, hoC, hbC⟩
  have HKC := hid (show Below xB.heap.size xB kC from belowT ((Below.refl _ xB).alloc (Nat.le_refl _) _) hbC)
  obtain ⟨iC, jC, lC, rfl⟩ := own_slice hoC
  have HOC := hid hoC
  have HBC := hid (belowT HBxB.out HKC.out)
  clear hoC hbC
  go_wp2_with fail
  refine (exk_any _ [kcT 120 T Z, kcT 120 T otherZ] _ (HG.out.kept HBC.out) HOC.out HPC.out (by simp)).mono ?_
  rintro e mC ⟨uC, rfl, hqC, hcC⟩
  rw [HEC.out] at hqC ⊢
  obtain ⟨qC, rC, sC, rfl⟩ := own_slice hqC
  have HMC := hid (belowT HBC.out hcC)
  have HKAC := hid (kat_new (t := kc 120 T otherZ) hqC)
  have HBxC := hid (HMC.out.alloc HMC.out.size (.cells #[.string (ba (kc 120 T otherZ).major), .string (ba (kc 120 T otherZ).minor), .slice qC rC sC] 28))
  obtain ⟨xC, hxC⟩ : ∃ X, X = mC.alloc (.cells #[.string (ba (kc 120 T otherZ).major), .string (ba (kc 120 T otherZ).minor), .slice qC rC sC] 28) := ⟨_, rfl⟩
  rw [← hxC] at HKAC HBxC
  have HxC := hid hxC.symm
  have HszC := hid (show mC.heap.size + 1 = xC.heap.size by rw [hxC]; simp)
  replace HKAA := hid (HKAA.out.kept (show Below xB.heap.size xB xC by rw [hxC]; exact (belowT HKC.out hcC).alloc (belowT HKC.out hcC).size _))
  replace HKAB := hid (HKAB.out.kept (show Below xB.heap.size xB xC by rw [hxC]; exact (belowT HKC.out hcC).alloc (belowT HKC.out hcC).size _))
  clear hqC hcC hxC
  unfold knVal
  have HED := hid (ex_D T Z HT.out HZ.out)
  have HPD := hid (show ∀ p ∈ [kcT 120 T Z, kwT 120 T, kwT 120 T], p.length ≤ 100000 by
    intro p hp
    simp only [List.mem_cons, List.not_mem_nil, or_false] at hp
    rcases hp with rfl | rfl | rfl <;> first | exact HLw.out _ _ (by assumption) | exact HLc.out _ _ _ (by assumption) (by assumption) | exact HLc.out _ _ _ (by assumption) (by decide) | decide)
  have HTxD := hid (tx_new6 xC [kcT 120 T Z, kwT 120 T, kwT 120 T] 9 (by simp))
  go_wp2_with fail
  rw [HxC.out, HszC.out]
  rw [ba_kc]
  refine (kinds_any _ [kcT 120 T Z, kwT 120 T, kwT 120 T] _ HTxD.out (by simp)).mono ?_
  rintro e kD ⟨vD, rfl, hoD, hbD⟩
  have HKD := hid (show Below xC.heap.size xC kD from belowT ((Below.refl _ xC).alloc (Nat.le_refl _) _) hbD)
  obtain ⟨iD, jD, lD, rfl⟩ := own_slice hoD
  have HOD := hid hoD
  have HBD := hid (belowT HBxC.out HKD.out)
  clear hoD hbD
  go_wp2_with fail
  refine (exk_any _ [kcT 120 T Z, kwT 120 T, kwT 120 T] _ (HG.out.kept HBD.out) HOD.out HPD.out (by simp)).mono ?_
  rintro e mD ⟨uD, rfl, hqD, hcD⟩
  rw [HED.out] at hqD ⊢
  obtain ⟨qD, rD, sD, rfl⟩ := own_slice hqD
  have HMD := hid (belowT HBD.out hcD)
  have HKAD := hid (kat_new (t := kc 120 T Z) hqD)
  have HBxD := hid (HMD.out.alloc HMD.out.size (.cells #[.string (ba (kc 120 T Z).major), .string (ba (kc 120 T Z).minor), .slice qD rD sD] 28))
  obtain ⟨xD, hxD⟩ : ∃ X, X = mD.alloc (.cells #[.string (ba (kc 120 T Z).major), .string (ba (kc 120 T Z).minor), .slice qD rD sD] 28) := ⟨_, rfl⟩
  rw [← hxD] at HKAD HBxD
  have HxD := hid hxD.symm
  have HszD := hid (show mD.heap.size + 1 = xD.heap.size by rw [hxD]; simp)
  replace HKAA := hid (HKAA.out.kept (show Below xC.heap.size xC xD by rw [hxD]; exact (belowT HKD.out hcD).alloc (belowT HKD.out hcD).size _))
  replace HKAB := hid (HKAB.out.kept (show Below xC.heap.size xC xD by rw [hxD]; exact (belowT HKD.out hcD).alloc (belowT HKD.out hcD).size _))
  replace HKAC := hid (HKAC.out.kept (show Below xC.heap.size xC xD by rw [hxD]; exact (belowT HKD.out hcD).alloc (belowT HKD.out hcD).size _))
  clear hqD hcD hxD
  unfold knVal
  have hcat := ba_kc 120 T Z
  have hcat2 := ba_ko 120 T
  obtain ⟨aA, bA, cA, tA, hA⟩ := HKAA.out
  have HhA := hid hA
  obtain ⟨y0A, y1A, y2A⟩ := tA.cells
  clear hA tA
  rw [← HxD.out] at y0A y1A y2A
  go_wp2_with fail
  rw [HxD.out]
  refine (ktext_any (kc 120 T Z) (kcT 120 T Z) _ aA bA cA (HG.out.kept HBxD.out) HhA.out (kc_txt 120 T Z HZ.out) (HLc.out _ _ _ hTl hZl)).mono ?_
  rintro e zA ⟨rfl, hzA⟩
  have HBzA := hid (belowT HBxD.out hzA)
  replace HKAB := hid (HKAB.out.kept hzA)
  replace HKAC := hid (HKAC.out.kept hzA)
  replace HKAD := hid (HKAD.out.kept hzA)
  clear hzA y0A y1A y2A
  obtain ⟨aB, bB, cB, tB, hB⟩ := HKAB.out
  have HhB := hid hB
  obtain ⟨y0B, y1B, y2B⟩ := tB.cells
  clear hB tB
  go_wp2_with fail
  refine (ktext_any (kw 121 U) (kwT 121 U) _ aB bB cB (HG.out.kept HBzA.out) HhB.out (kw_txt 121 U) (HLw.out _ _ hUl)).mono ?_
  rintro e zB ⟨rfl, hzB⟩
  have HBzB := hid (belowT HBzA.out hzB)
  replace HKAC := hid (HKAC.out.kept hzB)
  replace HKAD := hid (HKAD.out.kept hzB)
  clear hzB y0B y1B y2B
  obtain ⟨aC, bC, cC, tC, hC⟩ := HKAC.out
  have HhC := hid hC
  obtain ⟨y0C, y1C, y2C⟩ := tC.cells
  clear hC tC
  go_wp2_with fail
  refine (ktext_any (kc 120 T otherZ) (kcT 120 T otherZ) _ aC bC cC (HG.out.kept HBzB.out) HhC.out (kc_txt 120 T otherZ otherZ_wrd) (HLc.out _ _ _ hTl (by decide))).mono ?_
  rintro e zC ⟨rfl, hzC⟩
  have HBzC := hid (belowT HBzB.out hzC)
  replace HKAD := hid (HKAD.out.kept hzC)
  clear hzC y0C y1C y2C
  obtain ⟨aD, bD, cD, tD, hD⟩ := HKAD.out
  have HhD := hid hD
  obtain ⟨y0D, y1D, y2D⟩ := tD.cells
  clear hD tD
  go_wp2_with fail
  refine (ktext_any (kc 120 T Z) (kcT 120 T Z) _ aD bD cD (HG.out.kept HBzC.out) HhD.out (kc_txt 120 T Z HZ.out) (HLc.out _ _ _ hTl hZl)).mono ?_
  rintro e zD ⟨rfl, hzD⟩
  have HBzD := hid (belowT HBzC.out hzD)
  clear hzD y0D y1D y2D
  go_wp2_with fail
  refine (known6_any _ (HG.out.kept HBzD.out)).mono ?_
  rintro e w9 ⟨rfl, hb9⟩
  go_wp2
  go_ret
  exact ⟨rfl, belowT HBzD.out hb9⟩

end Go.Proofs.YtiemggepdeaogaaDoor
