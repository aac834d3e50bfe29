/-
  The walk of the law IntegrityMakes.
-/
import Derived.Test.YtbdlicomkpnalaaGreatDoorZOn
import Derived.Test.YtbdlicomkpnalaaGreatDoorZOq
import Derived.Test.YtbdlicomkpnalaaGreatDoorZt
set_option linter.unusedSimpArgs false
set_option linter.unusedVariables false
namespace Go.Proofs.YtbdlicomkpnalaaGreatDoor
open Go.RowKit

theorem IsRow.nilcapM {K : IntKind} {w : World} {a : Option Addr} {len cap : Nat} {zs : List Int} (h : IsRow K w a len cap zs) : a = none → cap = 0 := by
  rcases h with ⟨rfl, rfl, rfl, rfl⟩ | ⟨x, rfl, _⟩
  · exact fun _ => rfl
  · intro h; cases h

theorem mkA_size (b : Int) (r : List UInt8) (h : Bt b) (hr : r.length ≤ 64) : (mkA b r).size ≤ 1010 := by
  rw [Lib.size_eq, mkA_list, mk_shape]
  have h1 := e64_le9 r hr
  have h2 := itoa_small b h
  simp only [List.length_append, List.length_cons, List.length_nil, h2]
  omega

theorem app_list (x y : ByteArray) : (x ++ y).data.toList = x.data.toList ++ y.data.toList := by simp [ByteArray.data_append]
theorem app_size (x y : ByteArray) : (x ++ y).size = x.size + y.size := by rw [Lib.size_eq, Lib.size_eq, Lib.size_eq, app_list, List.length_append]

set_option maxHeartbeats 4000000 in
set_option maxRecDepth 100000 in
theorem integrityMakes_walk (a0 : Option Addr) (len0 cap0 : Nat) (z0 : List Int) (a1 : Option Addr) (len1 cap1 : Nat) (z1 : List Int) (bits : Int) (w : World) (w0 : IsRow .u8 w a0 len0 cap0 z0) (w1 : IsRow .u8 w a1 len1 cap1 z1) (wb : (Lit.int .i64 bits).wf = true) (hg : Gt w) (hm : Gm w) (hp : Gp w) :
    Calls Tryz.prog 3 #[.slice a0 len0 cap0, .slice a1 len1 cap1, .int .i64 bits] w fun e w' => e = .returned (.bool true) ∧ Below w.heap.size w w' := by
  have hbw : -9223372036854775808 ≤ bits ∧ bits ≤ 9223372036854775807 := by simpa [Lit.wf, IntKind.min, IntKind.max, IntKind.bits, IntKind.signed] using wb
  obtain ⟨l0, hl0, hS0, hc0, hm0⟩ := w0.bytes
  obtain ⟨m0, hl1, hS1, hc1, hm1⟩ := w1.bytes
  have HNC := hid w1.nilcapM
  have HG := hid hg
  have HM := hid hm
  have HP := hid hp
  have HC0 := hid hm0
  have HC1 := hid hm1
  have HF0 := hid (fewBytes_any a0 len0 cap0 500 l0 w hl0 hS0 hc0 hm0 (by decide))
  have HF1 := hid (fewBytes_any a1 len1 cap1 500 m0 w hl1 hS1 hc1 hm1 (by decide))
  have hwb := n_withinI_bounds bits 0 2 (by omega)
  obtain ⟨K, hK⟩ := Int.eq_ofNat_of_zero_le hwb.1
  have hKb : K ≤ 2 := by omega
  have HKE := hid hK
  have HWI := hid (fun X : World => n_within_any bits 0 2 X hbw.1 hbw.2 (by decide) (by decide) (by decide))
  clear w0 w1 wb hg hm hp hS0 hl0 hc0 hm0 hS1 hl1 hc1 hm1 hwb hK hbw
  go_enter Tryz.func3, Tryz.ntmps3
  go_wp2_with fail
  refine HF0.out.mono ?_
  rintro e wz ⟨len, hlen, hlc, rfl, hS, rfl⟩
  obtain ⟨l, hl⟩ : ∃ l, l = l0.take 500 := ⟨_, rfl⟩
  rw [← hl] at hlen hS
  have HLB := hid (show l.length ≤ 500 by rw [hl]; simp; omega)
  have HSL := hid hS
  have HLC := hid hlc
  clear hl hS hlc hlen HF0
  go_wp2_with fail
  refine HF1.out.mono ?_
  rintro e wz ⟨lem, hlem, hlcm, rfl, hSm, rfl⟩
  obtain ⟨m, hmd⟩ : ∃ m, m = m0.take 500 := ⟨_, rfl⟩
  rw [← hmd] at hlem hSm
  have HMB := hid (show m.length ≤ 500 by rw [hmd]; simp; omega)
  have HSM := hid hSm
  have HLM := hid hlcm
  clear hmd hSm hlcm hlem HF1
  go_wp2_with fail
  refine (HWI.out _).mono ?_
  rintro e wz ⟨rfl, rfl⟩
  rw [HKE.out]
  obtain ⟨b, hbd⟩ : ∃ b, b = [256, 384, 512].getD K (0 : Int) := ⟨_, rfl⟩
  obtain ⟨W1, hW1⟩ : ∃ W1, W1 = w.alloc (.cells #[.int .i64 256, .int .i64 384, .int .i64 512] 3) := ⟨_, rfl⟩
  have HB1 := hid (show Below w.heap.size w W1 by rw [hW1]; exact (Below.refl _ _).alloc (Nat.le_refl _) _)
  have cb : W1.cell? ⟨w.heap.size, K, none⟩ = some (.int .i64 b) := by
    rw [hW1, hbd]
    rcases (show K = 0 ∨ K = 1 ∨ K = 2 by omega) with rfl | rfl | rfl <;> simp
  have HBT := hid (show Bt b by
    rw [hbd]
    rcases (show K = 0 ∨ K = 1 ∨ K = 2 by omega) with rfl | rfl | rfl
    · exact .inl rfl
    · exact .inr (.inl rfl)
    · exact .inr (.inr rfl))
  have hsz1 : w.heap.size + 1 = W1.heap.size := by rw [hW1]; simp
  rw [← hW1]
  obtain ⟨r, hr⟩ : ∃ r, sumV sqr cbr b l = some r := by rcases HBT.out with h | h | h <;> rw [h] <;> exact ⟨_, rfl⟩
  obtain ⟨ro, hro⟩ : ∃ r, sumV sqr cbr 256 m = some r := ⟨_, rfl⟩
  have HRS := hid hr
  have HRO := hid hro
  obtain ⟨SA, hSA⟩ : ∃ S, S = mkA b r := ⟨_, rfl⟩
  obtain ⟨WA, hWA⟩ : ∃ S, S = mkA 256 ro := ⟨_, rfl⟩
  have HSAL := hid (show SA.data.toList = mkV b r by rw [hSA]; exact mkA_list b r)
  have HWAL := hid (show WA.data.toList = mkV 256 ro by rw [hWA]; exact mkA_list 256 ro)
  have hSAs : SA.size ≤ 1010 := by rw [hSA]; exact mkA_size b r HBT.out (sumV_len HRS.out)
  have hWAs : WA.size ≤ 1010 := by rw [hWA]; exact mkA_size 256 ro (.inl rfl) (sumV_len HRO.out)
  have HMK1 := hid (show ∀ X, Below w.heap.size w X → Calls Tryz.prog 6 #[.int .i64 b, .slice a0 len cap0] X fun e w' => e = .returned (.tuple #[.string SA, .int .i64 0]) ∧ Below X.heap.size X w' from fun X hX => by
    have := make9_any b a0 len cap0 l X (HG.out.kept hX) (HP.out.kept hX) (HSL.out.kept hX) HLC.out HC0.out (by have := HLB.out; omega)
    unfold MkPost at this
    rw [HRS.out] at this
    dsimp only at this
    rw [← hSA] at this
    exact this)
  have HMK2 := hid (show ∀ X, Below w.heap.size w X → Calls Tryz.prog 6 #[.int .i64 256, .slice a1 lem cap1] X fun e w' => e = .returned (.tuple #[.string WA, .int .i64 0]) ∧ Below X.heap.size X w' from fun X hX => by
    have := make9_any 256 a1 lem cap1 m X (HG.out.kept hX) (HP.out.kept hX) (HSM.out.kept hX) HLM.out HC1.out (by have := HMB.out; omega)
    unfold MkPost at this
    rw [HRO.out] at this
    dsimp only at this
    rw [← hWA] at this
    exact this)
  have HHO := hid (show ∀ (E : ByteArray) (t : List UInt8) (X : World), E.data.toList = t → E.size ≤ 100000 → holdsV sqr cbr t l = true → Below w.heap.size w X → Calls Tryz.prog 7 #[.string E, .slice a0 len cap0] X fun e w' => e = .returned (.bool true) ∧ Below X.heap.size X w' from fun E t X hE hz hh hX => by
    have := holds_any E a0 len cap0 l X (HG.out.kept hX) (HM.out.kept hX) (by omega) (HSL.out.kept hX) HLC.out HC0.out (by have := HLB.out; omega)
    rw [hE, hh] at this
    exact this)
  have HH1 := hid (fun (X : World) (hX : Below w.heap.size w X) => HHO.out SA _ X HSAL.out (by omega) (hold_1 b r l HBT.out HRS.out) hX)
  have HH2 := hid (fun (X : World) (hX : Below w.heap.size w X) => HHO.out (SA ++ ⟨#[63]⟩ ++ ⟨#[120]⟩) (mkV b r ++ [63, 120]) X (by rw [app_list, app_list, HSAL.out, List.append_assoc]; rfl) (by rw [app_size, app_size]; show SA.size + 1 + 1 ≤ _; omega) (hold_2 b r l HBT.out HRS.out) hX)
  have HH3 := hid (fun (X : World) (hX : Below w.heap.size w X) => HHO.out (⟨#[109, 100, 53, 45, 120, 32]⟩ ++ SA ++ ⟨#[32, 115, 104, 97, 49, 45, 121]⟩) ([109, 100, 53, 45, 120] ++ 32 :: (mkV b r ++ 32 :: [115, 104, 97, 49, 45, 121])) X (by rw [app_list, app_list, HSAL.out, List.append_assoc]; rfl) (by rw [app_size, app_size]; show 6 + SA.size + 7 ≤ _; omega) (hold_3 b r l HBT.out HRS.out) hX)
  have HH4 := hid (fun (X : World) (hX : Below w.heap.size w X) => HHO.out (WA ++ ⟨#[32]⟩ ++ SA) (mkV 256 ro ++ 32 :: mkV b r) X (by rw [app_list, app_list, HSAL.out, HWAL.out, List.append_assoc]; rfl) (by rw [app_size, app_size]; show WA.size + 1 + SA.size ≤ _; omega) (hold_4 b r ro l HBT.out HRS.out) hX)
  have HH5 := hid (fun (X : World) (hX : Below w.heap.size w X) => HHO.out (SA ++ ⟨#[9]⟩ ++ WA) (mkV b r ++ 9 :: mkV 256 ro) X (by rw [app_list, app_list, HSAL.out, HWAL.out, List.append_assoc]; rfl) (by rw [app_size, app_size]; show SA.size + 1 + WA.size ≤ _; omega) (hold_5 b r ro l HBT.out HRS.out) hX)
  obtain ⟨q, hq⟩ : ∃ q, q = holdsV sqr cbr SA.data.toList m := ⟨_, rfl⟩
  have HQE := hid hq
  have HH6 := hid (show ∀ X, Below w.heap.size w X → Calls Tryz.prog 7 #[.string SA, .slice a1 lem cap1] X fun e w' => e = .returned (.bool q) ∧ Below X.heap.size X w' from fun X hX => by
    rw [HQE.out]
    exact holds_any SA a1 lem cap1 m X (HG.out.kept hX) (HM.out.kept hX) (by omega) (HSM.out.kept hX) HLM.out HC1.out (by have := HMB.out; omega))
  have HH7 := hid (show ∀ T X, Rw X T .u64 58 tabV → Below w.heap.size w X → Calls Tryz.prog 8 #[.pointer (some ⟨T, 0, none⟩), .string SA, .slice a1 lem cap1] X fun e w' => e = .returned (.bool q) ∧ Below X.heap.size X w' from fun T X hT hX => by
    rw [HQE.out]
    exact rholds9_any T SA a1 lem cap1 m X hT (by omega) (HSM.out.kept hX) HNC.out (by have := HMB.out; omega))
  clear hW1 hr hro hSA hWA hq hbd HHO HSAL HWAL HRS HRO
  go_wp2_with fail
  refine (HMK1.out _ HB1.out).mono ?_
  rintro e w2 ⟨rfl, hb2⟩
  have HB2 := hid (below2 HB1.out hb2)
  clear hb2 cb
  go_wp2_with fail
  refine (HMK2.out _ HB2.out).mono ?_
  rintro e w3 ⟨rfl, hb3⟩
  have HB_w3 := hid (below2 HB2.out hb3)
  clear hb3
  go_wp2_with fail
  refine (HH1.out _ HB_w3.out).mono ?_
  rintro e x1 ⟨rfl, hb_x1⟩
  have HB_x1 := hid (below2 HB_w3.out hb_x1)
  clear hb_x1
  go_wp2_with fail
  refine (HH2.out _ HB_x1.out).mono ?_
  rintro e x2 ⟨rfl, hb_x2⟩
  have HB_x2 := hid (below2 HB_x1.out hb_x2)
  clear hb_x2
  go_wp2_with fail
  refine (HH3.out _ HB_x2.out).mono ?_
  rintro e x3 ⟨rfl, hb_x3⟩
  have HB_x3 := hid (below2 HB_x2.out hb_x3)
  clear hb_x3
  by_cases hK0 : K = 0
  · subst hK0
    go_wp2_with fail
    refine (HH4.out _ HB_x3.out).mono ?_
    rintro e x4 ⟨rfl, hb_x4⟩
    have HB_x4 := hid (below2 HB_x3.out hb_x4)
    clear hb_x4
    go_wp2_with fail
    refine (HH6.out _ HB_x4.out).mono ?_
    rintro e y1 ⟨rfl, hb_y1⟩
    have HB_y1 := hid (below2 HB_x4.out hb_y1)
    clear hb_y1
    go_wp2_with fail
    refine (new_any y1).mono ?_
    rintro e y2 ⟨rfl, hT, hb_y2⟩
    have HB_y2 := hid (below2 HB_y1.out hb_y2)
    have HTT := hid hT
    clear hb_y2 hT
    go_wp2_with fail
    refine (HH7.out y1.heap.size y2 HTT.out HB_y2.out).mono ?_
    rintro e y3 ⟨rfl, hb_y3⟩
    have HB_y3 := hid (below2 HB_y2.out hb_y3)
    clear hb_y3
    have HKN := hid (known9 y3 (HG.out.kept HB_y3.out) (HM.out.kept HB_y3.out))
    go_wp2_with fail
    refine HKN.out.mono ?_
    rintro e y4 ⟨rfl, hb_y4⟩
    have HB_y4 := hid (below2 HB_y3.out hb_y4)
    clear hb_y4
    go_wp2_with fail
    go_ret
    exact ⟨rfl, HB_y4.out⟩
  · have hKp : (0 : Int) < (K : Int) := by omega
    have hKn : ((K : Int) == 0) = false := by rw [beq_eq_false_iff_ne]; omega
    go_wp2_with fail
    refine (HH4.out _ HB_x3.out).mono ?_
    rintro e x4 ⟨rfl, hb_x4⟩
    have HB_x4 := hid (below2 HB_x3.out hb_x4)
    clear hb_x4
    go_wp2_with fail
    refine (HH5.out _ HB_x4.out).mono ?_
    rintro e x5 ⟨rfl, hb_x5⟩
    have HB_x5 := hid (below2 HB_x4.out hb_x5)
    clear hb_x5
    go_wp2_with fail
    refine (HH6.out _ HB_x5.out).mono ?_
    rintro e y1 ⟨rfl, hb_y1⟩
    have HB_y1 := hid (below2 HB_x5.out hb_y1)
    clear hb_y1
    go_wp2_with fail
    refine (new_any y1).mono ?_
    rintro e y2 ⟨rfl, hT, hb_y2⟩
    have HB_y2 := hid (below2 HB_y1.out hb_y2)
    have HTT := hid hT
    clear hb_y2 hT
    go_wp2_with fail
    refine (HH7.out y1.heap.size y2 HTT.out HB_y2.out).mono ?_
    rintro e y3 ⟨rfl, hb_y3⟩
    have HB_y3 := hid (below2 HB_y2.out hb_y3)
    clear hb_y3
    have HKN := hid (known9 y3 (HG.out.kept HB_y3.out) (HM.out.kept HB_y3.out))
    go_wp2_with fail
    refine HKN.out.mono ?_
    rintro e y4 ⟨rfl, hb_y4⟩
    have HB_y4 := hid (below2 HB_y3.out hb_y4)
    clear hb_y4
    go_wp2_with fail
    go_ret
    exact ⟨rfl, HB_y4.out⟩

end Go.Proofs.YtbdlicomkpnalaaGreatDoor
