/-
  The walk of the law HeadersNumbers.
-/
import Derived.Test.YtknlmifjadolpaaDoorZa
import Derived.Test.YtknlmifjadolpaaDoorXw
set_option linter.unusedSimpArgs false
set_option linter.unusedVariables false
namespace Go.Proofs.YtknlmifjadolpaaDoor
open Go.RowKit

theorem nb1 : addE [] [] [120] = 1 := by decide +kernel
theorem nb2 : addE [] [120] [97, 10, 98] = 1 := by decide +kernel
def nbL : List Hd := List.replicate 64 ⟨[], []⟩
theorem nb3 : addE nbL [120] [121] = 4 := by decide +kernel
theorem lon_wrd (n : Nat) (h : 0 < n) : Wrd (lonV n) := by
  refine ⟨by simp [lonV]; omega, ?_⟩
  rw [List.all_eq_true]
  intro c hc
  unfold lonV at hc
  rw [List.mem_replicate] at hc
  rw [hc.2]; decide
theorem lon_len (n : Nat) : (lonV n).length = n := by simp [lonV]
theorem nb4 : addE [] [120] (lonV 4097) = 3 := by
  have h0 : hdE [120] (lonV 4097) = 3 := by
    unfold hdE
    have hw := wrd_val (lon_wrd 4097 (by omega))
    rw [if_neg, if_pos]
    · right; rw [hw.1, lon_len]; omega
    · rw [hw.2]; simp; decide
  unfold addE; rw [h0]; rfl
def nbM : List Hd := [⟨[88], [49]⟩, ⟨[121], [50]⟩, ⟨[120], [51]⟩]
def nbS : List Hd := [⟨[88], [57]⟩, ⟨[121], [50]⟩]
theorem nb5 : setE nbM [120] [32, 57, 32] = 0 ∧ setV nbM [120] [32, 57, 32] = nbS := by decide +kernel
def nbA : List Hd := [⟨[97], []⟩]
theorem nb6 : splitV nbA [97] = [[]] ∧ getB nbA [97] = true := by decide +kernel
theorem nb7 : getT [] [97] = [] ∧ getB [] [97] = false := by decide +kernel
theorem nb8 : rFrom [98, 121, 116, 101, 115, 61, 45, 53] = -1 ∧ rTo [98, 121, 116, 101, 115, 61, 45, 53] = 5 ∧ rOk [98, 121, 116, 101, 115, 61, 45, 53] = true := by decide +kernel
theorem nb9 : rOk [98, 121, 116, 101, 115, 61, 53, 45, 52] = false := by decide +kernel
theorem nb10 : safeV [114, 97, 110, 103, 101] [98, 121, 116, 101, 115, 61, 45, 53] = false := by decide +kernel
theorem nb11 : safeV [82, 97, 110, 103, 101] [98, 121, 116, 101, 115, 61, 48, 45] = true := by decide +kernel
theorem nb12 : forbV [83, 101, 99, 45, 88] = true ∧ forbV [67, 111, 111, 107, 105, 101] = true ∧ forbV [120] = false := by decide +kernel
theorem nb13 : safeV [97, 99, 99, 101, 112, 116] (lonV 129) = false := by
  unfold safeV; rw [if_pos (by rw [lon_len]; omega)]

theorem nb_made : madeCells #[Value.string ByteArray.empty, .string ByteArray.empty] 128 = (cellsH nbL).toArray := by kernel_rfl

theorem addErr {L : List Hd} {n v : List UInt8} {w w' : World} {e : Ending} {k : Nat} (h : AddPost L n v w e w') (hk : addE L n v = k) (h0 : k ≠ 0) : e = .returned (.tuple #[.slice none 0 0, .int .i64 (k : Int)]) ∧ Below w.heap.size w w' := by
  obtain ⟨hb, ⟨_, rfl⟩ | ⟨h1, _⟩⟩ := h
  · exact ⟨by rw [hk], hb⟩
  · omega

set_option maxHeartbeats 8000000 in
set_option maxRecDepth 100000 in
theorem headersNumbers_walk (w : World) (hg : G5 w) : Calls Tryd.prog 3 #[] w fun e w' => e = .returned (.bool true) ∧ Below w.heap.size w w' := by
  obtain ⟨i0, hi, hz0, hz1, hz2⟩ := info3 infoHd
  have HG := hid hg
  clear hg
  go_enter Tryd.func3, Tryd.ntmps3
  go_wp2_with fail
  refine (add_any _ [] ⟨#[]⟩ ⟨#[120]⟩ _ (hd_nil _) (by decide) (by decide) (by decide)).mono ?_
  intro e w1 h1
  obtain ⟨rfl, hb1⟩ := addErr h1 nb1 (by decide)
  clear h1
  go_wp2_with fail
  refine (add_any _ [] ⟨#[120]⟩ ⟨#[97, 10, 98]⟩ _ (hd_nil _) (by decide) (by decide) (by decide)).mono ?_
  intro e w2 h2
  obtain ⟨rfl, hb2'⟩ := addErr h2 nb2 (by decide)
  have hb2 := belowT hb1 hb2'
  clear h2 hb1 hb2'
  have hmk := run_make (P := Tryd.prog) w2 22 28 i0 _ Tryd.underlying22 hi hz0 .i64 .i64 64 64 (by decide) (by decide) (by rw [hz2]; decide) (by decide)
  rw [hz1] at hmk
  have hL64 : HdAt (w2.alloc (.cells (madeCells #[Value.string ByteArray.empty, .string ByteArray.empty] 128) 28)) (.slice (some ⟨w2.heap.size, 0, none⟩) 64 64) nbL := by
    rw [nb_made]
    exact hd_new w2 nbL 28 (by decide)
  have HL64 := hid hL64
  clear hL64
  go_wp2_with fail
  refine (add_any _ nbL ⟨#[120]⟩ ⟨#[121]⟩ _ HL64.out (by decide) (by decide) (by decide)).mono ?_
  intro e w3 h3
  obtain ⟨rfl, hb3'⟩ := addErr h3 nb3 (by decide)
  have hb3 := belowT (belowA hb2 _) hb3'
  clear h3 hb2 hb3' hmk
  go_wp2_with fail
  refine (long_any 4097 _ (by decide)).mono ?_
  rintro e w4 ⟨rfl, hb4'⟩
  have hb4 := belowT hb3 hb4'
  clear hb3 hb4'
  obtain ⟨Q, hQ⟩ : ∃ Q : ByteArray, Q = ⟨(lonV 4097).toArray⟩ := ⟨_, rfl⟩
  have HQ := hid (show Q.data.toList = lonV 4097 by rw [hQ])
  have hQs : Q.size ≤ 5000 := by rw [hQ, xsize, lon_len]; omega
  rw [← hQ]
  clear hQ
  have HA4 := hid (add_any _ [] ⟨#[120]⟩ Q w4 (hd_nil _) (by decide) (by decide) (by omega))
  rw [HQ.out] at HA4
  go_wp2_with fail
  refine HA4.out.mono ?_
  intro e w5 h5
  obtain ⟨rfl, hb5'⟩ := addErr h5 nb4 (by decide)
  have hb5 := belowT hb4 hb5'
  clear h5 hb4 hb5'
  go_wp2_with fail
  refine (h_any _ _ _).mono ?_
  rintro e w6 ⟨rfl, hb6⟩
  unfold hdVal
  go_wp2_with fail
  refine (h_any _ _ _).mono ?_
  rintro e w7 ⟨rfl, hb7⟩
  unfold hdVal
  go_wp2_with fail
  refine (h_any _ _ _).mono ?_
  rintro e w8 ⟨rfl, hb8'⟩
  unfold hdVal
  have hb8 := belowT (belowT (belowT hb5 hb6) hb7) hb8'
  clear hb5 hb6 hb7 hb8'
  go_wp2_with fail
  have hM := hd_new w8 nbM 28 (by decide)
  refine (set_any _ nbM ⟨#[120]⟩ ⟨#[32, 57, 32]⟩ _ hM (by decide) (by decide) (by decide) (fun h hh => by simp [nbM] at hh; rcases hh with rfl | rfl | rfl <;> decide)).mono ?_
  intro e w9 h9
  obtain ⟨v9, rfl, ho9, hb9'⟩ : ∃ vv, e = .returned (.tuple #[vv, .int .i64 0]) ∧ w9.ownsRow (w8.alloc (.cells (cellsH nbM).toArray 28)).heap.size 28 2 vv nbS.length (cellsH nbS) ∧ Below (w8.alloc (.cells (cellsH nbM).toArray 28)).heap.size (w8.alloc (.cells (cellsH nbM).toArray 28)) w9 := by
    obtain ⟨hb, ⟨h1, _⟩ | ⟨_, vv, h2, h3⟩⟩ := h9
    · exact absurd nb5.1 h1
    · rw [show setV nbM (⟨#[120]⟩ : ByteArray).data.toList (⟨#[32, 57, 32]⟩ : ByteArray).data.toList = nbS from nb5.2] at h3
      exact ⟨vv, h2, h3, hb⟩
  have HS9 := hid (own_hd ho9)
  have hb9 := belowT (belowA hb8 _) hb9'
  clear h9 ho9 hb8 hb9' hM
  go_wp2_with fail
  refine (h_any _ _ _).mono ?_
  rintro e w10 ⟨rfl, hb10'⟩
  unfold hdVal
  have hb10 := belowT hb9 hb10'
  have HS10 := hid (HS9.out.kept hb10')
  clear hb9 hb10'
  go_wp2_with fail
  have hA := hd_new w10 nbA 28 (by decide)
  refine (split_any _ nbA ⟨#[97]⟩ _ hA (by decide) (fun h hh => by simp [nbA] at hh; subst hh; decide) (by decide) (by decide) nb6.2).mono ?_
  rintro e w11 ⟨v11, rfl, ho11, hb11'⟩
  rw [show (⟨#[97]⟩ : ByteArray).data.toList = [97] from rfl, nb6.1] at ho11
  have ht11 := own_txt' ho11
  have hb11 := belowT (belowA hb10 _) hb11'
  have HS11 := hid (HS10.out.kept (belowT (belowA (Below.refl _ _) _) hb11'))
  obtain ⟨a11, c11, rfl, _, _, hc11⟩ := ht11.view
  obtain ⟨b11, o11, rfl, f11⟩ := hc11 0 (by decide)
  have HF11 := hid (show w11.cell? ⟨b11, o11, none⟩ = some (.string ⟨#[]⟩) from f11)
  clear ho11 ht11 hb10 hb11' hA hc11 f11
  go_wp2_with fail
  refine (get_any _ [] ⟨#[97]⟩ _ (hd_nil _) (by decide) (fun h hh => by simp at hh) (by decide) (by decide)).mono ?_
  rintro e w12 ⟨rfl, hb12'⟩
  rw [show (⟨#[97]⟩ : ByteArray).data.toList = [97] from rfl, nb7.1, nb7.2]
  have hb12 := belowT hb11 hb12'
  have HS12 := hid (HS11.out.kept hb12')
  have HF12 := hid ((hb12'.cell (World.block_lt_of_cell? _ _ HF11.out)).trans HF11.out)
  clear hb11 hb12'
  go_wp2_with fail
  refine (range_any _ _ (HG.out.kept hb12) (by decide)).mono ?_
  rintro e w13 ⟨rfl, hb13'⟩
  rw [show (⟨#[98, 121, 116, 101, 115, 61, 45, 53]⟩ : ByteArray).data.toList = [98, 121, 116, 101, 115, 61, 45, 53] from rfl, nb8.1, nb8.2.1, nb8.2.2]
  have hb13 := belowT hb12 hb13'
  have HS13 := hid (HS12.out.kept hb13')
  have HF13 := hid ((hb13'.cell (World.block_lt_of_cell? _ _ HF12.out)).trans HF12.out)
  clear hb12 hb13'
  go_wp2_with fail
  refine (range_any _ _ (HG.out.kept hb13) (by decide)).mono ?_
  rintro e w14 ⟨rfl, hb14'⟩
  rw [show (⟨#[98, 121, 116, 101, 115, 61, 53, 45, 52]⟩ : ByteArray).data.toList = [98, 121, 116, 101, 115, 61, 53, 45, 52] from rfl, nb9]
  have hb14 := belowT hb13 hb14'
  have HS14 := hid (HS13.out.kept hb14')
  have HF14 := hid ((hb14'.cell (World.block_lt_of_cell? _ _ HF13.out)).trans HF13.out)
  clear hb13 hb14'
  go_wp2_with fail
  refine (h_any _ _ _).mono ?_
  rintro e w15 ⟨rfl, hb15'⟩
  unfold hdVal
  go_wp2_with fail
  refine (h_any _ _ _).mono ?_
  rintro e w16 ⟨rfl, hb16'⟩
  unfold hdVal
  have hb15b := belowT hb15' hb16'
  have hb16 := belowT hb14 hb15b
  have HS16 := hid (HS14.out.kept hb15b)
  have HF16 := hid ((hb15b.cell (World.block_lt_of_cell? _ _ HF14.out)).trans HF14.out)
  clear hb14 hb15' hb16' hb15b
  go_wp2_with fail
  have hbn := belowA (Below.refl w16.heap.size w16) (.cells (cellsH nbS).toArray 28)
  refine (sameH_any _ _ nbS nbS _ (HS16.out.kept hbn) (hd_new w16 nbS 28 (by decide)) (by decide) (by decide)).mono ?_
  rintro e w17 ⟨rfl, hb17'⟩
  rw [show decide (nbS = nbS) = true by simp]
  have hb17 := belowT (belowT hb16 hbn) hb17'
  have f17 := ((belowT hbn hb17').cell (World.block_lt_of_cell? _ _ HF16.out)).trans HF16.out
  clear hb16 hb17' hbn
  go_wp2_with fail
  refine (safe_any _ _ _ (HG.out.kept hb17) (by decide) (by decide)).mono ?_
  rintro e w18 ⟨rfl, hb18'⟩
  rw [show (⟨#[114, 97, 110, 103, 101]⟩ : ByteArray).data.toList = [114, 97, 110, 103, 101] from rfl, show (⟨#[98, 121, 116, 101, 115, 61, 45, 53]⟩ : ByteArray).data.toList = [98, 121, 116, 101, 115, 61, 45, 53] from rfl, nb10]
  have hb18 := belowT hb17 hb18'
  clear hb17 hb18' f17
  go_wp2_with fail
  refine (safe_any _ _ _ (HG.out.kept hb18) (by decide) (by decide)).mono ?_
  rintro e w19 ⟨rfl, hb19'⟩
  rw [show (⟨#[82, 97, 110, 103, 101]⟩ : ByteArray).data.toList = [82, 97, 110, 103, 101] from rfl, show (⟨#[98, 121, 116, 101, 115, 61, 48, 45]⟩ : ByteArray).data.toList = [98, 121, 116, 101, 115, 61, 48, 45] from rfl, nb11]
  have hb19 := belowT hb18 hb19'
  clear hb18 hb19'
  go_wp2_with fail
  refine (forbidden_any _ _ (by decide)).mono ?_
  rintro e w20 ⟨rfl, hb20'⟩
  rw [show (⟨#[83, 101, 99, 45, 88]⟩ : ByteArray).data.toList = [83, 101, 99, 45, 88] from rfl, nb12.1]
  have hb20 := belowT hb19 hb20'
  clear hb19 hb20'
  go_wp2_with fail
  refine (forbidden_any _ _ (by decide)).mono ?_
  rintro e w21 ⟨rfl, hb21'⟩
  rw [show (⟨#[67, 111, 111, 107, 105, 101]⟩ : ByteArray).data.toList = [67, 111, 111, 107, 105, 101] from rfl, nb12.2.1]
  have hb21 := belowT hb20 hb21'
  clear hb20 hb21'
  go_wp2_with fail
  refine (forbidden_any _ _ (by decide)).mono ?_
  rintro e w22 ⟨rfl, hb22'⟩
  rw [show (⟨#[120]⟩ : ByteArray).data.toList = [120] from rfl, nb12.2.2]
  have hb22 := belowT hb21 hb22'
  clear hb21 hb22'
  go_wp2_with fail
  refine (long_any 129 _ (by decide)).mono ?_
  rintro e w23 ⟨rfl, hb23'⟩
  have hb23 := belowT hb22 hb23'
  clear hb22 hb23'
  go_wp2_with fail
  refine (safe_any _ _ _ (HG.out.kept hb23) (by decide) (by rw [xsize, lon_len]; decide)).mono ?_
  rintro e w24 ⟨rfl, hb24'⟩
  rw [show (⟨#[97, 99, 99, 101, 112, 116]⟩ : ByteArray).data.toList = [97, 99, 99, 101, 112, 116] from rfl, show (⟨(lonV 129).toArray⟩ : ByteArray).data.toList = lonV 129 from rfl, nb13]
  have hb24 := belowT hb23 hb24'
  clear hb23 hb24'
  go_wp2_with fail
  refine (known_any _ (HG.out.kept hb24)).mono ?_
  rintro e w25 ⟨rfl, hb25⟩
  go_wp2
  go_ret
  exact ⟨rfl, belowT hb24 hb25⟩

end Go.Proofs.YtknlmifjadolpaaDoor
