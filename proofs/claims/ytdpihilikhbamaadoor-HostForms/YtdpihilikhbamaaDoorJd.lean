/-
  The walk of the law HostForms.
-/
import Derived.Test.YtdpihilikhbamaaDoorVr
import Derived.OpenShut
set_option linter.unusedSimpArgs false
set_option linter.unusedVariables false
namespace Go.Proofs.YtdpihilikhbamaaDoor
open Go.RowKit

theorem and24 (n : Nat) (h : n < 4294967296) : bits .and .u32 (n : Int) 16777215 = ((n % 16777216 : Nat) : Int) := by
  have := u32_and_nat n 16777215 h (by omega)
  rw [show (16777215 : Nat) = 2 ^ 24 - 1 from rfl, Nat.and_two_pow_sub_one_eq_mod] at this
  simpa using this
theorem and16 (n : Nat) (h : n < 4294967296) : bits .and .u32 (n : Int) 65535 = ((n % 65536 : Nat) : Int) := by
  have := u32_and_nat n 65535 h (by omega)
  rw [show (65535 : Nat) = 2 ^ 16 - 1 from rfl, Nat.and_two_pow_sub_one_eq_mod] at this
  simpa using this

theorem digs_le (base n : Nat) : (digs base n).length ≤ 40 := by
  have key : ∀ (f m : Nat) (acc : List UInt8), (digsN base f m acc).length ≤ acc.length + f := by
    intro f
    induction f with
    | zero => intro m acc; simp [digsN]
    | succ f ih =>
      intro m acc
      rw [digsN]
      split
      · simp
      · have := ih (m / base) (digC (m % base) :: acc)
        simp at this
        omega
  have := key 40 n []
  unfold digs
  simpa using this

/-- The texts L lie in block b, and each is parsed to V. -/
def Forms (w : World) (b : Nat) (L : List ByteArray) (V : List UInt8) : Prop := ∀ j (h : j < L.length), w.cell? ⟨b, j, none⟩ = some (.string L[j]) ∧ parseV L[j].data.toList true = some V ∧ L[j].size ≤ 4000000000

theorem Forms.kept {w w' : World} {b : Nat} {L : List ByteArray} {V : List UInt8} (h : Forms w b L V) (hb : Below w.heap.size w w') : Forms w' b L V := fun j hj => by
  obtain ⟨h1, h2⟩ := h j hj
  exact ⟨(hb.cell (World.block_lt_of_cell? w _ h1)).trans h1, h2⟩

theorem form_txt (t : ByteArray) (l V : List UInt8) (ht : t.data.toList = l) (hp : parseV l true = some V) (hl : l.length ≤ 1000) : parseV t.data.toList true = some V ∧ t.size ≤ 4000000000 := by
  refine ⟨by rw [ht]; exact hp, by rw [Lib.size_eq, ht]; omega⟩

set_option maxHeartbeats 4000000 in
set_option maxRecDepth 100000 in
theorem hostForms_walk (n0 : Int) (w : World) (hn0 : (Lit.int .u32 n0).wf = true) (hg : Gd w) :
    Calls Tryd.prog 6 #[.int .u32 n0] w fun e w' => e = .returned (.bool true) ∧ Below w.heap.size w w' := by
  have HG := hid hg
  clear hg
  have hb0 := bounds_u32 hn0
  clear hn0
  obtain ⟨n, rfl⟩ := Int.eq_ofNat_of_zero_le hb0.1
  have hn : n < 4294967296 := by omega
  clear hb0
  have h24 := and24 n hn
  have h16 := and16 n hn
  have h8 := and255 (n / 65536) (by omega)
  have hd24 : ((n / 65536 : Nat) : Int) = (n : Int) / 65536 := by omega
  rw [hd24] at h8
  clear hd24
  obtain ⟨D1, hD1⟩ : ∃ t, t = digs 10 n := ⟨_, rfl⟩
  have hl1 : D1.length ≤ 40 := by rw [hD1]; exact digs_le _ _
  have HD1 := hid hD1
  clear hD1
  obtain ⟨D2, hD2⟩ : ∃ t, t = digs 16 n := ⟨_, rfl⟩
  have hl2 : D2.length ≤ 40 := by rw [hD2]; exact digs_le _ _
  have HD2 := hid hD2
  clear hD2
  obtain ⟨D3, hD3⟩ : ∃ t, t = digs 8 n := ⟨_, rfl⟩
  have hl3 : D3.length ≤ 40 := by rw [hD3]; exact digs_le _ _
  have HD3 := hid hD3
  clear hD3
  obtain ⟨D4, hD4⟩ : ∃ t, t = digs 16 (n / 16777216) := ⟨_, rfl⟩
  have hl4 : D4.length ≤ 40 := by rw [hD4]; exact digs_le _ _
  have HD4 := hid hD4
  clear hD4
  obtain ⟨D5, hD5⟩ : ∃ t, t = digs 10 (n % 16777216) := ⟨_, rfl⟩
  have hl5 : D5.length ≤ 40 := by rw [hD5]; exact digs_le _ _
  have HD5 := hid hD5
  clear hD5
  obtain ⟨D6, hD6⟩ : ∃ t, t = digs 10 (n / 16777216) := ⟨_, rfl⟩
  have hl6 : D6.length ≤ 40 := by rw [hD6]; exact digs_le _ _
  have HD6 := hid hD6
  clear hD6
  obtain ⟨D7, hD7⟩ : ∃ t, t = digs 8 (n / 65536 % 256) := ⟨_, rfl⟩
  have hl7 : D7.length ≤ 40 := by rw [hD7]; exact digs_le _ _
  have HD7 := hid hD7
  clear hD7
  obtain ⟨D8, hD8⟩ : ∃ t, t = digs 10 (n % 65536) := ⟨_, rfl⟩
  have hl8 : D8.length ≤ 40 := by rw [hD8]; exact digs_le _ _
  have HD8 := hid hD8
  clear hD8
  go_enter Tryd.func6, Tryd.ntmps6
  go_wp2_with fail
  refine (text4_any n w HG.out hn).mono ?_
  rintro e w1 ⟨rfl, hb⟩
  obtain ⟨W4, hW4⟩ : ∃ t, t = text4 n := ⟨_, rfl⟩
  have hW4l : W4.length ≤ 15 := by rw [hW4]; exact text4_le n
  rw [← hW4]
  have HW4 := hid hW4
  clear hW4
  go_wp2_with fail
  refine (digits_any n 10 w1 (by omega) (by omega)).mono ?_
  rintro e w' ⟨rfl, rfl⟩
  rw [← HD1.out]
  go_wp2_with fail
  refine (digits_any n 16 w1 (by omega) (by omega)).mono ?_
  rintro e w' ⟨rfl, rfl⟩
  rw [← HD2.out]
  go_wp2_with fail
  refine (digits_any n 8 w1 (by omega) (by omega)).mono ?_
  rintro e w' ⟨rfl, rfl⟩
  rw [← HD3.out]
  go_wp2_with fail
  refine (digits_any (n / 16777216) 16 w1 (by omega) (by omega)).mono ?_
  rintro e w' ⟨rfl, rfl⟩
  rw [← HD4.out]
  go_wp2_with fail
  refine (digits_any (n % 16777216) 10 w1 (by omega) (by omega)).mono ?_
  rintro e w' ⟨rfl, rfl⟩
  rw [← HD5.out]
  go_wp2_with fail
  refine (digits_any (n / 16777216) 10 w1 (by omega) (by omega)).mono ?_
  rintro e w' ⟨rfl, rfl⟩
  rw [← HD6.out]
  go_wp2_with fail
  refine (digits_any (n / 65536 % 256) 8 w1 (by omega) (by omega)).mono ?_
  rintro e w' ⟨rfl, rfl⟩
  rw [← HD7.out]
  go_wp2_with fail
  refine (digits_any (n % 65536) 10 w1 (by omega) (by omega)).mono ?_
  rintro e w' ⟨rfl, rfl⟩
  rw [← HD8.out]
  go_wp2
  have HF0 := hid (show Forms (w1.alloc (.cells #[.string (⟨D1.toArray⟩), .string (⟨#[48, 120]⟩ ++ ⟨D2.toArray⟩), .string (⟨#[48]⟩ ++ ⟨D3.toArray⟩), .string (⟨W4.toArray⟩ ++ ⟨#[46]⟩), .string (⟨#[48, 120]⟩ ++ ⟨D4.toArray⟩ ++ ⟨#[46]⟩ ++ ⟨D5.toArray⟩), .string (⟨D6.toArray⟩ ++ ⟨#[46, 48]⟩ ++ ⟨D7.toArray⟩ ++ ⟨#[46]⟩ ++ ⟨D8.toArray⟩)] 9 (0, 0))) w1.heap.size [(⟨D1.toArray⟩ : ByteArray), (⟨#[48, 120]⟩ ++ ⟨D2.toArray⟩ : ByteArray), (⟨#[48]⟩ ++ ⟨D3.toArray⟩ : ByteArray), (⟨W4.toArray⟩ ++ ⟨#[46]⟩ : ByteArray), (⟨#[48, 120]⟩ ++ ⟨D4.toArray⟩ ++ ⟨#[46]⟩ ++ ⟨D5.toArray⟩ : ByteArray), (⟨D6.toArray⟩ ++ ⟨#[46, 48]⟩ ++ ⟨D7.toArray⟩ ++ ⟨#[46]⟩ ++ ⟨D8.toArray⟩ : ByteArray)] W4 by
    intro j hj
    have hrow := heap_alloc_new w1 (.cells #[.string (⟨D1.toArray⟩), .string (⟨#[48, 120]⟩ ++ ⟨D2.toArray⟩), .string (⟨#[48]⟩ ++ ⟨D3.toArray⟩), .string (⟨W4.toArray⟩ ++ ⟨#[46]⟩), .string (⟨#[48, 120]⟩ ++ ⟨D4.toArray⟩ ++ ⟨#[46]⟩ ++ ⟨D5.toArray⟩), .string (⟨D6.toArray⟩ ++ ⟨#[46, 48]⟩ ++ ⟨D7.toArray⟩ ++ ⟨#[46]⟩ ++ ⟨D8.toArray⟩)] 9 (0, 0))
    match j, hj with
    | 0, _ => exact ⟨by rw [cell_of_row _ _ 0 _ _ _ hrow]; rfl, form_txt _ (D1) W4 (by simp) (by rw [HD1.out, HW4.out]; exact form1 n hn) (by first | omega | (simp; omega))⟩
    | 1, _ => exact ⟨by rw [cell_of_row _ _ 1 _ _ _ hrow]; rfl, form_txt _ (48 :: 120 :: D2) W4 (by simp) (by rw [HD2.out, HW4.out]; exact form2 n hn) (by first | omega | (simp; omega))⟩
    | 2, _ => exact ⟨by rw [cell_of_row _ _ 2 _ _ _ hrow]; rfl, form_txt _ (48 :: D3) W4 (by simp) (by rw [HD3.out, HW4.out]; exact form3 n hn) (by first | omega | (simp; omega))⟩
    | 3, _ => exact ⟨by rw [cell_of_row _ _ 3 _ _ _ hrow]; rfl, form_txt _ (W4 ++ [46]) W4 (by simp) (by rw [HW4.out]; exact form4 n hn) (by first | omega | (simp; omega))⟩
    | 4, _ => exact ⟨by rw [cell_of_row _ _ 4 _ _ _ hrow]; rfl, form_txt _ (48 :: 120 :: D4 ++ 46 :: D5) W4 (by simp) (by rw [HD4.out, HD5.out, HW4.out]; exact form5 n hn) (by first | omega | (simp; omega))⟩
    | 5, _ => exact ⟨by rw [cell_of_row _ _ 5 _ _ _ hrow]; rfl, form_txt _ (D6 ++ 46 :: (48 :: D7 ++ 46 :: D8)) W4 (by simp) (by rw [HD6.out, HD7.out, HD8.out, HW4.out]; exact form6 n hn) (by first | omega | (simp; omega))⟩)
  obtain ⟨L6, hL6⟩ : ∃ L : List ByteArray, L = [(⟨D1.toArray⟩ : ByteArray), (⟨#[48, 120]⟩ ++ ⟨D2.toArray⟩ : ByteArray), (⟨#[48]⟩ ++ ⟨D3.toArray⟩ : ByteArray), (⟨W4.toArray⟩ ++ ⟨#[46]⟩ : ByteArray), (⟨#[48, 120]⟩ ++ ⟨D4.toArray⟩ ++ ⟨#[46]⟩ ++ ⟨D5.toArray⟩ : ByteArray), (⟨D6.toArray⟩ ++ ⟨#[46, 48]⟩ ++ ⟨D7.toArray⟩ ++ ⟨#[46]⟩ ++ ⟨D8.toArray⟩ : ByteArray)] := ⟨_, rfl⟩
  rw [← hL6] at HF0
  have h6 : L6.length = 6 := by rw [hL6]; rfl
  clear hL6
  have HBa := hid (below2 hb ((Below.refl _ w1).alloc (Nat.le_refl _) (.cells #[.string (⟨D1.toArray⟩), .string (⟨#[48, 120]⟩ ++ ⟨D2.toArray⟩), .string (⟨#[48]⟩ ++ ⟨D3.toArray⟩), .string (⟨W4.toArray⟩ ++ ⟨#[46]⟩), .string (⟨#[48, 120]⟩ ++ ⟨D4.toArray⟩ ++ ⟨#[46]⟩ ++ ⟨D5.toArray⟩), .string (⟨D6.toArray⟩ ++ ⟨#[46, 48]⟩ ++ ⟨D7.toArray⟩ ++ ⟨#[46]⟩ ++ ⟨D8.toArray⟩)] 9 (0, 0))))
  clear hl1 hl2 hl3 hl4 hl5 hl6 hl7 hl8 h24 h16 h8
  go_loopg [6] 6 (fun g iv wr => ∃ i : Nat, i + g = 6 ∧ iv = .int .i64 i ∧ Forms wr w1.heap.size L6 W4 ∧ Below w.heap.size w wr)
  case atStart => exact ⟨0, rfl, rfl, HF0.out, HBa.out⟩
  case round =>
    obtain ⟨i, hig, rfl, hF, hbw⟩ := hrel
    have HF := hid hF
    have HGr := hid (HG.out.kept hbw)
    clear hF
    cases gk with
    | zero =>
      have hi6 : ¬ ((i : Int) < 6) := by omega
      go_wp2_with (go_at_call 15; refine (known_any _ HGr.out).mono ?_; rintro e w2 ⟨rfl, hb2⟩)
      go_ret
      exact ⟨rfl, below2 hbw hb2⟩
    | succ g =>
      have hi6 : (i : Int) < 6 := by omega
      have hi : i < L6.length := by omega
      obtain ⟨hcell, hp, hsz⟩ := HF.out i hi
      generalize L6[i] = t at hcell hp hsz
      have HX := hid (txt_some hp).symm
      have he := er_some hp
      clear hp
      go_wp2_with (go_at_call 18; refine (parse_any _ _ _ HGr.out hsz).mono ?_; rintro e w2 ⟨rfl, hb2⟩; rw [HX.out, he])
      go_roundg g
      case measure => omega
      case rel => exact ⟨i + 1, by omega, by go_num, HF.out.kept hb2, below2 hbw hb2⟩

end Go.Proofs.YtdpihilikhbamaaDoor
