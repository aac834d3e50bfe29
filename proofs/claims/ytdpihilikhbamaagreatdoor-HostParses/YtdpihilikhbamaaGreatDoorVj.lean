/-
  The walks of strconv.FormatUint's road at base 16: isPowerOfTwo, TrailingZeros, formatBits.
-/
import Derived.Test.YtdpihilikhbamaaGreatDoorVb
import Derived.Laws.BitsAllLaws
import Derived.Deep.LoopGhost
import Derived.Deep.MidRow
set_option linter.unusedSimpArgs false
set_option linter.unusedVariables false
namespace Go.Proofs.YtdpihilikhbamaaGreatDoor
open Go.RowKit

set_option maxHeartbeats 400000 in
theorem isPowerOfTwo16 (w : World) : Calls Tryz.prog 104 #[.int .i64 16] w fun e w' => e = .returned (.bool true) ∧ w = w' := by
  have ha : bits .and .i64 16 15 = 0 := by decide
  go_enter Tryz.func104, Tryz.ntmps104
  go_wp2
  go_ret
  exact ⟨rfl, rfl⟩

theorem dB_cell {w : World} (hg : Gd w) : w.cell? ⟨3, 15, none⟩ = some (.int .u8 4) := by
  have h := hg.2.2.cell gDB64 15 (by decide)
  simpa [dB64] using h

set_option maxHeartbeats 400000 in
theorem trailing64 (w : World) (hg : Gd w) : Calls Tryz.prog 108 #[.int .u64 16] w fun e w' => e = .returned (.int .i64 4) ∧ w = w' := by
  have hc := dB_cell hg
  have ha : bits .and .u64 16 18446744073709551600 = 16 := by decide
  have hw1 : IntKind.u64.wrap (-16) = 18446744073709551600 := by decide
  clear hg
  go_enter Tryz.func108, Tryz.ntmps108
  go_wp2
  go_ret
  exact ⟨rfl, rfl⟩

set_option maxHeartbeats 400000 in
theorem trailing (w : World) (hg : Gd w) : Calls Tryz.prog 105 #[.int .u64 16] w fun e w' => e = .returned (.int .i64 4) ∧ w = w' := by
  go_enter Tryz.func105, Tryz.ntmps105
  go_wp2_with (go_at_call 108; refine (trailing64 _ hg).mono ?_; rintro e w' ⟨rfl, rfl⟩)
  go_ret
  exact ⟨rfl, rfl⟩

/-- Block g is an array of 65 bytes whose last ones are T. -/
def Tail (w : World) (g : Nat) (T : List UInt8) : Prop :=
  ∃ cur : Array Value, w.heap[g]? = some (.cells cur 117 (0, 0)) ∧ cur.size = 65 ∧ T.length ≤ 65 ∧ ∀ j (h : j < T.length), cur[65 - T.length + j]? = some (.int .u8 (T[j].toNat : Int))

theorem Tail.cell {w : World} {g : Nat} {T : List UInt8} (h : Tail w g T) (k : Nat) (hk : k < 65) : ∃ v, w.cell? ⟨g, k, none⟩ = some v := by
  obtain ⟨cur, hg, hs, _, _⟩ := h
  rw [cell_of_row w g k cur _ _ hg]
  exact ⟨cur[k], by simp [hs, hk]⟩

theorem Tail.frozen {w : World} {g : Nat} {T : List UInt8} (h : Tail w g T) (k : Nat) : w.frozen? ⟨g, k, none⟩ = false := by
  obtain ⟨cur, hg, _⟩ := h
  simp [World.frozen?, hg]

theorem Tail.set {w : World} {g : Nat} {T : List UInt8} (h : Tail w g T) (c : UInt8) (hT : T.length < 65) : Tail (w.setCell ⟨g, 64 - T.length, none⟩ (.int .u8 (c.toNat : Int))) g (c :: T) := by
  obtain ⟨cur, hg, hs, hl, hc⟩ := h
  refine ⟨_, Lib.heap_setCell_same hg _, by simpa using hs, by simp; omega, ?_⟩
  intro j hj
  cases j with
  | zero =>
    have e : 65 - (c :: T).length + 0 = 64 - T.length := by rw [List.length_cons]; omega
    rw [e]
    have hlt : 64 - T.length < cur.size := by omega
    simp [hlt]
  | succ j =>
    have hj' : j < T.length := by simpa using hj
    have e : 65 - (c :: T).length + (j + 1) = 65 - T.length + j := by rw [List.length_cons]; omega
    rw [e]
    have hne : 64 - T.length ≠ 65 - T.length + j := by omega
    simp [Array.getElem?_setIfInBounds, hne]
    exact hc j hj'

theorem Tail.string {w : World} {g cap : Nat} {T : List UInt8} (h : Tail w g T) : (convert 68 9 (.slice (some ⟨g, 65 - T.length, none⟩) T.length cap)).run Tryz.prog w = .ok (.string ⟨T.toArray⟩) w := by
  obtain ⟨cur, hg, hs, hl, hc⟩ := h
  refine run_convert_bytes_back w 68 9 5 _ cap T Tryz.underlying68 Tryz.underlying5 Tryz.underlying9 fun j hj => ?_
  rw [Addr.add_mid, cell_of_row w g _ cur _ _ hg]
  exact hc j hj

theorem slice65_from (b k : Nat) (h0 : 0 < k) (hk : k ≤ 65) (w : World) : (Instr.sliceAt 117 (.pointer (some ⟨b, 0, none⟩)) (some (.int .i64 (65 - (k : Int)))) none none).run Tryz.prog w = .ok (.slice (some ⟨b, 65 - k, none⟩) k k) w := by
  have e8 : Tryz.prog.arrayLen 117 = 65 := by kernel_rfl
  have es : (sizeOf (Tryz.prog.elem 117)).run Tryz.prog w = .ok 1 w := by kernel_rfl
  rw [run_sliceAt_array_l w 117 ⟨b, 0, none⟩ (by kernel_rfl) .i64 _ (by omega) (by rw [e8]; omega), es, e8]
  simp only [Result.andThen, slicedAt]
  have e1 : (65 - (k : Int)).toNat = 65 - k := by omega
  have e2 : 65 - (65 - k) = k := by omega
  rw [e1, e2, if_neg (by omega), Addr.add_mid]
  simp

theorem digC_at (n : Nat) (h : n < (ByteArray.mk #[48, 49, 50, 51, 52, 53, 54, 55, 56, 57, 97, 98, 99, 100, 101, 102, 103, 104, 105, 106, 107, 108, 109, 110, 111, 112, 113, 114, 115, 116, 117, 118, 119, 120, 121, 122]).size) (h16 : n < 16) :
    (ByteArray.mk #[48, 49, 50, 51, 52, 53, 54, 55, 56, 57, 97, 98, 99, 100, 101, 102, 103, 104, 105, 106, 107, 108, 109, 110, 111, 112, 113, 114, 115, 116, 117, 118, 119, 120, 121, 122])[n] = digC n := by
  rcases (show n = 0 ∨ n = 1 ∨ n = 2 ∨ n = 3 ∨ n = 4 ∨ n = 5 ∨ n = 6 ∨ n = 7 ∨ n = 8 ∨ n = 9 ∨ n = 10 ∨ n = 11 ∨ n = 12 ∨ n = 13 ∨ n = 14 ∨ n = 15 from by omega) with
    rfl | rfl | rfl | rfl | rfl | rfl | rfl | rfl | rfl | rfl | rfl | rfl | rfl | rfl | rfl | rfl <;> rfl

theorem and15u (n : Nat) (h : n < 65536) : bits .and .u64 (n : Int) 15 = ((n % 16 : Nat) : Int) := by
  have := u64_and_nat n 15 (by omega) (by omega)
  rw [nat_mask4] at this
  exact this

theorem digsN_more (base f n : Nat) (T : List UInt8) (h : ¬ n < base) : digsN base (f + 1) n T = digsN base f (n / base) (digC (n % base) :: T) := by rw [digsN, if_neg h]
theorem digsN_last (base f n : Nat) (T : List UInt8) (h : n < base) : digsN base (f + 1) n T = digC n :: T := by rw [digsN, if_pos h]

set_option maxHeartbeats 2000000 in
set_option maxRecDepth 100000 in
theorem formatBits16 (n : Nat) (w : World) (hg : Gd w) (hn : n < 65536) :
    Calls Tryz.prog 98 #[.slice none 0 0, .int .u64 n, .int .i64 16, .bool false, .bool false] w fun e w' => e = .returned (.tuple #[.slice none 0 0, .string ⟨(hex16 n).toArray⟩]) ∧ Below w.heap.size w w' := by
  have HG := hid hg
  clear hg
  go_enter Tryz.func98, Tryz.ntmps98
  go_wp2_with (first | (go_at_call 104; refine (isPowerOfTwo16 _).mono ?_; rintro e w' ⟨rfl, rfl⟩) | (go_at_call 105; refine (trailing _ (HG.out.kept ((Below.refl _ w).alloc (Nat.le_refl _) _))).mono ?_; rintro e w' ⟨rfl, rfl⟩))
  go_loopg [1, 13] 4 (fun f uv iv wr => ∃ (u : Nat) (T : List UInt8), 1 ≤ f ∧ T.length + f = 4 ∧ uv = .int .u64 u ∧ u < 16 ^ f ∧ iv = .int .i64 (65 - T.length) ∧ digsN 16 f u T = hex16 n ∧ Tail wr w.heap.size T ∧ Below w.heap.size w wr)
  case atStart => exact ⟨n, [], by omega, rfl, rfl, hn, rfl, rfl, ⟨_, heap_alloc_new w _, by kernel_rfl, by simp, by intro j h; simp at h⟩, (Below.refl _ w).alloc (Nat.le_refl _) _⟩
  case round =>
    obtain ⟨u, T, hf1, hTf, rfl, hu, rfl, hdg, hT, hbw⟩ := hrel
    have HD := hid hdg
    have HT := hid hT
    clear hdg hT
    have hT3 : T.length ≤ 3 := by omega
    have hu16 : u < 65536 := by
      have h4 : 16 ^ gk ≤ 16 ^ 4 := Nat.pow_le_pow_right (by omega) (by omega)
      rw [show 16 ^ 4 = 65536 from rfl] at h4
      exact Nat.lt_of_lt_of_le hu h4
    have hx0 : (0 : Int) ≤ 65 - (T.length : Int) - 1 := by omega
    have hx1 : 65 - (T.length : Int) - 1 < 65 := by omega
    have hx2 : (65 - (T.length : Int) - 1).toNat = 64 - T.length := by omega
    have hfz := HT.out.frozen (64 - T.length)
    obtain ⟨v0, hc0⟩ := HT.out.cell (64 - T.length) (by omega)
    by_cases h16 : 16 ≤ u
    · obtain ⟨f, rfl⟩ : ∃ f, gk = f + 1 := ⟨gk - 1, by omega⟩
      have hf : 1 ≤ f := by
        rcases Nat.eq_zero_or_pos f with rfl | h
        · simp at hu; omega
        · exact h
      have HN := hid (show digsN 16 f (u / 16) (digC (u % 16) :: T) = hex16 n by rw [← HD.out, digsN_more _ _ _ _ (by omega)])
      have HU := hid (show u / 16 < 16 ^ f by rw [Nat.pow_succ] at hu; omega)
      have ha := and15u u hu16
      have hd := digC_at (u % 16) (by show u % 16 < 36; omega) (by omega)
      have HS := hid (HT.out.set (digC (u % 16)) (by omega))
      clear hu
      go_wp2
      go_roundg f
      case measure => omega
      case rel => exact ⟨u / 16, digC (u % 16) :: T, hf, by simp; omega, by go_num, HU.out, by simp; omega, HN.out, HS.out, hbw.setCell (p := ⟨w.heap.size, 64 - T.length, none⟩) (Nat.le_refl _) _⟩
    · obtain ⟨f, rfl⟩ : ∃ f, gk = f + 1 := ⟨gk - 1, by omega⟩
      have HN := hid (show digC u :: T = hex16 n by rw [← HD.out, digsN_last _ _ _ _ (by omega)])
      have hd := digC_at u (by show u < 36; omega) (by omega)
      have hS := HT.out.set (digC u) (by omega)
      have hb2 := hbw.setCell (p := ⟨w.heap.size, 64 - T.length, none⟩) (Nat.le_refl _) (.int .u8 ((digC u).toNat : Int))
      have hsl := slice65_from w.heap.size (T.length + 1) (by omega) (by omega) (wr.setCell ⟨w.heap.size, 64 - T.length, none⟩ (.int .u8 ((digC u).toNat : Int)))
      have hcv := hS.string (cap := T.length + 1)
      rw [HN.out] at hcv
      rw [show (hex16 n).length = T.length + 1 by rw [← HN.out]; simp] at hcv
      have e1 : 65 - ((T.length + 1 : Nat) : Int) = 65 - (T.length : Int) - 1 := by omega
      rw [e1] at hsl
      have e2 : 65 - (T.length + 1) = 64 - T.length := by omega
      rw [e2] at hsl hcv
      clear e2
      have HB := hid hb2
      clear hu hS hb2 e1
      go_wp2
      go_ret2
      exact ⟨rfl, HB.out⟩

set_option maxHeartbeats 400000 in
theorem formatUint16' (n : Nat) (w : World) (hg : Gd w) (hn : n < 65536) :
    Calls Tryz.prog 89 #[.int .u64 n, .int .i64 16] w fun e w' => e = .returned (.string ⟨(hex16 n).toArray⟩) ∧ Below w.heap.size w w' := by
  go_enter Tryz.func89, Tryz.ntmps89
  go_wp2_with (go_at_call 98; refine (formatBits16 _ _ hg hn).mono ?_; rintro e w1 ⟨rfl, hb1⟩)
  go_ret
  exact ⟨rfl, hb1⟩

set_option maxHeartbeats 400000 in
theorem formatUint16 (n : Nat) (w : World) (hg : Gd w) (hn : n < 65536) :
    Calls Tryz.prog 79 #[.int .u64 n, .int .i64 16] w fun e w' => e = .returned (.string ⟨(hex16 n).toArray⟩) ∧ Below w.heap.size w w' := by
  go_enter Tryz.func79, Tryz.ntmps79
  go_wp2_with (go_at_call 89; refine (formatUint16' _ _ hg hn).mono ?_; rintro e w1 ⟨rfl, hb1⟩)
  go_ret
  exact ⟨rfl, hb1⟩

end Go.Proofs.YtdpihilikhbamaaGreatDoor
