/-
  The walks of ostiaryref8's functions of one word: cut, turn, mix, at 64 bits.
  What lies in memory in ostiaryref8's block, at 64 bits.
  The words' loops of ostiaryref8's block, at 64 bits.
  The sums at the end of ostiaryref8's block, at 64 bits.
-/
import Derived.Test.YtbdlicomkpnalaaGreatDoorZa
import Derived.Deep.RegionHeld
set_option linter.unusedSimpArgs false
set_option linter.unusedVariables false
namespace Go.Proofs.YtbdlicomkpnalaaGreatDoor
open Go.RowKit

theorem ret64_6 {a b : Int} (h : a = b) : Ending.returned (.int .u64 a) = .returned (.int .u64 b) := by rw [h]

theorem and32_6 (X : Nat) (hX : X < 18446744073709551616) : bits .and .u64 (X : Int) 4294967295 = ((X % 4294967296 : Nat) : Int) := by
  have := u64_and_nat X 4294967295 hX (by decide)
  rw [show ((4294967295 : Nat) : Int) = 4294967295 from rfl] at this
  rw [this, show (4294967295 : Nat) = 2 ^ 32 - 1 by decide, Nat.and_two_pow_sub_one_eq_mod]

set_option maxHeartbeats 1000000 in
theorem rcut6 (x y : Nat) (w : World) (hx : x < 18446744073709551616) (hy : y = x % 18446744073709551616) :
    Calls Tryz.prog 66 #[.agg #[.int .u64 64], .int .u64 (x : Int)] w fun e w' => e = .returned (.int .u64 (y : Int)) ∧ Below w.heap.size w w' := by
  have f1 : bits .and .u64 (x : Int) 4294967295 = ((x % 4294967296 : Nat) : Int) := and32_6 x hx
  have HB := hid ((Below.refl _ w).alloc (Nat.le_refl _) (.cells #[.int .u64 64] 97))
  have HY := hid (show ((x % 18446744073709551616 : Nat) : Int) = (y : Int) by rw [hy])
  clear hy
  go_enter Tryz.func66, Tryz.ntmps66
  go_wp2
  go_ret
  first
    | exact ⟨ret64_6 HY.out, HB.out⟩
    | exact ⟨ret64_6 (by have := HY.out; omega), HB.out⟩

theorem rot_w6 (x n : Nat) (hx : x < 18446744073709551616) : (x / 2 ^ n ||| x * 2 ^ (64 - n) % 18446744073709551616) % 18446744073709551616 = rotV 64 x n := by
  show (x / 2 ^ n ||| x * 2 ^ (64 - n) % 2 ^ 64) % 2 ^ 64 = rotV 64 x n
  rw [Nat.or_mod_two_pow, Nat.mod_mod_of_dvd _ (Nat.pow_dvd_pow 2 (by decide)), Nat.mod_eq_of_lt (a := x / 2 ^ n) (Nat.lt_of_le_of_lt (Nat.div_le_self _ _) hx)]
  rfl

theorem turn_z6 (x n : Nat) (hx : x < 18446744073709551616) : ∃ Z : Nat, Z < 18446744073709551616 ∧ bits .or .u64 ((x : Int) / 2 ^ n) ((x : Int) * 2 ^ (64 - n) % 18446744073709551616) = (Z : Int) ∧ rotV 64 x n = Z % 18446744073709551616 := by
  have b1 : x / 2 ^ n < 2 ^ 64 := Nat.lt_of_le_of_lt (Nat.div_le_self _ _) (by omega)
  have b2 : x * 2 ^ (64 - n) % 18446744073709551616 < 2 ^ 64 := Nat.mod_lt _ (by decide)
  have h3 := Nat.or_lt_two_pow b1 b2
  refine ⟨_, h3, ?_, (rot_w6 x n hx).symm⟩
  have e1 : (x : Int) / 2 ^ n = ((x / 2 ^ n : Nat) : Int) := by
    rw [Int.natCast_ediv, Int.natCast_pow]; rfl
  have e2 : (x : Int) * 2 ^ (64 - n) % 18446744073709551616 = ((x * 2 ^ (64 - n) % 18446744073709551616 : Nat) : Int) := by
    rw [Int.natCast_emod, Int.natCast_mul, Int.natCast_pow]; rfl
  rw [e1, e2]
  exact u64_or_nat _ _ b1 b2

set_option maxHeartbeats 1000000 in
theorem rturn6 (x n y : Nat) (w : World) (hx : x < 18446744073709551616) (hn : n < 64) (hy : y = rotV 64 x n) :
    Calls Tryz.prog 84 #[.agg #[.int .u64 64], .int .u64 (x : Int), .int .u64 (n : Int)] w fun e w' => e = .returned (.int .u64 (y : Int)) ∧ Below w.heap.size w w' := by
  obtain ⟨Z, hZ64, f1, hZ⟩ := turn_z6 x n hx
  have f2 : bits .or .u64 ((x : Int) / 2 ^ n) (IntKind.u64.wrap ((x : Int) * 2 ^ (64 - n))) = (Z : Int) := by
    rw [← f1]; simp [IntKind.wrap, IntKind.bits, IntKind.signed]
  have HZ := hid (show y = Z % 18446744073709551616 by rw [hy, hZ])
  have HZ64 := hid hZ64
  have HB := hid ((Below.refl _ w).alloc (Nat.le_refl _) (.cells #[.int .u64 64] 97))
  clear hZ hy hZ64
  go_enter Tryz.func84, Tryz.ntmps84
  go_wp2_with fail
  refine (rcut6 Z y _ HZ64.out HZ.out).mono ?_
  rintro e w1 ⟨rfl, hb1⟩
  have HB1 := hid (below2 HB.out hb1)
  go_wp2_with fail
  go_ret
  exact ⟨rfl, HB1.out⟩

theorem smw6 (x a b c : Nat) (hx : x < 18446744073709551616) : bits .xor .u64 (bits .xor .u64 ((rotV 64 x a : Nat) : Int) ((rotV 64 x b : Nat) : Int)) ((x : Int) / 2 ^ c) = ((smV 64 a b c x : Nat) : Int) := by
  have e1 : (x : Int) / 2 ^ c = ((x / 2 ^ c : Nat) : Int) := by
    rw [Int.natCast_ediv, Int.natCast_pow]; rfl
  have h1 : ∀ n, rotV 64 x n < 2 ^ 64 := fun n => Nat.lt_of_lt_of_le (rot_lt (W := 64) hx) (by decide)
  rw [e1, u64_xor_nat _ _ (h1 a) (h1 b), u64_xor_nat _ _ (Nat.xor_lt_two_pow (n := 64) (h1 a) (h1 b)) (Nat.lt_of_le_of_lt (Nat.div_le_self _ _) (by omega))]
  rfl

theorem grw6 (x a b c : Nat) (hx : x < 18446744073709551616) : bits .xor .u64 (bits .xor .u64 ((rotV 64 x a : Nat) : Int) ((rotV 64 x b : Nat) : Int)) ((rotV 64 x c : Nat) : Int) = ((grV 64 a b c x : Nat) : Int) := by
  have h1 : ∀ n, rotV 64 x n < 2 ^ 64 := fun n => Nat.lt_of_lt_of_le (rot_lt (W := 64) hx) (by decide)
  rw [u64_xor_nat _ _ (h1 a) (h1 b), u64_xor_nat _ _ (Nat.xor_lt_two_pow (n := 64) (h1 a) (h1 b)) (h1 c)]
  rfl

set_option maxHeartbeats 2000000 in
theorem rmixs6 (x a b c : Nat) (w : World) (hx : x < 18446744073709551616) (ha : a < 64) (hb : b < 64) (hc : c < 64) :
    Calls Tryz.prog 67 #[.agg #[.int .u64 64], .int .u64 (x : Int), .int .u64 (a : Int), .int .u64 (b : Int), .int .u64 (c : Int), .bool true] w fun e w' => e = .returned (.int .u64 ((smV 64 a b c x : Nat) : Int)) ∧ Below w.heap.size w w' := by
  have hA : (w.alloc (.cells #[.int .u64 64] 97)).heap[w.heap.size]? = some (.cells #[.int .u64 64] 97 (0, 0)) := heap_alloc_new w _
  have hbl : Below w.heap.size w (w.alloc (.cells #[.int .u64 64] 97)) := (Below.refl _ w).alloc (Nat.le_refl _) _
  obtain ⟨W, hW⟩ : ∃ W, W = w.alloc (.cells #[.int .u64 64] 97) := ⟨_, rfl⟩
  rw [← hW] at hA hbl
  have HW := hid hW.symm
  obtain ⟨n0, hn0⟩ : ∃ n, n = w.heap.size := ⟨_, rfl⟩
  have HN0 := hid hn0
  have c0 : W.cell? ⟨n0, 0, none⟩ = some (.int .u64 64) := by rw [hn0]; exact Lib.cell_of_heap hA 0
  have HQ : Hid (∀ X : World, Below W.heap.size W X → Below w.heap.size w X) := hid fun X h => hbl.trans (h.mono hbl.size)
  have HK0 := hid (show (fun wx : World => Below W.heap.size W wx ∧ wx.cell? ⟨n0, 0, none⟩ = some (.int .u64 64)) W.drew from ⟨(Below.refl _ W).drew, c0⟩)
  have HK1 := hid (fun (X Y : World) (hb : Below X.heap.size X Y) (h0 : Below W.heap.size W X) => (show (fun wx : World => Below W.heap.size W wx ∧ wx.cell? ⟨n0, 0, none⟩ = some (.int .u64 64)) Y from ⟨h0.trans (hb.mono h0.size), kept_cell c0 (h0.trans (hb.mono h0.size))⟩))
  clear hW hA hbl hn0
  obtain ⟨ra, hra⟩ : ∃ r, r = rotV 64 x a := ⟨_, rfl⟩
  obtain ⟨rb, hrb⟩ : ∃ r, r = rotV 64 x b := ⟨_, rfl⟩
  have HF := hid (show bits .xor .u64 (bits .xor .u64 (ra : Int) (rb : Int)) ((x : Int) / 2 ^ c) = ((smV 64 a b c x : Nat) : Int) by rw [hra, hrb]; exact smw6 x a b c hx)
  have HC1 := hid (fun X : World => rturn6 x a ra X hx ha hra)
  have HC2 := hid (fun X : World => rturn6 x b rb X hx hb hrb)
  clear hra hrb
  go_enter Tryz.func67, Tryz.ntmps67
  go_wp2_with fail
  rw [HW.out, ← HN0.out]
  go_region_held (fun wx : World => Below W.heap.size W wx ∧ wx.cell? ⟨n0, 0, none⟩ = some (.int .u64 64))
    (first | exact HK0.out | exact HK1.out _ _ (by assumption) (by (try dsimp only at *); go_split_ands; assumption))
    (first | (go_at_call 84; (first | with_reducible refine (HC1.out _).mono ?_ | with_reducible refine (HC2.out _).mono ?_); rintro e w' ⟨rfl, hb'⟩))
  all_goals
    go_wp2_with fail
    go_ret
    (try dsimp only at *)
    go_split_ands
    refine ⟨ret64_6 HF.out, ?_⟩
    exact HQ.out _ (by assumption)

set_option maxHeartbeats 2000000 in
theorem rmixg6 (x a b c : Nat) (w : World) (hx : x < 18446744073709551616) (ha : a < 64) (hb : b < 64) (hc : c < 64) :
    Calls Tryz.prog 67 #[.agg #[.int .u64 64], .int .u64 (x : Int), .int .u64 (a : Int), .int .u64 (b : Int), .int .u64 (c : Int), .bool false] w fun e w' => e = .returned (.int .u64 ((grV 64 a b c x : Nat) : Int)) ∧ Below w.heap.size w w' := by
  have hA : (w.alloc (.cells #[.int .u64 64] 97)).heap[w.heap.size]? = some (.cells #[.int .u64 64] 97 (0, 0)) := heap_alloc_new w _
  have hbl : Below w.heap.size w (w.alloc (.cells #[.int .u64 64] 97)) := (Below.refl _ w).alloc (Nat.le_refl _) _
  obtain ⟨W, hW⟩ : ∃ W, W = w.alloc (.cells #[.int .u64 64] 97) := ⟨_, rfl⟩
  rw [← hW] at hA hbl
  have HW := hid hW.symm
  obtain ⟨n0, hn0⟩ : ∃ n, n = w.heap.size := ⟨_, rfl⟩
  have HN0 := hid hn0
  have c0 : W.cell? ⟨n0, 0, none⟩ = some (.int .u64 64) := by rw [hn0]; exact Lib.cell_of_heap hA 0
  have HQ : Hid (∀ X : World, Below W.heap.size W X → Below w.heap.size w X) := hid fun X h => hbl.trans (h.mono hbl.size)
  have HK0 := hid (show (fun wx : World => Below W.heap.size W wx ∧ wx.cell? ⟨n0, 0, none⟩ = some (.int .u64 64)) W.drew from ⟨(Below.refl _ W).drew, c0⟩)
  have HK1 := hid (fun (X Y : World) (hb : Below X.heap.size X Y) (h0 : Below W.heap.size W X) => (show (fun wx : World => Below W.heap.size W wx ∧ wx.cell? ⟨n0, 0, none⟩ = some (.int .u64 64)) Y from ⟨h0.trans (hb.mono h0.size), kept_cell c0 (h0.trans (hb.mono h0.size))⟩))
  clear hW hA hbl hn0
  obtain ⟨ra, hra⟩ : ∃ r, r = rotV 64 x a := ⟨_, rfl⟩
  obtain ⟨rb, hrb⟩ : ∃ r, r = rotV 64 x b := ⟨_, rfl⟩
  obtain ⟨rc, hrc⟩ : ∃ r, r = rotV 64 x c := ⟨_, rfl⟩
  have HF := hid (show bits .xor .u64 (bits .xor .u64 (ra : Int) (rb : Int)) (rc : Int) = ((grV 64 a b c x : Nat) : Int) by rw [hra, hrb, hrc]; exact grw6 x a b c hx)
  have HC1 := hid (fun X : World => rturn6 x a ra X hx ha hra)
  have HC2 := hid (fun X : World => rturn6 x b rb X hx hb hrb)
  have HC3 := hid (fun X : World => rturn6 x c rc X hx hc hrc)
  clear hrc
  clear hra hrb
  go_enter Tryz.func67, Tryz.ntmps67
  go_wp2_with fail
  rw [HW.out, ← HN0.out]
  go_region_held (fun wx : World => Below W.heap.size W wx ∧ wx.cell? ⟨n0, 0, none⟩ = some (.int .u64 64))
    (first | exact HK0.out | exact HK1.out _ _ (by assumption) (by (try dsimp only at *); go_split_ands; assumption))
    (first | (go_at_call 84; (first | with_reducible refine (HC1.out _).mono ?_ | with_reducible refine (HC2.out _).mono ?_ | with_reducible refine (HC3.out _).mono ?_); rintro e w' ⟨rfl, hb'⟩))
  all_goals
    go_wp2_with fail
    go_ret
    (try dsimp only at *)
    go_split_ands
    refine ⟨ret64_6 HF.out, ?_⟩
    exact HQ.out _ (by assumption)

end Go.Proofs.YtbdlicomkpnalaaGreatDoor

namespace Go.Proofs.YtbdlicomkpnalaaGreatDoor
open Go.RowKit

def SL6 : List Nat := [1, 8, 7, 19, 61, 6, 28, 34, 39, 14, 18, 41]

/-- The word, the state, room for the answer, the numbers of turns, the schedule. -/
def Blk6 (w wr : World) (b0 b1 b2 b3 b4 : Nat) (S X : List Nat) : Prop :=
  (w.heap.size ≤ b0 ∧ b0 < b1 ∧ b1 < b2 ∧ b2 < b3 ∧ b3 < b4) ∧ wr.heap[b0]? = some (.cells #[.int .u64 64] 97 (0, 0)) ∧ Rw wr b1 .u64 98 S ∧ Rw wr b2 .u64 98 (zrs 8) ∧ Rw wr b3 .u64 120 SL6 ∧ Rw wr b4 .u64 55 X ∧ Below w.heap.size w wr

theorem Blk6.kept {w wr Y : World} {b0 b1 b2 b3 b4 : Nat} {S X : List Nat} (h : Blk6 w wr b0 b1 b2 b3 b4 S X) (hb : Below wr.heap.size wr Y) : Blk6 w Y b0 b1 b2 b3 b4 S X :=
  ⟨h.1, row_kept h.2.1 hb, h.2.2.1.kept hb, h.2.2.2.1.kept hb, h.2.2.2.2.1.kept hb, h.2.2.2.2.2.1.kept hb, h.2.2.2.2.2.2.trans (hb.mono h.2.2.2.2.2.2.size)⟩

theorem Blk6.setX {w wr : World} {b0 b1 b2 b3 b4 : Nat} {S X : List Nat} (h : Blk6 w wr b0 b1 b2 b3 b4 S X) (k u : Nat) : Blk6 w (wr.setCell ⟨b4, k, none⟩ (.int .u64 (u : Int))) b0 b1 b2 b3 b4 S (X.set k u) := by
  obtain ⟨⟨h0, h1, h2, h3, h4⟩, hA, hS, hZ, hT, hX, hB⟩ := h
  exact ⟨⟨h0, h1, h2, h3, h4⟩, (Below.heap_setCell wr ⟨b4, k, none⟩ _ b0 (by show b0 ≠ b4; omega)).trans hA, hS.far (by omega), hZ.far (by omega), hT.far (by omega), hX.set k u, hB.setCell (p := ⟨b4, k, none⟩) (by show w.heap.size ≤ b4; omega) _⟩

theorem Blk6.setS {w wr : World} {b0 b1 b2 b3 b4 : Nat} {S X : List Nat} (h : Blk6 w wr b0 b1 b2 b3 b4 S X) (k u : Nat) : Blk6 w (wr.setCell ⟨b1, k, none⟩ (.int .u64 (u : Int))) b0 b1 b2 b3 b4 (S.set k u) X := by
  obtain ⟨⟨h0, h1, h2, h3, h4⟩, hA, hS, hZ, hT, hX, hB⟩ := h
  exact ⟨⟨h0, h1, h2, h3, h4⟩, (Below.heap_setCell wr ⟨b1, k, none⟩ _ b0 (by show b0 ≠ b1; omega)).trans hA, hS.set k u, hZ.far (by omega), hT.far (by omega), hX.far (by omega), hB.setCell (p := ⟨b1, k, none⟩) (by show w.heap.size ≤ b1; omega) _⟩

theorem wrapU6 (n : Int) : IntKind.wrap .u64 n = n % 18446744073709551616 := by simp [IntKind.wrap, IntKind.bits, IntKind.signed]

def exit4_6 (K : Act → World → Prop) : Exit → Act → World → Prop
  | .exit 4, a, w => K a w
  | _, _, _ => False
def exit6_6 (K : Act → World → Prop) : Exit → Act → World → Prop
  | .exit 6, a, w => K a w
  | _, _, _ => False
def exit8_6 (K : Act → World → Prop) : Exit → Act → World → Prop
  | .exit 8, a, w => K a w
  | _, _, _ => False
theorem wp_cut4_6 {P : Program} {c : Code} {Q : Exit → Act → World → Prop} {a : Act} {w : World} (h : c.wp P (exit4_6 fun a w => Q (.exit 4) a w) a w) : c.wp P Q a w :=
  Code.wp_mono (fun e a w h => by unfold exit4_6 at h; split at h <;> first | exact h | exact h.elim) h
theorem wp_cut6_6 {P : Program} {c : Code} {Q : Exit → Act → World → Prop} {a : Act} {w : World} (h : c.wp P (exit6_6 fun a w => Q (.exit 6) a w) a w) : c.wp P Q a w :=
  Code.wp_mono (fun e a w h => by unfold exit6_6 at h; split at h <;> first | exact h | exact h.elim) h
theorem wp_cut8_6 {P : Program} {c : Code} {Q : Exit → Act → World → Prop} {a : Act} {w : World} (h : c.wp P (exit8_6 fun a w => Q (.exit 8) a w) a w) : c.wp P Q a w :=
  Code.wp_mono (fun e a w h => by unfold exit8_6 at h; split at h <;> first | exact h | exact h.elim) h

end Go.Proofs.YtbdlicomkpnalaaGreatDoor

namespace Go.Proofs.YtbdlicomkpnalaaGreatDoor
open Go.RowKit

noncomputable def bl1_6 : Code := ((Tryz.f49.body.map loopsOf).getD []).getD 0 .skip

theorem set_self6 (l : List Nat) (i x : Nat) (hx : l.getD i 0 = x) : l.set i x = l := by
  apply List.ext_getElem?
  intro j
  rw [List.getElem?_set]
  split
  · subst_vars
    split
    · simp [List.getD, *]
    · rw [List.getElem?_eq_none (by omega)]
  · rfl

theorem fill_next6 (L : List Nat) (i : Nat) (hl : L.length = 80) : (fillV L i 80).getD i 0 = 0 := by
  simp only [fillV, List.getD]
  by_cases h : i ≤ 80
  · rw [List.getElem?_append_right (by simp; omega)]
    simp [List.getElem?_replicate]
    split <;> rfl
  · rw [List.getElem?_eq_none (by simp; omega)]; rfl

set_option maxHeartbeats 4000000 in
set_option maxRecDepth 100000 in
theorem rwords6 (x : Addr) (cap : Nat) (l : List UInt8) (b0 b1 b2 b3 b4 : Nat) (S L : List Nat) (w W : World) (K : Act → World → Prop) (t0 t1 t2 t4 t5 t6 t7 t8 t10 t11 t14 t15 t16 t17 t18 t19 t20 t21 t22 t23 t24 t25 t26 t27 t28 t29 t30 t31 t32 t33 t34 t35 t36 t37 t38 t39 t40 t41 t42 t43 t44 t45 t46 t47 t48 t49 t50 t51 t52 t53 t54 t55 t56 t57 t58 t59 t60 t61 t62 t63 t64 t65 t66 t67 t68 t69 t70 t71 t72 t73 t74 t75 t76 t77 t78 t79 t80 t81 t82 t83 t84 t85 t86 t87 t88 t89 t90 t91 t92 t93 t94 t95 t96 t97 t98 t99 t100 t101 t102 t103 t104 t105 t106 t107 t108 t109 t110 t111 t112 t113 t114 t115 t116 t117 t118 t119 t120 t121 t122 t123 t124 t125 t126 t127 t128 t129 t130 t131 t132 t133 t134 t135 t136 t137 t138 t139 t140 t141 t142 t143 t144 t145 t146 t147 t148 t149 t150 t151 t152 t153 t154 t155 t156 t157 t158 t159 t160 t161 t162 t163 t164 t165 t166 t167 t168 t169 t170 t171 t172 t173 t174 t175 t176 t177 t178 t179 t180 t181 t182 t183 t184 t185 t186 t187 t188 t189 t190 t191 t192 t193 t194 t195 t196 t197 t198 t199 t200 t201 t202 t203 t204 t205 t206 t207 t208 t209 t210 t211 t212 t213 t214 : Value)
    (HM0 : Hid (Blk6 w W b0 b1 b2 b3 b4 S (fillV L 0 80))) (HL80 : Hid (L.length = 80)) (HL : Hid (∀ i, i < 16 → L.getD i 0 = wordV 8 l i)) (HC : Hid (∀ j (h : j < l.length), w.cell? (x.add j) = some (.int .u8 (l[j].toNat : Int)))) (HLL : Hid (l.length = 128)) (hcap : 128 ≤ cap)
    (HK : Hid (∀ (u13 u14 u30 u31 u32 u33 u34 u35 u36 u37 u38 u39 u40 u41 u42 u43 u44 u45 u46 u47 u48 u49 u50 u51 u52 u53 u54 : Value) (w2 : World), Blk6 w w2 b0 b1 b2 b3 b4 S (fillV L 16 80) → K ⟨#[t0, t1, t2, .slice (some x) 128 cap, t4, t5, t6, t7, t8, .int .i64 8, t10, t11, .pointer (some ⟨b4, 0, none⟩), u13, u14, t15, t16, t17, t18, t19, t20, t21, t22, t23, t24, t25, t26, t27, t28, t29, u30, u31, u32, u33, u34, u35, u36, u37, u38, u39, u40, u41, u42, u43, u44, u45, u46, u47, u48, u49, u50, u51, u52, u53, u54, t55, t56, t57, t58, t59, t60, t61, t62, t63, t64, t65, t66, t67, t68, t69, t70, t71, t72, t73, t74, t75, t76, t77, t78, t79, t80, t81, t82, t83, t84, t85, t86, t87, t88, t89, t90, t91, t92, t93, t94, t95, t96, t97, t98, t99, t100, t101, t102, t103, t104, t105, t106, t107, t108, t109, t110, t111, t112, t113, t114, t115, t116, t117, t118, t119, t120, t121, t122, t123, t124, t125, t126, t127, t128, t129, t130, t131, t132, t133, t134, t135, t136, t137, t138, t139, t140, t141, t142, t143, t144, t145, t146, t147, t148, t149, t150, t151, t152, t153, t154, t155, t156, t157, t158, t159, t160, t161, t162, t163, t164, t165, t166, t167, t168, t169, t170, t171, t172, t173, t174, t175, t176, t177, t178, t179, t180, t181, t182, t183, t184, t185, t186, t187, t188, t189, t190, t191, t192, t193, t194, t195, t196, t197, t198, t199, t200, t201, t202, t203, t204, t205, t206, t207, t208, t209, t210, t211, t212, t213, t214], []⟩ w2)) :
    Code.wp Tryz.prog (.loop bl1_6) (exit0 K) ⟨#[t0, t1, t2, .slice (some x) 128 cap, t4, t5, t6, t7, t8, .int .i64 8, t10, t11, .pointer (some ⟨b4, 0, none⟩), .int .i64 0, t14, t15, t16, t17, t18, t19, t20, t21, t22, t23, t24, t25, t26, t27, t28, t29, t30, t31, t32, t33, t34, t35, t36, t37, t38, t39, t40, t41, t42, t43, t44, t45, t46, t47, t48, t49, t50, t51, t52, t53, t54, t55, t56, t57, t58, t59, t60, t61, t62, t63, t64, t65, t66, t67, t68, t69, t70, t71, t72, t73, t74, t75, t76, t77, t78, t79, t80, t81, t82, t83, t84, t85, t86, t87, t88, t89, t90, t91, t92, t93, t94, t95, t96, t97, t98, t99, t100, t101, t102, t103, t104, t105, t106, t107, t108, t109, t110, t111, t112, t113, t114, t115, t116, t117, t118, t119, t120, t121, t122, t123, t124, t125, t126, t127, t128, t129, t130, t131, t132, t133, t134, t135, t136, t137, t138, t139, t140, t141, t142, t143, t144, t145, t146, t147, t148, t149, t150, t151, t152, t153, t154, t155, t156, t157, t158, t159, t160, t161, t162, t163, t164, t165, t166, t167, t168, t169, t170, t171, t172, t173, t174, t175, t176, t177, t178, t179, t180, t181, t182, t183, t184, t185, t186, t187, t188, t189, t190, t191, t192, t193, t194, t195, t196, t197, t198, t199, t200, t201, t202, t203, t204, t205, t206, t207, t208, t209, t210, t211, t212, t213, t214], []⟩ W := by
  conv => arg 2; whnf
  conv => arg 2; arg 1; whnf
  conv => arg 4; dsimp only
  go_loopw [13] (fun v13 wr => ∃ i : Nat, i ≤ 16 ∧ v13 = .int .i64 i ∧ Hid (Blk6 w wr b0 b1 b2 b3 b4 S (fillV L i 80))) (fun v13 _ => 16 - (intOf v13).toNat)
  case atStart => exact ⟨0, by omega, rfl, HM0.out⟩
  case round =>
    clear HM0
    obtain ⟨i, hi, rfl, HM⟩ := hrel
    by_cases hlt : i < 16
    · have HY := hid (show beN 0 ((l.drop (i * 8 + 0)).take (8 - 0)) = L.getD i 0 from (HL.out i hlt).symm)
      go_wp2_with fail
      go_loopw [14] (fun v14 wq => ∃ k m : Nat, k ≤ 8 ∧ v14 = .int .i64 k ∧ Hid (m < 256 ^ k) ∧ Hid (beN m ((l.drop (i * 8 + k)).take (8 - k)) = L.getD i 0) ∧ Hid (Blk6 w wq b0 b1 b2 b3 b4 S ((fillV L i 80).set i m))) (fun v14 _ => 8 - (intOf v14).toNat)
      case atStart => exact ⟨0, 0, by omega, rfl, hid (by decide), HY.out, by rw [set_self6 _ i 0 (fill_next6 L i HL80.out)]; exact HM.out⟩
      case round =>
        clear HY HM
        obtain ⟨k, m, hk, rfl, Hm, HY, HM⟩ := hrel
        by_cases hkt : k < 8
        · have hfl : ((fillV L i 80).set i m).length = 80 := by rw [List.length_set]; exact fill_len _ _ _ (by omega) HL80.out
          obtain ⟨⟨h0, h1, h2, h3, h4⟩, hA, hS, hZ, hT, hX, hB⟩ := HM.out
          obtain ⟨j, hj⟩ : ∃ j, j = i * 8 + k := ⟨_, rfl⟩
          obtain ⟨n, hn⟩ : ∃ n, n = i * 8 := ⟨_, rfl⟩
          have hjl : j < l.length := by rw [HLL.out]; omega
          have hm7 : m < 256 ^ (8 - 1) := Nat.lt_of_lt_of_le Hm.out (Nat.pow_le_pow_right (by decide) (by omega))
          have hor := shl8_6 m l[j] hm7
          obtain ⟨C, hC⟩ : ∃ C : Nat, C = l[j].toNat := ⟨_, rfl⟩
          have hC8 : C < 256 := by rw [hC]; exact l[j].toNat_lt
          obtain ⟨V, hV⟩ : ∃ V, V = m * 256 + C := ⟨_, rfl⟩
          have hcell : wr.cell? (x.add j) = some (.int .u8 (C : Int)) := by rw [hC]; have := HC.out j hjl; rw [hB.cell (World.block_lt_of_cell? w _ this)]; exact this
          have HYN := hid (show beN V ((l.drop (i * 8 + (k + 1))).take (8 - (k + 1))) = L.getD i 0 by
            have := HY.out
            rw [← hj, List.drop_eq_getElem_cons hjl, show 8 - k = (8 - (k + 1)) + 1 by omega, List.take_succ_cons, beN, ← hC, ← hV] at this
            rw [← this, hj, Nat.add_assoc])
          have HVN := hid (show V < 256 ^ (k + 1) by have := Hm.out; rw [Nat.pow_succ, hV]; omega)
          rw [← hC, ← hV] at hor
          have hor2 : bits .or .u64 (IntKind.u64.wrap ((m : Int) * 256)) (C : Int) = (V : Int) := by rw [wrapU6]; exact hor
          have cs : wr.cell? ⟨b4, i, none⟩ = some (.int .u64 (m : Int)) := by
            have := hX.cell i (by omega)
            rwa [show ((fillV L i 80).set i m).getD i 0 = m by rw [List.length_set] at hfl; exact List.getD_eq_getElem?_getD ▸ (by rw [List.getElem?_set_self (by rw [hfl]; omega)]; rfl)] at this
          have cf := hX.free i
          have j1 : IntKind.i64.wrap ((i : Int) * 8) = (n : Int) := by rw [hn, wrap_i64_id _ (by omega) (by omega)]; omega
          have j2 : IntKind.i64.wrap ((n : Int) + (k : Int)) = (j : Int) := by rw [hj, hn, wrap_i64_id _ (by omega) (by omega)]; omega
          have hjz : (j : Int) < 128 := by omega
          have hii : (i : Int) < 80 := by omega
          have HE := hid (((HM.out.kept ((Below.refl _ _).drew)).setX i V))
          rw [List.set_set] at HE
          clear hA hS hZ hT hX hB h0 h1 h2 h3 h4 hfl hj hn hjl hm7 hC hV
          go_wp2_with fail
          go_region
          all_goals
            go_wp2_with fail
            go_roundw
            case rel =>
              first
                | exact ⟨k + 1, V, by omega, by go_num, HVN.out, HYN.out, HE.out⟩
                | ((repeat apply Exists.intro); refine ⟨?_, rfl⟩; exact ⟨k + 1, V, by omega, by go_num, HVN.out, HYN.out, HE.out⟩)
            case measure => simp [intOf]; omega
        · obtain rfl : k = 8 := by omega
          have HE := hid (show Blk6 w wr b0 b1 b2 b3 b4 S (fillV L (i + 1) 80) by
            have hm : L.getD i 0 = m := by have := HY.out; rw [Nat.sub_self, List.take_zero, beN] at this; exact this.symm
            rw [← fill_step L i 80 (by omega) HL80.out m hm]
            exact HM.out)
          clear HM HY Hm hk hkt
          go_wp2_with fail
          go_roundw
          case rel =>
            first
              | exact ⟨i + 1, by omega, by go_num, HE.out⟩
              | ((repeat apply Exists.intro); refine ⟨?_, rfl⟩; exact ⟨i + 1, by omega, by go_num, HE.out⟩)
          case measure => simp [intOf]; omega
    · obtain rfl : i = 16 := by omega
      clear hi hlt
      go_wp2_with fail
      exact HK.out _ _ _ _ _ _ _ _ _ _ _ _ _ _ _ _ _ _ _ _ _ _ _ _ _ _ _ _ HM.out

end Go.Proofs.YtbdlicomkpnalaaGreatDoor

namespace Go.Proofs.YtbdlicomkpnalaaGreatDoor
open Go.RowKit

noncomputable def bl5_6 : Code := ((Tryz.f49.body.map loopsOf).getD []).getD 4 .skip

set_option maxHeartbeats 4000000 in
set_option maxRecDepth 100000 in
theorem radds6 (b0 b1 b2 b3 b4 q : Nat) (SS V Z X : List Nat) (w W : World) (K : Act → World → Prop) (t0 t1 t2 t3 t4 t7 t8 t9 t10 t11 t12 t13 t14 t15 t17 t18 t19 t20 t22 t23 t24 t25 t26 t27 t28 t29 t30 t31 t32 t33 t34 t35 t36 t37 t38 t39 t40 t41 t42 t43 t44 t45 t46 t47 t48 t49 t50 t51 t52 t53 t54 t55 t56 t57 t58 t59 t60 t61 t62 t63 t64 t65 t66 t67 t68 t69 t70 t71 t72 t73 t74 t75 t76 t77 t78 t79 t80 t81 t82 t83 t84 t85 t86 t87 t88 t89 t90 t91 t92 t93 t94 t95 t96 t97 t98 t99 t100 t101 t102 t103 t104 t105 t106 t107 t108 t109 t110 t111 t112 t113 t114 t115 t116 t117 t118 t119 t120 t121 t122 t123 t124 t125 t126 t127 t128 t129 t130 t131 t132 t133 t134 t135 t136 t137 t138 t139 t140 t141 t142 t143 t144 t145 t146 t147 t148 t149 t150 t151 t152 t153 t154 t155 t156 t157 t158 t159 t160 t161 t162 t163 t164 t165 t166 t167 t168 t169 t170 t171 t172 t173 t174 t175 t176 t177 t178 t179 t180 t181 t182 t183 t184 t185 t186 t187 t188 t189 t190 t191 t192 t193 t194 t195 t196 t197 t198 t199 t200 t201 t202 t203 t204 t205 t206 t207 t208 t209 t210 t211 t212 t213 t214 : Value)
    (HM0 : Hid (Blk6 w W b0 b1 b2 b3 b4 SS X)) (HV0 : Hid (Rw W q .u64 98 V)) (hq4 : b4 < q) (HS8 : Hid (SS.length = 8)) (HV8 : Hid (V.length = 8)) (HZ8 : Hid (Z.length = 8))
    (HSB : Hid (∀ j, SS.getD j 0 < 18446744073709551616)) (HVB : Hid (∀ j, V.getD j 0 < 18446744073709551616))
    (HZ : Hid (∀ j, j < 8 → Z.getD j 0 = (SS.getD j 0 + V.getD j 0) % 18446744073709551616))
    (HK : Hid (∀ (u21 u199 u200 u201 u202 u203 u204 u205 u206 u207 u208 u209 u210 u211 u212 u213 : Value) (w2 : World), Blk6 w w2 b0 b1 b2 b3 b4 Z X → K ⟨#[t0, t1, t2, t3, t4, .pointer (some ⟨b0, 0, none⟩), .pointer (some ⟨b1, 0, none⟩), t7, t8, t9, t10, t11, t12, t13, t14, t15, .pointer (some ⟨q, 0, none⟩), t17, t18, t19, t20, u21, t22, t23, t24, t25, t26, t27, t28, t29, t30, t31, t32, t33, t34, t35, t36, t37, t38, t39, t40, t41, t42, t43, t44, t45, t46, t47, t48, t49, t50, t51, t52, t53, t54, t55, t56, t57, t58, t59, t60, t61, t62, t63, t64, t65, t66, t67, t68, t69, t70, t71, t72, t73, t74, t75, t76, t77, t78, t79, t80, t81, t82, t83, t84, t85, t86, t87, t88, t89, t90, t91, t92, t93, t94, t95, t96, t97, t98, t99, t100, t101, t102, t103, t104, t105, t106, t107, t108, t109, t110, t111, t112, t113, t114, t115, t116, t117, t118, t119, t120, t121, t122, t123, t124, t125, t126, t127, t128, t129, t130, t131, t132, t133, t134, t135, t136, t137, t138, t139, t140, t141, t142, t143, t144, t145, t146, t147, t148, t149, t150, t151, t152, t153, t154, t155, t156, t157, t158, t159, t160, t161, t162, t163, t164, t165, t166, t167, t168, t169, t170, t171, t172, t173, t174, t175, t176, t177, t178, t179, t180, t181, t182, t183, t184, t185, t186, t187, t188, t189, t190, t191, t192, t193, t194, t195, t196, t197, t198, u199, u200, u201, u202, u203, u204, u205, u206, u207, u208, u209, u210, u211, u212, u213, t214], []⟩ w2)) :
    Code.wp Tryz.prog (.loop bl5_6) (exit8_6 K) ⟨#[t0, t1, t2, t3, t4, .pointer (some ⟨b0, 0, none⟩), .pointer (some ⟨b1, 0, none⟩), t7, t8, t9, t10, t11, t12, t13, t14, t15, .pointer (some ⟨q, 0, none⟩), t17, t18, t19, t20, .int .i64 0, t22, t23, t24, t25, t26, t27, t28, t29, t30, t31, t32, t33, t34, t35, t36, t37, t38, t39, t40, t41, t42, t43, t44, t45, t46, t47, t48, t49, t50, t51, t52, t53, t54, t55, t56, t57, t58, t59, t60, t61, t62, t63, t64, t65, t66, t67, t68, t69, t70, t71, t72, t73, t74, t75, t76, t77, t78, t79, t80, t81, t82, t83, t84, t85, t86, t87, t88, t89, t90, t91, t92, t93, t94, t95, t96, t97, t98, t99, t100, t101, t102, t103, t104, t105, t106, t107, t108, t109, t110, t111, t112, t113, t114, t115, t116, t117, t118, t119, t120, t121, t122, t123, t124, t125, t126, t127, t128, t129, t130, t131, t132, t133, t134, t135, t136, t137, t138, t139, t140, t141, t142, t143, t144, t145, t146, t147, t148, t149, t150, t151, t152, t153, t154, t155, t156, t157, t158, t159, t160, t161, t162, t163, t164, t165, t166, t167, t168, t169, t170, t171, t172, t173, t174, t175, t176, t177, t178, t179, t180, t181, t182, t183, t184, t185, t186, t187, t188, t189, t190, t191, t192, t193, t194, t195, t196, t197, t198, t199, t200, t201, t202, t203, t204, t205, t206, t207, t208, t209, t210, t211, t212, t213, t214], []⟩ W := by
  conv => arg 2; whnf
  conv => arg 2; arg 1; whnf
  conv => arg 4; dsimp only
  go_loopw [21] (fun v21 wr => ∃ j : Nat, j ≤ 8 ∧ v21 = .int .i64 j ∧ Hid (Blk6 w wr b0 b1 b2 b3 b4 (mixV Z SS j) X) ∧ Hid (Rw wr q .u64 98 V)) (fun v21 _ => 8 - (intOf v21).toNat)
  case atStart => exact ⟨0, by omega, rfl, by rw [mix_zero]; exact HM0.out, HV0.out⟩
  case round =>
    clear HM0 HV0
    obtain ⟨j, hj, rfl, HM, HV⟩ := hrel
    by_cases hlt : j < 8
    · obtain ⟨⟨h0, h1, h2, h3, h4⟩, hA, hS, hZ, hT, hX, hB⟩ := HM.out
      have c0 : wr.cell? ⟨b0, 0, none⟩ = some (.int .u64 64) := Lib.cell_of_heap hA 0
      have n0 : (⟨b1, j, none⟩ : Addr) ≠ ⟨b0, 0, none⟩ := by intro h; have := congrArg Addr.block h; dsimp only at this; omega
      obtain ⟨SJ, hSJ⟩ : ∃ x, x = SS.getD j 0 := ⟨_, rfl⟩
      obtain ⟨VJ, hVJ⟩ : ∃ x, x = V.getD j 0 := ⟨_, rfl⟩
      have bS : SJ < 18446744073709551616 := by rw [hSJ]; exact HSB.out j
      have bV : VJ < 18446744073709551616 := by rw [hVJ]; exact HVB.out j
      obtain ⟨A, hAA⟩ : ∃ a, a = (SJ + VJ) % 18446744073709551616 := ⟨_, rfl⟩
      obtain ⟨U, hU⟩ : ∃ a, a = A % 18446744073709551616 := ⟨_, rfl⟩
      have HU := hid (show Z.getD j 0 = U by rw [HZ.out j hlt, ← hSJ, ← hVJ, hU, hAA]; omega)
      have cs : wr.cell? ⟨b1, j, none⟩ = some (.int .u64 (SJ : Int)) := by
        rw [hSJ, ← mix_at Z SS j 8 HZ8.out HS8.out hlt]
        exact hS.cell j (by rw [mix_len Z SS j 8 HZ8.out HS8.out (by omega)]; exact hlt)
      have cf := hS.free j
      have cv : wr.cell? ⟨q, j, none⟩ = some (.int .u64 (VJ : Int)) := by rw [hVJ]; exact HV.out.cell j (by rw [HV8.out]; exact hlt)
      have nv : (⟨b1, j, none⟩ : Addr) ≠ ⟨q, j, none⟩ := by intro h; have := congrArg Addr.block h; dsimp only at this; omega
      have f1 : IntKind.wrap .u64 ((SJ : Int) + (VJ : Int)) = (A : Int) := by rw [wrapU6, hAA]; omega
      have f2 : ((SJ : Int) + (VJ : Int)) % 18446744073709551616 = (A : Int) := by rw [hAA]; omega
      have hjj : (j : Int) < 8 := by omega
      have HC3 := hid (fun X : World => rcut6 A U X (by rw [hAA]; exact Nat.mod_lt _ (by decide)) hU)
      have HQ := hid (show b1 ≠ q by omega)
      have FIRST := hid (fun (Y : World) (h : Below wr.drew.heap.size wr.drew Y) => (⟨h.os, h.tape, h.output, h.size, h.block⟩ : Below wr.heap.size wr Y))
      clear hA hS hZ hT hX hB h0 h1 h2 h3 h4 hSJ hVJ bS bV hAA hU n0 nv
      go_wp2_with fail
      go_region_with (first | (go_at_call 66; with_reducible refine (HC3.out _).mono ?_; rintro e wa ⟨rfl, hba⟩; have hbr := FIRST.out wa hba; obtain ⟨csa, cfa⟩ := kept_both (X := wr) (a := ⟨b1, j, none⟩) (v := .int .u64 (SJ : Int)) cs cf hbr))
      all_goals
        go_wp2_with fail
        go_roundw
        case rel =>
          have hq : Below wr.heap.size wr wa := by assumption
          have e3 := (HM.out.kept hq).setS j U
          rw [mix_step Z SS j 8 U HZ8.out HS8.out hlt HU.out] at e3
          have e4 := (HV.out.kept hq).far (b := b1) (j := j) (x := (.int .u64 (U : Int))) (fun h => HQ.out h.symm)
          first
            | exact ⟨j + 1, by omega, by go_num, e3, e4⟩
            | ((repeat apply Exists.intro); refine ⟨?_, rfl⟩; exact ⟨j + 1, by omega, by go_num, e3, e4⟩)
            | ((repeat apply Exists.intro); exact ⟨⟨j + 1, by omega, by go_num, e3, e4⟩, rfl⟩)
        case measure => simp [intOf]; omega
    · obtain rfl : j = 8 := by omega
      have HM2 := hid (show Blk6 w wr b0 b1 b2 b3 b4 Z X by have := HM.out; rwa [mix_all Z SS 8 HZ8.out HS8.out] at this)
      clear hj hlt HM
      go_wp2_with fail
      exact HK.out _ _ _ _ _ _ _ _ _ _ _ _ _ _ _ _ _ HM2.out

end Go.Proofs.YtbdlicomkpnalaaGreatDoor
