/-
  The walks of ostiarykeep.FewBytes and ostiarybook.Within.
  The walks of ostiarybook's Same, Roomy, Intact at bytes.
  Plain facts: texts without the blanks at their ends.
  The walk of infra.Strip.
  Plain facts: the number that digits are, held at the greatest.
  The walk of infra.Int.
  The walks of the document's own answers of chapter 1: ostiaryref1's Blank, Digit, Letter, Lower, Strip, Token, Int.
  The walks of the document's own answers of chapter 1: ostiaryref1's In.
  The walks of the document's own answers of chapter 1: ostiaryref1's Escape, Percent, Hex, Unpercent.
  The walk of the document's own answer of chapter 1: ostiaryref1's Unpercent.
  Plain facts: what is told in base 64 is read as itself.
  The walk of the document's own answer of chapter 1: ostiaryref1's value64; plain facts for its Base64.
  The walk of the document's own answer of chapter 1: ostiaryref1's Base64.
-/
import Derived.Test.YtbdlicomkpnalaaDoorProg
import Derived.Test.YtbdlicomkpnalaaDoorZa
import Derived.WalkSpells
import Derived.WalkLawsBesides
import Derived.Laws.CopyOwn
import Derived.Deep.QuietTactic
import Derived.BigQuiet
import Derived.WalkSmall
import Derived.Lib.BufferMore
import Derived.LoopN
import Derived.RegionTactic
import Derived.Deep.RegionWith
import Derived.Deep.RegionLaw
import Derived.Deep.Cut
import Derived.Deep.CutRange
import Derived.Deep.DeepCutAuto
set_option linter.unusedSimpArgs false
set_option linter.unusedVariables false
namespace Go.Proofs.YtbdlicomkpnalaaDoor
open Go.RowKit

set_option maxHeartbeats 400000 in
theorem fewBytes_any (a : Option Addr) (len cap n : Nat) (l : List UInt8) (w : World) (hl : l.length = len) (hS : SlB w (.slice a len cap) l) (hc : len ≤ cap) (hm : cap ≤ maxLen) (hn : n ≤ 9223372036854775807) :
    Calls Tryd.prog 8 #[.slice a len cap, .int .i64 n] w fun e w' => ∃ len', len' = (l.take n).length ∧ len' ≤ cap ∧ e = .returned (.slice a len' cap) ∧ SlB w (.slice a len' cap) (l.take n) ∧ w = w' := by
  unfold maxLen at hm
  by_cases h : n < len
  · have h' : (n : Int) < (len : Int) := by omega
    go_enter Tryd.func8, Tryd.ntmps8
    go_wp2
    go_ret
    exact ⟨n, by simp; omega, by omega, rfl, hS.take n (by omega), rfl⟩
  · have h' : (len : Int) ≤ (n : Int) := by omega
    go_enter Tryd.func8, Tryd.ntmps8
    go_wp2
    go_ret
    have e : l.take n = l := List.take_of_length_le (by omega)
    rw [e]
    exact ⟨len, hl.symm, hc, rfl, hS, rfl⟩

theorem n_within_mod (n m : Int) (hm : 1 ≤ m) : 0 - m < n.tmod m ∧ n.tmod m < m := by
  have h1 := Int.tmod_lt_of_pos n (b := m) (by omega)
  have h2 := Int.tmod_lt_of_pos (-n) (b := m) (by omega)
  rw [Int.neg_tmod] at h2
  omega

/-- A number brought into lo .. hi. -/
def n_withinI (n lo hi : Int) : Int := if n.tmod (hi - lo + 1) < 0 then lo + (n.tmod (hi - lo + 1) + hi - lo + 1) else lo + n.tmod (hi - lo + 1)

theorem n_withinI_bounds (n lo hi : Int) (h : lo ≤ hi) : lo ≤ n_withinI n lo hi ∧ n_withinI n lo hi ≤ hi := by
  have := n_within_mod n (hi - lo + 1) (by omega)
  unfold n_withinI
  split <;> omega

set_option maxHeartbeats 400000 in
theorem n_within_any (n lo hi : Int) (w : World) (h0 : -9223372036854775808 ≤ n) (h1 : n ≤ 9223372036854775807) (hlo : 0 ≤ lo) (hlh : lo ≤ hi) (hhi : hi ≤ 1099511627776) :
    Calls Tryd.prog 16 #[.int .i64 n, .int .i64 lo, .int .i64 hi] w fun e w' => e = .returned (.int .i64 (n_withinI n lo hi)) ∧ w = w' := by
  have hb := n_within_mod n (hi - lo + 1) (by omega)
  have hm0 : (hi - lo + 1 == 0) = false := by simp; omega
  obtain ⟨b1, b2⟩ := hb
  by_cases hneg : n.tmod (hi - lo + 1) < 0
  · have HW := hid (show n_withinI n lo hi = lo + (n.tmod (hi - lo + 1) + hi - lo + 1) by unfold n_withinI; rw [if_pos hneg])
    go_enter Tryd.func16, Tryd.ntmps16
    go_wp2
    go_ret
    exact ⟨ret_int HW.out.symm, rfl⟩
  · have HW := hid (show n_withinI n lo hi = lo + n.tmod (hi - lo + 1) by unfold n_withinI; rw [if_neg hneg])
    go_enter Tryd.func16, Tryd.ntmps16
    go_wp2
    go_ret
    exact ⟨ret_int HW.out.symm, rfl⟩

end Go.Proofs.YtbdlicomkpnalaaDoor

namespace Go.Proofs.YtbdlicomkpnalaaDoor
open Go.RowKit

theorem SlB.some {w : World} {a : Option Addr} {len cap : Nat} {l : List UInt8} (h : SlB w (.slice a len cap) l) (h0 : 0 < l.length) : ∃ x, a = some x ∧ len = l.length ∧ ∀ j (hj : j < l.length), w.cell? (x.add j) = some (.int .u8 (l[j].toNat : Int)) := by
  rcases h with ⟨c, e, rfl⟩ | ⟨x, c, e, hc⟩
  · simp at h0
  · obtain ⟨rfl, rfl, rfl⟩ := Value.slice.inj e
    exact ⟨x, rfl, rfl, hc⟩

theorem SlB.length {w : World} {a : Option Addr} {len cap : Nat} {l : List UInt8} (h : SlB w (.slice a len cap) l) : len = l.length := by
  rcases h with ⟨c, e, rfl⟩ | ⟨x, c, e, hc⟩
  · obtain ⟨_, rfl, _⟩ := Value.slice.inj e
    rfl
  · obtain ⟨_, rfl, _⟩ := Value.slice.inj e
    rfl

theorem byte_ne {a b : UInt8} (h : a ≠ b) : ((a.toNat : Int) != (b.toNat : Int)) = true := by
  rw [bne_iff_ne]
  intro e
  exact h (UInt8.toNat_inj.1 (by omega))

set_option maxHeartbeats 1000000 in
set_option maxRecDepth 100000 in
theorem same_any (a b : Option Addr) (la lb ca cb : Nat) (x y : List UInt8) (w : World) (hx : SlB w (.slice a la ca) x) (hy : SlB w (.slice b lb cb) y) (hxs : x.length ≤ 140737488351232) (hys : y.length ≤ 140737488351232) :
    Calls Tryd.prog 37 #[.slice a la ca, .slice b lb cb] w fun e w' => e = .returned (.bool (x == y)) ∧ Below w.heap.size w w' := by
  obtain rfl := hx.length
  obtain rfl := hy.length
  by_cases hlen : x.length = y.length
  · have hl' : ((x.length : Int) != (y.length : Int)) = false := by simp; omega
    have hle1 : x.length ≤ y.length := by omega
    have hle2 : y.length ≤ x.length := by omega
    clear hlen
    go_enter Tryd.func37, Tryd.ntmps37
    go_wp2
    go_loopw [5] (fun i wr => ∃ k : Nat, k ≤ x.length ∧ i = .int .i64 k ∧ x.take k = y.take k ∧ Below w.heap.size w wr) (fun i _ => x.length - (intOf i).toNat)
    case atStart => exact ⟨0, Nat.zero_le _, rfl, rfl, Below.refl _ _⟩
    case round =>
      obtain ⟨k, hk, rfl, heq, hbw⟩ := hrel
      have HQ := hid heq
      clear heq
      by_cases hlt : k < x.length
      · obtain ⟨p, rfl, _, hpc⟩ := (hx.kept hbw).some (by omega)
        obtain ⟨q, rfl, _, hqc⟩ := (hy.kept hbw).some (by omega)
        have hky : k < y.length := by omega
        have c1 := hpc k hlt
        have c2 := hqc k hky
        have HX := hid (List.take_succ_eq_append_getElem hlt)
        have HY := hid (List.take_succ_eq_append_getElem hky)
        generalize hgx : x[k] = cx at *
        generalize hgy : y[k] = cy at *
        have hki : (k : Int) < (x.length : Int) := by omega
        have hki2 : (k : Int) < (y.length : Int) := by omega
        clear hpc hqc
        by_cases hc : cx = cy
        · have hc' : ((cx.toNat : Int) != (cy.toNat : Int)) = false := by rw [hc]; simp
          have HC := hid hc
          clear hc
          go_wp2
          go_quiet (fail)
          go_wp2
          go_roundw
          case rel => exact ⟨k + 1, by omega, by go_num, by rw [HX.out, HY.out, HQ.out, HC.out], below_drewN hbw _⟩
          case measure => simp [intOf]; omega
        · have hc' := byte_ne hc
          have HC := hid hc
          clear hc
          go_wp2
          go_quiet (fail)
          go_wp2
          go_ret
          refine ⟨ret_bool ?_, below_drewN hbw _⟩
          symm
          rw [beq_eq_false_iff_ne]
          intro h
          subst h
          exact HC.out (hgx.symm.trans hgy)
      · go_wp2
        go_ret
        refine ⟨ret_bool ?_, hbw⟩
        have h1 := HQ.out
        rw [List.take_of_length_le (by omega), List.take_of_length_le (by omega)] at h1
        simp [h1]
  · have hl' : ((x.length : Int) != (y.length : Int)) = true := by simp; omega
    go_enter Tryd.func37, Tryd.ntmps37
    go_wp2
    go_ret
    refine ⟨ret_bool ?_, Below.refl _ _⟩
    symm
    rw [beq_eq_false_iff_ne]
    intro h
    exact hlen (congrArg List.length h)

theorem byteCells_get (l : List UInt8) (j : Nat) (h : j < l.length) : (Lib.byteCells l)[j]? = some (.int .u8 (l[j].toNat : Int)) := by simp [Lib.byteCells, h]

theorem byteCells_set (l : List UInt8) (j : Nat) (c : UInt8) : (Lib.byteCells l).set j (.int .u8 (c.toNat : Int)) = Lib.byteCells (l.set j c) := by simp [Lib.byteCells, List.map_set]

theorem byteCells_rep (n : Nat) : Lib.byteCells (List.replicate n 0) = List.replicate n (.int .u8 0) := by simp [Lib.byteCells]

theorem byteCells_one_cell (l : List UInt8) : ∀ v ∈ Lib.byteCells l, v.oneCell' = true := by
  intro v hv
  simp only [Lib.byteCells, List.mem_map] at hv
  obtain ⟨b, _, rfl⟩ := hv
  rfl

theorem roomy_step (x : List UInt8) (c : UInt8) (k : Nat) (h : k < 80) : (x ++ (List.replicate k c ++ List.replicate (80 - k) 0)).set (x.length + k) c = x ++ (List.replicate (k + 1) c ++ List.replicate (80 - (k + 1)) 0) := by
  rw [List.set_append_right _ _ (by omega), List.set_append_right _ _ (by simp)]
  have e1 : x.length + k - x.length - (List.replicate k c).length = 0 := by simp
  have e2 : List.replicate (80 - k) (0 : UInt8) = 0 :: List.replicate (80 - (k + 1)) 0 := by
    rw [← List.replicate_succ]; congr 1; omega
  rw [e1, e2, List.replicate_succ', List.append_assoc]
  rfl

set_option maxHeartbeats 1000000 in
set_option maxRecDepth 100000 in
theorem roomy_any (a : Option Addr) (la ca : Nat) (x : List UInt8) (c : UInt8) (w : World) (hx : SlB w (.slice a la ca) x) (hxs : x.length ≤ 1000000) :
    Calls Tryd.prog 10 #[.slice a la ca, .int .u8 c.toNat] w fun e w' => e = .returned (.slice (some ⟨w.heap.size, 0, none⟩) (x.length + 80) (x.length + 80)) ∧
      SlB w' (.slice (some ⟨w.heap.size, 0, none⟩) (x.length + 80) (x.length + 80)) (x ++ List.replicate 80 c) ∧ Below w.heap.size w w' := by
  obtain rfl := hx.length
  obtain ⟨i0, hi, hz0, hz1, hz2⟩ := info_parts infoByte
  go_enter Tryd.func10, Tryd.ntmps10
  go_wp2_with (at_make; refine wpList_make_full _ rfl _ _ 22 rfl w.heap.size 5 i0 (.int .u8 0) 1 Tryd.underlying22 hi hz0 hz1 .i64 .i64 _ _ (x.length + 80) rfl rfl (by omega) (by omega) (by rw [hz2]; omega) (by unfold maxLen; omega) (Nat.le_refl _) ?_)
  intro w0 hown0 hgrow0
  have hb0 : Below w.heap.size w w0 := (Below.refl _ w).grown hgrow0 (Nat.le_refl _) (fun k hk => by simp at hk)
  clear hgrow0
  have hx0 := hx.kept hb0
  obtain ⟨cur, hcur⟩ : ∃ cur : Array Value, w0.heap[w.heap.size]? = some (.cells cur 5 (0, 0)) ∧ cur.toList = List.replicate (x.length + 80) (.int .u8 0) := by
    rcases hown0.2 with ⟨h', _⟩ | ⟨g', cap', cur, h', _, hg, hnc, hcm, hcs, htake⟩
    · simp at h'
    · simp only [Value.slice.injEq, Option.some.injEq, Addr.mk.injEq, and_true, true_and] at h'
      obtain ⟨rfl, rfl⟩ := h'
      refine ⟨cur, hg, ?_⟩
      rw [List.take_of_length_le (by rw [Array.length_toList, hcs]; exact Nat.le_refl _)] at htake
      rw [htake, toList_madeCells_one]
  clear hown0
  have hg0 : w0.heap[w.heap.size]? = some (.cells (List.replicate (x.length + 80) (.int .u8 0)).toArray 5 (0, 0)) := by
    rw [hcur.1]; congr 2; rw [← hcur.2]
  clear hcur
  have hsz1 : (Tryd.prog.info? 5).map (·.size) = some 1 := by rw [hi]; simp [hz1]
  go_wp2_with (refine wpList_copy_splice rfl _ _ 22 22 rfl 5 Tryd.underlying22 hsz1 _ _ _ _ _ _ rfl rfl w.heap.size 0 _ 5 hg0 (Lib.byteCells x) ?k1 ?k2 ?k3 (byteCells_one_cell x) w.heap.size w hb0 (Nat.le_refl _) ?_)
  case k1 => rw [Lib.byteCells_length]; simp
  case k2 =>
    intro hpos
    rw [Lib.byteCells_length] at hpos
    obtain ⟨p, rfl, _, hpc⟩ := hx0.some hpos
    have key : ∀ j v, (Lib.byteCells x)[j]? = some v → w0.cell? (p.add j) = some v := by
      intro j v hj
      have hj' : j < x.length := by
        have := (List.getElem?_eq_some_iff.1 hj).1
        rwa [Lib.byteCells_length] at this
      rw [hpc j hj', ← byteCells_get x j hj']
      exact hj
    first | exact ⟨rfl, p, rfl, key⟩ | exact ⟨p, rfl, key⟩
  case k3 => rw [Lib.byteCells_length]; simp
  intro w1 hg1 hb1
  clear hx0 hg0 hb0
  have hg2 : w1.heap[w.heap.size]? = some (.cells (Lib.byteCells (x ++ List.replicate 80 0)).toArray 5 (0, 0)) := by
    rw [hg1.out]
    congr 3
    unfold splice
    rw [Lib.byteCells_append, byteCells_rep, Lib.byteCells_length]
    simp
  clear hg1
  go_wp2
  go_loopw [6] (fun i wr => ∃ k : Nat, k ≤ 80 ∧ i = .int .i64 ((x.length + k : Nat) : Int) ∧ wr.heap[w.heap.size]? = some (.cells (Lib.byteCells (x ++ (List.replicate k c ++ List.replicate (80 - k) 0))).toArray 5 (0, 0)) ∧ Below w.heap.size w wr) (fun i _ => x.length + 80 - (intOf i).toNat)
  case atStart => exact ⟨0, by omega, by go_num, by simpa using hg2, hb1⟩
  case round =>
    obtain ⟨k, hk, rfl, hg, hbw⟩ := hrel
    by_cases hlt : k < 80
    · have hf : wr.frozen? ⟨w.heap.size, x.length + k, none⟩ = false := Lib.frozen_of_heap hg _
      have hcell : ∃ v, wr.cell? ⟨w.heap.size, x.length + k, none⟩ = some v := by
        rw [Lib.cell_of_heap hg]
        refine ⟨_, Array.getElem?_eq_getElem ?_⟩
        simp [Lib.byteCells]; omega
      obtain ⟨v, hcell⟩ := hcell
      have HN := hid (Lib.heap_setCell_same (i := x.length + k) hg (.int .u8 (c.toNat : Int)))
      have HG := hid hg
      clear hg
      go_wp2
      go_roundw
      case rel =>
        refine ⟨k + 1, by omega, by go_num, ?_, hbw.setCell (p := ⟨w.heap.size, x.length + k, none⟩) (Nat.le_refl _) _⟩
        rw [HN.out]
        congr 2
        rw [List.setIfInBounds_toArray, byteCells_set, roomy_step x c k hlt]
      case measure => simp [intOf]; omega
    · obtain rfl : k = 80 := by omega
      go_wp2
      go_ret
      refine ⟨rfl, ?_, hbw⟩
      refine .inr ⟨⟨w.heap.size, 0, none⟩, x.length + 80, by simp, fun j hj => ?_⟩
      rw [Addr.add_lit, Nat.zero_add, Lib.cell_of_heap hg]
      simp at hj
      have := byteCells_get (x ++ List.replicate 80 c) j (by simpa using hj)
      simpa using this

set_option maxHeartbeats 1000000 in
set_option maxRecDepth 100000 in
theorem intact_any (g : Nat) (a : Option Addr) (la ca : Nat) (x : List UInt8) (c : UInt8) (w : World) (hg : SlB w (.slice (some ⟨g, 0, none⟩) (x.length + 80) (x.length + 80)) (x ++ List.replicate 80 c)) (hx : SlB w (.slice a la ca) x) (hxs : x.length ≤ 1000000) :
    Calls Tryd.prog 14 #[.slice (some ⟨g, 0, none⟩) (x.length + 80) (x.length + 80), .slice a la ca, .int .u8 c.toNat] w fun e w' => e = .returned (.bool true) ∧ Below w.heap.size w w' := by
  obtain rfl := hx.length
  have hne : ((x.length : Int) + 80 != (x.length : Int) + 80) = false := by simp
  have hfst := hg.take x.length (by simp)
  rw [List.take_left] at hfst
  go_enter Tryd.func14, Tryd.ntmps14
  go_wp2_with fail
  refine (same_any _ _ _ _ _ _ x x w hfst hx (by omega) (by omega)).mono ?_
  rintro e w1 ⟨rfl, hb1⟩
  have hg1 := hg.kept hb1
  have hxx : (x == x) = true := by simp
  rw [hxx]
  clear hfst hg hxx
  go_wp2
  clear hne
  go_loopw [7] (fun i wr => ∃ k : Nat, k ≤ 80 ∧ i = .int .i64 ((x.length + k : Nat) : Int) ∧ wr = w1) (fun i _ => x.length + 80 - (intOf i).toNat)
  case atStart => exact ⟨0, by omega, by go_num, rfl⟩
  case round =>
    obtain ⟨k, hk, rfl, rfl⟩ := hrel
    by_cases hlt : k < 80
    · obtain ⟨p, hp, hq, hpc⟩ := hg1.some (by simp)
      obtain rfl := Option.some.inj hp
      have hc := hpc (x.length + k) (by simp; omega)
      rw [Addr.add_lit, Nat.zero_add, List.getElem_append_right (by omega), List.getElem_replicate] at hc
      clear hpc hp hq hg1 hx
      go_wp2
      go_roundw
      case rel => exact ⟨k + 1, by omega, by go_num, by first | rfl | trivial⟩
      case measure => simp [intOf]; omega
    · obtain rfl : k = 80 := by omega
      clear hg1 hx
      go_wp2
      go_ret
      exact ⟨rfl, hb1⟩

end Go.Proofs.YtbdlicomkpnalaaDoor

namespace Go.Proofs.YtbdlicomkpnalaaDoor

def blC (c : UInt8) : Bool := blankI c.toNat
def strip (l : List UInt8) : List UInt8 := (((l.dropWhile blC).reverse).dropWhile blC).reverse

theorem dropBl_all (A X : List UInt8) (h : A.all blC = true) : (A ++ X).dropWhile blC = X.dropWhile blC := by
  induction A with
  | nil => rfl
  | cons a A ih =>
    simp only [List.all_cons, Bool.and_eq_true] at h
    simp [List.dropWhile_cons, h.1, ih h.2]

theorem dropWhile_stop (c : UInt8) (X : List UInt8) (h : blC c = false) : (c :: X).dropWhile blC = c :: X := by simp [List.dropWhile_cons, h]

theorem all_reverse (A : List UInt8) (h : A.all blC = true) : A.reverse.all blC = true := by simpa using h

theorem strip_parts (A M B : List UInt8) (hA : A.all blC = true) (hB : B.all blC = true) (hM : M = [] ∨ (∃ c r, M = c :: r ∧ blC c = false) ∧ ∃ r c, M = r ++ [c] ∧ blC c = false) : strip (A ++ M ++ B) = M := by
  unfold strip
  rw [List.append_assoc, dropBl_all A _ hA]
  rcases hM with rfl | ⟨⟨c, r, e1, h1⟩, ⟨r2, c2, e2, h2⟩⟩
  · have : B.dropWhile blC = [] := by
      have := dropBl_all B [] hB
      simpa using this
    simp [this]
  · rw [e1, List.cons_append, dropWhile_stop _ _ h1, ← List.cons_append, ← e1, List.reverse_append, dropBl_all _ _ (all_reverse B hB), e2, List.reverse_append]
    simp [dropWhile_stop, h2, List.dropWhile_cons]

/-- The text between two places, with blanks alone outside. -/
theorem strip_between (l : List UInt8) (k m : Nat) (hkm : k ≤ m) (hm : m ≤ l.length) (hA : (l.take k).all blC = true) (hB : (l.drop m).all blC = true)
    (h : k = m ∨ ∃ h1 : k < l.length, ∃ h2 : m - 1 < l.length, k < m ∧ blC l[k] = false ∧ blC l[m - 1] = false) : strip l = (l.take m).drop k := by
  have e : l = l.take k ++ (l.take m).drop k ++ l.drop m := by
    have h1 : l.take k = (l.take m).take k := by rw [List.take_take]; congr 1; omega
    rw [h1, List.take_append_drop, List.take_append_drop]
  conv => lhs; rw [e]
  refine strip_parts _ _ _ hA hB ?_
  rcases h with rfl | ⟨h1, h2, hlt, c1, c2⟩
  · left; simp
  · right
    refine ⟨⟨l[k], (l.take m).drop (k + 1), ?_, c1⟩, ⟨(l.take (m - 1)).drop k, l[m - 1], ?_, c2⟩⟩
    · rw [List.drop_eq_getElem_cons (by simp; omega)]; simp
    · have e2 : l.take m = l.take (m - 1) ++ [l[m - 1]] := by
        have := List.take_succ_eq_append_getElem h2
        rwa [show m - 1 + 1 = m by omega] at this
      rw [e2, List.drop_append]
      have : k - (l.take (m - 1)).length = 0 := by simp; omega
      rw [this]; rfl

end Go.Proofs.YtbdlicomkpnalaaDoor

namespace Go.Proofs.YtbdlicomkpnalaaDoor
open Go.RowKit

theorem ret_str {l : List UInt8} {t : ByteArray} (h : t.data.toList = l) : Ending.returned (.string t) = .returned (.string ⟨l.toArray⟩) := by
  rw [← h]

theorem strip_extract (s : ByteArray) (k m : Nat) (hkm : k ≤ m) (hm : m ≤ s.size) (hA : (s.data.toList.take k).all blC = true) (hB : (s.data.toList.drop m).all blC = true)
    (h : k = m ∨ ∃ h1 : k < s.size, ∃ h2 : m - 1 < s.size, k < m ∧ blankI (s[k].toNat : Int) = false ∧ blankI (s[m - 1].toNat : Int) = false) : (s.extract k m).data.toList = strip s.data.toList := by
  rw [Lib.extract_data, strip_between s.data.toList k m hkm (by simpa using hm) hA hB ?_, List.drop_take]
  rcases h with h | ⟨h1, h2, h3, c1, c2⟩
  · exact .inl h
  · exact .inr ⟨by simpa using h1, by simpa using h2, h3, c1, c2⟩

end Go.Proofs.YtbdlicomkpnalaaDoor

namespace Go.Proofs.YtbdlicomkpnalaaDoor

def ten (n d : Int) : Int := if (9223372036854775807 - d) / 10 < n then 9223372036854775807 else n * 10 + d

def numI (l : List UInt8) : Int := l.foldl (fun n c => ten n ((c.toNat : Int) - 48)) 0
def digP (c : UInt8) : Bool := digitI c.toNat
def intV (l : List UInt8) : Int := if l.all digP && !l.isEmpty then numI l else 0
def intOk (l : List UInt8) : Bool := l.all digP && !l.isEmpty

theorem numI_snoc (l : List UInt8) (c : UInt8) : numI (l ++ [c]) = ten (numI l) ((c.toNat : Int) - 48) := by simp [numI]

theorem ten_range (n d : Int) (h : 0 ≤ n ∧ n ≤ 9223372036854775807) (hd : 0 ≤ d ∧ d ≤ 9) : 0 ≤ ten n d ∧ ten n d ≤ 9223372036854775807 := by
  unfold ten; split <;> omega

theorem numI_range (l : List UInt8) (h : l.all digP = true) : 0 ≤ numI l ∧ numI l ≤ 9223372036854775807 := by
  suffices H : ∀ (l : List UInt8) (n : Int), 0 ≤ n ∧ n ≤ 9223372036854775807 → l.all digP = true → 0 ≤ l.foldl (fun n c => ten n ((c.toNat : Int) - 48)) n ∧ l.foldl (fun n c => ten n ((c.toNat : Int) - 48)) n ≤ 9223372036854775807 from H l 0 (by omega) h
  intro l
  induction l with
  | nil => intro n h _; exact h
  | cons c l ih =>
    intro n hn hall
    simp only [List.all_cons, Bool.and_eq_true] at hall
    refine ih _ (ten_range n _ hn ?_) hall.2
    have := hall.1
    simp [digP, digitI] at this
    omega

end Go.Proofs.YtbdlicomkpnalaaDoor

namespace Go.Proofs.YtbdlicomkpnalaaDoor
open Go.RowKit

end Go.Proofs.YtbdlicomkpnalaaDoor

namespace Go.Proofs.YtbdlicomkpnalaaDoor
open Go.RowKit

set_option maxHeartbeats 400000 in
theorem rblank_any (c : Int) (w : World) :
    Calls Tryd.prog 76 #[.int .u8 c] w fun e w' => e = .returned (.bool (blankI c)) ∧ w = w' := by
  go_enter Tryd.func76, Tryd.ntmps76
  go_wp2
  all_goals
    go_ret
    exact ⟨ret_bool (by simp [blankI, Bool.or_assoc, *]), rfl⟩

set_option maxHeartbeats 1000000 in
theorem rlower_any (s : ByteArray) (w : World) (hs : s.size ≤ 140737488351232) :
    Calls Tryd.prog 77 #[.string s] w fun e w' => e = .returned (.string ⟨(low s.data.toList).toArray⟩) ∧ Below w.heap.size w w' := by
  have hcv := run_bytes_of_string (P := Tryd.prog) w 9 22 5 s Tryd.underlying9 Tryd.underlying22 Tryd.underlying5
  have hcap := grownCap_ge w s.size 0 5
  have hr0 := rowIs_bytes w 5 s (grownCap w s.size 0 5) hcap
  have hb0 : Below w.heap.size w (w.drew.alloc (.cells (bytesRow s (grownCap w s.size 0 5)) 5 ((bytesRow s (grownCap w s.size 0 5)).size, (bytesRow s (grownCap w s.size 0 5)).size + 1))) := (Below.refl _ w).drew.alloc (Nat.le_refl _) _
  generalize (w.drew.alloc (.cells (bytesRow s (grownCap w s.size 0 5)) 5 ((bytesRow s (grownCap w s.size 0 5)).size, (bytesRow s (grownCap w s.size 0 5)).size + 1))) = w0 at hcv hr0 hb0
  generalize grownCap w s.size 0 5 = cap at hcv hcap
  go_enter Tryd.func77, Tryd.ntmps77
  go_wp2
  clear hcv
  go_loopw [4] (fun i wr => ∃ k : Nat, k ≤ s.size ∧ i = .int .i64 k ∧ rowIs wr w.heap.size 5 (lowTo s.data.toList k) ∧ Below w.heap.size w wr)
    (fun i _ => s.size - (intOf i).toNat)
  case atStart => exact ⟨0, Nat.zero_le _, rfl, by rw [lowTo_zero]; exact hr0, hb0⟩
  case round =>
    obtain ⟨k, hk, rfl, hr, hbw⟩ := hrel
    by_cases hlt : k < s.size
    · have hl : k < s.data.toList.length := by simpa using hlt
      have hl' : k < (lowTo s.data.toList k).length := by rw [lowTo_length]; exact hl
      have hc := hr.cell k hl'
      rw [lowTo_at _ _ hl] at hc
      have hf := hr.frozen k hl'
      have hsucc := lowTo_succ s.data.toList k hl
      have hat := lowTo_at s.data.toList k hl hl'
      generalize s.data.toList[k] = c at hc hsucc hat
      have HS := hid hsucc
      have HAt := hid hat
      clear hsucc hat
      have hc8 : c.toNat < 256 := c.toNat_lt
      by_cases hu : 65 ≤ c.toNat ∧ c.toNat ≤ 90
      · have h1 : (65 : Int) ≤ (c.toNat : Int) := by omega
        have h2 : (c.toNat : Int) ≤ 90 := by omega
        have HL := hid (lowC_yes c hu)
        clear hu
        go_wp2
        go_roundw
        case rel =>
          refine ⟨k + 1, by omega, by go_num, ?_, hbw.setCell (p := ⟨w.heap.size, k, none⟩) (Nat.le_refl _) _⟩
          rw [HS.out, ← HL.out]
          exact hr.set k _
        case measure => simp [intOf]; omega
      · have HL := hid (lowC_no c hu)
        have hu' : (c.toNat : Int) < 65 ∨ 90 < (c.toNat : Int) := by omega
        clear hu
        rcases hu' with h1 | h1
        all_goals
          go_wp2
          go_roundw
          case rel =>
            refine ⟨k + 1, by omega, by go_num, ?_, hbw⟩
            have e : lowC c = (lowTo s.data.toList k)[k] := by rw [HL.out, HAt.out]
            rw [HS.out, e, List.set_getElem_self]
            exact hr
          case measure => simp [intOf]; omega
    · have hk' : k = s.data.toList.length := by simp; omega
      have hr' : rowIs wr w.heap.size 5 (low s.data.toList) := by rw [← lowTo_all, ← hk']; exact hr
      clear hr hk'
      have hcv := hr'.string (P := Tryd.prog) (src := 22) (dst := 9) (cap := cap) Tryd.underlying22 Tryd.underlying5 Tryd.underlying9
      rw [show (low s.data.toList).length = s.size by simp [low]] at hcv
      go_wp2
      go_ret
      exact ⟨rfl, hbw⟩

def strN : Value → Nat
  | .string s => s.size
  | _ => 0

theorem data_ext {t u : ByteArray} (h : t.data.toList = u.data.toList) : t = u := by
  apply ByteArray.ext
  exact Array.toList_inj.1 h

theorem extract_one (t : ByteArray) (h : 0 < t.size) : t.data.toList = t[0] :: (t.extract 1 t.size).data.toList := by
  rw [extract_drop]
  have := drop_cons t 0 h
  simpa using this

theorem extract_last (u : ByteArray) (h : u.size - 1 < u.size) : u.data.toList = (u.extract 0 (u.size - 1)).data.toList ++ [u[u.size - 1]] := by
  rw [Lib.extract_data]
  have := take_snoc u (u.size - 1) h
  rw [take_all u (u.size - 1 + 1) (by omega)] at this
  simpa using this

theorem strip_ref (s A M B : List UInt8) (e : s = A ++ M ++ B) (hA : A.all blC = true) (hB : B.all blC = true) (h : M = [] ∨ (∃ c r, M = c :: r ∧ blC c = false) ∧ ∃ r c, M = r ++ [c] ∧ blC c = false) : M = strip s := by
  rw [e, strip_parts A M B hA hB h]

def signsL : List UInt8 := [33, 35, 36, 37, 38, 39, 42, 43, 45, 46, 94, 95, 96, 124, 126]

/-- The first k signs, or a letter, or a digit. -/
def tokTo (c : Int) (k : Nat) : Bool := (letterI c || digitI c) || (signsL.take k).any fun x => c == (x.toNat : Int)

theorem tokTo_zero (c : Int) : tokTo c 0 = (letterI c || digitI c) := by simp [tokTo]

theorem tokTo_all (c : Int) : tokTo c 15 = tokI c := by
  have : signsL.take 15 = signsL := rfl
  unfold tokTo tokI signI
  rw [this]
  simp only [signsL, List.any_cons, List.any_nil, Bool.or_false]
  rw [Bool.or_comm]
  rfl

theorem tokTo_succ (c : Int) (k : Nat) (h : k < (ByteArray.mk #[33, 35, 36, 37, 38, 39, 42, 43, 45, 46, 94, 95, 96, 124, 126]).size) : tokTo c (k + 1) = (tokTo c k || c == ((ByteArray.mk #[33, 35, 36, 37, 38, 39, 42, 43, 45, 46, 94, 95, 96, 124, 126])[k].toNat : Int)) := by
  have h' : k < signsL.length := h
  unfold tokTo
  rw [List.take_succ_eq_append_getElem h', List.any_append, Bool.or_assoc]
  have e : [signsL[k]].any (fun x => c == (x.toNat : Int)) = (c == (signsL[k].toNat : Int)) := by simp
  rw [e]
  simp only [Bool.or_assoc]
  rfl

end Go.Proofs.YtbdlicomkpnalaaDoor

namespace Go.Proofs.YtbdlicomkpnalaaDoor
open Go.RowKit

/-- A control byte, or one of the first m of t. -/
def inTo (c : Int) (t : List UInt8) (m : Nat) : Bool := (decide (c < 32) || decide (126 < c)) || (t.take m).any fun x => c == (x.toNat : Int)

theorem inTo_zero (c : Int) (t : List UInt8) : inTo c t 0 = (decide (c < 32) || decide (126 < c)) := by simp [inTo]

theorem inTo_succ (c : Int) (t : ByteArray) (k : Nat) (h : k < t.size) : inTo c t.data.toList (k + 1) = (inTo c t.data.toList k || c == (t[k].toNat : Int)) := by
  unfold inTo
  rw [take_snoc t k h, List.any_append, Bool.or_assoc]
  have e : [t[k]].any (fun x => c == (x.toNat : Int)) = (c == (t[k].toNat : Int)) := by simp
  rw [e]
  simp only [Bool.or_assoc]

theorem inTo_all (c : Int) (t : ByteArray) : inTo c t.data.toList t.size = ((decide (c < 32) || decide (126 < c)) || t.data.toList.any fun x => c == (x.toNat : Int)) := by
  unfold inTo
  rw [take_all t t.size (by omega)]

def setL (set : Int) : List UInt8 :=
  if set = 2 then [32, 34, 60, 62, 96] else if set = 3 then [32, 34, 35, 60, 62] else if set = 4 then [32, 34, 35, 60, 62, 39] else if set = 5 then [32, 34, 35, 60, 62, 63, 94, 96, 123, 125] else if set = 6 then [32, 34, 35, 60, 62, 63, 94, 96, 123, 125, 47, 58, 59, 61, 64, 91, 92, 93, 124] else []

theorem setL_in (c set : Int) (h : 1 ≤ set ∧ set ≤ 6) : ((decide (c < 32) || decide (126 < c)) || (setL set).any fun x => c == (x.toNat : Int)) = inSetI c set := by
  rw [Bool.eq_iff_iff, inSetI_iff]
  have h' : set = 1 ∨ set = 2 ∨ set = 3 ∨ set = 4 ∨ set = 5 ∨ set = 6 := by omega
  rcases h' with rfl | rfl | rfl | rfl | rfl | rfl <;> simp [setL, inSetP] <;> omega

theorem inSet_outer (c set : Int) (h : ¬ (1 ≤ set ∧ set ≤ 6)) : inSetI c set = false := by
  have : ¬ inSetP c set := fun h' => h h'.1
  simp [inSetI, this]

end Go.Proofs.YtbdlicomkpnalaaDoor

namespace Go.Proofs.YtbdlicomkpnalaaDoor
open Go.RowKit

theorem extract_hex : ∀ n, n < 16 → ((ByteArray.mk #[48, 49, 50, 51, 52, 53, 54, 55, 56, 57, 65, 66, 67, 68, 69, 70]).extract n (n + 1)).data.toList = [hexD n] := by decide +kernel

/-- A text's one byte. -/
theorem extract_at (s : ByteArray) (k : Nat) (h : k < s.size) : (s.extract k (k + 1)).data.toList = [s[k]] := by
  rw [Lib.extract_data]
  have h' : k < s.data.toList.length := by simpa using h
  have := List.drop_eq_getElem_cons h'
  rw [List.take_drop] at *
  simp [this, List.drop_take]
  rfl

def hexI (c : Int) : Int := if is16I c then val16I c else -1

end Go.Proofs.YtbdlicomkpnalaaDoor

namespace Go.Proofs.YtbdlicomkpnalaaDoor
open Go.RowKit

theorem hexI_yes (c : Int) (h : is16I c = true) : hexI c = val16I c := by simp [hexI, h]
theorem hexI_no (c : Int) (h : is16I c = false) : hexI c = -1 := by simp [hexI, h]

/-- An append to a row of the call's own, in a region that draws its order. -/
theorem step_append_own {P : Program} {ops : Array Oper} {o : Oper} {a : Act} {w : World} {K : Act → World → Prop} {Q : Exit → Act → World → Prop} {E : Prop} (hgd : o.guard = none) (s x : Operand) (t : TypeId)
    (ho : o.op = .call { callee := .builtin .append, args := #[s, x], argTypes := #[t, t] })
    (base : Nat) (e : TypeId) (i : TypeInfo) (z : Value) (size bytes : Nat) (ht : P.underlying t = some (.slice e)) (hi : P.info? e = some i) (hz : i.zero = some z)
    (hsize : i.size = size) (hby : i.bytes = bytes) (hzs : z.cells.size = size) (hsz : 0 < size)
    (v : Value) (n : Nat) (xs : List Value) (hs : a.eval s = v) (hown : w.ownsRow base e size v n xs)
    (ad : Addr) (m c : Nat) (news : List Value) (hx : a.eval x = .slice (some ad) m c) (hl : news.length = m * size) (hnews : ∀ j u, news[j]? = some u → w.cell? (ad.add j) = some u) (h1 : ∀ u ∈ news, u.oneCell' = true)
    (h63 : n + m ≤ maxLen) (hbytes : (n + m) * bytes ≤ 140737488355328) (hbase : base ≤ w.heap.size)
    (h : ∀ v' w', w'.ownsRow base e size v' (n + m) (xs ++ news) → w.grownBy w' v.ownBlock → (v' = .slice none 0 0 ↔ v = .slice none 0 0 ∧ m = 0) → K (a.put o.dst v') w') :
    if Region.wanted o (yielded ops a.tmps) = true then Oper.wp P o a w K Q else E := by
  rw [if_pos (by simp [Region.wanted, hgd])]
  exact wp_append_own w s x t ho base e i z size bytes ht hi hz hsize hby hzs hsz v n xs hs hown ad m c news hx hl hnews h1 h63 hbytes hbase h

theorem pcd_at37 (s : ByteArray) (k : Nat) (h : k + 2 < s.size) (h37 : s[k] = 37) : pcd (s.data.toList.drop k) = if is16I s[k + 1].toNat && is16I s[k + 2].toNat then (UInt8.ofNat (val16I s[k + 1].toNat * 16 + val16I s[k + 2].toNat).toNat, true) else (37, false) := by
  rw [drop_cons s k (by omega), drop_cons s (k + 1) (by omega), drop_cons s (k + 2) (by omega), h37]
  exact pcd_three _ _ _

theorem pcd_short_at (s : ByteArray) (k : Nat) (hk : k < s.size) (h : ¬ k + 2 < s.size) : pcd (s.data.toList.drop k) = (s[k], false) := by
  rw [drop_cons s k hk]
  refine pcd_short _ _ ?_
  simp
  omega

theorem pcd_other_at (s : ByteArray) (k : Nat) (hk : k < s.size) (h : s[k] ≠ 37) : pcd (s.data.toList.drop k) = (s[k], false) := by
  rw [drop_cons s k hk]
  exact pcd_other _ _ h

theorem unpct_at (s : ByteArray) (k : Nat) (hk : k < s.size) (c : UInt8) (b : Bool) (h : pcd (s.data.toList.drop k) = (c, b)) : unpct (s.data.toList.drop k) = c :: unpct (s.data.toList.drop (if b then k + 3 else k + 1)) := by
  have hd := drop_cons s k hk
  have hu := unpct_cons s[k] (s.data.toList.drop (k + 1))
  rw [← hd] at hu
  rw [hu, h]
  cases b
  · rfl
  · simp [List.drop_drop]

end Go.Proofs.YtbdlicomkpnalaaDoor

namespace Go.Proofs.YtbdlicomkpnalaaDoor

theorem d64_facts : ∀ k, k < 64 → val64I (d64 k).toNat = k ∧ is64 (d64 k) = true ∧ d64 k ≠ 61 ∧ blankI (d64 k).toNat = false := by decide +kernel

theorem d64_val (k : Nat) (h : k < 64) : (val64I (d64 k).toNat).toNat = k := by rw [(d64_facts k h).1]; rfl

/-- The digits without the padding. -/
def eD : List UInt8 → List UInt8
  | [] => []
  | [a] => [d64 (a.toNat / 4), d64 (a.toNat % 4 * 16)]
  | [a, b] => [d64 (a.toNat / 4), d64 (a.toNat % 4 * 16 + b.toNat / 16), d64 (b.toNat % 16 * 4)]
  | a :: b :: c :: r => [d64 (a.toNat / 4), d64 (a.toNat % 4 * 16 + b.toNat / 16), d64 (b.toNat % 16 * 4 + c.toNat / 64), d64 (c.toNat % 64)] ++ eD r

def padE : List UInt8 → List UInt8
  | [] => []
  | [_] => [61, 61]
  | [_, _] => [61]
  | _ :: _ :: _ :: r => padE r

theorem e64_split (l : List UInt8) : e64 l = eD l ++ padE l := by
  match l with
  | [] => rfl
  | [a] => rfl
  | [a, b] => rfl
  | a :: b :: c :: r =>
    have := e64_split r
    simp [e64, eD, padE, this]

theorem padE_forms (l : List UInt8) : padE l = [] ∨ padE l = [61] ∨ padE l = [61, 61] := by
  match l with
  | [] => simp [padE]
  | [a] => simp [padE]
  | [a, b] => simp [padE]
  | a :: b :: c :: r => exact padE_forms r

theorem eD_mem (l : List UInt8) : ∀ d ∈ eD l, ∃ k, k < 64 ∧ d = d64 k := by
  match l with
  | [] => intro d h; simp [eD] at h
  | [a] =>
    intro d h
    have ha := a.toNat_lt
    simp [eD] at h
    rcases h with rfl | rfl
    · exact ⟨_, by omega, rfl⟩
    · exact ⟨_, by omega, rfl⟩
  | [a, b] =>
    intro d h
    have ha := a.toNat_lt
    have hb := b.toNat_lt
    simp [eD] at h
    rcases h with rfl | rfl | rfl
    · exact ⟨_, by omega, rfl⟩
    · exact ⟨_, by omega, rfl⟩
    · exact ⟨_, by omega, rfl⟩
  | a :: b :: c :: r =>
    intro d h
    have ha := a.toNat_lt
    have hb := b.toNat_lt
    have hc := c.toNat_lt
    simp [eD] at h
    rcases h with rfl | rfl | rfl | rfl | h
    · exact ⟨_, by omega, rfl⟩
    · exact ⟨_, by omega, rfl⟩
    · exact ⟨_, by omega, rfl⟩
    · exact ⟨_, by omega, rfl⟩
    · exact eD_mem r d h

theorem e64_mod (l : List UInt8) : (e64 l).length % 4 = 0 := by
  match l with
  | [] => rfl
  | [a] => simp [e64]
  | [a, b] => simp [e64]
  | a :: b :: c :: r =>
    have := e64_mod r
    simp [e64]
    omega

theorem eD_mod (l : List UInt8) : (eD l).length % 4 ≠ 1 := by
  match l with
  | [] => simp [eD]
  | [a] => simp [eD]
  | [a, b] => simp [eD]
  | a :: b :: c :: r =>
    have := eD_mod r
    simp [eD]
    omega

theorem step_0 (n : Nat) (out : List UInt8) (k : Nat) (h : k < 64) : step64 (n, 0, out) (d64 k) = (n * 64 + k, 6, out) := by
  unfold step64; simp [d64_val k h]
theorem step_6 (n : Nat) (out : List UInt8) (k : Nat) (h : k < 64) : step64 (n, 6, out) (d64 k) = (n * 64 + k, 4, out ++ [UInt8.ofNat ((n * 64 + k) / 16)]) := by
  unfold step64; simp [d64_val k h]
theorem step_4 (n : Nat) (out : List UInt8) (k : Nat) (h : k < 64) : step64 (n, 4, out) (d64 k) = (n * 64 + k, 2, out ++ [UInt8.ofNat ((n * 64 + k) / 4)]) := by
  unfold step64; simp [d64_val k h]
theorem step_2 (n : Nat) (out : List UInt8) (k : Nat) (h : k < 64) : step64 (n, 2, out) (d64 k) = (n * 64 + k, 0, out ++ [UInt8.ofNat (n * 64 + k)]) := by
  unfold step64; simp [d64_val k h]

theorem ofNat_is (a : UInt8) (m : Nat) (h : m % 256 = a.toNat) : UInt8.ofNat m = a := by
  apply UInt8.toNat_inj.1
  simp [h]

theorem run_eD (l : List UInt8) : ∀ (n : Nat) (out : List UInt8), ((eD l).foldl step64 (n, 0, out)).2.2 = out ++ l := by
  match l with
  | [] => intro n out; simp [eD]
  | [a] =>
    intro n out
    have ha := a.toNat_lt
    simp only [eD, List.foldl_cons, List.foldl_nil]
    rw [step_0 _ _ _ (by omega), step_6 _ _ _ (by omega), ofNat_is a _ (by omega)]
  | [a, b] =>
    intro n out
    have ha := a.toNat_lt
    have hb := b.toNat_lt
    simp only [eD, List.foldl_cons, List.foldl_nil]
    rw [step_0 _ _ _ (by omega), step_6 _ _ _ (by omega), step_4 _ _ _ (by omega), ofNat_is a _ (by omega), ofNat_is b _ (by omega)]
    simp
  | a :: b :: c :: r =>
    intro n out
    have ha := a.toNat_lt
    have hb := b.toNat_lt
    have hc := c.toNat_lt
    have ih := run_eD r
    simp only [eD, List.cons_append, List.nil_append, List.foldl_cons]
    rw [step_0 _ _ _ (by omega), step_6 _ _ _ (by omega), step_4 _ _ _ (by omega), step_2 _ _ _ (by omega), ih, ofNat_is a _ (by omega), ofNat_is b _ (by omega), ofNat_is c _ (by omega)]
    simp

theorem trim_yes (x : List UInt8) : Lib.trimSuffix (x ++ [61]) [61] = x := by
  unfold Lib.trimSuffix
  have : Lib.hasSuffix (x ++ [61]) [61] = true := by
    rw [← Lib.hasSuffix_of_drop]; simp
  simp [this]

theorem trim_no (x : List UInt8) (h : ∀ d ∈ x, d ≠ 61) : Lib.trimSuffix x [61] = x := by
  unfold Lib.trimSuffix
  have : Lib.hasSuffix x [61] = false := by
    rw [← Lib.hasSuffix_of_drop]
    rw [Bool.and_eq_false_iff]
    by_cases hx : x = []
    · left; simp [hx]
    · right
      rw [beq_eq_false_iff_ne]
      intro e
      have hm : (61 : UInt8) ∈ x.drop (x.length - 1) := by
        have e' : x.drop (x.length - 1) = [61] := e
        rw [e']; simp
      exact h 61 (List.mem_of_mem_drop hm) rfl
  simp [this]

theorem unpadded (l : List UInt8) : noPadding (e64 l) = eD l := by
  have hne : ∀ d ∈ eD l, d ≠ 61 := by
    intro d hd
    obtain ⟨k, hk, rfl⟩ := eD_mem l d hd
    exact (d64_facts k hk).2.2.1
  unfold noPadding
  rw [if_pos (e64_mod l), e64_split]
  rcases padE_forms l with h | h | h
  · rw [h, List.append_nil, trim_no _ hne, trim_no _ hne]
  · rw [h, trim_yes, trim_no _ hne]
  · rw [h, show eD l ++ [61, 61] = (eD l ++ [61]) ++ [61] by simp, trim_yes, trim_yes]

theorem e64_noBlank (l : List UInt8) : ∀ d ∈ e64 l, blankI d.toNat = false := by
  intro d hd
  rw [e64_split, List.mem_append] at hd
  rcases hd with hd | hd
  · obtain ⟨k, hk, rfl⟩ := eD_mem l d hd
    exact (d64_facts k hk).2.2.2
  · rcases padE_forms l with h | h | h <;> rw [h] at hd <;> simp at hd
    · subst hd; rfl
    · subst hd; rfl

theorem noBlanks_same (l : List UInt8) (h : ∀ d ∈ l, blankI d.toNat = false) : noBlanks l = l := by
  unfold noBlanks
  rw [List.filter_eq_self]
  intro d hd
  simp [h d hd]

theorem b64_of (l m : List UInt8) (h : noBlanks m = e64 l) : b64 m = some l := by
  unfold b64
  rw [h, unpadded, if_neg (eD_mod l)]
  have hall : (eD l).all is64 = true := by
    rw [List.all_eq_true]
    intro d hd
    obtain ⟨k, hk, rfl⟩ := eD_mem l d hd
    exact (d64_facts k hk).2.1
  rw [hall]
  simp only [if_true]
  unfold run64
  rw [run_eD]
  rfl

theorem b64_back (l : List UInt8) : b64 (e64 l) = some l := b64_of l _ (noBlanks_same _ (e64_noBlank l))

theorem b64_blanks (l : List UInt8) (i : Nat) : b64 ((e64 l).take i ++ ([32, 10] ++ (e64 l).drop i)) = some l := by
  apply b64_of
  have h1 : noBlanks ((e64 l).take i) = (e64 l).take i := noBlanks_same _ fun d hd => e64_noBlank l d (List.mem_of_mem_take hd)
  have h2 : noBlanks ((e64 l).drop i) = (e64 l).drop i := noBlanks_same _ fun d hd => e64_noBlank l d (List.mem_of_mem_drop hd)
  have h3 : noBlanks ([32, 10] : List UInt8) = [] := by decide
  have happ : ∀ x y : List UInt8, noBlanks (x ++ y) = noBlanks x ++ noBlanks y := fun x y => by simp [noBlanks]
  rw [happ, happ, h1, h2, h3, List.nil_append, List.take_append_drop]

end Go.Proofs.YtbdlicomkpnalaaDoor

namespace Go.Proofs.YtbdlicomkpnalaaDoor
open Go.RowKit

def v64 (c : UInt8) : Int := if is64 c then val64I c.toNat else -1

theorem v64_all : ∀ n, n < 256 → is64I ((n : Nat) : Int) = true → (d64 (val64I ((n : Nat) : Int)).toNat).toNat = n ∧ (val64I ((n : Nat) : Int)).toNat < 64 := by decide +kernel

theorem v64_none (c : UInt8) (h : ∀ j, j < 64 → d64 j ≠ c) : v64 c = -1 := by
  unfold v64
  by_cases h6 : is64 c = true
  · have := v64_all c.toNat c.toNat_lt h6
    exact absurd (UInt8.toNat_inj.1 this.1) (h _ this.2)
  · rw [if_neg h6]

theorem v64_at (k : Nat) (h : k < 64) : v64 (d64 k) = k := by
  have := d64_facts k h
  unfold v64
  rw [if_pos this.2.1, this.1]

theorem size64 : (ByteArray.mk #[65, 66, 67, 68, 69, 70, 71, 72, 73, 74, 75, 76, 77, 78, 79, 80, 81, 82, 83, 84, 85, 86, 87, 88, 89, 90, 97, 98, 99, 100, 101, 102, 103, 104, 105, 106, 107, 108, 109, 110, 111, 112, 113, 114, 115, 116, 117, 118, 119, 120, 121, 122, 48, 49, 50, 51, 52, 53, 54, 55, 56, 57, 43, 47]).size = 64 := rfl

set_option maxHeartbeats 1000000 in
theorem rvalue64_any (c : UInt8) (w : World) :
    Calls Tryd.prog 78 #[.int .u8 c.toNat] w fun e w' => e = .returned (.int .i64 (v64 c)) ∧ w = w' := by
  have hs64 := size64
  go_enter Tryd.func78, Tryd.ntmps78
  go_wp2
  go_loop [3] (fun i => ∃ k : Nat, k ≤ 64 ∧ i = .int .i64 k ∧ ∀ j, j < k → d64 j ≠ c) (fun i => 64 - (intOf i).toNat)
  case atStart => exact ⟨0, Nat.zero_le _, rfl, fun j hj => absurd hj (by omega)⟩
  case round =>
    obtain ⟨k, hk, rfl, hall⟩ := hrel
    have HA := hid hall
    clear hall
    by_cases hlt : k < 64
    · have hat := d64_at k (by rw [hs64]; exact hlt)
      have hki : (k : Int) < 64 := by omega
      have hkz : k < (ByteArray.mk #[65, 66, 67, 68, 69, 70, 71, 72, 73, 74, 75, 76, 77, 78, 79, 80, 81, 82, 83, 84, 85, 86, 87, 88, 89, 90, 97, 98, 99, 100, 101, 102, 103, 104, 105, 106, 107, 108, 109, 110, 111, 112, 113, 114, 115, 116, 117, 118, 119, 120, 121, 122, 48, 49, 50, 51, 52, 53, 54, 55, 56, 57, 43, 47]).size := by rw [hs64]; exact hlt
      by_cases hc : d64 k = c
      · have hq : (((d64 k).toNat : Int) == (c.toNat : Int)) = true := by rw [hc]; simp
        have HC := hid hc
        clear hc
        go_wp2
        go_ret
        refine ⟨ret_int ?_, rfl⟩
        rw [← HC.out, v64_at k hlt]
      · have hq : (((d64 k).toNat : Int) == (c.toNat : Int)) = false := by
          rw [beq_eq_false_iff_ne]
          intro e
          exact hc (UInt8.toNat_inj.1 (by omega))
        have HC := hid hc
        clear hc
        go_wp2
        go_round
        case rel =>
          refine ⟨k + 1, by omega, by go_num, fun j hj => ?_⟩
          by_cases e : j = k
          · rw [e]; exact HC.out
          · exact HA.out j (by omega)
        case measure => simp [intOf]; omega
    · obtain rfl : k = 64 := by omega
      go_wp2
      go_ret
      exact ⟨ret_int (v64_none c HA.out).symm, rfl⟩

def trim1 (l : List UInt8) : List UInt8 := Lib.trimSuffix l [61]
def padN : Nat → List UInt8 → List UInt8
  | 0, l => l
  | n + 1, l => padN n (trim1 l)

theorem trim1_nil : trim1 [] = [] := rfl

theorem trim1_last (l : List UInt8) (h : l.length - 1 < l.length) : trim1 l = if l[l.length - 1] = 61 then l.take (l.length - 1) else l := by
  unfold trim1 Lib.trimSuffix
  have e : l.drop (l.length - 1) = [l[l.length - 1]] := by
    rw [List.drop_eq_getElem_cons h, List.drop_of_length_le (by omega)]
  have hs : Lib.hasSuffix l [61] = decide (l[l.length - 1] = 61) := by
    rw [← Lib.hasSuffix_of_drop]
    show (decide (1 ≤ l.length) && (l.drop (l.length - 1) == [61])) = _
    rw [e]
    have : 1 ≤ l.length := by omega
    rw [Bool.eq_iff_iff]
    simp [this]
  rw [hs]
  simp

theorem padN_same (n : Nat) (l : List UInt8) (h : trim1 l = l) : padN n l = l := by
  induction n with
  | zero => rfl
  | succ n ih => unfold padN; rw [h]; exact ih

theorem noPadding_padN (l : List UInt8) (h : l.length % 4 = 0) : padN 2 l = noPadding l := by
  unfold noPadding
  rw [if_pos h]
  rfl

theorem noPadding_id (l : List UInt8) (h : ¬ l.length % 4 = 0) : noPadding l = l := by unfold noPadding; rw [if_neg h]

theorem mod16 (n v : Nat) : ((n % 65536 : Nat) : Int) * 64 + (v : Int) = ((n % 65536 * 64 + v : Nat) : Int) := by omega

theorem shr16 (m h : Nat) (hh : h ≤ 4) : ((m % 65536 : Nat) : Int) / 2 ^ h % 256 = ((UInt8.ofNat (m / 2 ^ h)).toNat : Int) := by
  have e : (UInt8.ofNat (m / 2 ^ h)).toNat = m / 2 ^ h % 256 := by simp
  rw [e]
  rcases (show h = 0 ∨ h = 1 ∨ h = 2 ∨ h = 3 ∨ h = 4 from by omega) with rfl | rfl | rfl | rfl | rfl <;> simp <;> omega

end Go.Proofs.YtbdlicomkpnalaaDoor

namespace Go.Proofs.YtbdlicomkpnalaaDoor
open Go.RowKit

/-- What stands behind the padding's loop. -/
def PadRel (B : List UInt8) (wr : World) (v : Value) (wc : World) : Prop := ∃ a n c, v = .slice a n c ∧ n ≤ c ∧ c ≤ maxLen ∧ SlB wc (.slice a n c) (noPadding B) ∧ wc = wr

def PadInv (B : List UInt8) (wr : World) (v k6 : Value) : Prop := ∃ (j : Nat) (a : Option Addr) (n c : Nat) (B' : List UInt8), k6 = .int .i64 j ∧ j ≤ 2 ∧ v = .slice a n c ∧ n ≤ c ∧ c ≤ maxLen ∧ n ≤ 1000000 ∧ SlB wr (.slice a n c) B' ∧ padN (2 - j) B' = noPadding B

set_option maxHeartbeats 2000000 in
set_option maxRecDepth 100000 in
theorem rbase64_any (s : ByteArray) (w : World) (hs : s.size ≤ 1000000) :
    Calls Tryd.prog 52 #[.string s] w fun e w' => Below w.heap.size w w' ∧
      ((b64 s.data.toList = none ∧ e = .returned (.tuple #[.slice none 0 0, .bool false])) ∨ ∃ a n c l, b64 s.data.toList = some l ∧ e = .returned (.tuple #[.slice a n c, .bool true]) ∧ SlB w' (.slice a n c) l) := by
  obtain ⟨i0, hi, hz0, hz1, hz2⟩ := info_parts infoByte
  go_enter Tryd.func52, Tryd.ntmps52
  go_wp2
  go_loopw [4, 5] (fun v i wr => ∃ k : Nat, k ≤ s.size ∧ i = .int .i64 k ∧ wr.ownsRow w.heap.size 5 1 v (noBlanks (s.data.toList.take k)).length (Lib.byteCells (noBlanks (s.data.toList.take k))) ∧ Below w.heap.size w wr)
    (fun _ i _ => s.size - (intOf i).toNat)
  case atStart => exact ⟨0, Nat.zero_le _, rfl, World.ownsRow_nil w _ _ _, Below.refl _ w⟩
  case round =>
    obtain ⟨k, hk, rfl, hown, hbw⟩ := hrel
    have hle := noBlanks_le (s.data.toList.take k)
    have htl : (s.data.toList.take k).length ≤ k := List.length_take_le _ _
    by_cases hlt : k < s.size
    · have HT : Hid (s.data.toList.take (k + 1) = s.data.toList.take k ++ [s[k]]) := take_snoc s k hlt
      by_cases hbl : blankI (s[k].toNat : Int) = true
      · go_wp2_with (go_at_call 76; refine (rblank_any _ _).mono ?_; rintro e w' ⟨rfl, rfl⟩)
        go_roundw
        case rel =>
          refine ⟨k + 1, by omega, by go_num, ?_, hbw⟩
          rw [HT.out, noBlanks_snoc_yes _ _ hbl]; exact hown
        case measure => simp [intOf]; omega
      · have hbl' : blankI (s[k].toNat : Int) = false := by simpa using hbl
        clear hbl
        go_wp2_with (first | (go_at_call 76; refine (rblank_any _ _).mono ?_; rintro e w' ⟨rfl, rfl⟩) | (at_builtin; refine wpList_append_own _ rfl _ _ 22 rfl w.heap.size 5 i0 (.int .u8 0) 1 1 Tryd.underlying22 hi hz0 hz1 hz2 rfl (by decide) _ _ _ rfl (hown.alloc _) ⟨wr.heap.size, 0, none⟩ 1 1 [.int .u8 s[k].toNat] rfl rfl ?c1 ?c2 ?c3 ?c4 ?c5 ?_))
        case c1 =>
          intro j u hj
          match j, hj with
          | 0, hj => simp at hj; subst hj; simp [Addr.add]
        case c2 => intro u hu; simp at hu; subst hu; rfl
        case c3 => unfold maxLen; omega
        case c4 => omega
        case c5 => have := hbw.size; simp; omega
        intro v' w2 hown' hgrow hnil
        go_wp2
        go_roundw
        case rel =>
          refine ⟨k + 1, by omega, by go_num, ?_, ?_⟩
          · rw [HT.out, noBlanks_snoc_no _ _ hbl', Lib.byteCells_append, byteCells_one]; simpa using hown'
          · exact (hbw.alloc hbw.size _).grown hgrow (by have := hbw.size; simp; omega) (fun g hg => (hown.lt g hg).1)
        case measure => simp [intOf]; omega
    · rw [take_all s k hlt] at hown
      have hS := SlB.own hown
      have hle := noBlanks_le s.data.toList
      rw [← Lib.size_eq] at hle
      have HB : Hid (b64 s.data.toList = if (noPadding (noBlanks s.data.toList)).length % 4 = 1 then none else if (noPadding (noBlanks s.data.toList)).all is64 then some (run64 (noPadding (noBlanks s.data.toList))).2.2 else none) := hid rfl
      have hcap : ∃ a n c, u4 = .slice a n c ∧ n ≤ c ∧ c ≤ maxLen := by
        rcases hown.2 with ⟨rfl, h0⟩ | ⟨g, cap, cur, rfl, _, _, h1, h2, _⟩
        · exact ⟨none, 0, 0, rfl, Nat.le_refl _, by unfold maxLen; omega⟩
        · exact ⟨_, _, _, rfl, h1, h2⟩
      obtain ⟨a, n, c, rfl, hnc, hcm⟩ := hcap
      generalize noBlanks s.data.toList = B at hS hle HB
      have hn := hS.length
      subst hn
      clear hown
      go_upto_if 32 with fail
      go_cut [4, 6] (fun v _ wc => PadRel B wr v wc)
      case first =>
        by_cases h4 : B.length % 4 = 0
        · have h4' : ((B.length : Int) % 4 == 0) = true := by simp; omega
          have HN := hid (noPadding_padN B h4)
          clear h4
          go_wp2
          go_loop [4, 6] (fun v k6 => PadInv B wr v k6) (fun _ k6 => 2 - (intOf k6).toNat)
          case atStart => exact ⟨0, a, B.length, c, B, rfl, by omega, rfl, hnc, hcm, by omega, hS, HN.out⟩
          case round =>
            obtain ⟨j, a', n', c', B', rfl, hj, rfl, hnc', hcm', hb6, hS', hp⟩ := hrel
            have hn' := hS'.length
            subst hn'
            have HP := hid hp
            clear hp
            by_cases hj2 : j < 2
            · have hji : (j : Int) < 2 := by omega
              by_cases h0 : B'.length = 0
              · have hd : (B'.length : Int) ≤ 0 := by omega
                have hnil := hid (List.eq_nil_of_length_eq_zero h0)
                clear h0
                go_wp2
                go_meet
                case rel =>
                  refine ⟨a', B'.length, c', rfl, hnc', hcm', ?_, rfl⟩
                  have : noPadding B = B' := by rw [← HP.out]; exact padN_same _ _ (by rw [hnil.out]; rfl)
                  rw [this]; exact hS'
              · obtain ⟨p, rfl, _, hpc⟩ := hS'.some (by omega)
                have hlast : B'.length - 1 < B'.length := by omega
                have hc := hpc (B'.length - 1) hlast
                have HL := hid (trim1_last B' hlast)
                have hpos : (0 : Int) < (B'.length : Int) := by omega
                have hpos' : decide ((0 : Int) < (B'.length : Int)) = true := decide_eq_true hpos
                clear hpc
                generalize B'[B'.length - 1] = cc at hc HL
                by_cases h61 : cc = 61
                · have h61' : (cc.toNat : Int) = 61 := by rw [h61]; rfl
                  rw [h61'] at hc
                  have hT := hS'.take (B'.length - 1) hlast
                  have hl : (B'.take (B'.length - 1)).length = B'.length - 1 := by simp
                  have HLl := hid hl
                  clear hl
                  go_wp2
                  go_round
                  case rel =>
                    unfold PadInv
                    refine ⟨j + 1, some p, B'.length - 1, c', B'.take (B'.length - 1), by go_num, by omega, by go_num, by omega, hcm', by omega, hT, ?_⟩
                    rw [← HP.out, show 2 - j = (2 - (j + 1)) + 1 by omega]
                    show _ = padN _ (trim1 B')
                    rw [HL.out, if_pos h61]
                  case measure => simp [intOf]; omega
                · have h61' : ((cc.toNat : Int) == 61) = false := by
                    rw [beq_eq_false_iff_ne]
                    intro e
                    exact h61 (UInt8.toNat_inj.1 (by show cc.toNat = 61; omega))
                  go_wp2
                  go_meet
                  case rel =>
                    refine ⟨some p, B'.length, c', rfl, hnc', hcm', ?_, rfl⟩
                    have : noPadding B = B' := by rw [← HP.out]; exact padN_same _ _ (by rw [HL.out, if_neg h61])
                    rw [this]; exact hS'
            · obtain rfl : j = 2 := by omega
              go_wp2
              go_meet
              case rel =>
                refine ⟨a', B'.length, c', rfl, hnc', hcm', ?_, rfl⟩
                have : noPadding B = B' := HP.out.symm
                rw [this]; exact hS'
        · have h4' : ((B.length : Int) % 4 == 0) = false := by simp; omega
          have HN := hid (noPadding_id B h4)
          clear h4
          go_wp2
          go_meet
          case rel => exact ⟨a, B.length, c, rfl, hnc, hcm, by rw [HN.out]; exact hS, rfl⟩
      case rest =>
        obtain ⟨a1, n1, c1, rfl, hnc1, hcm1, hS1, rfl⟩ := hcut
        have hpl : (noPadding B).length ≤ B.length := by
          unfold noPadding
          split
          · exact Nat.le_trans (Lib.trimSuffix_le _ _) (Lib.trimSuffix_le _ _)
          · exact Nat.le_refl _
        generalize noPadding B = d at hS1 HB hpl
        clear hS hnc hcm
        have hn1 := hS1.length
        subst hn1
        by_cases h1 : d.length % 4 = 1
        · have h1' : ((d.length : Int) % 4 == 1) = true := by simp; omega
          go_wp2
          go_ret2
          refine ⟨hbw, .inl ⟨?_, rfl⟩⟩
          rw [HB.out, if_pos h1]
        · have h1' : ((d.length : Int) % 4 == 1) = false := by simp; omega
          have hd6 : d.length ≤ 1000000 := by omega
          clear hpl hle
          go_wp2
          go_loopw [7, 8, 9, 10] (fun v nn h i wr => ∃ k N : Nat, k ≤ d.length ∧ i = .int .i64 k ∧ h = .int .i64 (run64 (d.take k)).2.1 ∧ nn = .int .i64 N ∧ N = (run64 (d.take k)).1 % 65536 ∧
              wr.ownsRow wc.heap.size 5 1 v (run64 (d.take k)).2.2.length (Lib.byteCells (run64 (d.take k)).2.2) ∧ (d.take k).all is64 = true ∧ Below wc.heap.size wc wr)
            (fun _ _ _ i _ => d.length - (intOf i).toNat)
          case atStart => exact ⟨0, 0, Nat.zero_le _, rfl, rfl, rfl, rfl, World.ownsRow_nil wc _ _ _, rfl, Below.refl _ wc⟩
          case round =>
            obtain ⟨k3, N, hk3, rfl, rfl, rfl, hN, hown, hall, hb3⟩ := hrel
            have hh := run64_held (d.take k3)
            have hle3 := run64_len (d.take k3)
            have htl3 : (d.take k3).length ≤ k3 := List.length_take_le _ _
            by_cases hlt3 : k3 < d.length
            · obtain ⟨p, rfl, _, hpc⟩ := (hS1.kept hb3).some (by omega)
              have hc := hpc k3 hlt3
              have HT := hid (List.take_succ_eq_append_getElem hlt3)
              have hmem := hid (List.getElem_mem hlt3)
              clear hpc
              generalize d[k3] = cc at hc HT hmem
              have HA := hid hall
              clear hall
              have HS := hid (run64_snoc (d.take k3) cc)
              have hki : (k3 : Int) < (d.length : Int) := by omega
              generalize hr : run64 (d.take k3) = R at *
              obtain ⟨NN, H, O⟩ := R
              have HR := hid hr
              clear hr
              simp only at hown hh hle3 hN
              by_cases h64 : is64 cc = true
              · have hv := val64_lt (cc.toNat : Int)
                obtain ⟨V, hV⟩ : ∃ V : Nat, V = (val64I cc.toNat).toNat := ⟨_, rfl⟩
                have hvv : v64 cc = (V : Int) := by unfold v64; rw [if_pos h64, hV]; omega
                have hV64 : V < 64 := by omega
                have HV := hid hV
                clear hV hv
                obtain ⟨M, hM⟩ : ∃ M : Nat, M = (NN * 64 + V) % 65536 := ⟨_, rfl⟩
                have hMI : ((N : Int) * 64 + (V : Int)) % 65536 = (M : Int) := by omega
                have hN6 : N < 65536 := by omega
                have hM6 : M < 65536 := by omega
                have HM := hid hM
                have HN := hid hN
                clear hM hN
                by_cases hH : 2 ≤ H
                · have hHI : (8 : Int) ≤ (H : Int) + 6 := by omega
                  have HX : Hid ((M : Int) / 2 ^ (H - 2) % 256 = ((UInt8.ofNat ((NN * 64 + V) / 2 ^ (H - 2))).toNat : Int)) := by rw [HM.out]; exact shr16 _ _ (by omega)
                  go_wp2_with (first | (go_at_call 78; refine (rvalue64_any _ _).mono ?_; rintro e w' ⟨rfl, rfl⟩) | (at_builtin; refine wpList_append_own _ rfl _ _ 22 rfl wc.heap.size 5 i0 (.int .u8 0) 1 1 Tryd.underlying22 hi hz0 hz1 hz2 rfl (by decide) _ _ _ rfl (hown.alloc _) ⟨wr.heap.size, 0, none⟩ 1 1 [.int .u8 ((M : Int) / 2 ^ (H - 2) % 256)] rfl rfl ?c1 ?c2 ?c3 ?c4 ?c5 ?_))
                  case c1 =>
                    intro j u hj
                    match j, hj with
                    | 0, hj => simp at hj; subst hj; simp [Addr.add]
                  case c2 => intro u hu; simp at hu; subst hu; rfl
                  case c3 => unfold maxLen; omega
                  case c4 => omega
                  case c5 => have := hb3.size; simp; omega
                  intro v' w4 hown' hgrow hnil
                  have HSt : Hid (run64 (d.take (k3 + 1)) = (NN * 64 + V, H - 2, O ++ [UInt8.ofNat ((NN * 64 + V) / 2 ^ (H - 2))])) := by
                    rw [HT.out, HS.out, HV.out]
                    exact hid (by rw [step64, if_pos hH])
                  go_wp2
                  go_roundw
                  case rel =>
                    refine ⟨k3 + 1, M, by omega, by go_num, ?_, rfl, ?_, ?_, ?_, ?_⟩
                    · rw [HSt.out]; go_num
                    · rw [HSt.out]; exact HM.out
                    · rw [HSt.out, Lib.byteCells_append, byteCells_one, ← HX.out]; simpa using hown'
                    · rw [HT.out, List.all_append, HA.out]; simp [h64]
                    · exact (hb3.alloc hb3.size _).grown hgrow (by have := hb3.size; simp; omega) (fun g hg => (hown.lt g hg).1)
                  case measure => simp [intOf]; omega
                · have hHI : (H : Int) + 6 < 8 := by omega
                  have HSt : Hid (run64 (d.take (k3 + 1)) = (NN * 64 + V, H + 6, O)) := by
                    rw [HT.out, HS.out, HV.out]
                    exact hid (by rw [step64, if_neg hH])
                  go_wp2_with (go_at_call 78; refine (rvalue64_any _ _).mono ?_; rintro e w' ⟨rfl, rfl⟩)
                  go_roundw
                  case rel =>
                    refine ⟨k3 + 1, M, by omega, by go_num, ?_, by rw [hMI], ?_, ?_, ?_, hb3⟩
                    · rw [HSt.out]; go_num
                    · rw [HSt.out]; exact HM.out
                    · rw [HSt.out]; exact hown
                    · rw [HT.out, List.all_append, HA.out]; simp [h64]
                  case measure => simp [intOf]; omega
              · have hvv : v64 cc = -1 := by unfold v64; rw [if_neg h64]
                go_wp2_with (go_at_call 78; refine (rvalue64_any _ _).mono ?_; rintro e w' ⟨rfl, rfl⟩)
                go_ret2
                refine ⟨hbw.trans (hb3.mono hbw.size), .inl ⟨?_, rfl⟩⟩
                have : d.all is64 = false := by
                  rw [List.all_eq_false]
                  exact ⟨cc, hmem.out, by simpa using h64⟩
                rw [HB.out, if_neg h1, this]
                rfl
            · rw [List.take_of_length_le (by omega)] at hown hall
              have hSo := SlB.own hown
              obtain ⟨ao, co, hvo⟩ := hSo.len
              subst hvo
              have HS2 := hid hSo
              have HA2 := hid hall
              clear hown hall hSo
              go_wp2
              go_ret2
              refine ⟨hbw.trans (hb3.mono hbw.size), .inr ⟨_, _, _, _, ?_, rfl, HS2.out⟩⟩
              rw [HB.out, if_neg h1, HA2.out]
              rfl

end Go.Proofs.YtbdlicomkpnalaaDoor
