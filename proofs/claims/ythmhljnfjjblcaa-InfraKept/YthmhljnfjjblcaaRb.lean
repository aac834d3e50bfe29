/-
  The walks of ostiarybook's Same, Roomy, Intact at bytes.
-/
import Derived.Test.YthmhljnfjjblcaaWn
import Derived.Test.YthmhljnfjjblcaaWb
import Derived.Laws.CopyOwn
import Derived.Deep.QuietTactic
import Derived.BigQuiet
import Derived.WalkSmall
import Derived.Lib.BufferMore
set_option linter.unusedSimpArgs false
set_option linter.unusedVariables false
namespace Go.Proofs.Ythmhljnfjjblcaa
open Go.RowKit

theorem SlB.some {w : World} {a : Option Addr} {len cap : Nat} {l : List UInt8} (h : SlB w (.slice a len cap) l) (h0 : 0 < l.length) : ∃ x, a = some x ∧ len = l.length ∧ ∀ j (hj : j < l.length), w.cell? (x.add j) = some (.int .u8 (l[j].toNat : Int)) := by
  rcases h with ⟨c, e, rfl⟩ | ⟨x, c, e, hc⟩
  · simp at h0
  · obtain ⟨rfl, rfl, rfl⟩ := Value.slice.inj e
    exact ⟨x, rfl, rfl, hc⟩

theorem SlB.length {w : World} {a : Option Addr} {len cap : Nat} {l : List UInt8} (h : SlB w (.slice a len cap) l) : len = l.length := by
  rcases h with ⟨c, e, rfl⟩ | ⟨x, c, e, hc⟩
  · obtain ⟨_, rfl, _⟩ := Value.slice.inj e
    rfl
  · obtain ⟨_, rfl, _⟩ := Value.slice.inj e
    rfl

theorem byte_ne {a b : UInt8} (h : a ≠ b) : ((a.toNat : Int) != (b.toNat : Int)) = true := by
  rw [bne_iff_ne]
  intro e
  exact h (UInt8.toNat_inj.1 (by omega))

set_option maxHeartbeats 1000000 in
theorem same_any (a b : Option Addr) (la lb ca cb : Nat) (x y : List UInt8) (w : World) (hx : SlB w (.slice a la ca) x) (hy : SlB w (.slice b lb cb) y) (hxs : x.length ≤ 140737488351232) (hys : y.length ≤ 140737488351232) :
    Calls Try.prog 29 #[.slice a la ca, .slice b lb cb] w fun e w' => e = .returned (.bool (x == y)) ∧ Below w.heap.size w w' := by
  obtain rfl := hx.length
  obtain rfl := hy.length
  by_cases hlen : x.length = y.length
  · have hl' : ((x.length : Int) != (y.length : Int)) = false := by simp; omega
    have hle1 : x.length ≤ y.length := by omega
    have hle2 : y.length ≤ x.length := by omega
    clear hlen
    go_enter Try.func29, Try.ntmps29
    go_wp2
    go_loopw [5] (fun i wr => ∃ k : Nat, k ≤ x.length ∧ i = .int .i64 k ∧ x.take k = y.take k ∧ Below w.heap.size w wr) (fun i _ => x.length - (intOf i).toNat)
    case atStart => exact ⟨0, Nat.zero_le _, rfl, rfl, Below.refl _ _⟩
    case round =>
      obtain ⟨k, hk, rfl, heq, hbw⟩ := hrel
      have HQ := hid heq
      clear heq
      by_cases hlt : k < x.length
      · obtain ⟨p, rfl, _, hpc⟩ := (hx.kept hbw).some (by omega)
        obtain ⟨q, rfl, _, hqc⟩ := (hy.kept hbw).some (by omega)
        have hky : k < y.length := by omega
        have c1 := hpc k hlt
        have c2 := hqc k hky
        have HX := hid (List.take_succ_eq_append_getElem hlt)
        have HY := hid (List.take_succ_eq_append_getElem hky)
        generalize hgx : x[k] = cx at *
        generalize hgy : y[k] = cy at *
        have hki : (k : Int) < (x.length : Int) := by omega
        have hki2 : (k : Int) < (y.length : Int) := by omega
        clear hpc hqc
        by_cases hc : cx = cy
        · have hc' : ((cx.toNat : Int) != (cy.toNat : Int)) = false := by rw [hc]; simp
          have HC := hid hc
          clear hc
          go_wp2
          go_quiet (fail)
          go_wp2
          go_roundw
          case rel => exact ⟨k + 1, by omega, by go_num, by rw [HX.out, HY.out, HQ.out, HC.out], below_drewN hbw _⟩
          case measure => simp [intOf]; omega
        · have hc' := byte_ne hc
          have HC := hid hc
          clear hc
          go_wp2
          go_quiet (fail)
          go_wp2
          go_ret
          refine ⟨ret_bool ?_, below_drewN hbw _⟩
          symm
          rw [beq_eq_false_iff_ne]
          intro h
          subst h
          exact HC.out (hgx.symm.trans hgy)
      · go_wp2
        go_ret
        refine ⟨ret_bool ?_, hbw⟩
        have h1 := HQ.out
        rw [List.take_of_length_le (by omega), List.take_of_length_le (by omega)] at h1
        simp [h1]
  · have hl' : ((x.length : Int) != (y.length : Int)) = true := by simp; omega
    go_enter Try.func29, Try.ntmps29
    go_wp2
    go_ret
    refine ⟨ret_bool ?_, Below.refl _ _⟩
    symm
    rw [beq_eq_false_iff_ne]
    intro h
    exact hlen (congrArg List.length h)

theorem byteCells_get (l : List UInt8) (j : Nat) (h : j < l.length) : (Lib.byteCells l)[j]? = some (.int .u8 (l[j].toNat : Int)) := by simp [Lib.byteCells, h]

theorem byteCells_set (l : List UInt8) (j : Nat) (c : UInt8) : (Lib.byteCells l).set j (.int .u8 (c.toNat : Int)) = Lib.byteCells (l.set j c) := by simp [Lib.byteCells, List.map_set]

theorem byteCells_rep (n : Nat) : Lib.byteCells (List.replicate n 0) = List.replicate n (.int .u8 0) := by simp [Lib.byteCells]

theorem byteCells_one_cell (l : List UInt8) : ∀ v ∈ Lib.byteCells l, v.oneCell' = true := by
  intro v hv
  simp only [Lib.byteCells, List.mem_map] at hv
  obtain ⟨b, _, rfl⟩ := hv
  rfl

theorem roomy_step (x : List UInt8) (c : UInt8) (k : Nat) (h : k < 80) : (x ++ (List.replicate k c ++ List.replicate (80 - k) 0)).set (x.length + k) c = x ++ (List.replicate (k + 1) c ++ List.replicate (80 - (k + 1)) 0) := by
  rw [List.set_append_right _ _ (by omega), List.set_append_right _ _ (by simp)]
  have e1 : x.length + k - x.length - (List.replicate k c).length = 0 := by simp
  have e2 : List.replicate (80 - k) (0 : UInt8) = 0 :: List.replicate (80 - (k + 1)) 0 := by
    rw [← List.replicate_succ]; congr 1; omega
  rw [e1, e2, List.replicate_succ', List.append_assoc]
  rfl

set_option maxHeartbeats 1000000 in
theorem roomy_any (a : Option Addr) (la ca : Nat) (x : List UInt8) (c : UInt8) (w : World) (hx : SlB w (.slice a la ca) x) (hxs : x.length ≤ 1000000) :
    Calls Try.prog 20 #[.slice a la ca, .int .u8 c.toNat] w fun e w' => e = .returned (.slice (some ⟨w.heap.size, 0, none⟩) (x.length + 80) (x.length + 80)) ∧
      SlB w' (.slice (some ⟨w.heap.size, 0, none⟩) (x.length + 80) (x.length + 80)) (x ++ List.replicate 80 c) ∧ Below w.heap.size w w' := by
  obtain rfl := hx.length
  obtain ⟨i0, hi, hz0, hz1, hz2⟩ := info_parts infoByte
  go_enter Try.func20, Try.ntmps20
  go_wp2_with (at_make; refine wpList_make_full _ rfl _ _ 22 rfl w.heap.size 5 i0 (.int .u8 0) 1 Try.underlying22 hi hz0 hz1 .i64 .i64 _ _ (x.length + 80) rfl rfl (by omega) (by omega) (by rw [hz2]; omega) (by unfold maxLen; omega) (Nat.le_refl _) ?_)
  intro w0 hown0 hgrow0
  have hb0 : Below w.heap.size w w0 := (Below.refl _ w).grown hgrow0 (Nat.le_refl _) (fun k hk => by simp at hk)
  clear hgrow0
  have hx0 := hx.kept hb0
  obtain ⟨cur, hcur⟩ : ∃ cur : Array Value, w0.heap[w.heap.size]? = some (.cells cur 5 (0, 0)) ∧ cur.toList = List.replicate (x.length + 80) (.int .u8 0) := by
    rcases hown0.2 with ⟨h', _⟩ | ⟨g', cap', cur, h', _, hg, hnc, hcm, hcs, htake⟩
    · simp at h'
    · simp only [Value.slice.injEq, Option.some.injEq, Addr.mk.injEq, and_true, true_and] at h'
      obtain ⟨rfl, rfl⟩ := h'
      refine ⟨cur, hg, ?_⟩
      rw [List.take_of_length_le (by rw [Array.length_toList, hcs]; exact Nat.le_refl _)] at htake
      rw [htake, toList_madeCells_one]
  clear hown0
  have hg0 : w0.heap[w.heap.size]? = some (.cells (List.replicate (x.length + 80) (.int .u8 0)).toArray 5 (0, 0)) := by
    rw [hcur.1]; congr 2; rw [← hcur.2]
  clear hcur
  have hsz1 : (Try.prog.info? 5).map (·.size) = some 1 := by rw [hi]; simp [hz1]
  go_wp2_with (refine wpList_copy_splice rfl _ _ 22 22 rfl 5 Try.underlying22 hsz1 _ _ _ _ _ _ rfl rfl w.heap.size 0 _ 5 hg0 (Lib.byteCells x) ?k1 ?k2 ?k3 (byteCells_one_cell x) w.heap.size w hb0 (Nat.le_refl _) ?_)
  case k1 => rw [Lib.byteCells_length]; simp
  case k2 =>
    intro hpos
    rw [Lib.byteCells_length] at hpos
    obtain ⟨p, rfl, _, hpc⟩ := hx0.some hpos
    have key : ∀ j v, (Lib.byteCells x)[j]? = some v → w0.cell? (p.add j) = some v := by
      intro j v hj
      have hj' : j < x.length := by
        have := (List.getElem?_eq_some_iff.1 hj).1
        rwa [Lib.byteCells_length] at this
      rw [hpc j hj', ← byteCells_get x j hj']
      exact hj
    first | exact ⟨rfl, p, rfl, key⟩ | exact ⟨p, rfl, key⟩
  case k3 => rw [Lib.byteCells_length]; simp
  intro w1 hg1 hb1
  clear hx0 hg0 hb0
  have hg2 : w1.heap[w.heap.size]? = some (.cells (Lib.byteCells (x ++ List.replicate 80 0)).toArray 5 (0, 0)) := by
    rw [hg1.out]
    congr 3
    unfold splice
    rw [Lib.byteCells_append, byteCells_rep, Lib.byteCells_length]
    simp
  clear hg1
  go_wp2
  go_loopw [6] (fun i wr => ∃ k : Nat, k ≤ 80 ∧ i = .int .i64 ((x.length + k : Nat) : Int) ∧ wr.heap[w.heap.size]? = some (.cells (Lib.byteCells (x ++ (List.replicate k c ++ List.replicate (80 - k) 0))).toArray 5 (0, 0)) ∧ Below w.heap.size w wr) (fun i _ => x.length + 80 - (intOf i).toNat)
  case atStart => exact ⟨0, by omega, by go_num, by simpa using hg2, hb1⟩
  case round =>
    obtain ⟨k, hk, rfl, hg, hbw⟩ := hrel
    by_cases hlt : k < 80
    · have hf : wr.frozen? ⟨w.heap.size, x.length + k, none⟩ = false := Lib.frozen_of_heap hg _
      have hcell : ∃ v, wr.cell? ⟨w.heap.size, x.length + k, none⟩ = some v := by
        rw [Lib.cell_of_heap hg]
        refine ⟨_, Array.getElem?_eq_getElem ?_⟩
        simp [Lib.byteCells]; omega
      obtain ⟨v, hcell⟩ := hcell
      have HN := hid (Lib.heap_setCell_same (i := x.length + k) hg (.int .u8 (c.toNat : Int)))
      have HG := hid hg
      clear hg
      go_wp2
      go_roundw
      case rel =>
        refine ⟨k + 1, by omega, by go_num, ?_, hbw.setCell (p := ⟨w.heap.size, x.length + k, none⟩) (Nat.le_refl _) _⟩
        rw [HN.out]
        congr 2
        rw [List.setIfInBounds_toArray, byteCells_set, roomy_step x c k hlt]
      case measure => simp [intOf]; omega
    · obtain rfl : k = 80 := by omega
      go_wp2
      go_ret
      refine ⟨rfl, ?_, hbw⟩
      refine .inr ⟨⟨w.heap.size, 0, none⟩, x.length + 80, by simp, fun j hj => ?_⟩
      rw [Addr.add_lit, Nat.zero_add, Lib.cell_of_heap hg]
      simp at hj
      have := byteCells_get (x ++ List.replicate 80 c) j (by simpa using hj)
      simpa using this

set_option maxHeartbeats 1000000 in
theorem intact_any (g : Nat) (a : Option Addr) (la ca : Nat) (x : List UInt8) (c : UInt8) (w : World) (hg : SlB w (.slice (some ⟨g, 0, none⟩) (x.length + 80) (x.length + 80)) (x ++ List.replicate 80 c)) (hx : SlB w (.slice a la ca) x) (hxs : x.length ≤ 1000000) :
    Calls Try.prog 27 #[.slice (some ⟨g, 0, none⟩) (x.length + 80) (x.length + 80), .slice a la ca, .int .u8 c.toNat] w fun e w' => e = .returned (.bool true) ∧ Below w.heap.size w w' := by
  obtain rfl := hx.length
  have hne : ((x.length : Int) + 80 != (x.length : Int) + 80) = false := by simp
  have hfst := hg.take x.length (by simp)
  rw [List.take_left] at hfst
  go_enter Try.func27, Try.ntmps27
  go_wp2_with fail
  refine (same_any _ _ _ _ _ _ x x w hfst hx (by omega) (by omega)).mono ?_
  rintro e w1 ⟨rfl, hb1⟩
  have hg1 := hg.kept hb1
  have hxx : (x == x) = true := by simp
  rw [hxx]
  clear hfst hg hxx
  go_wp2
  clear hne
  go_loopw [7] (fun i wr => ∃ k : Nat, k ≤ 80 ∧ i = .int .i64 ((x.length + k : Nat) : Int) ∧ wr = w1) (fun i _ => x.length + 80 - (intOf i).toNat)
  case atStart => exact ⟨0, by omega, by go_num, rfl⟩
  case round =>
    obtain ⟨k, hk, rfl, rfl⟩ := hrel
    by_cases hlt : k < 80
    · obtain ⟨p, hp, hq, hpc⟩ := hg1.some (by simp)
      obtain rfl := Option.some.inj hp
      have hc := hpc (x.length + k) (by simp; omega)
      rw [Addr.add_lit, Nat.zero_add, List.getElem_append_right (by omega), List.getElem_replicate] at hc
      clear hpc hp hq hg1 hx
      go_wp2
      go_roundw
      case rel => exact ⟨k + 1, by omega, by go_num, by first | rfl | trivial⟩
      case measure => simp [intOf]; omega
    · obtain rfl : k = 80 := by omega
      clear hg1 hx
      go_wp2
      go_ret
      exact ⟨rfl, hb1⟩

end Go.Proofs.Ythmhljnfjjblcaa
