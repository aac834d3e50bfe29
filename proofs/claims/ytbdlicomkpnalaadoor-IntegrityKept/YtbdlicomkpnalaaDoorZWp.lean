/-
  The walks of strings.Builder's Write and of infra.Encode64.
-/
import Derived.Test.YtbdlicomkpnalaaDoorZWo
import Derived.Test.YtbdlicomkpnalaaDoorZSh
set_option linter.unusedSimpArgs false
set_option linter.unusedVariables false
namespace Go.Proofs.YtbdlicomkpnalaaDoor
open Go.RowKit

set_option maxHeartbeats 2000000 in
set_option maxRecDepth 100000 in
theorem write_k (B b : Nat) (bs : List Value) (g n cap : Nat) (C : Array Value) (T : TypeId) (l : List UInt8) (w : World) (h : Lib.IsBuilderF 113 5 B b bs w) (hg : w.heap[g]? = some (.cells C T (0, 0))) (hgb : g ≠ b) (hT : T ≠ 5)
    (hl : l.length = n) (hn0 : 0 < n) (hC : ∀ j (hj : j < l.length), C[j]? = some (.int .u8 (l[j].toNat : Int))) (hlen : bs.length + n ≤ 140737488355328) (hBw : B ≤ w.heap.size) :
    Calls Tryd.prog 68 #[.pointer (some ⟨b, 0, none⟩), .slice (some ⟨g, 0, none⟩) n cap] w fun e w' => e = .returned (.tuple #[.int .i64 n, .nilIface]) ∧ (Lib.BuilderAtF 113 5 B b (.pointer (some ⟨b, 0, none⟩)) (bs ++ Lib.byteCells l) w' ∧ Below B w w' ∧ Lib.OthersKept 5 (some b) w w') := by
  obtain ⟨i0, hi, hz0, hz1, hz2⟩ := info_parts infoByte
  go_enter Tryd.func68, Tryd.ntmps68
  go_wp2_with (go_at_call 89; refine (copyCheck_k B b bs _ h).mono ?_)
  rintro e w1 ⟨rfl, h1, hb1, hk1⟩
  obtain ⟨hB, v, hbk, hown, hne⟩ := h1
  have c0 : w1.cell? ⟨b, 0, none⟩ = some (.pointer (some ⟨b, 0, none⟩)) := by rw [Lib.cell_of_heap hbk]; rfl
  have c1 : w1.cell? ⟨b, 1, none⟩ = some v := by rw [Lib.cell_of_heap hbk]; rfl
  have hg1 := hk1 g _ hg (fun e => hgb (Option.some.inj e)) (fun c fz e => hT (by injection e))
  have HG1 := hid hg1
  clear hg1
  go_wp2_with (at_builtin; refine wpList_append_ownF _ rfl _ _ 22 rfl B 5 i0 (.int .u8 0) 1 1 Tryd.underlying22 hi hz0 hz1 hz2 rfl (by decide) _ _ _ rfl hown ⟨g, 0, none⟩ n cap (Lib.byteCells l) ?k0 ?k6 ?c1 ?c2 ?c3 ?c4 ?c5 ?_)
  case k0 => rfl
  case k6 => rw [Lib.byteCells_length, hl, Nat.mul_one]
  case c1 =>
    intro j u hj
    have hj' : j < l.length := by
      have := (List.getElem?_eq_some_iff.1 hj).1
      rwa [Lib.byteCells_length] at this
    rw [Addr.add_lit, Nat.zero_add, Lib.cell_of_heap HG1.out, hC j hj', ← hj]
    simp [Lib.byteCells, hj']
  case c2 =>
    intro u hu
    simp only [Lib.byteCells, List.mem_map] at hu
    obtain ⟨c, _, rfl⟩ := hu
    rfl
  case c3 => unfold maxLen; omega
  case c4 => omega
  case c5 => have := hb1.size; omega
  intro v' w2 hown' hgrow _
  have hlt : b < w1.heap.size := by
    rcases Nat.lt_or_ge b w1.heap.size with h' | h'
    · exact h'
    · simp [Array.getElem?_eq_none h'] at hbk
  have hb2 : w2.heap[b]? = some (.cells #[.pointer (some ⟨b, 0, none⟩), v] 113 (0, 0)) := by
    rw [hgrow.block b hlt (fun e => hne e.symm)]
    exact hbk
  have d0 : w2.cell? ⟨b, 0, none⟩ = some (.pointer (some ⟨b, 0, none⟩)) := by rw [Lib.cell_of_heap hb2]; rfl
  have d1 : w2.cell? ⟨b, 1, none⟩ = some v := by rw [Lib.cell_of_heap hb2]; rfl
  have f1 : w2.frozen? ⟨b, 1, none⟩ = false := Lib.frozen_of_heap hb2 1
  obtain ⟨g', cap', rfl⟩ : ∃ g cap, v' = .slice (some ⟨g, 0, none⟩) (bs.length + n) cap := by
    rcases hown'.2 with ⟨_, h0⟩ | ⟨g, cap, cur, fz, hv, _⟩
    · omega
    · exact ⟨g, cap, hv⟩
  go_wp2
  go_ret2
  refine ⟨rfl, ?_, ?_, (hk1.grown hgrow (Lib.ownsRowF_kind hown)).setCell ⟨b, 1, none⟩ rfl _⟩
  · exact Lib.BuilderAtF.put (T := 113) (e := 5) hB hb2 (bs' := bs ++ Lib.byteCells l) (by simpa [Lib.byteCells_length, hl] using hown') (by decide)
  · exact (hb1.grown hgrow (by have := hb1.size; omega) (fun k hk => (hown.lt k hk).1)).setCell (p := ⟨b, 1, none⟩) hB _

theorem builder_below {T e : TypeId} {B b : Nat} {bs : List Value} {w w' : World} (h : Lib.IsBuilderF T e B b bs w) (hb : Below w.heap.size w w') : Lib.IsBuilderF T e B b bs w' := by
  have key : ∀ {p : Value}, Lib.BuilderAtF T e B b p bs w → Lib.BuilderAtF T e B b p bs w' := by
    rintro p ⟨hB, v, hbk, hown, hne⟩
    have hblk : ∀ (k : Nat) (o : Obj), w.heap[k]? = some o → w'.heap[k]? = some o := by
      intro k o hk
      have hlt : k < w.heap.size := (Array.getElem?_eq_some_iff.1 hk).1
      rw [hb.block k hlt]; exact hk
    refine ⟨hB, v, hblk _ _ hbk, ⟨hown.1, ?_⟩, hne⟩
    rcases hown.2 with h1 | ⟨g, cap, cur, fz, hv, hbg, hg, hr⟩
    · exact .inl h1
    · exact .inr ⟨g, cap, cur, fz, hv, hbg, hblk _ _ hg, hr⟩
  rcases h with h | h
  · exact .inl (key h)
  · exact .inr (key h)

theorem add_more (y : Addr) (k j : Nat) (hk : 0 < k) : (⟨y.block, y.off + k, none⟩ : Addr).add j = y.add (k + j) := by
  rw [Addr.add_lit]
  unfold Addr.add
  split
  · omega
  · simp [Nat.add_assoc]

theorem slb_rest (w : World) (y : Addr) (c k n : Nat) (pre rest : List UInt8) (hk : pre.length = k) (hk0 : 0 < k) (hn : n = (pre ++ rest).length) (hnc : n ≤ c)
    (hcell : ∀ j (hj : j < (pre ++ rest).length), w.cell? (y.add j) = some (.int .u8 ((pre ++ rest)[j].toNat : Int))) : SlB w (.slice (if c = k then some y else some ⟨y.block, y.off + k, none⟩) (n - k) (c - k)) rest := by
  have hnk : n - k = rest.length := by rw [hn]; simp; omega
  by_cases hck : c = k
  · have hr : rest = [] := List.eq_nil_of_length_eq_zero (by omega)
    rw [if_pos hck, hnk]
    subst hr
    exact .inr ⟨y, c - k, rfl, fun j hj => by simp at hj⟩
  · rw [if_neg hck, hnk]
    refine .inr ⟨_, c - k, rfl, fun j hj => ?_⟩
    rw [add_more y k j hk0, hcell (k + j) (by simp; omega), List.getElem_append_right (by omega)]
    congr 5
    omega

def sliceN : Value → Nat
  | .slice _ n _ => n
  | _ => 0

theorem e64_le (l : List UInt8) : (e64 l).length ≤ 4 * l.length := by
  match l with
  | [] => simp [e64]
  | [a] => simp [e64]
  | [a, b] => simp [e64]
  | a :: b :: c :: r =>
    have := e64_le r
    simp [e64]
    omega

set_option maxHeartbeats 2000000 in
set_option maxRecDepth 100000 in
theorem encode64_any (a0 : Option Addr) (len cap : Nat) (l : List UInt8) (w : World) (hv : SlB w (.slice a0 len cap) l) (hcap : len ≤ cap) (hcm : cap ≤ maxLen) (hs : l.length ≤ 1000000) :
    Calls Tryd.prog 40 #[.slice a0 len cap] w fun e w' => e = .returned (.string ⟨(e64 l).toArray⟩) ∧ Below w.heap.size w w' := by
  have hll : len = l.length := by
    rcases hv with ⟨c, e, rfl⟩ | ⟨x, c, e, hc⟩
    · obtain ⟨_, rfl, _⟩ := Value.slice.inj e
      rfl
    · obtain ⟨_, rfl, _⟩ := Value.slice.inj e
      rfl
  unfold maxLen at hcm
  go_enter Tryd.func40, Tryd.ntmps40
  go_wp2
  go_loopw [0] (fun vs wr => ∃ (x : Option Addr) (n c : Nat) (r acc : List UInt8), vs = .slice x n c ∧ n = r.length ∧ n ≤ c ∧ c ≤ cap ∧ SlB w (.slice x n c) r ∧ acc ++ e64 r = e64 l ∧ r.length ≤ l.length ∧ acc.length + 4 * r.length ≤ 4 * l.length ∧
      Lib.IsBuilderF 113 5 w.heap.size w.heap.size (Lib.byteCells acc) wr ∧ Below w.heap.size w wr) (fun vs _ => sliceN vs)
  case atStart =>
    exact ⟨a0, len, cap, l, [], rfl, hll, hcap, Nat.le_refl _, hv, rfl, Nat.le_refl _, by simp, Lib.IsBuilderF.of (Lib.fresh_isBuilder 113 5 w), (Below.refl _ w).alloc (Nat.le_refl _) _⟩
  case round =>
    obtain ⟨x, n, c, r, acc, rfl, hn, hnc, hcc, hr, hacc, hrl, hal, hI, hbw⟩ := hrel
    have HACC := hid hacc
    have HN := hid hn
    clear hacc hn
    match r, HN, hr, hrl, HACC with
    | [], HN, hr, hrl, HACC =>
      have hn0 : (n : Int) ≤ 0 := by have := HN.out; simp at this; omega
      have hfin : acc = e64 l := by have := HACC.out; simpa [e64] using this
      rw [hfin] at hI
      clear hfin HACC
      go_wp2_with (go_at_call 69; refine (Tryd.Builder_String_any_k w.heap.size w.heap.size _ _ hI hbw.size).mono ?_)
      rintro e w1 ⟨rfl, _, b1, _⟩
      go_wp2
      go_ret
      exact ⟨rfl, hbw.trans b1⟩
    | [a], HN, hr, hrl, HACC =>
      obtain ⟨y, rfl, hcell⟩ : ∃ y, x = some y ∧ ∀ j (hj : j < ([a]).length), w.cell? (y.add j) = some (.int .u8 (([a])[j].toNat : Int)) := by
        rcases hr with ⟨c', e, h0⟩ | ⟨y, c', e, hc⟩
        · simp at h0
        · obtain ⟨rfl, _, _⟩ := Value.slice.inj e
          exact ⟨y, rfl, hc⟩
      have hnk : n = 1 := by have := HN.out; simp at this; omega
      have hpos : (0 : Int) < (n : Int) := by omega
      have hmin : min (3 : Int) (n : Int) = 1 := by omega
      have hkc : (1 : Int) ≤ (c : Int) := by omega
      have hkn : (1 : Int) ≤ (n : Int) := by omega
      have hcell2 : ∀ j (hj : j < [a].length), wr.cell? (y.add j) = some (.int .u8 ([a][j].toNat : Int)) := by
        intro j hj
        have hj3 : j < 1 := by simpa using hj
        have hj' : j < ([a]).length := hj
        have e := hcell j hj'
        rw [hbw.cell (World.block_lt_of_cell? w _ e), e]
      have HK := hid hnk
      have HC := hid hcell
      clear hr hcell hnk
      go_wp2_with fail
      refine (encodeThree_1 y c a wr hcell2).mono ?_
      rintro e w1 ⟨rfl, hb1⟩
      clear hcell2
      have hI1 := builder_below hI hb1
      have hw1 : w.heap.size < w1.heap.size := by
        have h1 := hb1.size
        have h2 : w.heap.size < wr.heap.size := by
          rcases hI with h | h
          · exact h.lt
          · exact h.lt
        omega
      go_wp2_with fail
      refine (write_k w.heap.size w.heap.size _ w1.heap.size 4 4 _ 114 [d64 (a.toNat / 4), d64 (a.toNat % 4 * 16), 61, 61] _ (hI1.alloc _) (heap_alloc_new w1 _) (by omega) (by decide) rfl (by omega) ?_ (by rw [Lib.byteCells_length]; omega) (by simp; omega)).mono ?_
      · intro j hj
        rcases (show j = 0 ∨ j = 1 ∨ j = 2 ∨ j = 3 from by simp at hj; omega) with rfl | rfl | rfl | rfl <;> rfl
      rintro e w2 ⟨rfl, h2, b2, _⟩
      go_wp2
      go_roundw
      case rel =>
        have hnn := HN.out
        have hkk := HK.out
        refine ⟨_, n - 1, c - 1, [], acc ++ [d64 (a.toNat / 4), d64 (a.toNat % 4 * 16), 61, 61], rfl, ?_, by omega, by omega, slb_rest w y c 1 n [a] [] rfl (by omega) hnn hnc HC.out, ?_, ?_, ?_, ?_, ?_⟩
        · simp at hnn ⊢; omega
        · rw [← HACC.out, List.append_assoc]; rfl
        · simp at hrl ⊢; try omega
        · simp at hal ⊢; omega
        · rw [Lib.byteCells_append]; exact .inr h2
        · exact (hbw.trans (hb1.mono hbw.size)).trans (((Below.refl _ w1).alloc (by omega) _).trans b2)
      case measure =>
        have hkk := HK.out
        simp only [sliceN]
        omega
    | [a, b], HN, hr, hrl, HACC =>
      obtain ⟨y, rfl, hcell⟩ : ∃ y, x = some y ∧ ∀ j (hj : j < ([a, b]).length), w.cell? (y.add j) = some (.int .u8 (([a, b])[j].toNat : Int)) := by
        rcases hr with ⟨c', e, h0⟩ | ⟨y, c', e, hc⟩
        · simp at h0
        · obtain ⟨rfl, _, _⟩ := Value.slice.inj e
          exact ⟨y, rfl, hc⟩
      have hnk : n = 2 := by have := HN.out; simp at this; omega
      have hpos : (0 : Int) < (n : Int) := by omega
      have hmin : min (3 : Int) (n : Int) = 2 := by omega
      have hkc : (2 : Int) ≤ (c : Int) := by omega
      have hkn : (2 : Int) ≤ (n : Int) := by omega
      have hcell2 : ∀ j (hj : j < [a, b].length), wr.cell? (y.add j) = some (.int .u8 ([a, b][j].toNat : Int)) := by
        intro j hj
        have hj3 : j < 2 := by simpa using hj
        have hj' : j < ([a, b]).length := hj
        have e := hcell j hj'
        rw [hbw.cell (World.block_lt_of_cell? w _ e), e]
      have HK := hid hnk
      have HC := hid hcell
      clear hr hcell hnk
      go_wp2_with fail
      refine (encodeThree_2 y c a b wr hcell2).mono ?_
      rintro e w1 ⟨rfl, hb1⟩
      clear hcell2
      have hI1 := builder_below hI hb1
      have hw1 : w.heap.size < w1.heap.size := by
        have h1 := hb1.size
        have h2 : w.heap.size < wr.heap.size := by
          rcases hI with h | h
          · exact h.lt
          · exact h.lt
        omega
      go_wp2_with fail
      refine (write_k w.heap.size w.heap.size _ w1.heap.size 4 4 _ 114 [d64 (a.toNat / 4), d64 (a.toNat % 4 * 16 + b.toNat / 16), d64 (b.toNat % 16 * 4), 61] _ (hI1.alloc _) (heap_alloc_new w1 _) (by omega) (by decide) rfl (by omega) ?_ (by rw [Lib.byteCells_length]; omega) (by simp; omega)).mono ?_
      · intro j hj
        rcases (show j = 0 ∨ j = 1 ∨ j = 2 ∨ j = 3 from by simp at hj; omega) with rfl | rfl | rfl | rfl <;> rfl
      rintro e w2 ⟨rfl, h2, b2, _⟩
      go_wp2
      go_roundw
      case rel =>
        have hnn := HN.out
        have hkk := HK.out
        refine ⟨_, n - 2, c - 2, [], acc ++ [d64 (a.toNat / 4), d64 (a.toNat % 4 * 16 + b.toNat / 16), d64 (b.toNat % 16 * 4), 61], rfl, ?_, by omega, by omega, slb_rest w y c 2 n [a, b] [] rfl (by omega) hnn hnc HC.out, ?_, ?_, ?_, ?_, ?_⟩
        · simp at hnn ⊢; omega
        · rw [← HACC.out, List.append_assoc]; rfl
        · simp at hrl ⊢; try omega
        · simp at hal ⊢; omega
        · rw [Lib.byteCells_append]; exact .inr h2
        · exact (hbw.trans (hb1.mono hbw.size)).trans (((Below.refl _ w1).alloc (by omega) _).trans b2)
      case measure =>
        have hkk := HK.out
        simp only [sliceN]
        omega
    | a :: b :: d :: r, HN, hr, hrl, HACC =>
      obtain ⟨y, rfl, hcell⟩ : ∃ y, x = some y ∧ ∀ j (hj : j < (a :: b :: d :: r).length), w.cell? (y.add j) = some (.int .u8 ((a :: b :: d :: r)[j].toNat : Int)) := by
        rcases hr with ⟨c', e, h0⟩ | ⟨y, c', e, hc⟩
        · simp at h0
        · obtain ⟨rfl, _, _⟩ := Value.slice.inj e
          exact ⟨y, rfl, hc⟩
      have hnk : 3 ≤ n := by have := HN.out; simp at this; omega
      have hpos : (0 : Int) < (n : Int) := by omega
      have hmin : min (3 : Int) (n : Int) = 3 := by omega
      have hkc : (3 : Int) ≤ (c : Int) := by omega
      have hkn : (3 : Int) ≤ (n : Int) := by omega
      have hcell2 : ∀ j (hj : j < [a, b, d].length), wr.cell? (y.add j) = some (.int .u8 ([a, b, d][j].toNat : Int)) := by
        intro j hj
        have hj3 : j < 3 := by simpa using hj
        have hj' : j < (a :: b :: d :: r).length := by simp; omega
        have e := hcell j hj'
        rw [hbw.cell (World.block_lt_of_cell? w _ e), e]
        rcases (show j = 0 ∨ j = 1 ∨ j = 2 from by omega) with rfl | rfl | rfl <;> rfl
      have HK := hid hnk
      have HC := hid hcell
      clear hr hcell hnk
      go_wp2_with fail
      refine (encodeThree_3 y c a b d wr hcell2).mono ?_
      rintro e w1 ⟨rfl, hb1⟩
      clear hcell2
      have hI1 := builder_below hI hb1
      have hw1 : w.heap.size < w1.heap.size := by
        have h1 := hb1.size
        have h2 : w.heap.size < wr.heap.size := by
          rcases hI with h | h
          · exact h.lt
          · exact h.lt
        omega
      go_wp2_with fail
      refine (write_k w.heap.size w.heap.size _ w1.heap.size 4 4 _ 114 [d64 (a.toNat / 4), d64 (a.toNat % 4 * 16 + b.toNat / 16), d64 (b.toNat % 16 * 4 + d.toNat / 64), d64 (d.toNat % 64)] _ (hI1.alloc _) (heap_alloc_new w1 _) (by omega) (by decide) rfl (by omega) ?_ (by rw [Lib.byteCells_length]; omega) (by simp; omega)).mono ?_
      · intro j hj
        rcases (show j = 0 ∨ j = 1 ∨ j = 2 ∨ j = 3 from by simp at hj; omega) with rfl | rfl | rfl | rfl <;> rfl
      rintro e w2 ⟨rfl, h2, b2, _⟩
      go_wp2
      go_roundw
      case rel =>
        have hnn := HN.out
        have hkk := HK.out
        refine ⟨_, n - 3, c - 3, r, acc ++ [d64 (a.toNat / 4), d64 (a.toNat % 4 * 16 + b.toNat / 16), d64 (b.toNat % 16 * 4 + d.toNat / 64), d64 (d.toNat % 64)], rfl, ?_, by omega, by omega, slb_rest w y c 3 n [a, b, d] r rfl (by omega) hnn hnc HC.out, ?_, ?_, ?_, ?_, ?_⟩
        · simp at hnn ⊢; omega
        · rw [← HACC.out, List.append_assoc]; rfl
        · simp at hrl ⊢; omega
        · simp at hal ⊢; omega
        · rw [Lib.byteCells_append]; exact .inr h2
        · exact (hbw.trans (hb1.mono hbw.size)).trans (((Below.refl _ w1).alloc (by omega) _).trans b2)
      case measure =>
        have hkk := HK.out
        simp only [sliceN]
        omega

end Go.Proofs.YtbdlicomkpnalaaDoor
