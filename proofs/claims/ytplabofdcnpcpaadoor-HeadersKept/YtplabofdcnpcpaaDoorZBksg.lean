/-
  What ostiarybook's Apart has written so far.
-/
import Derived.Test.YtplabofdcnpcpaaDoorZBksf
import Derived.Test.YtplabofdcnpcpaaDoorZBksk
import Derived.Deep.QuietTactic
import Derived.BigQuiet
set_option linter.unusedSimpArgs false
set_option linter.unusedVariables false
namespace Go.Proofs.YtplabofdcnpcpaaDoor
open Go.RowKit

/-- List number i, written full with its marks where it is ahead of number t, and as far as place m where it is number t. -/
def RowMs (w : World) (B : Nat) (x : Value) (i t m : Nat) : Prop :=
  x = .slice none 0 0 ∨ ∃ g o n c cur, x = .slice (some ⟨g, o, none⟩) n c ∧ B ≤ g ∧ w.heap[g]? = some (Obj.cells cur 9 (0, 0)) ∧ n ≤ c ∧ c ≤ maxLen ∧ o + c ≤ cur.size ∧
    ∀ j, j < c → (i < t ∨ (i = t ∧ j < m)) → cur[o + j]? = some (.string (mk0s i j))

def Avs (w : World) (B p : Nat) (h : Int) (A : Value) (xs : List Value) (t m : Nat) : Prop :=
  (∃ Y, w.heap[p]? = some (Obj.cells #[A, Y, .int .i64 h, .bool false] 29 (0, 0))) ∧ SlV w B 33 A xs ∧ (∀ (i : Nat) (x : Value), xs[i]? = some x → RowMs w B x i t m) ∧ xs.Pairwise AptV

theorem RowMs.same {w w' : World} {B : Nat} {x : Value} {i t m : Nat} (h : RowMs w B x i t m) (hk : ∀ g, x.ownBlock = some g → w'.heap[g]? = w.heap[g]?) : RowMs w' B x i t m := by
  rcases h with h | ⟨g, o, n, c, cur, rfl, h1, h2, h3⟩
  · exact .inl h
  · exact .inr ⟨g, o, n, c, cur, rfl, h1, (hk g rfl).trans h2, h3⟩
theorem RowMs.lt {w : World} {B : Nat} {x : Value} {i t m : Nat} (h : RowMs w B x i t m) : ∀ g, x.ownBlock = some g → g < w.heap.size ∧ ∃ cur, w.heap[g]? = some (Obj.cells cur 9 (0, 0)) := by
  intro g' hg
  rcases h with rfl | ⟨g, o, n, c, cur, rfl, h1, h2, h3⟩
  · simp [Value.ownBlock] at hg
  · simp [Value.ownBlock] at hg
    subst hg
    exact ⟨(Array.getElem?_eq_some_iff.1 h2).1, cur, h2⟩

theorem Avs.below {w w' : World} {B p : Nat} {h : Int} {A : Value} {xs : List Value} {t m : Nat} (ha : Avs w B p h A xs t m) (hb : Below w.heap.size w w') : Avs w' B p h A xs t m := by
  obtain ⟨⟨Y, hp⟩, hA, hr, hpw⟩ := ha
  exact ⟨⟨Y, (hb.block p (Array.getElem?_eq_some_iff.1 hp).1).trans hp⟩, hA.same fun k hk => hb.block k (hA.lt k hk).2, fun i x hx => (hr i x hx).same fun g hg => hb.block g ((hr i x hx).lt g hg).1, hpw⟩

theorem Bks.av {w : World} {B p : Nat} {h : Int} {A Y : Value} {xs ys : List Value} (hb : Bks w B p h A Y xs ys) : Avs w B p h A xs 0 0 := by
  obtain ⟨h1, h2, h3, h4, h5, h6, h7, h8⟩ := hb
  refine ⟨⟨Y, h3⟩, h4, fun i x hx => ?_, h8⟩
  have hi := (List.getElem?_eq_some_iff.1 hx).1
  obtain ⟨n, L, _, hX, _⟩ := h7 i x (ys[i]'(by omega)) hx (by simp)
  rcases hX.2 with ⟨e, _⟩ | ⟨g, o, c, cur, e, hB, hg, hn, hm, hs, _⟩
  · exact .inl e
  · exact .inr ⟨g, o, _, c, cur, e, hB, hg, hn, hm, by omega, fun j _ hor => by omega⟩

theorem Avs.next {w : World} {B p : Nat} {h : Int} {A : Value} {xs : List Value} {t m : Nat} (ha : Avs w B p h A xs t m) (hm : ∀ g o n c, xs[t]? = some (.slice (some ⟨g, o, none⟩) n c) → c ≤ m) : Avs w B p h A xs (t + 1) 0 := by
  obtain ⟨hp, hA, hr, hpw⟩ := ha
  refine ⟨hp, hA, fun i x hx => ?_, hpw⟩
  rcases hr i x hx with h | ⟨g, o, n, c, cur, rfl, h1, h2, h3, h4, h5, h6⟩
  · exact .inl h
  · refine .inr ⟨g, o, n, c, cur, rfl, h1, h2, h3, h4, h5, fun j hj hor => h6 j hj ?_⟩
    by_cases hit : i = t
    · subst hit
      have := hm g o n c hx
      exact .inr ⟨rfl, by omega⟩
    · left; omega

theorem Avs.mark {w : World} {B p G O N C : Nat} {h : Int} {A : Value} {xs : List Value} {t m : Nat} (ha : Avs w B p h A xs t m) (ht : xs[t]? = some (.slice (some ⟨G, O, none⟩) N C)) (hm : m < C) :
    Avs (w.setCell ⟨G, O + m, none⟩ (.string (mk0s t m))) B p h A xs t (m + 1) := by
  obtain ⟨⟨Y, hp⟩, hA, hr, hpw⟩ := ha
  have hoth : ∀ k, k ≠ G → (w.setCell ⟨G, O + m, none⟩ (.string (mk0s t m))).heap[k]? = w.heap[k]? := fun k hk => by
    rw [heap_setCell_other _ ⟨G, O + m, none⟩ k _ hk]
  rcases hr t _ ht with e | ⟨g, o, n, c, cur, e, h1, h2, h3, h4, h5, h6⟩
  · cases e
  injection e with e1 e2 e3
  injection e1 with e1
  injection e1 with e1 e4
  subst e1 e2 e3 e4
  have k1 := Lib.heap_setCell_same h2 (i := O + m) (.string (mk0s t m))
  refine ⟨⟨Y, (hoth p (kind_nf hp h2 (by decide))).trans hp⟩, hA.same fun k hk => hoth k (fun e => hA.other h2 (by decide) (by rw [hk]; exact congrArg some e)), fun i x hx => ?_, hpw⟩
  by_cases hit : i = t
  · subst hit
    rw [ht] at hx
    obtain rfl := Option.some.inj hx
    refine .inr ⟨G, O, N, C, _, rfl, h1, k1, h3, h4, by simpa using h5, fun j hj hor => ?_⟩
    by_cases hjm : j = m
    · subst hjm
      have s0 : O + j < cur.size := by omega
      rw [show O + j = O + j from rfl]
      simp [s0]
    · have := h6 j hj (.inr ⟨rfl, by omega⟩)
      rw [Array.getElem?_setIfInBounds_ne (by omega)]; exact this
  · have hne : ∀ k, x.ownBlock = some k → k ≠ G := fun k hk e => by
      subst e
      have hil := (List.getElem?_eq_some_iff.1 hx)
      have htl := (List.getElem?_eq_some_iff.1 ht)
      obtain ⟨hi1, hi2⟩ := hil
      obtain ⟨ht1, ht2⟩ := htl
      rcases Nat.lt_or_gt_of_ne hit with hl | hl
      · have := (List.pairwise_iff_getElem.1 hpw) i t hi1 ht1 hl
        rw [hi2, ht2] at this
        rcases this with h' | h'
        · rw [hk] at h'; cases h'
        · exact h' (by rw [hk]; rfl)
      · have := (List.pairwise_iff_getElem.1 hpw) t i ht1 hi1 hl
        rw [hi2, ht2] at this
        rcases this with h' | h'
        · cases h'
        · exact h' (by rw [hk]; rfl)
    have hx' := (hr i x hx).same (w' := (w.setCell ⟨G, O + m, none⟩ (.string (mk0s t m)))) fun g hg => hoth g (hne g hg)
    rcases hx' with h' | ⟨g, o, n, c, cur', e', h1', h2', h3', h4', h5', h6'⟩
    · exact .inl h'
    · exact .inr ⟨g, o, n, c, cur', e', h1', h2', h3', h4', h5', fun j hj hor => h6' j hj (by omega)⟩

theorem RowMs.three {w : World} {B G O N C i t m : Nat} (h : RowMs w B (.slice (some ⟨G, O, none⟩) N C) i t m) (j : Nat) (hj : j < C) : ∃ a0, w.cell? ⟨G, O + j, none⟩ = some a0 ∧ w.frozen? ⟨G, O + j, none⟩ = false ∧ ((i < t ∨ (i = t ∧ j < m)) → a0 = .string (mk0s i j)) := by
  rcases h with e | ⟨g, o, n, c, cur, e, h1, h2, h3, h4, h5, h6⟩
  · cases e
  injection e with e1 e2 e3
  injection e1 with e1
  injection e1 with e1 e4
  subst e1 e2 e3 e4
  have s0 : O + j < cur.size := by omega
  refine ⟨cur[O + j], ?_, Lib.frozen_of_heap h2 _, fun hor => ?_⟩
  · rw [Lib.cell_of_heap h2]; simp [s0]
  · have a1 := h6 j hj hor
    rw [Array.getElem?_eq_getElem s0] at a1
    exact Option.some.inj a1

theorem slice_fulls (g o n c : Nat) (w : World) (hn : n ≤ c) : (Instr.sliceAt 33 (.slice (some ⟨g, o, none⟩) n c) none (some (.int .i64 (c : Int))) none).run Tryd.prog w = .ok (.slice (some ⟨g, o, none⟩) c c) w := by
  have und : Tryd.prog.underlying 33 = some (.slice (Tryd.prog.elem 33)) := by kernel_rfl
  have sz : (sizeOf (Tryd.prog.elem 33)).run Tryd.prog w = .ok 1 w := by kernel_rfl
  rw [run_sliceAt_slice (h := und), run_slice_h (ht := und) (h0 := by omega) (h2 := by omega), sz]
  simp only [Result.andThen, sliced, Int.toNat_natCast, Nat.zero_mul, Option.map_some, Nat.sub_zero, Addr.add_lit, Nat.add_zero, ite_self]

end Go.Proofs.YtplabofdcnpcpaaDoor
