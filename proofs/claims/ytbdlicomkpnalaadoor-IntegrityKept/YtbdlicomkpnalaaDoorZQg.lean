/-
  The walk of ostiarybook's Apart at items.
-/
import Derived.Test.YtbdlicomkpnalaaDoorZQf
import Derived.Deep.QuietTactic
import Derived.BigQuiet
set_option linter.unusedSimpArgs false
set_option linter.unusedVariables false
namespace Go.Proofs.YtbdlicomkpnalaaDoor
open Go.RowKit

def emp9 : Value := .string ⟨#[]⟩

/-- List number i, written full with its marks where it is ahead of number t, and as far as place m where it is number t. -/
def RowM9 (w : World) (B : Nat) (x : Value) (i t m : Nat) : Prop :=
  x = .slice none 0 0 ∨ ∃ g n c cur, x = .slice (some ⟨g, 0, none⟩) n c ∧ B ≤ g ∧ w.heap[g]? = some (Obj.cells cur 56 (0, 0)) ∧ n ≤ c ∧ c ≤ maxLen ∧ cur.size = c * 3 ∧
    ∀ j, j < c → (i < t ∨ (i = t ∧ j < m)) → cur[j * 3]? = some (.int .i64 (mkI9 i j)) ∧ cur[j * 3 + 1]? = some emp9 ∧ cur[j * 3 + 2]? = some emp9

def Av9 (w : World) (B p : Nat) (h : Int) (A : Value) (xs : List Value) (t m : Nat) : Prop :=
  (∃ Y, w.heap[p]? = some (Obj.cells #[A, Y, .int .i64 h, .bool false] 53 (0, 0))) ∧ SlV w B 42 A xs ∧ (∀ (i : Nat) (x : Value), xs[i]? = some x → RowM9 w B x i t m) ∧ xs.Pairwise Apt

theorem RowM9.same {w w' : World} {B : Nat} {x : Value} {i t m : Nat} (h : RowM9 w B x i t m) (hk : ∀ g, x.ownBlock = some g → w'.heap[g]? = w.heap[g]?) : RowM9 w' B x i t m := by
  rcases h with h | ⟨g, n, c, cur, rfl, h1, h2, h3⟩
  · exact .inl h
  · exact .inr ⟨g, n, c, cur, rfl, h1, (hk g rfl).trans h2, h3⟩
theorem RowM9.lt {w : World} {B : Nat} {x : Value} {i t m : Nat} (h : RowM9 w B x i t m) : ∀ g, x.ownBlock = some g → g < w.heap.size ∧ ∃ cur, w.heap[g]? = some (Obj.cells cur 56 (0, 0)) := by
  intro g' hg
  rcases h with rfl | ⟨g, n, c, cur, rfl, h1, h2, h3⟩
  · simp [Value.ownBlock] at hg
  · simp [Value.ownBlock] at hg
    subst hg
    exact ⟨(Array.getElem?_eq_some_iff.1 h2).1, cur, h2⟩

theorem Av9.below {w w' : World} {B p : Nat} {h : Int} {A : Value} {xs : List Value} {t m : Nat} (ha : Av9 w B p h A xs t m) (hb : Below w.heap.size w w') : Av9 w' B p h A xs t m := by
  obtain ⟨⟨Y, hp⟩, hA, hr, hpw⟩ := ha
  exact ⟨⟨Y, (hb.block p (Array.getElem?_eq_some_iff.1 hp).1).trans hp⟩, hA.same fun k hk => hb.block k (hA.lt k hk).2, fun i x hx => (hr i x hx).same fun g hg => hb.block g ((hr i x hx).lt g hg).1, hpw⟩

theorem Bk9.av {w : World} {B p : Nat} {h : Int} {A Y : Value} {xs ys : List Value} (hb : Bk9 w B p h A Y xs ys) : Av9 w B p h A xs 0 0 := by
  obtain ⟨h1, h2, h3, h4, h5, h6, h7, h8⟩ := hb
  refine ⟨⟨Y, h3⟩, h4, fun i x hx => ?_, h8⟩
  have hi := (List.getElem?_eq_some_iff.1 hx).1
  obtain ⟨L, _, hX, _⟩ := h7 i x (ys[i]'(by omega)) hx (by simp)
  rcases hX.2 with ⟨e, _⟩ | ⟨g, c, cur, e, hB, hg, hn, hm, hs, _⟩
  · exact .inl e
  · exact .inr ⟨g, _, c, cur, e, hB, hg, hn, hm, hs, fun j _ hor => by omega⟩

theorem Av9.next {w : World} {B p : Nat} {h : Int} {A : Value} {xs : List Value} {t m : Nat} (ha : Av9 w B p h A xs t m) (hm : ∀ g n c, xs[t]? = some (.slice (some ⟨g, 0, none⟩) n c) → c ≤ m) : Av9 w B p h A xs (t + 1) 0 := by
  obtain ⟨hp, hA, hr, hpw⟩ := ha
  refine ⟨hp, hA, fun i x hx => ?_, hpw⟩
  rcases hr i x hx with h | ⟨g, n, c, cur, rfl, h1, h2, h3, h4, h5, h6⟩
  · exact .inl h
  · refine .inr ⟨g, n, c, cur, rfl, h1, h2, h3, h4, h5, fun j hj hor => h6 j hj ?_⟩
    by_cases hit : i = t
    · subst hit
      have := hm g n c hx
      exact .inr ⟨rfl, by omega⟩
    · left; omega

theorem Av9.mark {w : World} {B p G N C : Nat} {h : Int} {A : Value} {xs : List Value} {t m : Nat} (ha : Av9 w B p h A xs t m) (ht : xs[t]? = some (.slice (some ⟨G, 0, none⟩) N C)) (hm : m < C) :
    Av9 (((w.setCell ⟨G, m * 3, none⟩ (.int .i64 (mkI9 t m))).setCell ⟨G, m * 3 + 1, none⟩ emp9).setCell ⟨G, m * 3 + 2, none⟩ emp9) B p h A xs t (m + 1) := by
  obtain ⟨⟨Y, hp⟩, hA, hr, hpw⟩ := ha
  have hoth : ∀ k, k ≠ G → (((w.setCell ⟨G, m * 3, none⟩ (.int .i64 (mkI9 t m))).setCell ⟨G, m * 3 + 1, none⟩ emp9).setCell ⟨G, m * 3 + 2, none⟩ emp9).heap[k]? = w.heap[k]? := fun k hk => by
    rw [heap_setCell_other _ ⟨G, m * 3 + 2, none⟩ k _ hk, heap_setCell_other _ ⟨G, m * 3 + 1, none⟩ k _ hk, heap_setCell_other _ ⟨G, m * 3, none⟩ k _ hk]
  rcases hr t _ ht with e | ⟨g, n, c, cur, e, h1, h2, h3, h4, h5, h6⟩
  · cases e
  injection e with e1 e2 e3
  injection e1 with e1
  injection e1 with e1 _
  subst e1 e2 e3
  have k1 := Lib.heap_setCell_same h2 (i := m * 3) (.int .i64 (mkI9 t m))
  have k2 := Lib.heap_setCell_same k1 (i := m * 3 + 1) emp9
  have k3 := Lib.heap_setCell_same k2 (i := m * 3 + 2) emp9
  refine ⟨⟨Y, (hoth p (kind_ne hp h2 (by decide))).trans hp⟩, hA.same fun k hk => hoth k (fun e => hA.other h2 (by decide) (by rw [hk]; exact congrArg some e)), fun i x hx => ?_, hpw⟩
  by_cases hit : i = t
  · subst hit
    rw [ht] at hx
    obtain rfl := Option.some.inj hx
    refine .inr ⟨G, N, C, _, rfl, h1, k3, h3, h4, by simpa using h5, fun j hj hor => ?_⟩
    by_cases hjm : j = m
    · subst hjm
      have s0 : j * 3 < cur.size := by omega
      have s1 : j * 3 + 1 < cur.size := by omega
      have s2 : j * 3 + 2 < cur.size := by omega
      refine ⟨?_, ?_, ?_⟩
      · rw [Array.getElem?_setIfInBounds_ne (by omega), Array.getElem?_setIfInBounds_ne (by omega)]; simp [s0]
      · rw [Array.getElem?_setIfInBounds_ne (by omega)]; simp [s1]
      · simp [s2]
    · have := h6 j hj (.inr ⟨rfl, by omega⟩)
      refine ⟨?_, ?_, ?_⟩
      · rw [Array.getElem?_setIfInBounds_ne (by omega), Array.getElem?_setIfInBounds_ne (by omega), Array.getElem?_setIfInBounds_ne (by omega)]; exact this.1
      · rw [Array.getElem?_setIfInBounds_ne (by omega), Array.getElem?_setIfInBounds_ne (by omega), Array.getElem?_setIfInBounds_ne (by omega)]; exact this.2.1
      · rw [Array.getElem?_setIfInBounds_ne (by omega), Array.getElem?_setIfInBounds_ne (by omega), Array.getElem?_setIfInBounds_ne (by omega)]; exact this.2.2
  · have hne : ∀ k, x.ownBlock = some k → k ≠ G := fun k hk e => by
      subst e
      have hil := (List.getElem?_eq_some_iff.1 hx)
      have htl := (List.getElem?_eq_some_iff.1 ht)
      obtain ⟨hi1, hi2⟩ := hil
      obtain ⟨ht1, ht2⟩ := htl
      rcases Nat.lt_or_gt_of_ne hit with hl | hl
      · have := (List.pairwise_iff_getElem.1 hpw) i t hi1 ht1 hl
        rw [hi2, ht2] at this
        rcases this with h' | h'
        · rw [hk] at h'; cases h'
        · exact h' (by rw [hk]; rfl)
      · have := (List.pairwise_iff_getElem.1 hpw) t i ht1 hi1 hl
        rw [hi2, ht2] at this
        rcases this with h' | h'
        · cases h'
        · exact h' (by rw [hk]; rfl)
    have hx' := (hr i x hx).same (w' := (((w.setCell ⟨G, m * 3, none⟩ (.int .i64 (mkI9 t m))).setCell ⟨G, m * 3 + 1, none⟩ emp9).setCell ⟨G, m * 3 + 2, none⟩ emp9)) fun g hg => hoth g (hne g hg)
    rcases hx' with h' | ⟨g, n, c, cur', e', h1', h2', h3', h4', h5', h6'⟩
    · exact .inl h'
    · exact .inr ⟨g, n, c, cur', e', h1', h2', h3', h4', h5', fun j hj hor => h6' j hj (by omega)⟩

end Go.Proofs.YtbdlicomkpnalaaDoor
