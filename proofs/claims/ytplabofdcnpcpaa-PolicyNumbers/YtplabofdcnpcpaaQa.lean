/-
  A book of memory, for lists of any kind and room: lists that stand at any place of a row, an append to them; what a book holds.
-/
import Derived.Test.YtplabofdcnpcpaaLm
import Derived.Test.YtplabofdcnpcpaaPs
import Derived.Laws.AppendOwn
import Derived.Laws.OwnMore
import Derived.Below
import Derived.WalkSmall
import Derived.Lib.SmallJoins
set_option linter.unusedSimpArgs false
set_option linter.unusedVariables false
namespace Go.Proofs.Ytplabofdcnpcpaa
open Go.RowKit

/-- A list of one cell a place, at any place of a row of its own. -/
def SlV (w : World) (B : Nat) (T : TypeId) (v : Value) (us : List Value) : Prop :=
  (v = .slice none 0 0 ∧ us = []) ∨ ∃ g o c cur, v = .slice (some ⟨g, o, none⟩) us.length c ∧ B ≤ g ∧ w.heap[g]? = some (.cells cur T (0, 0)) ∧ us.length ≤ c ∧ o + c ≤ cur.size ∧ c ≤ maxLen ∧ ∀ j u, us[j]? = some u → cur[o + j]? = some u

theorem SlV.nil (w : World) (B : Nat) (T : TypeId) : SlV w B T (.slice none 0 0) [] := .inl ⟨rfl, rfl⟩

theorem SlV.form {w : World} {B : Nat} {T : TypeId} {v : Value} {us : List Value} (h : SlV w B T v us) : ∃ a c, v = .slice a us.length c ∧ us.length ≤ c := by
  rcases h with ⟨rfl, rfl⟩ | ⟨g, o, c, cur, rfl, _, _, hc, _⟩
  · exact ⟨none, 0, rfl, Nat.le_refl _⟩
  · exact ⟨_, c, rfl, hc⟩

theorem SlV.lt {w : World} {B : Nat} {T : TypeId} {v : Value} {us : List Value} (h : SlV w B T v us) : ∀ k, v.ownBlock = some k → B ≤ k ∧ k < w.heap.size := by
  intro k hk
  rcases h with ⟨rfl, rfl⟩ | ⟨g, o, c, cur, rfl, hB, hg, _⟩
  · simp [Value.ownBlock] at hk
  · simp [Value.ownBlock] at hk
    subst hk
    exact ⟨hB, (Array.getElem?_eq_some_iff.1 hg).1⟩

theorem SlV.same {w w' : World} {B : Nat} {T : TypeId} {v : Value} {us : List Value} (h : SlV w B T v us) (hk : ∀ k, v.ownBlock = some k → w'.heap[k]? = w.heap[k]?) : SlV w' B T v us := by
  rcases h with h | ⟨g, o, c, cur, rfl, hB, hg, h1, h2, h3, h4⟩
  · exact .inl h
  · exact .inr ⟨g, o, c, cur, rfl, hB, (hk g rfl).trans hg, h1, h2, h3, h4⟩

theorem SlV.other {w : World} {B p : Nat} {T T' : TypeId} {v : Value} {us : List Value} {cs : Array Value} {fr : Nat × Nat} (h : SlV w B T v us) (hp : w.heap[p]? = some (.cells cs T' fr)) (hne : T' ≠ T) : v.ownBlock ≠ some p := by
  rcases h with ⟨rfl, rfl⟩ | ⟨g, o, c, cur, rfl, hB, hg, _⟩
  · simp [Value.ownBlock]
  · intro e
    simp [Value.ownBlock] at e
    subst e
    rw [hp] at hg
    injection hg with hg
    injection hg with _ hg _
    exact hne hg

theorem SlV.cell {w : World} {B : Nat} {T : TypeId} {v : Value} {us : List Value} (h : SlV w B T v us) (j : Nat) (hj : j < us.length) : ∃ g o c, v = .slice (some ⟨g, o, none⟩) us.length c ∧ us.length ≤ c ∧ w.cell? ⟨g, o + j, none⟩ = some us[j] := by
  rcases h with ⟨rfl, rfl⟩ | ⟨g, o, c, cur, rfl, hB, hg, h1, h2, h3, h4⟩
  · simp at hj
  · refine ⟨g, o, c, rfl, h1, ?_⟩
    rw [Lib.cell_of_heap hg]
    exact h4 j us[j] (by simp [hj])

/-- What is behind the first one. -/
theorem SlV.tail {w : World} {B g o c : Nat} {T : TypeId} {a : Value} {us : List Value} (h : SlV w B T (.slice (some ⟨g, o, none⟩) (us.length + 1) c) (a :: us)) : SlV w B T (.slice (some ⟨g, o + 1, none⟩) us.length (c - 1)) us := by
  rcases h with ⟨h, _⟩ | ⟨g', o', c', cur, e, hB, hg, h1, h2, h3, h4⟩
  · cases h
  · injection e with e1 e2 e3
    injection e1 with e1
    injection e1 with e4 e5
    subst e4 e5 e3
    rw [List.length_cons] at h1
    refine .inr ⟨g, o + 1, c - 1, cur, rfl, hB, hg, by omega, by omega, by omega, fun j u hu => ?_⟩
    have := h4 (j + 1) u (by simpa using hu)
    rw [show o + 1 + j = o + (j + 1) by omega]
    exact this

theorem run_append_at {P : Program} (w : World) (t ty e : TypeId) (i : TypeInfo) (ht : P.underlying t = some (.slice e)) (hi : P.info? e = some i) (hsz : i.size = 1)
    (g o sLen sCap : Nat) (cur : Array Value) (hg : w.heap[g]? = some (.cells cur e (0, 0)))
    (a : Addr) (c : Nat) (x : Value) (hx : w.cell? (a.add 0) = some x) (h1 : x.oneCell' = true)
    (hroom : sLen + 1 ≤ sCap) (hfit : o + sLen + 1 ≤ cur.size) :
    (Builtin.append_ #[t, t] ty #[.slice (some ⟨g, o, none⟩) sLen sCap, .slice (some a) 1 c]).run P w =
      .ok (.slice (some ⟨g, o, none⟩) (sLen + 1) sCap) (w.setRow g (cur.toList.take (o + sLen) ++ [x] ++ cur.toList.drop (o + sLen + 1)).toArray) := by
  have hf := run_firstCells_some (P := P) w 1 1 a 1 c [x] rfl (fun j u hj => by
    match j, hj with
    | 0, hj => simp at hj; subst hj; exact hx)
  have hst := run_storeCells_at P g (o + sLen) e [x] 0 cur w hg (by simpa using hfit) (by simpa using h1)
  simp only [Nat.add_zero, List.length_cons, List.length_nil, Nat.zero_add] at hst
  simp [Builtin.append_, run_underlying ht, sizeOf, typeInfo, hi, hsz, Builtin.lenOf, hroom, hf, Addr.add_lit, hst]

/-- One more place behind such a list. -/
theorem run_append_slv {P : Program} (w : World) (B : Nat) (t ty e : TypeId) (i : TypeInfo) (z : Value) (ht : P.underlying t = some (.slice e)) (hi : P.info? e = some i) (hz : i.zero = some z) (hsz : i.size = 1) (hby : i.bytes = 24) (hzs : z.cells.size = 1)
    (v : Value) (us : List Value) (h : SlV w B e v us) (a : Addr) (c : Nat) (x : Value) (hx : w.cell? (a.add 0) = some x) (h1 : x.oneCell' = true) (hn : us.length ≤ 100000) (hB : B ≤ w.heap.size) :
    ∃ v' w', (Builtin.append_ #[t, t] ty #[v, .slice (some a) 1 c]).run P w = .ok v' w' ∧ SlV w' B e v' (us ++ [x]) ∧ w.grownBy w' v.ownBlock ∧ (v'.ownBlock = v.ownBlock ∨ ∃ k, v'.ownBlock = some k ∧ w.heap.size ≤ k) := by
  have hml : maxLen = 9223372036854775807 := rfl
  have hnews : ∀ j u, [x][j]? = some u → w.cell? (a.add j) = some u := fun j u hj => by
    match j, hj with
    | 0, hj => simp at hj; subst hj; exact hx
  rcases h with ⟨rfl, rfl⟩ | ⟨g, o, cap, cur, rfl, hBg, hg, hnc, hoc, hcm, hc⟩
  · have hr := run_append_nil (P := P) w t ty e i z ht hi hz a 1 c [x] (by rw [hsz]; rfl) hnews (by decide) (by decide) (by omega)
    refine ⟨_, _, hr, ?_, ⟨rfl, rfl, rfl, by simp, fun k hk _ => Lib.alloc_old w.drew _ k hk⟩, .inr ⟨_, rfl, Nat.le_refl _⟩⟩
    have hge := grownCap_ge w 1 0 e
    refine .inr ⟨w.heap.size, 0, _, _, rfl, hB, heap_alloc_new w.drew _, hge, ?_, grownCap_le_maxLen w 1 0 e (by omega), fun j u hu => ?_⟩
    · simp only [Array.size_append, List.size_toArray, size_zeroCells, hzs, List.length_cons, List.length_nil]
      omega
    · have hj : j < 1 := by have := (List.getElem?_eq_some_iff.1 hu).1; simpa using this
      obtain rfl : j = 0 := by omega
      simp at hu
      subst hu
      rw [Nat.zero_add, Array.getElem?_append_left (by simp)]
      simp
  · by_cases hroom : us.length + 1 ≤ cap
    · have hr := run_append_at (P := P) w t ty e i ht hi hsz g o us.length cap cur hg a c x hx h1 hroom (by omega)
      refine ⟨_, _, hr, ?_, ?_, .inl rfl⟩
      · refine .inr ⟨g, o, cap, _, by simp, hBg, setRow_heap w g cur _ e (0, 0) hg, by simpa using hroom, ?_, hcm, fun j u hu => ?_⟩
        · simp only [List.size_toArray, List.length_append, List.length_take, List.length_drop, Array.length_toList, List.length_cons, List.length_nil]
          omega
        · have hj : j < us.length + 1 := by have := (List.getElem?_eq_some_iff.1 hu).1; simpa using this
          have hlt : (cur.toList.take (o + us.length)).length = o + us.length := by rw [List.length_take]; have : cur.toList.length = cur.size := Array.length_toList; omega
          rw [List.getElem?_toArray, List.append_assoc]
          by_cases hjn : j < us.length
          · rw [List.getElem?_append_left (by omega), List.getElem?_take, if_pos (by omega), Array.getElem?_toList]
            rw [List.getElem?_append_left hjn] at hu
            exact hc j u hu
          · obtain rfl : j = us.length := by omega
            rw [List.getElem?_append_right (by omega), hlt, Nat.sub_self]
            rw [List.getElem?_append_right (Nat.le_refl _), Nat.sub_self] at hu
            simpa using hu
      · exact ⟨rfl, rfl, rfl, by simp, fun k hk hne => setRow_other w g k _ (fun e => hne (by rw [e]; rfl))⟩
    · have hr := run_append_grow (P := P) w t ty e i z ht hi hz ⟨g, o, none⟩ us.length cap us (by rw [hsz, Nat.mul_one]) (fun j u hu => by
        rw [Addr.add_lit, Lib.cell_of_heap hg]
        exact hc j u hu) a 1 c [x] (by rw [hsz]; rfl) hnews (by omega) (by omega) (growslice_fits (by omega) (by rw [hby]; omega))
      refine ⟨_, _, hr, ?_, ⟨rfl, rfl, rfl, by simp, fun k hk _ => Lib.alloc_old w.drew _ k hk⟩, .inr ⟨_, rfl, Nat.le_refl _⟩⟩
      have hge := grownCap_ge w (us.length + 1) cap e
      refine .inr ⟨w.heap.size, 0, _, _, by simp, hB, heap_alloc_new w.drew _, by simpa using hge, ?_, grownCap_le_maxLen w (us.length + 1) cap e (by omega), fun j u hu => ?_⟩
      · simp only [Array.size_append, List.size_toArray, size_zeroCells, hzs, List.length_cons, List.length_nil]
        omega
      · have hj : j < us.length + 1 := by have := (List.getElem?_eq_some_iff.1 hu).1; simpa using this
        rw [Nat.zero_add, Array.getElem?_append_left (by simp; omega), show us.toArray ++ [x].toArray = (us ++ [x]).toArray by simp]
        simpa using hu

end Go.Proofs.Ytplabofdcnpcpaa
