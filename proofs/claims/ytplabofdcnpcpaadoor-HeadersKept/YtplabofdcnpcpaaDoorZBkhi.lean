/-
  A book, for the laws: at most so many lists, in these blocks.
-/
import Derived.Test.YtplabofdcnpcpaaDoorZBkha
import Derived.Test.YtplabofdcnpcpaaDoorZBkhes
import Derived.Test.YtplabofdcnpcpaaDoorZBkhen
set_option linter.unusedSimpArgs false
set_option linter.unusedVariables false
namespace Go.Proofs.YtplabofdcnpcpaaDoor
open Go.RowKit

/-- A book of at most n lists, whose blocks are among S. -/
def KBh (w : World) (B p n : Nat) (S : Nat → Prop) : Prop := ∃ (h : Int) (A Y : Value) (xs ys : List Value), xs.length ≤ n ∧ (∀ a ∈ xs, ∀ g, a.ownBlock = some g → S g) ∧ Bkh w B p h A Y xs ys

theorem KBh.below {w w' : World} {B p n : Nat} {S : Nat → Prop} (h : KBh w B p n S) (hb : Below w.heap.size w w') : KBh w' B p n S := by
  obtain ⟨h1, A, Y, xs, ys, hl, hs, hbk⟩ := h
  exact ⟨h1, A, Y, xs, ys, hl, hs, hbk.below hb⟩
theorem KBh.more {w : World} {B p n m : Nat} {S S' : Nat → Prop} (h : KBh w B p n S) (hm : n ≤ m) (hs : ∀ g, S g → S' g) : KBh w B p m S' := by
  obtain ⟨h1, A, Y, xs, ys, hl, hS, hbk⟩ := h
  exact ⟨h1, A, Y, xs, ys, by omega, fun a ha g hg => hs g (hS a ha g hg), hbk⟩
theorem KBh.old {w : World} {B p n : Nat} {S : Nat → Prop} (h : KBh w B p n S) : KBh w B p n (fun g => S g ∧ g < w.heap.size) := by
  obtain ⟨h1, A, Y, xs, ys, hl, hS, hbk⟩ := h
  refine ⟨h1, A, Y, xs, ys, hl, fun a ha g hg => ⟨hS a ha g hg, ?_⟩, hbk⟩
  obtain ⟨i, hi, rfl⟩ := List.getElem_of_mem ha
  have hy := hbk.2.1
  obtain ⟨m, L, _, hX, _⟩ := hbk.2.2.2.2.2.2.1 i xs[i] (ys[i]'(by omega)) (by simp [hi]) (by simp)
  exact (hX.lt g hg).2
theorem KBh.apart {w w' : World} {B p n : Nat} {S : Nat → Prop} (h : KBh w B p n S) (hk : ∀ k cur U fz, w.heap[k]? = some (Obj.cells cur U fz) → (U = 38 ∨ U = 22 ∨ k = p) → w'.heap[k]? = w.heap[k]?) : KBh w' B p n S := by
  obtain ⟨h1, A, Y, xs, ys, hl, hS, hbk⟩ := h
  exact ⟨h1, A, Y, xs, ys, hl, hS, hbk.apart hk⟩

/-- Keep: the list stands in the book, and what isn't the book's is as it was. -/
theorem keeph (B p n m : Nat) (S : Nat → Prop) (v : Value) (X : List ByteArray) (w : World) (hkb : KBh w B p n S) (hv : KpL 2 38 w B v m X) (hf : ∀ g, v.ownBlock = some g → ¬ S g) (hm : m ≤ 1000) (hn : n ≤ 200) (hBw : B ≤ w.heap.size) :
    Calls Tryd.prog 9 #[.pointer (some ⟨p, 0, none⟩), v] w fun e w' => e = .returned (.tuple #[]) ∧ KBh w' B p (n + 1) (fun g => S g ∨ v.ownBlock = some g) ∧ Bt 22 p B w w' := by
  obtain ⟨h, A, Y, xs, ys, hl, hS, hbk⟩ := hkb
  have hup : ∀ {w' : World}, KPh w' B p (xs ++ [v]) → KBh w' B p (n + 1) (fun g => S g ∨ v.ownBlock = some g) := by
    rintro w' ⟨h1, A', Y', zs, ys', k, ⟨hk, rfl⟩, hb⟩
    refine ⟨h1, A', Y', _, ys', by simp; omega, fun a ha g hg => ?_, hb⟩
    rcases List.mem_append.1 (List.mem_of_mem_drop ha) with ha | ha
    · exact .inl (hS a ha g hg)
    · rw [List.mem_singleton.1 ha] at hg
      exact .inr hg
  rcases hv.2 with ⟨rfl, hz⟩ | ⟨g, o, cap, cur, rfl, hg, _⟩
  · refine (keephn B p h A Y xs ys w hbk (by omega) hBw).mono ?_
    rintro e w' ⟨rfl, hkp, hb'⟩
    exact ⟨rfl, hup hkp, hb'⟩
  · refine (keephs B p h A Y xs ys g o cap m X w hbk hv hm (fun a ha => ?_) (by omega) hBw).mono ?_
    · by_cases hna : a.ownBlock = none
      · exact .inl hna
      · right
        intro e
        exact hf g rfl (hS a ha g e)
    · rintro e w' ⟨rfl, hkp, hb'⟩
      exact ⟨rfl, hup hkp, hb'⟩

theorem bookh (w : World) (S : Nat → Prop) : KBh (w.alloc (.cells #[.slice none 0 0, .slice none 0 0, .int .i64 0, .bool false] 26)) w.heap.size w.heap.size 0 S :=
  ⟨0, .slice none 0 0, .slice none 0 0, [], [], Nat.le_refl _, fun a ha => by simp at ha, Nat.le_refl _, rfl, by (show (w.heap.push _)[w.heap.size]? = _; exact Array.getElem?_push_size), .inl ⟨rfl, rfl⟩, .inl ⟨rfl, rfl⟩, .inl rfl, fun i x y hx _ => by simp at hx, List.Pairwise.nil⟩

end Go.Proofs.YtplabofdcnpcpaaDoor
