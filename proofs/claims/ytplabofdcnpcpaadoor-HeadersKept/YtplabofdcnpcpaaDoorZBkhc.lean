/-
  What a book holds.
-/
import Derived.Test.YtplabofdcnpcpaaDoorZBkhb
set_option linter.unusedSimpArgs false
set_option linter.unusedVariables false
namespace Go.Proofs.YtplabofdcnpcpaaDoor
open Go.RowKit

theorem infoLsh : (Tryd.prog.info? 22).map (fun i => (i.zero, i.size, i.bytes)) = some (some (.slice none 0 0), 1, 24) := by kernel_rfl
theorem infoEh : (Tryd.prog.info? 38).map (fun i => (i.zero, i.size, i.bytes)) = some (some (.agg #[.string ByteArray.empty, .string ByteArray.empty]), 2, 32) := by kernel_rfl

/-- Two lists of the same texts. -/
def Prh (w : World) (B : Nat) (x y : Value) : Prop := ∃ (n : Nat) (X : List ByteArray), n ≤ 1000 ∧ KpL 2 38 w B x n X ∧ KpL 2 38 w B y n X

/-- What a book holds. -/
def Bkh (w : World) (B p : Nat) (h : Int) (A Y : Value) (xs ys : List Value) : Prop :=
  B ≤ p ∧ ys.length = xs.length ∧ w.heap[p]? = some (Obj.cells #[A, Y, .int .i64 h, .bool false] 26 (0, 0)) ∧ SlV w B 22 A xs ∧ SlV w B 22 Y ys ∧ AptV A Y ∧
  (∀ (i : Nat) (x y : Value), xs[i]? = some x → ys[i]? = some y → Prh w B x y) ∧ xs.Pairwise AptV

theorem Prh.same {w w' : World} {B : Nat} {x y : Value} (h : Prh w B x y) (hk : ∀ k : Nat, (∃ (cur : Array Value) (fz : Nat × Nat), w.heap[k]? = some (Obj.cells cur 38 fz)) → w'.heap[k]? = w.heap[k]?) : Prh w' B x y := by
  obtain ⟨n, L, hl, h1, h2⟩ := h
  exact ⟨n, L, hl, h1.same fun g hg => hk g (by obtain ⟨cur, hc⟩ := h1.kind g hg; exact ⟨cur, _, hc⟩), h2.same fun g hg => hk g (by obtain ⟨cur, hc⟩ := h2.kind g hg; exact ⟨cur, _, hc⟩)⟩

theorem Bkh.lt {w : World} {B p : Nat} {h : Int} {A Y : Value} {xs ys : List Value} (hb : Bkh w B p h A Y xs ys) : p < w.heap.size := (Array.getElem?_eq_some_iff.1 hb.2.2.1).1

/-- Only the book's own block is turned. -/
theorem Bkh.turn {w w' : World} {B p : Nat} {h h' : Int} {A Y : Value} {xs ys : List Value} (hb : Bkh w B p h A Y xs ys) (hp : w'.heap[p]? = some (Obj.cells #[A, Y, .int .i64 h', .bool false] 26 (0, 0))) (hk : ∀ k, k < w.heap.size → k ≠ p → w'.heap[k]? = w.heap[k]?) : Bkh w' B p h' A Y xs ys := by
  obtain ⟨h1, h2, h3, h4, h5, h6, h7, h8⟩ := hb
  refine ⟨h1, h2, hp, h4.same fun k hk' => hk k (h4.lt k hk').2 (fun e => h4.other h3 (by decide) (by rw [hk']; exact congrArg some e)), h5.same fun k hk' => hk k (h5.lt k hk').2 (fun e => h5.other h3 (by decide) (by rw [hk']; exact congrArg some e)), h6, fun i x y hx hy => (h7 i x y hx hy).same fun k hk' => ?_, h8⟩
  obtain ⟨cur, fz, hc⟩ := hk'
  exact hk k (Array.getElem?_eq_some_iff.1 hc).1 (kind_nf hc h3 (by decide))

theorem Bkh.below {w w' : World} {B p : Nat} {h : Int} {A Y : Value} {xs ys : List Value} (hb : Bkh w B p h A Y xs ys) (hbl : Below w.heap.size w w') : Bkh w' B p h A Y xs ys :=
  hb.turn ((hbl.block p hb.lt).trans hb.2.2.1) fun k hk _ => hbl.block k hk

/-- What other blocks do is nothing to a book. -/
theorem Bkh.apart {w w' : World} {B p : Nat} {h : Int} {A Y : Value} {xs ys : List Value} (hb : Bkh w B p h A Y xs ys) (hk : ∀ k cur S fz, w.heap[k]? = some (Obj.cells cur S fz) → (S = 38 ∨ S = 22 ∨ k = p) → w'.heap[k]? = w.heap[k]?) : Bkh w' B p h A Y xs ys := by
  obtain ⟨h1, h2, h3, h4, h5, h6, h7, h8⟩ := hb
  refine ⟨h1, h2, (hk p _ _ _ h3 (.inr (.inr rfl))).trans h3, h4.same fun k hk' => ?_, h5.same fun k hk' => ?_, h6, fun i x y hx hy => (h7 i x y hx hy).same fun k hk' => ?_, h8⟩
  · obtain ⟨cur, hc⟩ := h4.kind k hk'
    exact hk k _ _ _ hc (.inr (.inl rfl))
  · obtain ⟨cur, hc⟩ := h5.kind k hk'
    exact hk k _ _ _ hc (.inr (.inl rfl))
  · obtain ⟨cur, fz, hc⟩ := hk'
    exact hk k _ _ _ hc (.inl rfl)

/-- The first list is let go. -/
theorem Bkh.drop {w w' : World} {B p gA oA cA gY oY cY : Nat} {h h' : Int} {a y : Value} {xs ys : List Value} (hb : Bkh w B p h (.slice (some ⟨gA, oA, none⟩) (xs.length + 1) cA) (.slice (some ⟨gY, oY, none⟩) (ys.length + 1) cY) (a :: xs) (y :: ys))
    (hp : w'.heap[p]? = some (Obj.cells #[.slice (some ⟨gA, oA + 1, none⟩) xs.length (cA - 1), .slice (some ⟨gY, oY + 1, none⟩) ys.length (cY - 1), .int .i64 h', .bool false] 26 (0, 0))) (hk : ∀ k, k < w.heap.size → k ≠ p → w'.heap[k]? = w.heap[k]?) :
    Bkh w' B p h' (.slice (some ⟨gA, oA + 1, none⟩) xs.length (cA - 1)) (.slice (some ⟨gY, oY + 1, none⟩) ys.length (cY - 1)) xs ys := by
  obtain ⟨h1, h2, h3, h4, h5, h6, h7, h8⟩ := hb
  have e4 := h4.tail
  have e5 := h5.tail
  have o4 := h4.other h3 (by decide)
  have o5 := h5.other h3 (by decide)
  refine ⟨h1, by simpa using h2, hp, e4.same fun k hk' => hk k (e4.lt k hk').2 (fun e => o4 (by show some gA = some p; rw [← e]; exact hk')), e5.same fun k hk' => hk k (e5.lt k hk').2 (fun e => o5 (by show some gY = some p; rw [← e]; exact hk')), ?_, fun i x z hx hz => (h7 (i + 1) x z (by simpa using hx) (by simpa using hz)).same fun k hk' => ?_, (List.pairwise_cons.1 h8).2⟩
  · rcases h6 with h6 | h6
    · exact .inl h6
    · exact .inr h6
  · obtain ⟨cur, fz, hc⟩ := hk'
    exact hk k (Array.getElem?_eq_some_iff.1 hc).1 (kind_nf hc h3 (by decide))

theorem sizeLsh (w : World) : (sizeOf (Tryd.prog.elem 24)).run Tryd.prog w = .ok 1 w := by kernel_rfl
theorem undLsh : Tryd.prog.underlying 24 = some (.slice (Tryd.prog.elem 24)) := by kernel_rfl
theorem slice_tailh (g o n c : Nat) (w : World) (hn : 1 ≤ n) (hc : 2 ≤ c) : (Instr.sliceAt 24 (.slice (some ⟨g, o, none⟩) n c) (some (.int .i64 1)) none none).run Tryd.prog w = .ok (.slice (some ⟨g, o + 1, none⟩) (n - 1) (c - 1)) w := by
  rw [run_sliceAt_slice (h := undLsh), run_slice_l (ht := undLsh) (h0 := by omega) (h1 := by omega), sizeLsh]
  simp only [Result.andThen, sliced, Option.map_some]
  rw [if_neg (by simp; omega)]
  simp [Addr.add_lit]

end Go.Proofs.YtplabofdcnpcpaaDoor
