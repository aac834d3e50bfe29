/-
  A book of lists of items: what it holds; an append to its rows as a step of a walk.
-/
import Derived.Test.YtbdlicomkpnalaaDoorZQb
import Derived.Test.YtbdlicomkpnalaaDoorZWr
import Derived.Test.YtbdlicomkpnalaaDoorZWt
import Derived.Deep.RegionLaw
import Derived.Deep.RegionHeld
set_option linter.unusedSimpArgs false
set_option linter.unusedVariables false
namespace Go.Proofs.YtbdlicomkpnalaaDoor
open Go.RowKit

theorem wp_append_slv {P : Program} (w : World) {o : Oper} {a : Act} {K : Act → World → Prop} {Q : Exit → Act → World → Prop} (s x : Operand) (t : TypeId)
    (ho : o.op = .call { callee := .builtin .append, args := #[s, x], argTypes := #[t, t] })
    (B : Nat) (e : TypeId) (i : TypeInfo) (z : Value) (ht : P.underlying t = some (.slice e)) (hi : P.info? e = some i) (hz : i.zero = some z) (hsz : i.size = 1) (hby : i.bytes = 24) (hzs : z.cells.size = 1)
    (v : Value) (us : List Value) (hs : a.eval s = v) (hv : SlV w B e v us) (ad : Addr) (c : Nat) (u : Value) (hx : a.eval x = .slice (some ad) 1 c) (hu : w.cell? (ad.add 0) = some u) (h1 : u.oneCell' = true) (hn : us.length ≤ 100000) (hB : B ≤ w.heap.size)
    (h : ∀ v' w', SlV w' B e v' (us ++ [u]) → w.grownBy w' v.ownBlock → (v'.ownBlock = v.ownBlock ∨ ∃ k, v'.ownBlock = some k ∧ w.heap.size ≤ k) → K (a.put o.dst v') w') : o.wp P a w K Q := by
  obtain ⟨v', w', hr, h2, h3, h4⟩ := run_append_slv (P := P) w B t o.type e i z ht hi hz hsz hby hzs v us hv ad c u hu h1 hn hB
  unfold Oper.wp
  simp [execOp, ho, resolve, invoke, builtin, hs, hx, hr, Result.andThen]
  exact h v' w' h2 h3 h4

theorem wpList_append_slv {P : Program} (w : World) {ops : Array Oper} {rest : List Oper} {o : Oper} {a : Act} {Q : Exit → Act → World → Prop} (hgd : o.guard = none) (s x : Operand) (t : TypeId)
    (ho : o.op = .call { callee := .builtin .append, args := #[s, x], argTypes := #[t, t] })
    (B : Nat) (e : TypeId) (i : TypeInfo) (z : Value) (ht : P.underlying t = some (.slice e)) (hi : P.info? e = some i) (hz : i.zero = some z) (hsz : i.size = 1) (hby : i.bytes = 24) (hzs : z.cells.size = 1)
    (v : Value) (us : List Value) (hs : a.eval s = v) (hv : SlV w B e v us) (ad : Addr) (c : Nat) (u : Value) (hx : a.eval x = .slice (some ad) 1 c) (hu : w.cell? (ad.add 0) = some u) (h1 : u.oneCell' = true) (hn : us.length ≤ 100000) (hB : B ≤ w.heap.size)
    (h : ∀ v' w', SlV w' B e v' (us ++ [u]) → w.grownBy w' v.ownBlock → (v'.ownBlock = v.ownBlock ∨ ∃ k, v'.ownBlock = some k ∧ w.heap.size ≤ k) → wpList P ops Q rest (a.put o.dst v') w') : wpList P ops Q (o :: rest) a w :=
  wpList_plain hgd fun _ hK => wp_append_slv w s x t ho B e i z ht hi hz hsz hby hzs v us hs hv ad c u hx hu h1 hn hB fun v' w' h2 h3 h4 => hK _ _ (h v' w' h2 h3 h4)

theorem step_append_slv {P : Program} {ops : Array Oper} {o : Oper} {a : Act} {w : World} {K : Act → World → Prop} {Q : Exit → Act → World → Prop} {E : Prop} (hgd : o.guard = none) (s x : Operand) (t : TypeId)
    (ho : o.op = .call { callee := .builtin .append, args := #[s, x], argTypes := #[t, t] })
    (B : Nat) (e : TypeId) (i : TypeInfo) (z : Value) (ht : P.underlying t = some (.slice e)) (hi : P.info? e = some i) (hz : i.zero = some z) (hsz : i.size = 1) (hby : i.bytes = 24) (hzs : z.cells.size = 1)
    (v : Value) (us : List Value) (hs : a.eval s = v) (hv : SlV w B e v us) (ad : Addr) (c : Nat) (u : Value) (hx : a.eval x = .slice (some ad) 1 c) (hu : w.cell? (ad.add 0) = some u) (h1 : u.oneCell' = true) (hn : us.length ≤ 100000) (hB : B ≤ w.heap.size)
    (h : ∀ v' w', SlV w' B e v' (us ++ [u]) → w.grownBy w' v.ownBlock → (v'.ownBlock = v.ownBlock ∨ ∃ k, v'.ownBlock = some k ∧ w.heap.size ≤ k) → K (a.put o.dst v') w') :
    if Region.wanted o (yielded ops a.tmps) = true then Oper.wp P o a w K Q else E := by
  rw [if_pos (by simp [Region.wanted, hgd])]
  exact wp_append_slv w s x t ho B e i z ht hi hz hsz hby hzs v us hs hv ad c u hx hu h1 hn hB h

theorem infoLs9 : (Tryd.prog.info? 42).map (fun i => (i.zero, i.size, i.bytes)) = some (some (.slice none 0 0), 1, 24) := by kernel_rfl

def Apt (a b : Value) : Prop := a.ownBlock = none ∨ a.ownBlock ≠ b.ownBlock

/-- Two lists of the same items. -/
def Pr9 (w : World) (B : Nat) (x y : Value) : Prop := ∃ L : List It, L.length ≤ 1000 ∧ w.ownsRow B 56 3 x L.length (cellsI L) ∧ w.ownsRow B 56 3 y L.length (cellsI L)

/-- What a book holds. -/
def Bk9 (w : World) (B p : Nat) (h : Int) (A Y : Value) (xs ys : List Value) : Prop :=
  B ≤ p ∧ ys.length = xs.length ∧ w.heap[p]? = some (.cells #[A, Y, .int .i64 h, .bool false] 53 (0, 0)) ∧ SlV w B 42 A xs ∧ SlV w B 42 Y ys ∧ Apt A Y ∧
  (∀ (i : Nat) (x y : Value), xs[i]? = some x → ys[i]? = some y → Pr9 w B x y) ∧ xs.Pairwise Apt

theorem Pr9.same {w w' : World} {B : Nat} {x y : Value} (h : Pr9 w B x y) (hk : ∀ k : Nat, (∃ (cur : Array Value) (fz : Nat × Nat), w.heap[k]? = some (Obj.cells cur 56 fz)) → w'.heap[k]? = w.heap[k]?) : Pr9 w' B x y := by
  obtain ⟨L, hl, h1, h2⟩ := h
  exact ⟨L, hl, ownsRow_same h1 fun g hg => hk g (by obtain ⟨cur, hc⟩ := ownsRow_kind h1 g hg; exact ⟨cur, _, hc⟩), ownsRow_same h2 fun g hg => hk g (by obtain ⟨cur, hc⟩ := ownsRow_kind h2 g hg; exact ⟨cur, _, hc⟩)⟩

theorem Bk9.lt {w : World} {B p : Nat} {h : Int} {A Y : Value} {xs ys : List Value} (hb : Bk9 w B p h A Y xs ys) : p < w.heap.size := (Array.getElem?_eq_some_iff.1 hb.2.2.1).1

/-- Only the book's own block is turned. -/
theorem Bk9.turn {w w' : World} {B p : Nat} {h h' : Int} {A Y : Value} {xs ys : List Value} (hb : Bk9 w B p h A Y xs ys) (hp : w'.heap[p]? = some (.cells #[A, Y, .int .i64 h', .bool false] 53 (0, 0))) (hk : ∀ k, k < w.heap.size → k ≠ p → w'.heap[k]? = w.heap[k]?) : Bk9 w' B p h' A Y xs ys := by
  obtain ⟨h1, h2, h3, h4, h5, h6, h7, h8⟩ := hb
  refine ⟨h1, h2, hp, h4.same fun k hk' => hk k (h4.lt k hk').2 (fun e => h4.other h3 (by decide) (by rw [hk']; exact congrArg some e)), h5.same fun k hk' => hk k (h5.lt k hk').2 (fun e => h5.other h3 (by decide) (by rw [hk']; exact congrArg some e)), h6, fun i x y hx hy => (h7 i x y hx hy).same fun k hk' => ?_, h8⟩
  obtain ⟨cur, fz, hc⟩ := hk'
  refine hk k (Array.getElem?_eq_some_iff.1 hc).1 (fun e => ?_)
  rw [e, h3] at hc
  injection hc with hc
  injection hc with _ hc _
  exact absurd hc (by decide)

theorem Bk9.below {w w' : World} {B p : Nat} {h : Int} {A Y : Value} {xs ys : List Value} (hb : Bk9 w B p h A Y xs ys) (hbl : Below w.heap.size w w') : Bk9 w' B p h A Y xs ys :=
  hb.turn ((hbl.block p hb.lt).trans hb.2.2.1) fun k hk _ => hbl.block k hk

/-- The first list is let go. -/
theorem Bk9.drop {w w' : World} {B p gA oA cA gY oY cY : Nat} {h h' : Int} {a y : Value} {xs ys : List Value} (hb : Bk9 w B p h (.slice (some ⟨gA, oA, none⟩) (xs.length + 1) cA) (.slice (some ⟨gY, oY, none⟩) (ys.length + 1) cY) (a :: xs) (y :: ys))
    (hp : w'.heap[p]? = some (.cells #[.slice (some ⟨gA, oA + 1, none⟩) xs.length (cA - 1), .slice (some ⟨gY, oY + 1, none⟩) ys.length (cY - 1), .int .i64 h', .bool false] 53 (0, 0))) (hk : ∀ k, k < w.heap.size → k ≠ p → w'.heap[k]? = w.heap[k]?) :
    Bk9 w' B p h' (.slice (some ⟨gA, oA + 1, none⟩) xs.length (cA - 1)) (.slice (some ⟨gY, oY + 1, none⟩) ys.length (cY - 1)) xs ys := by
  obtain ⟨h1, h2, h3, h4, h5, h6, h7, h8⟩ := hb
  have e4 := h4.tail
  have e5 := h5.tail
  have o4 := h4.other h3 (by decide)
  have o5 := h5.other h3 (by decide)
  refine ⟨h1, by simpa using h2, hp, e4.same fun k hk' => hk k (e4.lt k hk').2 (fun e => o4 (by show some gA = some p; rw [← e]; exact hk')), e5.same fun k hk' => hk k (e5.lt k hk').2 (fun e => o5 (by show some gY = some p; rw [← e]; exact hk')), ?_, fun i x z hx hz => (h7 (i + 1) x z (by simpa using hx) (by simpa using hz)).same fun k hk' => ?_, (List.pairwise_cons.1 h8).2⟩
  · rcases h6 with h6 | h6
    · exact .inl h6
    · exact .inr h6
  · obtain ⟨cur, fz, hc⟩ := hk'
    refine hk k (Array.getElem?_eq_some_iff.1 hc).1 (fun e => ?_)
    rw [e, h3] at hc
    injection hc with hc
    injection hc with _ hc _
    exact absurd hc (by decide)

theorem sizeLs9 (w : World) : (sizeOf (Tryd.prog.elem 51)).run Tryd.prog w = .ok 1 w := by kernel_rfl
theorem undLs9 : Tryd.prog.underlying 51 = some (.slice (Tryd.prog.elem 51)) := by kernel_rfl
theorem slice_tail9 (g o n c : Nat) (w : World) (hn : 1 ≤ n) (hc : 2 ≤ c) : (Instr.sliceAt 51 (.slice (some ⟨g, o, none⟩) n c) (some (.int .i64 1)) none none).run Tryd.prog w = .ok (.slice (some ⟨g, o + 1, none⟩) (n - 1) (c - 1)) w := by
  rw [run_sliceAt_slice (h := undLs9), run_slice_l (ht := undLs9) (h0 := by omega) (h1 := by omega), sizeLs9]
  simp only [Result.andThen, sliced, Option.map_some]
  rw [if_neg (by simp; omega)]
  simp [Addr.add_lit]

end Go.Proofs.YtbdlicomkpnalaaDoor
