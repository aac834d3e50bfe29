/-
  The walk of the law PolicyKept.
-/
import Derived.Test.YtplabofdcnpcpaaZAn
import Derived.Test.YtplabofdcnpcpaaZBksi
set_option linter.unusedSimpArgs false
set_option linter.unusedVariables false
namespace Go.Proofs.Ytplabofdcnpcpaa
open Go.RowKit

def bas (L : List (List UInt8)) : List ByteArray := L.map fun x => ⟨x.toArray⟩
theorem cS_bas (L : List (List UInt8)) : cS (bas L) = cellsT L := by simp [cS, bas, cellsT]
theorem bas_len (L : List (List UInt8)) : (bas L).length = L.length := by simp [bas]

theorem kp_own {w : World} {B : Nat} {v : Value} {L : List (List UInt8)} (h : w.ownsRow B 9 1 v L.length (cellsT L)) : KpL 1 9 w B v L.length (bas L) := by
  rw [← cS_bas] at h
  exact own_kp h
theorem kp_slv {w : World} {B : Nat} {v : Value} {L : List (List UInt8)} (h : SlV w B 9 v (cellsT L)) : KpL 1 9 w B v L.length (bas L) := by
  rw [← cS_bas] at h
  have := slv_kp h
  rwa [bas_len] at this

theorem ask_len {L : List Ru} {C : List (List UInt8)} {x : List (List UInt8) × List UInt8} (h : askV L C = some x) : ∃ r ∈ L, x.1 = r.vals := by
  induction C with
  | nil => cases h
  | cons n t ih =>
    unfold askV at h
    cases hf : findR L n with
    | none => rw [hf] at h; exact ih h
    | some v =>
      rw [hf] at h
      obtain rfl := Option.some.inj h
      unfold findR at hf
      obtain ⟨r, hr, rfl⟩ := Option.map_eq_some_iff.1 hf
      exact ⟨r, List.mem_of_find?_eq_some hr, rfl⟩

theorem valsK (v : Value) (rp : Bool) (L : List Ru) (s : ByteArray) (w : World) (hv : PoAt w v L) (hl : L.length ≤ 1000) (hz : ∀ r ∈ L, r.vals.length ≤ 1000) :
    Calls Try.prog 22 #[.agg #[v, .bool rp], .string s] w fun e w' => ∃ a n c nm b, e = .returned (.tuple #[.slice a n c, .string nm, .bool b]) ∧ (∃ X, n ≤ 1000 ∧ KpL 1 9 w' w.heap.size (.slice a n c) n X) ∧ Below w.heap.size w w' := by
  refine (values10 v rp L s w hv hl (fun r hr => by have := hz r hr; omega)).mono ?_
  intro e w' h
  cases hx : valsV L s.data.toList with
  | none =>
    rw [hx] at h
    obtain ⟨rfl, hb⟩ := h
    exact ⟨none, 0, 0, _, false, rfl, ⟨[], by decide, KpL.nil _ _ _ _⟩, hb⟩
  | some x =>
    rw [hx] at h
    obtain ⟨u, rfl, hown, hb⟩ := h
    obtain ⟨a, c, rfl, h1, h2⟩ := own_form hown
    obtain ⟨r, hr, he⟩ := ask_len hx
    exact ⟨a, _, c, _, true, rfl, ⟨_, by rw [he]; exact hz r hr, kp_own hown⟩, hb⟩

/-- What stands of the round's policy while the book is written: its block, its row, its values. -/
def PK (w0 : World) (B pb : Nat) (v : Value) (Q : List (ByteArray × Value)) (L : List Ru) : Prop :=
  w0.heap[pb]? = some (.cells #[v, .bool false] 33 (0, 0)) ∧ w0.ownsRow B 52 2 v L.length (cellsR Q) ∧ RdO w0 B Q L

theorem PK.below {w w' : World} {B pb : Nat} {v : Value} {Q : List (ByteArray × Value)} {L : List Ru} (h : PK w B pb v Q L) (hb : Below w.heap.size w w') : PK w' B pb v Q L :=
  ⟨row_kept h.1 hb, own_kept h.2.1 hb, h.2.2.kept hb⟩

theorem PK.turned {w w' : World} {B pb p : Nat} {v : Value} {Q : List (ByteArray × Value)} {L : List Ru} (h : PK w B pb v Q L) (ht : TurnedBut 22 p w w') (hp : ∃ cur, w.heap[p]? = some (Obj.cells cur 56 (0, 0))) : PK w' B pb v Q L := by
  obtain ⟨h1, h2, h3⟩ := h
  obtain ⟨pc, hp⟩ := hp
  have key : ∀ k cur T fz, w.heap[k]? = some (Obj.cells cur T fz) → T ≠ 22 → T ≠ 56 → w'.heap[k]? = w.heap[k]? := fun k cur T fz hk hT hT2 =>
    ht k (Array.getElem?_eq_some_iff.1 hk).1 (kind_nf hk hp hT2) (fun c2 f2 h => by rw [hk] at h; injection h with h; injection h with _ h _; exact hT h)
  refine ⟨(key _ _ _ _ h1 (by decide) (by decide)).trans h1, ownsRow_same h2 fun g hg => ?_, h3.keptB ?_⟩
  · obtain ⟨cur, hc⟩ := ownsRow_kind h2 g hg
    exact key _ _ _ _ hc (by decide) (by decide)
  · rintro k ⟨cur, fz, hk⟩
    exact key _ _ _ _ hk (by decide) (by decide)

theorem KBs.block {w : World} {B p n : Nat} {S : Nat → Prop} (h : KBs w B p n S) : ∃ cur, w.heap[p]? = some (Obj.cells cur 56 (0, 0)) := by
  obtain ⟨h1, A, Y, xs, ys, _, _, hbk⟩ := h
  exact ⟨_, hbk.2.2.1⟩

theorem PK.cells {w : World} {B pb : Nat} {a : Option Addr} {n c : Nat} {Q : List (ByteArray × Value)} {L : List Ru} (h : PK w B pb (.slice a n c) Q L) (hn : n = L.length) : w.cell? ⟨pb, 0, none⟩ = some (.slice a n c) ∧ ∀ k (hk : k < n), ∃ b off, a = some ⟨b, off, none⟩ ∧ ∃ hq : k < Q.length, w.cell? ⟨b, off + k * 2 + 1, none⟩ = some Q[k].2 := by
  subst hn
  refine ⟨by rw [Lib.cell_of_heap h.1]; rfl, fun k hk => ?_⟩
  rcases h.2.1.2 with ⟨e, h0⟩ | ⟨g, cap, cur, e, _, hrow, _⟩
  · omega
  · injection e with e1 _ _
    have hq : k < Q.length := by rw [h.2.2.1]; omega
    refine ⟨g, 0, e1, hq, ?_⟩
    subst e1
    rw [Nat.zero_add, h.2.1.cellAt (g := g) _ (by omega)]
    exact (cellsR_at Q k hq).2

end Go.Proofs.Ytplabofdcnpcpaa
