/-
  A book of memory, for lists of any kind, place and room: what is the same for all kinds.
-/
import Derived.Test.YtplabofdcnpcpaaQa
import Derived.Test.YtplabofdcnpcpaaWr
import Derived.Test.YtplabofdcnpcpaaWt
import Derived.Test.YtplabofdcnpcpaaLcut
import Derived.Deep.RegionLaw
import Derived.Deep.RegionHeld
set_option linter.unusedSimpArgs false
set_option linter.unusedVariables false
namespace Go.Proofs.Ytplabofdcnpcpaa
open Go.RowKit

theorem wp_append_slw {P : Program} (w : World) {o : Oper} {a : Act} {K : Act → World → Prop} {Q : Exit → Act → World → Prop} (s x : Operand) (t : TypeId)
    (ho : o.op = .call { callee := .builtin .append, args := #[s, x], argTypes := #[t, t] })
    (B : Nat) (e : TypeId) (i : TypeInfo) (z : Value) (ht : P.underlying t = some (.slice e)) (hi : P.info? e = some i) (hz : i.zero = some z) (hsz : i.size = 1) (hby : i.bytes = 24) (hzs : z.cells.size = 1)
    (v : Value) (us : List Value) (hs : a.eval s = v) (hv : SlV w B e v us) (ad : Addr) (c : Nat) (u : Value) (hx : a.eval x = .slice (some ad) 1 c) (hu : w.cell? (ad.add 0) = some u) (h1 : u.oneCell' = true) (hn : us.length ≤ 100000) (hB : B ≤ w.heap.size)
    (h : ∀ v' w', SlV w' B e v' (us ++ [u]) → w.grownBy w' v.ownBlock → (v'.ownBlock = v.ownBlock ∨ ∃ k, v'.ownBlock = some k ∧ w.heap.size ≤ k) → K (a.put o.dst v') w') : o.wp P a w K Q := by
  obtain ⟨v', w', hr, h2, h3, h4⟩ := run_append_slv (P := P) w B t o.type e i z ht hi hz hsz hby hzs v us hv ad c u hu h1 hn hB
  unfold Oper.wp
  simp [execOp, ho, resolve, invoke, builtin, hs, hx, hr, Result.andThen]
  exact h v' w' h2 h3 h4

theorem wpList_append_slw {P : Program} (w : World) {ops : Array Oper} {rest : List Oper} {o : Oper} {a : Act} {Q : Exit → Act → World → Prop} (hgd : o.guard = none) (s x : Operand) (t : TypeId)
    (ho : o.op = .call { callee := .builtin .append, args := #[s, x], argTypes := #[t, t] })
    (B : Nat) (e : TypeId) (i : TypeInfo) (z : Value) (ht : P.underlying t = some (.slice e)) (hi : P.info? e = some i) (hz : i.zero = some z) (hsz : i.size = 1) (hby : i.bytes = 24) (hzs : z.cells.size = 1)
    (v : Value) (us : List Value) (hs : a.eval s = v) (hv : SlV w B e v us) (ad : Addr) (c : Nat) (u : Value) (hx : a.eval x = .slice (some ad) 1 c) (hu : w.cell? (ad.add 0) = some u) (h1 : u.oneCell' = true) (hn : us.length ≤ 100000) (hB : B ≤ w.heap.size)
    (h : ∀ v' w', SlV w' B e v' (us ++ [u]) → w.grownBy w' v.ownBlock → (v'.ownBlock = v.ownBlock ∨ ∃ k, v'.ownBlock = some k ∧ w.heap.size ≤ k) → wpList P ops Q rest (a.put o.dst v') w') : wpList P ops Q (o :: rest) a w :=
  wpList_plain hgd fun _ hK => wp_append_slw w s x t ho B e i z ht hi hz hsz hby hzs v us hs hv ad c u hx hu h1 hn hB fun v' w' h2 h3 h4 => hK _ _ (h v' w' h2 h3 h4)

theorem step_append_slw {P : Program} {ops : Array Oper} {o : Oper} {a : Act} {w : World} {K : Act → World → Prop} {Q : Exit → Act → World → Prop} {E : Prop} (hgd : o.guard = none) (s x : Operand) (t : TypeId)
    (ho : o.op = .call { callee := .builtin .append, args := #[s, x], argTypes := #[t, t] })
    (B : Nat) (e : TypeId) (i : TypeInfo) (z : Value) (ht : P.underlying t = some (.slice e)) (hi : P.info? e = some i) (hz : i.zero = some z) (hsz : i.size = 1) (hby : i.bytes = 24) (hzs : z.cells.size = 1)
    (v : Value) (us : List Value) (hs : a.eval s = v) (hv : SlV w B e v us) (ad : Addr) (c : Nat) (u : Value) (hx : a.eval x = .slice (some ad) 1 c) (hu : w.cell? (ad.add 0) = some u) (h1 : u.oneCell' = true) (hn : us.length ≤ 100000) (hB : B ≤ w.heap.size)
    (h : ∀ v' w', SlV w' B e v' (us ++ [u]) → w.grownBy w' v.ownBlock → (v'.ownBlock = v.ownBlock ∨ ∃ k, v'.ownBlock = some k ∧ w.heap.size ≤ k) → K (a.put o.dst v') w') :
    if Region.wanted o (yielded ops a.tmps) = true then Oper.wp P o a w K Q else E := by
  rw [if_pos (by simp [Region.wanted, hgd])]
  exact wp_append_slw w s x t ho B e i z ht hi hz hsz hby hzs v us hs hv ad c u hx hu h1 hn hB h

/-- Two lists that share no memory. -/
def AptV (a b : Value) : Prop := a.ownBlock = none ∨ a.ownBlock ≠ b.ownBlock

theorem SlV.alloc0 {w : World} {B : Nat} {T : TypeId} {v : Value} {us : List Value} (h : SlV w B T v us) (o : Obj) : SlV (w.alloc o) B T v us := h.same fun k hk => Lib.alloc_old w o k (h.lt k hk).2

theorem SlV.kind {w : World} {B : Nat} {T : TypeId} {v : Value} {us : List Value} (h : SlV w B T v us) (g : Nat) (hg : v.ownBlock = some g) : ∃ cur, w.heap[g]? = some (Obj.cells cur T (0, 0)) := by
  rcases h with ⟨rfl, rfl⟩ | ⟨g', o, c, cur, rfl, _, hg', _⟩
  · simp [Value.ownBlock] at hg
  · simp [Value.ownBlock] at hg
    subst hg
    exact ⟨cur, hg'⟩

theorem kind_nf {w : World} {k p : Nat} {a b : Array Value} {S T : TypeId} {f g : Nat × Nat} (h1 : w.heap[k]? = some (.cells a S f)) (h2 : w.heap[p]? = some (.cells b T g)) (hne : S ≠ T) : k ≠ p := fun e => by
  rw [e, h2] at h1
  injection h1 with h1
  injection h1 with _ h1 _
  exact hne h1.symm

def cS (X : List ByteArray) : List Value := X.map Value.string
theorem cS_len (X : List ByteArray) : (cS X).length = X.length := by simp [cS]
theorem cS_one (X : List ByteArray) : ∀ u ∈ cS X, u.oneCell' = true := by
  intro u hu
  obtain ⟨x, _, rfl⟩ := List.mem_map.1 hu
  rfl

/-- A list of n places of K texts each, at any place of a row of its own. -/
def KpL (K : Nat) (T : TypeId) (w : World) (B : Nat) (v : Value) (n : Nat) (X : List ByteArray) : Prop :=
  X.length = n * K ∧ ((v = .slice none 0 0 ∧ n = 0) ∨ ∃ g o c cur, v = .slice (some ⟨g, o, none⟩) n c ∧ B ≤ g ∧ w.heap[g]? = some (.cells cur T (0, 0)) ∧ n ≤ c ∧ c ≤ maxLen ∧ o + c * K ≤ cur.size ∧ ∀ j (hj : j < X.length), cur[o + j]? = some (.string X[j]))

theorem KpL.nil (K : Nat) (T : TypeId) (w : World) (B : Nat) : KpL K T w B (.slice none 0 0) 0 [] := ⟨by simp, .inl ⟨rfl, rfl⟩⟩

theorem KpL.slice {K : Nat} {T : TypeId} {w : World} {B : Nat} {v : Value} {n : Nat} {X : List ByteArray} (h : KpL K T w B v n X) : ∃ a c, v = .slice a n c ∧ n ≤ c ∧ c ≤ maxLen := by
  rcases h.2 with ⟨rfl, rfl⟩ | ⟨g, o, c, cur, rfl, _, _, h1, h2, _⟩
  · exact ⟨none, 0, rfl, Nat.le_refl _, by decide⟩
  · exact ⟨_, c, rfl, h1, h2⟩

theorem KpL.kind {K : Nat} {T : TypeId} {w : World} {B : Nat} {v : Value} {n : Nat} {X : List ByteArray} (h : KpL K T w B v n X) (g : Nat) (hg : v.ownBlock = some g) : ∃ cur, w.heap[g]? = some (Obj.cells cur T (0, 0)) := by
  rcases h.2 with ⟨rfl, rfl⟩ | ⟨g', o, c, cur, rfl, _, hg', _⟩
  · simp [Value.ownBlock] at hg
  · simp [Value.ownBlock] at hg
    subst hg
    exact ⟨cur, hg'⟩

theorem KpL.lt {K : Nat} {T : TypeId} {w : World} {B : Nat} {v : Value} {n : Nat} {X : List ByteArray} (h : KpL K T w B v n X) : ∀ k, v.ownBlock = some k → B ≤ k ∧ k < w.heap.size := by
  intro k hk
  rcases h.2 with ⟨rfl, rfl⟩ | ⟨g, o, c, cur, rfl, hB, hg, _⟩
  · simp [Value.ownBlock] at hk
  · simp [Value.ownBlock] at hk
    subst hk
    exact ⟨hB, (Array.getElem?_eq_some_iff.1 hg).1⟩

theorem KpL.same {K : Nat} {T : TypeId} {w w' : World} {B : Nat} {v : Value} {n : Nat} {X : List ByteArray} (h : KpL K T w B v n X) (hk : ∀ k, v.ownBlock = some k → w'.heap[k]? = w.heap[k]?) : KpL K T w' B v n X := by
  refine ⟨h.1, ?_⟩
  rcases h.2 with h | ⟨g, o, c, cur, rfl, hB, hg, h1⟩
  · exact .inl h
  · exact .inr ⟨g, o, c, cur, rfl, hB, (hk g rfl).trans hg, h1⟩

theorem KpL.below {K : Nat} {T : TypeId} {w w' : World} {B : Nat} {v : Value} {n : Nat} {X : List ByteArray} (h : KpL K T w B v n X) (hb : Below w.heap.size w w') : KpL K T w' B v n X := h.same fun k hk => hb.block k (h.lt k hk).2

theorem KpL.lower {K : Nat} {T : TypeId} {w : World} {B B' : Nat} {v : Value} {n : Nat} {X : List ByteArray} (h : KpL K T w B v n X) (hB : B' ≤ B) : KpL K T w B' v n X := by
  refine ⟨h.1, ?_⟩
  rcases h.2 with h | ⟨g, o, c, cur, rfl, hb, h1⟩
  · exact .inl h
  · exact .inr ⟨g, o, c, cur, rfl, Nat.le_trans hB hb, h1⟩

/-- The places, one by one. -/
theorem KpL.cell {K : Nat} {T : TypeId} {w : World} {B : Nat} {a : Option Addr} {c n : Nat} {X : List ByteArray} (h : KpL K T w B (.slice a n c) n X) (j : Nat) (hj : j < n) : ∃ g o, a = some ⟨g, o, none⟩ ∧ ∀ t (ht : t < K), w.cell? ⟨g, o + j * K + t, none⟩ = some (.string (X.getD (j * K + t) ⟨#[]⟩)) := by
  rcases h.2 with ⟨e, rfl⟩ | ⟨g, o, c', cur, e, _, hg, _, _, _, h4⟩
  · omega
  · injection e with e1 _ _
    refine ⟨g, o, e1, fun t ht => ?_⟩
    have hlt : j * K + t < X.length := by
      rw [h.1]
      have : (j + 1) * K ≤ n * K := Nat.mul_le_mul_right K (by omega)
      rw [Nat.add_mul] at this
      omega
    rw [Lib.cell_of_heap hg, Nat.add_assoc]
    rw [show X.getD (j * K + t) ⟨#[]⟩ = X[j * K + t] by simp [List.getD, hlt]]
    exact h4 _ hlt

theorem KpL.cell1 {T : TypeId} {w : World} {B : Nat} {a : Option Addr} {c n : Nat} {X : List ByteArray} (h : KpL 1 T w B (.slice a n c) n X) (j : Nat) (hj : j < n) : ∃ g o, a = some ⟨g, o, none⟩ ∧ w.cell? ⟨g, o + j, none⟩ = some (.string (X.getD j ⟨#[]⟩)) := by
  obtain ⟨g, o, e, h1⟩ := h.cell j hj
  have := h1 0 (by decide)
  rw [Nat.mul_one, Nat.add_zero, Nat.add_zero] at this
  exact ⟨g, o, e, this⟩

theorem KpL.cell2 {T : TypeId} {w : World} {B : Nat} {a : Option Addr} {c n : Nat} {X : List ByteArray} (h : KpL 2 T w B (.slice a n c) n X) (j : Nat) (hj : j < n) : ∃ g o, a = some ⟨g, o, none⟩ ∧ w.cell? ⟨g, o + j * 2, none⟩ = some (.string (X.getD (j * 2) ⟨#[]⟩)) ∧ w.cell? ⟨g, o + j * 2 + 1, none⟩ = some (.string (X.getD (j * 2 + 1) ⟨#[]⟩)) := by
  obtain ⟨g, o, e, h1⟩ := h.cell j hj
  exact ⟨g, o, e, h1 0 (by decide), h1 1 (by decide)⟩

theorem own_kp {K : Nat} {T : TypeId} {w : World} {B : Nat} {v : Value} {n : Nat} {X : List ByteArray} (h : w.ownsRow B T K v n (cS X)) : KpL K T w B v n X := by
  have h1 := h.1
  rw [cS_len] at h1
  refine ⟨h1, ?_⟩
  rcases h.2 with ⟨hv, hn⟩ | ⟨g, cap, cur, rfl, hg, hrow, hnc, hcm, hcs, htake⟩
  · exact .inl ⟨hv, hn⟩
  · refine .inr ⟨g, 0, cap, cur, rfl, hg, hrow, hnc, hcm, by omega, fun j hj => ?_⟩
    have := h.cellAt (g := g) j (by rw [← h1]; exact hj)
    rw [Lib.cell_of_heap hrow] at this
    rw [Nat.zero_add, this]
    simp [cS, hj]

theorem slv_kp {T : TypeId} {w : World} {B : Nat} {v : Value} {X : List ByteArray} (h : SlV w B T v (cS X)) : KpL 1 T w B v X.length X := by
  refine ⟨by simp, ?_⟩
  rcases h with ⟨rfl, e⟩ | ⟨g, o, c, cur, rfl, hB, hg, h1, h2, h3, h4⟩
  · have : X = [] := by simpa [cS] using e
    subst this
    exact .inl ⟨rfl, rfl⟩
  · rw [cS_len] at h1 ⊢
    refine .inr ⟨g, o, c, cur, rfl, hB, hg, h1, h3, by omega, fun j hj => h4 j _ (by simp [cS, hj])⟩

/-- Nothing is turned but block p and what is of type T. -/
def TurnedBut (T : TypeId) (p : Nat) (w w' : World) : Prop := ∀ k, k < w.heap.size → k ≠ p → (∀ cur fz, w.heap[k]? ≠ some (Obj.cells cur T fz)) → w'.heap[k]? = w.heap[k]?

theorem TurnedBut.refl (T : TypeId) (p : Nat) (w : World) : TurnedBut T p w w := fun _ _ _ _ => rfl
theorem TurnedBut.below {T : TypeId} {p : Nat} {w w' w'' : World} (h : TurnedBut T p w w') (hs : w.heap.size ≤ w'.heap.size) (hb : Below w'.heap.size w' w'') : TurnedBut T p w w'' := fun k hk hp hn => (hb.block k (by omega)).trans (h k hk hp hn)
theorem TurnedBut.trans {T : TypeId} {p : Nat} {w w' w'' : World} (h : TurnedBut T p w w') (hs : w.heap.size ≤ w'.heap.size) (h2 : TurnedBut T p w' w'') : TurnedBut T p w w'' := fun k hk hp hn => (h2 k (by omega) hp (by rw [h k hk hp hn]; exact hn)).trans (h k hk hp hn)
theorem TurnedBut.at {T : TypeId} {p : Nat} {w w' w'' : World} (h : TurnedBut T p w w') (hs : w.heap.size ≤ w'.heap.size) (h2 : ∀ k, k < w'.heap.size → k ≠ p → w''.heap[k]? = w'.heap[k]?) : TurnedBut T p w w'' := fun k hk hp hn => (h2 k (by omega) hp).trans (h k hk hp hn)

/-- Below B, and for blocks of other kinds, all is as it was. -/
def Bt (T : TypeId) (p B : Nat) (w w' : World) : Prop := Below B w w' ∧ TurnedBut T p w w'
theorem Bt.refl (T : TypeId) (p B : Nat) (w : World) : Bt T p B w w := ⟨Below.refl _ _, TurnedBut.refl _ _ _⟩
theorem Bt.step {T : TypeId} {p B : Nat} {w w' w'' : World} (h : Bt T p B w w') (hB : B ≤ w'.heap.size) (hb : Below w'.heap.size w' w'') : Bt T p B w w'' := ⟨h.1.trans (hb.mono hB), h.2.below h.1.size hb⟩
theorem Bt.trans {T : TypeId} {p B : Nat} {w w' w'' : World} (h : Bt T p B w w') (h2 : Bt T p B w' w'') : Bt T p B w w'' := ⟨h.1.trans h2.1, h.2.trans h.1.size h2.2⟩
theorem Bt.drew {T : TypeId} {p B : Nat} {w w' : World} (h : Bt T p B w w') : Bt T p B w w'.drew := ⟨h.1.drew, fun k hk hp hn => h.2 k hk hp hn⟩
theorem Bt.set {T : TypeId} {p B : Nat} {w w' : World} (h : Bt T p B w w') (hp : B ≤ p) (i : Nat) (v : Value) : Bt T p B w (w'.setCell ⟨p, i, none⟩ v) :=
  ⟨h.1.setCell (p := ⟨p, i, none⟩) hp v, h.2.at h.1.size fun k _ hk => heap_setCell_other w' ⟨p, i, none⟩ k v hk⟩
theorem Bt.put {T : TypeId} {p B G : Nat} {w w' : World} {cur : Array Value} {fz : Nat × Nat} (h : Bt T p B w w') (hG : w'.heap[G]? = some (.cells cur T fz)) (hB : B ≤ G) (i : Nat) (v : Value) : Bt T p B w (w'.setCell ⟨G, i, none⟩ v) := by
  refine ⟨h.1.setCell (p := ⟨G, i, none⟩) hB v, fun k hk hp hn => ?_⟩
  have hs := h.2 k hk hp hn
  have hkG : k ≠ G := fun e => by
    rw [e] at hs hn
    exact hn cur fz (hs.symm.trans hG)
  exact (heap_setCell_other w' ⟨G, i, none⟩ k v hkG).trans hs

def exit4b (K : Act → World → Prop) : Exit → Act → World → Prop
  | .exit 4, a, w => K a w
  | _, _, _ => False
theorem wp_cut4b {P : Program} {c : Code} {Q : Exit → Act → World → Prop} {a : Act} {w : World} (h : c.wp P (exit4b fun a w => Q (.exit 4) a w) a w) : c.wp P Q a w :=
  Code.wp_mono (fun e a w h => by unfold exit4b at h; split at h <;> first | exact h | exact h.elim) h

end Go.Proofs.Ytplabofdcnpcpaa
