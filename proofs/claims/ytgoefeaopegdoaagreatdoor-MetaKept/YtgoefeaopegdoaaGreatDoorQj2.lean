/-
  Walks and plain facts that this claim leans on, put together out of 6 texts: Bk0, Bkeb, Bkec, Bked, Bkel, Bkef.
-/
import Derived.Test.YtgoefeaopegdoaaGreatDoorProg
import Derived.Test.YtgoefeaopegdoaaGreatDoorQx1
import Derived.Test.YtgoefeaopegdoaaGreatDoorQx2
import Derived.Test.YtgoefeaopegdoaaGreatDoorQx3
import Derived.Test.YtgoefeaopegdoaaGreatDoorQx4
import Derived.Test.YtgoefeaopegdoaaGreatDoorQx5
import Derived.Test.YtgoefeaopegdoaaGreatDoorQx6
import Derived.Test.YtgoefeaopegdoaaGreatDoorQx7
import Derived.Test.YtgoefeaopegdoaaGreatDoorQx8
import Derived.Test.YtgoefeaopegdoaaGreatDoorQx9
import Derived.Test.YtgoefeaopegdoaaGreatDoorQx10
import Derived.Test.YtgoefeaopegdoaaGreatDoorQx11
import Derived.Test.YtgoefeaopegdoaaGreatDoorQx12
import Derived.Test.YtgoefeaopegdoaaGreatDoorQx13
import Derived.Test.YtgoefeaopegdoaaGreatDoorQx14
import Derived.Test.YtgoefeaopegdoaaGreatDoorQx15
import Derived.Test.YtgoefeaopegdoaaGreatDoorQx16
import Derived.Test.YtgoefeaopegdoaaGreatDoorQx17
import Derived.Test.YtgoefeaopegdoaaGreatDoorQx18
import Derived.Test.YtgoefeaopegdoaaGreatDoorQx19
import Derived.Test.YtgoefeaopegdoaaGreatDoorQx20
import Derived.Test.YtgoefeaopegdoaaGreatDoorQx21
import Derived.Test.YtgoefeaopegdoaaGreatDoorQx22
import Derived.Test.YtgoefeaopegdoaaGreatDoorQx23
import Derived.Test.YtgoefeaopegdoaaGreatDoorQx24
import Derived.Test.YtgoefeaopegdoaaGreatDoorQx25
import Derived.Test.YtgoefeaopegdoaaGreatDoorQx26
import Derived.Test.YtgoefeaopegdoaaGreatDoorQx27
import Derived.Test.YtgoefeaopegdoaaGreatDoorQx28
import Derived.Test.YtgoefeaopegdoaaGreatDoorQx29
import Derived.Test.YtgoefeaopegdoaaGreatDoorQx30
import Derived.Test.YtgoefeaopegdoaaGreatDoorQj1
import Derived.Deep.RegionLaw
import Derived.Deep.RegionHeld
import Derived.WalkKit
import Derived.WalkSpells
import Derived.WalkLawsBesides
import Derived.Laws.CopyOwn
import Derived.Laws.ResultCell
import Derived.Deep.MidRow
import Derived.Lib.LaidTab
import Derived.Lib.SmallJoins
import Derived.Laws.BitsAll
import Derived.Lib.Strings
import Derived.Lib.UnsafeStr
import Derived.Laws.IdiomStrings
import Derived.Laws.AppendOwn
import Derived.Lib.BufferRead
import Derived.Lib.RuneBytes
import Derived.Laws.RangeAny
import Derived.Laws.OwnMore
import Derived.Below
import Derived.WalkSmall
import Derived.Deep.QuietTactic
import Derived.BigQuiet
import Derived.Lib.BufferMore
import Derived.Lib.FrozenHead2
import Derived.Lib.OthersKept
import Derived.Lib.Builder
import Derived.BigRegion
set_option linter.unusedSimpArgs false
set_option linter.unusedVariables false

namespace Go.Proofs.YtgoefeaopegdoaaGreatDoor
open Go.RowKit

theorem wp_append_slw {P : Program} (w : World) {o : Oper} {a : Act} {K : Act → World → Prop} {Q : Exit → Act → World → Prop} (s x : Operand) (t : TypeId)
  (ho : o.op = .call { callee := .builtin .append, args := #[s, x], argTypes := #[t, t] })
  (B : Nat) (e : TypeId) (i : TypeInfo) (z : Value) (ht : P.underlying t = some (.slice e)) (hi : P.info? e = some i) (hz : i.zero = some z) (hsz : i.size = 1) (hby : i.bytes = 24) (hzs : z.cells.size = 1)
  (v : Value) (us : List Value) (hs : a.eval s = v) (hv : SlV w B e v us) (ad : Addr) (c : Nat) (u : Value) (hx : a.eval x = .slice (some ad) 1 c) (hu : w.cell? (ad.add 0) = some u) (h1 : u.oneCell' = true) (hn : us.length ≤ 100000) (hB : B ≤ w.heap.size)
  (h : ∀ v' w', SlV w' B e v' (us ++ [u]) → w.grownBy w' v.ownBlock → (v'.ownBlock = v.ownBlock ∨ ∃ k, v'.ownBlock = some k ∧ w.heap.size ≤ k) → K (a.put o.dst v') w') : o.wp P a w K Q := by
 obtain ⟨v', w', hr, h2, h3, h4⟩ := run_append_slv (P := P) w B t o.type e i z ht hi hz hsz hby hzs v us hv ad c u hu h1 hn hB
 unfold Oper.wp
 simp [execOp, ho, resolve, invoke, builtin, hs, hx, hr, Result.andThen]
 exact h v' w' h2 h3 h4

theorem wpList_append_slw {P : Program} (w : World) {ops : Array Oper} {rest : List Oper} {o : Oper} {a : Act} {Q : Exit → Act → World → Prop} (hgd : o.guard = none) (s x : Operand) (t : TypeId)
  (ho : o.op = .call { callee := .builtin .append, args := #[s, x], argTypes := #[t, t] })
  (B : Nat) (e : TypeId) (i : TypeInfo) (z : Value) (ht : P.underlying t = some (.slice e)) (hi : P.info? e = some i) (hz : i.zero = some z) (hsz : i.size = 1) (hby : i.bytes = 24) (hzs : z.cells.size = 1)
  (v : Value) (us : List Value) (hs : a.eval s = v) (hv : SlV w B e v us) (ad : Addr) (c : Nat) (u : Value) (hx : a.eval x = .slice (some ad) 1 c) (hu : w.cell? (ad.add 0) = some u) (h1 : u.oneCell' = true) (hn : us.length ≤ 100000) (hB : B ≤ w.heap.size)
  (h : ∀ v' w', SlV w' B e v' (us ++ [u]) → w.grownBy w' v.ownBlock → (v'.ownBlock = v.ownBlock ∨ ∃ k, v'.ownBlock = some k ∧ w.heap.size ≤ k) → wpList P ops Q rest (a.put o.dst v') w') : wpList P ops Q (o :: rest) a w :=
 wpList_plain hgd fun _ hK => wp_append_slw w s x t ho B e i z ht hi hz hsz hby hzs v us hs hv ad c u hx hu h1 hn hB fun v' w' h2 h3 h4 => hK _ _ (h v' w' h2 h3 h4)

theorem step_append_slw {P : Program} {ops : Array Oper} {o : Oper} {a : Act} {w : World} {K : Act → World → Prop} {Q : Exit → Act → World → Prop} {E : Prop} (hgd : o.guard = none) (s x : Operand) (t : TypeId)
  (ho : o.op = .call { callee := .builtin .append, args := #[s, x], argTypes := #[t, t] })
  (B : Nat) (e : TypeId) (i : TypeInfo) (z : Value) (ht : P.underlying t = some (.slice e)) (hi : P.info? e = some i) (hz : i.zero = some z) (hsz : i.size = 1) (hby : i.bytes = 24) (hzs : z.cells.size = 1)
  (v : Value) (us : List Value) (hs : a.eval s = v) (hv : SlV w B e v us) (ad : Addr) (c : Nat) (u : Value) (hx : a.eval x = .slice (some ad) 1 c) (hu : w.cell? (ad.add 0) = some u) (h1 : u.oneCell' = true) (hn : us.length ≤ 100000) (hB : B ≤ w.heap.size)
  (h : ∀ v' w', SlV w' B e v' (us ++ [u]) → w.grownBy w' v.ownBlock → (v'.ownBlock = v.ownBlock ∨ ∃ k, v'.ownBlock = some k ∧ w.heap.size ≤ k) → K (a.put o.dst v') w') :
  if Region.wanted o (yielded ops a.tmps) = true then Oper.wp P o a w K Q else E := by
 rw [if_pos (by simp [Region.wanted, hgd])]
 exact wp_append_slw w s x t ho B e i z ht hi hz hsz hby hzs v us hs hv ad c u hx hu h1 hn hB h

def AptV (a b : Value) : Prop := a.ownBlock = none ∨ a.ownBlock ≠ b.ownBlock

theorem SlV.alloc0 {w : World} {B : Nat} {T : TypeId} {v : Value} {us : List Value} (h : SlV w B T v us) (o : Obj) : SlV (w.alloc o) B T v us := h.same fun k hk => Lib.alloc_old w o k (h.lt k hk).2

theorem SlV.kind {w : World} {B : Nat} {T : TypeId} {v : Value} {us : List Value} (h : SlV w B T v us) (g : Nat) (hg : v.ownBlock = some g) : ∃ cur, w.heap[g]? = some (Obj.cells cur T (0, 0)) := by
 rcases h with ⟨rfl, rfl⟩ | ⟨g', o, c, cur, rfl, _, hg', _⟩
 ·simp [Value.ownBlock] at hg
 ·simp [Value.ownBlock] at hg
  subst hg
  exact ⟨cur, hg'⟩

theorem kind_nf {w : World} {k p : Nat} {a b : Array Value} {S T : TypeId} {f g : Nat × Nat} (h1 : w.heap[k]? = some (.cells a S f)) (h2 : w.heap[p]? = some (.cells b T g)) (hne : S ≠ T) : k ≠ p := fun e => by
 rw [e, h2] at h1
 injection h1 with h1
 injection h1 with _ h1 _
 exact hne h1.symm

def cS (X : List ByteArray) : List Value := X.map Value.string

theorem cS_len (X : List ByteArray) : (cS X).length = X.length := by simp [cS]

theorem cS_one (X : List ByteArray) : ∀ u ∈ cS X, u.oneCell' = true := by
 intro u hu
 obtain ⟨x, _, rfl⟩ := List.mem_map.1 hu
 rfl

def KpL (K : Nat) (T : TypeId) (w : World) (B : Nat) (v : Value) (n : Nat) (X : List ByteArray) : Prop :=
 X.length = n * K ∧ ((v = .slice none 0 0 ∧ n = 0) ∨ ∃ g o c cur, v = .slice (some ⟨g, o, none⟩) n c ∧ B ≤ g ∧ w.heap[g]? = some (.cells cur T (0, 0)) ∧ n ≤ c ∧ c ≤ maxLen ∧ o + c * K ≤ cur.size ∧ ∀ j (hj : j < X.length), cur[o + j]? = some (.string X[j]))

theorem KpL.nil (K : Nat) (T : TypeId) (w : World) (B : Nat) : KpL K T w B (.slice none 0 0) 0 [] := ⟨by simp, .inl ⟨rfl, rfl⟩⟩

theorem KpL.slice {K : Nat} {T : TypeId} {w : World} {B : Nat} {v : Value} {n : Nat} {X : List ByteArray} (h : KpL K T w B v n X) : ∃ a c, v = .slice a n c ∧ n ≤ c ∧ c ≤ maxLen := by
 rcases h.2 with ⟨rfl, rfl⟩ | ⟨g, o, c, cur, rfl, _, _, h1, h2, _⟩
 ·exact ⟨none, 0, rfl, Nat.le_refl _, by decide⟩
 ·exact ⟨_, c, rfl, h1, h2⟩

theorem KpL.kind {K : Nat} {T : TypeId} {w : World} {B : Nat} {v : Value} {n : Nat} {X : List ByteArray} (h : KpL K T w B v n X) (g : Nat) (hg : v.ownBlock = some g) : ∃ cur, w.heap[g]? = some (Obj.cells cur T (0, 0)) := by
 rcases h.2 with ⟨rfl, rfl⟩ | ⟨g', o, c, cur, rfl, _, hg', _⟩
 ·simp [Value.ownBlock] at hg
 ·simp [Value.ownBlock] at hg
  subst hg
  exact ⟨cur, hg'⟩

theorem KpL.lt {K : Nat} {T : TypeId} {w : World} {B : Nat} {v : Value} {n : Nat} {X : List ByteArray} (h : KpL K T w B v n X) : ∀ k, v.ownBlock = some k → B ≤ k ∧ k < w.heap.size := by
 intro k hk
 rcases h.2 with ⟨rfl, rfl⟩ | ⟨g, o, c, cur, rfl, hB, hg, _⟩
 ·simp [Value.ownBlock] at hk
 ·simp [Value.ownBlock] at hk
  subst hk
  exact ⟨hB, (Array.getElem?_eq_some_iff.1 hg).1⟩

theorem KpL.same {K : Nat} {T : TypeId} {w w' : World} {B : Nat} {v : Value} {n : Nat} {X : List ByteArray} (h : KpL K T w B v n X) (hk : ∀ k, v.ownBlock = some k → w'.heap[k]? = w.heap[k]?) : KpL K T w' B v n X := by
 refine ⟨h.1, ?_⟩
 rcases h.2 with h | ⟨g, o, c, cur, rfl, hB, hg, h1⟩
 ·exact .inl h
 ·exact .inr ⟨g, o, c, cur, rfl, hB, (hk g rfl).trans hg, h1⟩

theorem KpL.below {K : Nat} {T : TypeId} {w w' : World} {B : Nat} {v : Value} {n : Nat} {X : List ByteArray} (h : KpL K T w B v n X) (hb : Below w.heap.size w w') : KpL K T w' B v n X := h.same fun k hk => hb.block k (h.lt k hk).2

theorem KpL.lower {K : Nat} {T : TypeId} {w : World} {B B' : Nat} {v : Value} {n : Nat} {X : List ByteArray} (h : KpL K T w B v n X) (hB : B' ≤ B) : KpL K T w B' v n X := by
 refine ⟨h.1, ?_⟩
 rcases h.2 with h | ⟨g, o, c, cur, rfl, hb, h1⟩
 ·exact .inl h
 ·exact .inr ⟨g, o, c, cur, rfl, Nat.le_trans hB hb, h1⟩

theorem KpL.cell {K : Nat} {T : TypeId} {w : World} {B : Nat} {a : Option Addr} {c n : Nat} {X : List ByteArray} (h : KpL K T w B (.slice a n c) n X) (j : Nat) (hj : j < n) : ∃ g o, a = some ⟨g, o, none⟩ ∧ ∀ t (ht : t < K), w.cell? ⟨g, o + j * K + t, none⟩ = some (.string (X.getD (j * K + t) ⟨#[]⟩)) := by
 rcases h.2 with ⟨e, rfl⟩ | ⟨g, o, c', cur, e, _, hg, _, _, _, h4⟩
 ·omega
 ·injection e with e1 _ _
  refine ⟨g, o, e1, fun t ht => ?_⟩
  have hlt : j * K + t < X.length := by
   rw [h.1]
   have : (j + 1) * K ≤ n * K := Nat.mul_le_mul_right K (by omega)
   rw [Nat.add_mul] at this
   omega
  rw [Lib.cell_of_heap hg, Nat.add_assoc]
  rw [show X.getD (j * K + t) ⟨#[]⟩ = X[j * K + t] by simp [List.getD, hlt]]
  exact h4 _ hlt

theorem KpL.cell2 {T : TypeId} {w : World} {B : Nat} {a : Option Addr} {c n : Nat} {X : List ByteArray} (h : KpL 2 T w B (.slice a n c) n X) (j : Nat) (hj : j < n) : ∃ g o, a = some ⟨g, o, none⟩ ∧ w.cell? ⟨g, o + j * 2, none⟩ = some (.string (X.getD (j * 2) ⟨#[]⟩)) ∧ w.cell? ⟨g, o + j * 2 + 1, none⟩ = some (.string (X.getD (j * 2 + 1) ⟨#[]⟩)) := by
 obtain ⟨g, o, e, h1⟩ := h.cell j hj
 exact ⟨g, o, e, h1 0 (by decide), h1 1 (by decide)⟩

theorem own_kp {K : Nat} {T : TypeId} {w : World} {B : Nat} {v : Value} {n : Nat} {X : List ByteArray} (h : w.ownsRow B T K v n (cS X)) : KpL K T w B v n X := by
 have h1 := h.1
 rw [cS_len] at h1
 refine ⟨h1, ?_⟩
 rcases h.2 with ⟨hv, hn⟩ | ⟨g, cap, cur, rfl, hg, hrow, hnc, hcm, hcs, htake⟩
 ·exact .inl ⟨hv, hn⟩
 ·refine .inr ⟨g, 0, cap, cur, rfl, hg, hrow, hnc, hcm, by omega, fun j hj => ?_⟩
  have := h.cellAt (g := g) j (by rw [← h1]; exact hj)
  rw [Lib.cell_of_heap hrow] at this
  rw [Nat.zero_add, this]
  simp [cS, hj]

def TurnedBut (T : TypeId) (p : Nat) (w w' : World) : Prop := ∀ k, k < w.heap.size → k ≠ p → (∀ cur fz, w.heap[k]? ≠ some (Obj.cells cur T fz)) → w'.heap[k]? = w.heap[k]?

theorem TurnedBut.refl (T : TypeId) (p : Nat) (w : World) : TurnedBut T p w w := fun _ _ _ _ => rfl

theorem TurnedBut.below {T : TypeId} {p : Nat} {w w' w'' : World} (h : TurnedBut T p w w') (hs : w.heap.size ≤ w'.heap.size) (hb : Below w'.heap.size w' w'') : TurnedBut T p w w'' := fun k hk hp hn => (hb.block k (by omega)).trans (h k hk hp hn)

theorem TurnedBut.trans {T : TypeId} {p : Nat} {w w' w'' : World} (h : TurnedBut T p w w') (hs : w.heap.size ≤ w'.heap.size) (h2 : TurnedBut T p w' w'') : TurnedBut T p w w'' := fun k hk hp hn => (h2 k (by omega) hp (by rw [h k hk hp hn]; exact hn)).trans (h k hk hp hn)

theorem TurnedBut.at {T : TypeId} {p : Nat} {w w' w'' : World} (h : TurnedBut T p w w') (hs : w.heap.size ≤ w'.heap.size) (h2 : ∀ k, k < w'.heap.size → k ≠ p → w''.heap[k]? = w'.heap[k]?) : TurnedBut T p w w'' := fun k hk hp hn => (h2 k (by omega) hp).trans (h k hk hp hn)

def Bt (T : TypeId) (p B : Nat) (w w' : World) : Prop := Below B w w' ∧ TurnedBut T p w w'

theorem Bt.refl (T : TypeId) (p B : Nat) (w : World) : Bt T p B w w := ⟨Below.refl _ _, TurnedBut.refl _ _ _⟩

theorem Bt.step {T : TypeId} {p B : Nat} {w w' w'' : World} (h : Bt T p B w w') (hB : B ≤ w'.heap.size) (hb : Below w'.heap.size w' w'') : Bt T p B w w'' := ⟨h.1.trans (hb.mono hB), h.2.below h.1.size hb⟩

theorem Bt.trans {T : TypeId} {p B : Nat} {w w' w'' : World} (h : Bt T p B w w') (h2 : Bt T p B w' w'') : Bt T p B w w'' := ⟨h.1.trans h2.1, h.2.trans h.1.size h2.2⟩

theorem Bt.drew {T : TypeId} {p B : Nat} {w w' : World} (h : Bt T p B w w') : Bt T p B w w'.drew := ⟨h.1.drew, fun k hk hp hn => h.2 k hk hp hn⟩

theorem Bt.set {T : TypeId} {p B : Nat} {w w' : World} (h : Bt T p B w w') (hp : B ≤ p) (i : Nat) (v : Value) : Bt T p B w (w'.setCell ⟨p, i, none⟩ v) :=
 ⟨h.1.setCell (p := ⟨p, i, none⟩) hp v, h.2.at h.1.size fun k _ hk => heap_setCell_other w' ⟨p, i, none⟩ k v hk⟩

theorem Bt.put {T : TypeId} {p B G : Nat} {w w' : World} {cur : Array Value} {fz : Nat × Nat} (h : Bt T p B w w') (hG : w'.heap[G]? = some (.cells cur T fz)) (hB : B ≤ G) (i : Nat) (v : Value) : Bt T p B w (w'.setCell ⟨G, i, none⟩ v) := by
 refine ⟨h.1.setCell (p := ⟨G, i, none⟩) hB v, fun k hk hp hn => ?_⟩
 have hs := h.2 k hk hp hn
 have hkG : k ≠ G := fun e => by
  rw [e] at hs hn
  exact hn cur fz (hs.symm.trans hG)
 exact (heap_setCell_other w' ⟨G, i, none⟩ k v hkG).trans hs

def exit4b (K : Act → World → Prop) : Exit → Act → World → Prop
 | .exit 4, a, w => K a w
 | _, _, _ => False

theorem wp_cut4b {P : Program} {c : Code} {Q : Exit → Act → World → Prop} {a : Act} {w : World} (h : c.wp P (exit4b fun a w => Q (.exit 4) a w) a w) : c.wp P Q a w :=
 Code.wp_mono (fun e a w h => by unfold exit4b at h; split at h <;> first | exact h | exact h.elim) h

end Go.Proofs.YtgoefeaopegdoaaGreatDoor

namespace Go.Proofs.YtgoefeaopegdoaaGreatDoor
open Go.RowKit

set_option maxHeartbeats 4000000 in
set_option maxRecDepth 100000 in
theorem bsamee (v1 v2 : Value) (n : Nat) (X : List ByteArray) (B : Nat) (w : World) (h1 : KpL 2 38 w B v1 n X) (h2 : KpL 2 38 w B v2 n X) (hl : n ≤ 1000000001) :
  Calls Tryz.prog 22 #[v1, v2] w fun e w' => e = .returned (.bool true) ∧ Below w.heap.size w w' := by
 obtain ⟨a1, c1, rfl, hc1, hm1⟩ := h1.slice
 obtain ⟨a2, c2, rfl, hc2, hm2⟩ := h2.slice
 have HV1 := hid h1
 have HV2 := hid h2
 clear h1 h2
 go_enter Tryz.func22, Tryz.ntmps22
 go_wp2_with fail
 go_loopw [5] (fun v5 wr => ∃ k : Nat, k ≤ n ∧ v5 = .int .i64 k ∧ Hid (Below w.heap.size w wr)) (fun v5 _ => n - (intOf v5).toNat)
 case atStart => exact ⟨0, Nat.zero_le _, rfl, Below.refl _ w⟩
 case round =>
  obtain ⟨k, hk, rfl, HR⟩ := hrel
  by_cases hlt : k < n
  ·obtain ⟨b1, o1, rfl, e0, e1⟩ := HV1.out.cell2 k hlt
   obtain ⟨b2, o2, rfl, g0, g1⟩ := HV2.out.cell2 k hlt
   obtain ⟨S0, hS0⟩ : ∃ S, S = X.getD (k * 2) ⟨#[]⟩ := ⟨_, rfl⟩
   rw [← hS0] at e0 g0
   have f0 := kept_cell e0 HR.out
   have k0 := kept_cell g0 HR.out
   obtain ⟨S1, hS1⟩ : ∃ S, S = X.getD (k * 2 + 1) ⟨#[]⟩ := ⟨_, rfl⟩
   rw [← hS1] at e1 g1
   have f1 := kept_cell e1 HR.out
   have k1 := kept_cell g1 HR.out
   have hin : (k : Int) < (n : Int) := by omega
   clear e0 g0 hS0 e1 g1 hS1
   go_wp2_with fail
   go_quiet (fail)
   go_wp2_with fail
   go_roundw
   case rel =>
    first
     | exact ⟨k + 1, by omega, by go_num, below_drewN HR.out _⟩
     | ((repeat apply Exists.intro); refine ⟨?_, rfl⟩; exact ⟨k + 1, by omega, by go_num, below_drewN HR.out _⟩)
     | ((repeat apply Exists.intro); exact ⟨⟨k + 1, by omega, by go_num, below_drewN HR.out _⟩, rfl⟩)
   case measure => simp [intOf]; omega
  ·obtain rfl : k = n := by omega
   clear hk hlt
   go_wp2_with fail
   go_ret
   exact ⟨rfl, HR.out⟩

end Go.Proofs.YtgoefeaopegdoaaGreatDoor

namespace Go.Proofs.YtgoefeaopegdoaaGreatDoor
open Go.RowKit

theorem infoLse : (Tryz.prog.info? 25).map (fun i => (i.zero, i.size, i.bytes)) = some (some (.slice none 0 0), 1, 24) := by kernel_rfl

theorem infoEe : (Tryz.prog.info? 38).map (fun i => (i.zero, i.size, i.bytes)) = some (some (.agg #[.string ByteArray.empty, .string ByteArray.empty]), 2, 32) := by kernel_rfl

def Pre (w : World) (B : Nat) (x y : Value) : Prop := ∃ (n : Nat) (X : List ByteArray), n ≤ 1000 ∧ KpL 2 38 w B x n X ∧ KpL 2 38 w B y n X

def Bke (w : World) (B p : Nat) (h : Int) (A Y : Value) (xs ys : List Value) : Prop :=
 B ≤ p ∧ ys.length = xs.length ∧ w.heap[p]? = some (Obj.cells #[A, Y, .int .i64 h, .bool false] 44 (0, 0)) ∧ SlV w B 25 A xs ∧ SlV w B 25 Y ys ∧ AptV A Y ∧
 (∀ (i : Nat) (x y : Value), xs[i]? = some x → ys[i]? = some y → Pre w B x y) ∧ xs.Pairwise AptV

theorem Pre.same {w w' : World} {B : Nat} {x y : Value} (h : Pre w B x y) (hk : ∀ k : Nat, (∃ (cur : Array Value) (fz : Nat × Nat), w.heap[k]? = some (Obj.cells cur 38 fz)) → w'.heap[k]? = w.heap[k]?) : Pre w' B x y := by
 obtain ⟨n, L, hl, h1, h2⟩ := h
 exact ⟨n, L, hl, h1.same fun g hg => hk g (by obtain ⟨cur, hc⟩ := h1.kind g hg; exact ⟨cur, _, hc⟩), h2.same fun g hg => hk g (by obtain ⟨cur, hc⟩ := h2.kind g hg; exact ⟨cur, _, hc⟩)⟩

theorem Bke.lt {w : World} {B p : Nat} {h : Int} {A Y : Value} {xs ys : List Value} (hb : Bke w B p h A Y xs ys) : p < w.heap.size := (Array.getElem?_eq_some_iff.1 hb.2.2.1).1

theorem Bke.turn {w w' : World} {B p : Nat} {h h' : Int} {A Y : Value} {xs ys : List Value} (hb : Bke w B p h A Y xs ys) (hp : w'.heap[p]? = some (Obj.cells #[A, Y, .int .i64 h', .bool false] 44 (0, 0))) (hk : ∀ k, k < w.heap.size → k ≠ p → w'.heap[k]? = w.heap[k]?) : Bke w' B p h' A Y xs ys := by
 obtain ⟨h1, h2, h3, h4, h5, h6, h7, h8⟩ := hb
 refine ⟨h1, h2, hp, h4.same fun k hk' => hk k (h4.lt k hk').2 (fun e => h4.other h3 (by decide) (by rw [hk']; exact congrArg some e)), h5.same fun k hk' => hk k (h5.lt k hk').2 (fun e => h5.other h3 (by decide) (by rw [hk']; exact congrArg some e)), h6, fun i x y hx hy => (h7 i x y hx hy).same fun k hk' => ?_, h8⟩
 obtain ⟨cur, fz, hc⟩ := hk'
 exact hk k (Array.getElem?_eq_some_iff.1 hc).1 (kind_nf hc h3 (by decide))

theorem Bke.below {w w' : World} {B p : Nat} {h : Int} {A Y : Value} {xs ys : List Value} (hb : Bke w B p h A Y xs ys) (hbl : Below w.heap.size w w') : Bke w' B p h A Y xs ys :=
 hb.turn ((hbl.block p hb.lt).trans hb.2.2.1) fun k hk _ => hbl.block k hk

theorem Bke.apart {w w' : World} {B p : Nat} {h : Int} {A Y : Value} {xs ys : List Value} (hb : Bke w B p h A Y xs ys) (hk : ∀ k cur S fz, w.heap[k]? = some (Obj.cells cur S fz) → (S = 38 ∨ S = 25 ∨ k = p) → w'.heap[k]? = w.heap[k]?) : Bke w' B p h A Y xs ys := by
 obtain ⟨h1, h2, h3, h4, h5, h6, h7, h8⟩ := hb
 refine ⟨h1, h2, (hk p _ _ _ h3 (.inr (.inr rfl))).trans h3, h4.same fun k hk' => ?_, h5.same fun k hk' => ?_, h6, fun i x y hx hy => (h7 i x y hx hy).same fun k hk' => ?_, h8⟩
 ·obtain ⟨cur, hc⟩ := h4.kind k hk'
  exact hk k _ _ _ hc (.inr (.inl rfl))
 ·obtain ⟨cur, hc⟩ := h5.kind k hk'
  exact hk k _ _ _ hc (.inr (.inl rfl))
 ·obtain ⟨cur, fz, hc⟩ := hk'
  exact hk k _ _ _ hc (.inl rfl)

theorem Bke.drop {w w' : World} {B p gA oA cA gY oY cY : Nat} {h h' : Int} {a y : Value} {xs ys : List Value} (hb : Bke w B p h (.slice (some ⟨gA, oA, none⟩) (xs.length + 1) cA) (.slice (some ⟨gY, oY, none⟩) (ys.length + 1) cY) (a :: xs) (y :: ys))
  (hp : w'.heap[p]? = some (Obj.cells #[.slice (some ⟨gA, oA + 1, none⟩) xs.length (cA - 1), .slice (some ⟨gY, oY + 1, none⟩) ys.length (cY - 1), .int .i64 h', .bool false] 44 (0, 0))) (hk : ∀ k, k < w.heap.size → k ≠ p → w'.heap[k]? = w.heap[k]?) :
  Bke w' B p h' (.slice (some ⟨gA, oA + 1, none⟩) xs.length (cA - 1)) (.slice (some ⟨gY, oY + 1, none⟩) ys.length (cY - 1)) xs ys := by
 obtain ⟨h1, h2, h3, h4, h5, h6, h7, h8⟩ := hb
 have e4 := h4.tail
 have e5 := h5.tail
 have o4 := h4.other h3 (by decide)
 have o5 := h5.other h3 (by decide)
 refine ⟨h1, by simpa using h2, hp, e4.same fun k hk' => hk k (e4.lt k hk').2 (fun e => o4 (by show some gA = some p; rw [← e]; exact hk')), e5.same fun k hk' => hk k (e5.lt k hk').2 (fun e => o5 (by show some gY = some p; rw [← e]; exact hk')), ?_, fun i x z hx hz => (h7 (i + 1) x z (by simpa using hx) (by simpa using hz)).same fun k hk' => ?_, (List.pairwise_cons.1 h8).2⟩
 ·rcases h6 with h6 | h6
  ·exact .inl h6
  ·exact .inr h6
 ·obtain ⟨cur, fz, hc⟩ := hk'
  exact hk k (Array.getElem?_eq_some_iff.1 hc).1 (kind_nf hc h3 (by decide))

theorem sizeLse (w : World) : (sizeOf (Tryz.prog.elem 42)).run Tryz.prog w = .ok 1 w := by kernel_rfl

theorem undLse : Tryz.prog.underlying 42 = some (.slice (Tryz.prog.elem 42)) := by kernel_rfl

theorem slice_taile (g o n c : Nat) (w : World) (hn : 1 ≤ n) (hc : 2 ≤ c) : (Instr.sliceAt 42 (.slice (some ⟨g, o, none⟩) n c) (some (.int .i64 1)) none none).run Tryz.prog w = .ok (.slice (some ⟨g, o + 1, none⟩) (n - 1) (c - 1)) w := by
 rw [run_sliceAt_slice (h := undLse), run_slice_l (ht := undLse) (h0 := by omega) (h1 := by omega), sizeLse]
 simp only [Result.andThen, sliced, Option.map_some]
 rw [if_neg (by simp; omega)]
 simp [Addr.add_lit]

end Go.Proofs.YtgoefeaopegdoaaGreatDoor

namespace Go.Proofs.YtgoefeaopegdoaaGreatDoor
open Go.RowKit

theorem add1e {w w2 : World} {B p : Nat} {h : Int} {A Y X AA : Value} {xs ys : List Value} {o : Obj} (hb : Bke w B p h A Y xs ys) (hBw : B ≤ w.heap.size) (hAA : SlV w2 B 25 AA (xs ++ [X])) (hgrow : (w.alloc o).grownBy w2 A.ownBlock)
  (hwh : AA.ownBlock = A.ownBlock ∨ ∃ k, AA.ownBlock = some k ∧ w.heap.size ≤ k) :
  w2.heap[p]? = some (Obj.cells #[A, Y, .int .i64 h, .bool false] 44 (0, 0)) ∧
  (w2.setCell ⟨p, 0, none⟩ AA).heap[p]? = some (Obj.cells #[AA, Y, .int .i64 h, .bool false] 44 (0, 0)) ∧ SlV (w2.setCell ⟨p, 0, none⟩ AA) B 25 AA (xs ++ [X]) ∧ SlV (w2.setCell ⟨p, 0, none⟩ AA) B 25 Y ys ∧ AptV AA Y ∧
  (∀ v n cs, KpL 2 38 w B v n cs → KpL 2 38 (w2.setCell ⟨p, 0, none⟩ AA) B v n cs) ∧ Bt 25 p B w (w2.setCell ⟨p, 0, none⟩ AA) := by
 obtain ⟨hBp, hyl, hp, hA, hY, hAY, hpr, hpw⟩ := hb
 have hlt : p < w.heap.size := (Array.getElem?_eq_some_iff.1 hp).1
 have hpA := hA.other hp (by decide)
 have hpY := hY.other hp (by decide)
 have hb2 : w2.heap[p]? = some (Obj.cells #[A, Y, .int .i64 h, .bool false] 44 (0, 0)) := (hgrow.block p (by simp; omega) (fun e => hpA e.symm)).trans ((Lib.alloc_old w o p hlt).trans hp)
 have hpA' := hAA.other hb2 (by decide)
 have hold : ∀ k, k < w.heap.size → some k ≠ A.ownBlock → k ≠ p → (w2.setCell ⟨p, 0, none⟩ AA).heap[k]? = w.heap[k]? := fun k hk hkA hkp => by
  rw [heap_setCell_other w2 ⟨p, 0, none⟩ k AA hkp, hgrow.block k (by simp; omega) hkA, Lib.alloc_old w o k hk]
 refine ⟨hb2, heap_setCell_same w2 p 0 _ _ AA hb2, hAA.same fun k hk => heap_setCell_other w2 ⟨p, 0, none⟩ k AA (fun e => hpA' (by rw [hk]; exact congrArg some e)), hY.same fun k hk => hold k (hY.lt k hk).2 (fun e => ?_) (fun e => hpY (by rw [hk]; exact congrArg some e)), ?_, fun v n cs hv => hv.same fun k hk => ?_, ?_, fun k hk hkp hn => hold k hk (fun e => ?_) hkp⟩
 ·rcases hAY with h1 | h1
  ·rw [h1] at e; cases e
  ·exact h1 (by rw [hk]; exact e.symm)
 ·rcases hwh with e | ⟨k, e, hk⟩
  ·rcases hAY with h1 | h1
   ·exact .inl (e.trans h1)
   ·exact .inr (by rw [e]; exact h1)
  ·refine .inr fun e2 => ?_
   have := (hY.lt k (by rw [← e2, e])).2
   omega
 ·obtain ⟨cur, hcur⟩ := hv.kind k hk
  refine hold k (hv.lt k hk).2 (fun e => hA.other hcur (by decide) e.symm) (kind_nf hcur hp (by decide))
 ·exact (((Below.refl B w).alloc hBw o).grown hgrow (by simp; omega) (fun k hk => (hA.lt k hk).1)).setCell (p := ⟨p, 0, none⟩) hBp _
 ·obtain ⟨cur, hc⟩ := hA.kind k e.symm
  exact hn _ _ hc

theorem add2e {w3 w4 w5 : World} {B p : Nat} {h : Int} {AA Y YY y : Value} {us ys : List Value} {cs : List ByteArray} {n : Nat} {o : Obj} (hBp : B ≤ p) (hp3 : w3.heap[p]? = some (Obj.cells #[AA, Y, .int .i64 h, .bool false] 44 (0, 0))) (hA3 : SlV w3 B 25 AA us) (hY3 : SlV w3 B 25 Y ys) (hAY : AptV AA Y) (hBw : B ≤ w3.heap.size)
  (hg4 : w3.grownBy w4 none) (hy4 : KpL 2 38 w4 B y n cs) (hYY : SlV w5 B 25 YY (ys ++ [y])) (hg5 : (w4.alloc o).grownBy w5 Y.ownBlock) (hwh : YY.ownBlock = Y.ownBlock ∨ ∃ k, YY.ownBlock = some k ∧ w4.heap.size ≤ k) :
  w5.heap[p]? = some (Obj.cells #[AA, Y, .int .i64 h, .bool false] 44 (0, 0)) ∧
  (w5.setCell ⟨p, 1, none⟩ YY).heap[p]? = some (Obj.cells #[AA, YY, .int .i64 h, .bool false] 44 (0, 0)) ∧ SlV (w5.setCell ⟨p, 1, none⟩ YY) B 25 AA us ∧ SlV (w5.setCell ⟨p, 1, none⟩ YY) B 25 YY (ys ++ [y]) ∧ AptV AA YY ∧
  (∀ v n cs, KpL 2 38 w3 B v n cs → KpL 2 38 (w5.setCell ⟨p, 1, none⟩ YY) B v n cs) ∧ KpL 2 38 (w5.setCell ⟨p, 1, none⟩ YY) B y n cs ∧ Bt 25 p B w3 (w5.setCell ⟨p, 1, none⟩ YY) := by
 have hlt : p < w3.heap.size := (Array.getElem?_eq_some_iff.1 hp3).1
 have hs4 := hg4.size
 have hpA := hA3.other hp3 (by decide)
 have hpY := hY3.other hp3 (by decide)
 have hY4 : SlV w4 B 25 Y ys := hY3.same fun k hk => hg4.block k (hY3.lt k hk).2 (by simp)
 have hp4 := (hg4.block p hlt (by simp)).trans hp3
 have hp5 := (hg5.block p (by simp; omega) (fun e => hpY e.symm)).trans ((Lib.alloc_old w4 o p (by omega)).trans hp4)
 have hpYY := hYY.other hp5 (by decide)
 have hold4 : ∀ k, k < w4.heap.size → some k ≠ Y.ownBlock → k ≠ p → (w5.setCell ⟨p, 1, none⟩ YY).heap[k]? = w4.heap[k]? := fun k hk hkY hkp => by
  rw [heap_setCell_other w5 ⟨p, 1, none⟩ k YY hkp, hg5.block k (by simp; omega) hkY, Lib.alloc_old w4 o k hk]
 have hold : ∀ k, k < w3.heap.size → some k ≠ Y.ownBlock → k ≠ p → (w5.setCell ⟨p, 1, none⟩ YY).heap[k]? = w3.heap[k]? := fun k hk hkY hkp => (hold4 k (by omega) hkY hkp).trans (hg4.block k hk (by simp))
 refine ⟨hp5, heap_setCell_same w5 p 1 _ _ YY hp5, hA3.same fun k hk => hold k (hA3.lt k hk).2 (fun e => ?_) (fun e => hpA (by rw [hk]; exact congrArg some e)), hYY.same fun k hk => heap_setCell_other w5 ⟨p, 1, none⟩ k YY (fun e => hpYY (by rw [hk]; exact congrArg some e)), ?_, fun v n cs hv => hv.same fun k hk => ?_, hy4.same fun k hk => ?_, ?_, fun k hk hkp hn => hold k hk (fun e => ?_) hkp⟩
 ·rcases hAY with h1 | h1
  ·rw [h1] at hk; cases hk
  ·exact h1 (by rw [hk]; exact e)
 ·rcases hwh with e | ⟨k, e, hk⟩
  ·rcases hAY with h1 | h1
   ·exact .inl h1
   ·exact .inr (by rw [e]; exact h1)
  ·by_cases hn : AA.ownBlock = none
   ·exact .inl hn
   ·refine .inr fun e2 => ?_
    have := (hA3.lt k (by rw [e2, e])).2
    omega
 ·obtain ⟨cur, hcur⟩ := hv.kind k hk
  exact hold k (hv.lt k hk).2 (fun e => hY3.other hcur (by decide) e.symm) (kind_nf hcur hp3 (by decide))
 ·obtain ⟨cur, hcur⟩ := hy4.kind k hk
  exact hold4 k (hy4.lt k hk).2 (fun e => hY4.other hcur (by decide) e.symm) (kind_nf hcur hp4 (by decide))
 ·have h4 : Below B w3 w4 := (Below.refl B w3).grown hg4 hBw (fun k hk => by simp at hk)
  exact ((h4.alloc (by omega) o).grown hg5 (by simp; omega) (fun k hk => (hY3.lt k hk).1)).setCell (p := ⟨p, 1, none⟩) hBp _
 ·obtain ⟨cur, hc⟩ := hY3.kind k e.symm
  exact hn _ _ hc

theorem add3e {w w3 w6 : World} {B p n : Nat} {h : Int} {A Y AA YY X y : Value} {xs ys : List Value} {L : List ByteArray} (hb : Bke w B p h A Y xs ys) (hX : KpL 2 38 w B X n L) (hL : n ≤ 1000) (hap : ∀ a ∈ xs, AptV a X)
  (hr3 : ∀ v n cs, KpL 2 38 w B v n cs → KpL 2 38 w3 B v n cs) (hr6 : ∀ v n cs, KpL 2 38 w3 B v n cs → KpL 2 38 w6 B v n cs) (hy : KpL 2 38 w6 B y n L)
  (hp6 : w6.heap[p]? = some (Obj.cells #[AA, YY, .int .i64 h, .bool false] 44 (0, 0))) (hA6 : SlV w6 B 25 AA (xs ++ [X])) (hY6 : SlV w6 B 25 YY (ys ++ [y])) (hAY : AptV AA YY) :
  Bke w6 B p h AA YY (xs ++ [X]) (ys ++ [y]) := by
 obtain ⟨hBp, hyl, hp, hA, hY, _, hpr, hpw⟩ := hb
 refine ⟨hBp, by simp [hyl], hp6, hA6, hY6, hAY, fun i a b ha hb => ?_, ?_⟩
 ·by_cases hi : i < xs.length
  ·rw [List.getElem?_append_left hi] at ha
   rw [List.getElem?_append_left (by omega)] at hb
   obtain ⟨m, M, hM, h1, h2⟩ := hpr i a b ha hb
   exact ⟨m, M, hM, hr6 _ _ _ (hr3 _ _ _ h1), hr6 _ _ _ (hr3 _ _ _ h2)⟩
  ·have hi2 : i = xs.length := by
    have := (List.getElem?_eq_some_iff.1 ha).1
    simp at this
    omega
   subst hi2
   rw [List.getElem?_append_right (Nat.le_refl _), Nat.sub_self] at ha
   rw [List.getElem?_append_right (by omega), hyl, Nat.sub_self] at hb
   simp at ha hb
   subst ha hb
   exact ⟨n, L, hL, hr6 _ _ _ (hr3 _ _ _ hX), hy⟩
 ·rw [List.pairwise_append]
  refine ⟨hpw, List.pairwise_singleton _ _, fun a ha b hb => ?_⟩
  rw [List.mem_singleton.1 hb]
  exact hap a ha

end Go.Proofs.YtgoefeaopegdoaaGreatDoor

namespace Go.Proofs.YtgoefeaopegdoaaGreatDoor
open Go.RowKit

def lenAte (w : World) (p : Nat) : Nat := (match (w.cell? ⟨p, 0, none⟩).getD (.bool false) with | .slice _ n _ => n | _ => 0)

def KPe (w : World) (B p : Nat) (zs : List Value) : Prop := ∃ (h : Int) (A Y : Value) (xs ys : List Value) (k : Nat), (k < zs.length ∧ xs = zs.drop k) ∧ Bke w B p h A Y xs ys

noncomputable def kble : Code := ((Tryz.f25.body.map loopsOf).getD []).getD 0 .skip

set_option maxHeartbeats 4000000 in
set_option maxRecDepth 100000 in
theorem kloope (B p : Nat) (zs : List Value) (w W : World) (K : Act → World → Prop) (t1 t2 t3 t4 t5 t6 t7 t8 t9 t10 t11 t12 t13 t14 t15 t16 t17 t18 t19 t20 t21 t22 t23 t24 t25 t26 t27 t28 t29 t30 t31 t32 t33 t34 t35 t36 t37 t38 t39 t40 t41 t42 t43 t44 t45 t46 t47 t48 t49 t50 t51 t52 t53 t54 t55 t56 t57 t58 t59 t60 t61 t62 t63 t64 t65 t66 t67 t68 t69 t70 t71 t72 t73 t74 t75 t76 t77 t78 t79 t80 t81 t82 t83 t84 t85 t86 t87 t88 t89 t90 t91 t92 t93 t94 t95 t96 t97 t98 t99 t100 t101 t102 t103 t104 t105 t106 t107 t108 t109 t110 t111 : Value) (hzl : zs.length ≤ 201) (HB0 : Hid (KPe W B p zs)) (HBP : Hid (B ≤ p)) (HL0 : Hid (Bt 25 p B w W))
  (HK : Hid (∀ (u36 u37 u38 u39 u40 u41 u42 u43 u44 u45 u46 u47 u48 u49 u50 u51 u52 u53 u54 u55 u56 u57 u58 u59 u60 u61 u62 u63 u64 u65 u66 u67 u68 u69 u70 u71 u72 u73 u74 u75 u76 u77 u78 u79 u80 u81 u82 u83 u84 u85 u86 u87 u88 u89 u90 u91 u92 u93 u94 u95 u96 u97 u98 u99 u100 u101 u102 u103 u104 u105 u106 u107 u108 u109 u110 u111 : Value) (w2 : World), KPe w2 B p zs → Bt 25 p B w w2 → K ⟨#[.pointer (some ⟨p, 0, none⟩), t1, t2, t3, t4, t5, t6, t7, t8, t9, t10, t11, t12, t13, t14, t15, t16, t17, t18, t19, t20, t21, t22, t23, t24, t25, t26, t27, t28, t29, t30, t31, t32, t33, t34, t35, u36, u37, u38, u39, u40, u41, u42, u43, u44, u45, u46, u47, u48, u49, u50, u51, u52, u53, u54, u55, u56, u57, u58, u59, u60, u61, u62, u63, u64, u65, u66, u67, u68, u69, u70, u71, u72, u73, u74, u75, u76, u77, u78, u79, u80, u81, u82, u83, u84, u85, u86, u87, u88, u89, u90, u91, u92, u93, u94, u95, u96, u97, u98, u99, u100, u101, u102, u103, u104, u105, u106, u107, u108, u109, u110, u111], []⟩ w2)) :
  Code.wp Tryz.prog (.loop kble) (exit0 K) ⟨#[.pointer (some ⟨p, 0, none⟩), t1, t2, t3, t4, t5, t6, t7, t8, t9, t10, t11, t12, t13, t14, t15, t16, t17, t18, t19, t20, t21, t22, t23, t24, t25, t26, t27, t28, t29, t30, t31, t32, t33, t34, t35, t36, t37, t38, t39, t40, t41, t42, t43, t44, t45, t46, t47, t48, t49, t50, t51, t52, t53, t54, t55, t56, t57, t58, t59, t60, t61, t62, t63, t64, t65, t66, t67, t68, t69, t70, t71, t72, t73, t74, t75, t76, t77, t78, t79, t80, t81, t82, t83, t84, t85, t86, t87, t88, t89, t90, t91, t92, t93, t94, t95, t96, t97, t98, t99, t100, t101, t102, t103, t104, t105, t106, t107, t108, t109, t110, t111], []⟩ W := by
 conv => arg 2; whnf
 conv => arg 2; arg 1; whnf
 conv => arg 4; dsimp only
 go_loopw [36] (fun _ wr => Hid (KPe wr B p zs) ∧ Hid (Bt 25 p B w wr)) (fun _ wr => lenAte wr p)
 case atStart => exact ⟨HB0.out, HL0.out⟩
 case round =>
  clear HB0 HL0
  obtain ⟨⟨h', A', Y', xs', ys', k, ⟨hkl, hxe⟩, HBV⟩, HBL⟩ := hrel
  have HKL := hid hkl
  clear hkl
  have HXE := hid hxe
  have hxl : xs'.length ≤ 201 := by rw [hxe]; simp; omega
  clear hxe
  by_cases h1 : 1 < xs'.length
  ·obtain ⟨a, xs2, rfl⟩ : ∃ a t, xs' = a :: t := by
    cases xs' with
    | nil => simp at h1
    | cons a t => exact ⟨a, t, rfl⟩
   obtain ⟨y, ys2, rfl⟩ : ∃ a t, ys' = a :: t := by
    have := HBV.2.1
    cases ys' with
    | nil => simp at this
    | cons a t => exact ⟨a, t, rfl⟩
   obtain ⟨gA, oA, cA, rfl, hcA, qA⟩ := HBV.2.2.2.1.cell 0 (by simp)
   obtain ⟨gY, oY, cY, rfl, hcY, qY⟩ := HBV.2.2.2.2.1.cell 0 (by simp)
   obtain ⟨mn, M, hM, hMx, hMy⟩ := HBV.2.2.2.2.2.2.1 0 a y rfl rfl
   obtain ⟨xa, xc, rfl, _, _⟩ := hMx.slice
   obtain ⟨ya, yc', rfl, _, _⟩ := hMy.slice
   have q1 : wr.cell? ⟨gA, oA, none⟩ = some (.slice xa mn xc) := qA
   have q2 : wr.cell? ⟨gY, oY, none⟩ = some (.slice ya mn yc') := qY
   have HSAME := hid (fun (Z : World) (hZ : Below wr.heap.size wr Z) => bsamee (.slice xa mn xc) (.slice ya mn yc') mn M B Z (hMx.below hZ) (hMy.below hZ) (by omega))
   have hyl2 : ys2.length = xs2.length := by have := HBV.2.1; simpa using this
   obtain ⟨n, hn2⟩ : ∃ n, n = xs2.length := ⟨_, rfl⟩
   have e1 : ((Value.slice xa mn xc) :: xs2).length = n + 1 := by rw [hn2]; rfl
   have e2 : ((Value.slice ya mn yc') :: ys2).length = n + 1 := by rw [hn2, ← hyl2]; rfl
   rw [e1] at hcA h1 hxl
   rw [e2] at hcY
   have HBV2 : Hid (Bke wr B p h' (.slice (some ⟨gA, oA, none⟩) (n + 1) cA) (.slice (some ⟨gY, oY, none⟩) (n + 1) cY) ((Value.slice xa mn xc) :: xs2) ((Value.slice ya mn yc') :: ys2)) := by
    rw [e1, e2] at HBV
    exact HBV
   have HP7 := hid HBV2.out.2.2.1
   have c0 := cell_of_heapE HP7.out 0 _ rfl
   have c1 := cell_of_heapE HP7.out 1 _ rfl
   have c2 := cell_of_heapE HP7.out 2 _ rfl
   have c3 := cell_of_heapE HP7.out 3 _ rfl
   have hplt := HBV2.out.lt
   have HNE := hid hn2
   have HYL2 := hid hyl2
   have t1 : (1 : Int) < ((n + 1 : Nat) : Int) := by omega
   have t1' : (1 : Int) < (n : Int) + 1 := by omega
   have HLn := hid (show lenAte wr p = n + 1 by unfold lenAte; rw [c0]; rfl)
   clear hMx hMy qA qY HBV hn2 hyl2 e1 e2
   by_cases hH : 1000000 < h'
   ·have t2 : (1000000 : Int) < h' := hH
    clear hH
    go_wp2_with fail
    go_region_held (fun wx => wx.cell? ⟨p, 0, none⟩ = some (.slice (some ⟨gA, oA, none⟩) (n + 1) cA) ∧ wx.cell? ⟨p, 1, none⟩ = some (.slice (some ⟨gY, oY, none⟩) (n + 1) cY) ∧ wx.cell? ⟨p, 3, none⟩ = some (.bool false) ∧ wx.cell? ⟨gA, oA, none⟩ = some (.slice xa mn xc) ∧ wx.cell? ⟨gY, oY, none⟩ = some (.slice ya mn yc')) (first | (refine ⟨(setCell_idle hp2 rfl _).trans d0, (setCell_idle hp2 rfl _).trans d1, (setCell_idle hp2 rfl _).trans d3, (setCell_idle hp2 rfl _).trans d4, (setCell_idle hp2 rfl _).trans d5⟩) | go_keep) (first | (go_at_call 22; refine (HSAME.out wr.drew ((Below.refl _ wr).drew)).mono ?_; rintro e w8 ⟨rfl, hb2x⟩; have hb2 : Below wr.heap.size wr w8 := (Below.refl _ wr).drew.trans hb2x; have hp2 := (hb2.block p hplt).trans HP7.out; have f3 := Lib.frozen_of_heap ((hb2.block p hplt).trans HP7.out) 3; have d3 := cell_of_heapE ((hb2.block p hplt).trans HP7.out) 3 _ rfl; have d0 := cell_of_heapE ((hb2.block p hplt).trans HP7.out) 0 _ rfl; have d1 := cell_of_heapE ((hb2.block p hplt).trans HP7.out) 1 _ rfl; have d4 := kept_cell q1 hb2; have d5 := kept_cell q2 hb2))
    all_goals
     have HV8 := hid (HBV2.out.below hb2)
     have HV9 := hid (HV8.out.turn (heap_setCell_same w8 p 3 _ _ (.bool false) hp2) fun k _ hne => heap_setCell_other w8 ⟨p, 3, none⟩ k (.bool false) hne)
     have HB9 := hid ((HBL.out.step (by have := HBP.out; omega) hb2).set HBP.out 3 (.bool false))
     obtain ⟨w9, hw9⟩ : ∃ w9, w9 = w8.setCell ⟨p, 3, none⟩ (.bool false) := ⟨_, rfl⟩
     rw [← hw9] at HV9 HB9 ⊢
     clear hw9 d0 d1 d3 d4 d5 f3 hp2 hb2 hb2x c0 c1 c2 c3 q1 q2 HV8 HBV2 HSAME
     have hp9 := HV9.out.2.2.1
     have c0 := cell_of_heapE hp9 0 _ rfl
     have c2 := cell_of_heapE hp9 2 _ rfl
     have f2 := Lib.frozen_of_heap hp9 2
     have q1 : w9.cell? ⟨gA, oA, none⟩ = some (.slice xa mn xc) := by
      obtain ⟨g', o', c', e, _, hq⟩ := HV9.out.2.2.2.1.cell 0 (by simp)
      injection e with e1 _ _
      injection e1 with e1
      injection e1 with e4 e5
      subst e4 e5
      exact hq
     have HP9 := hid hp9
     clear hp9
     go_wp2_with fail
     go_region
     all_goals
      obtain ⟨H2, hH2⟩ : ∃ H2, wrap64 (wrap64 (h' - (xc : Int)) - 1) = H2 := ⟨_, rfl⟩
      rw [hH2]
      clear hH2
      have e10 := heap_setCell_same w9 p 2 _ _ (.int .i64 H2) HP9.out
      have e11 := heap_setCell_same _ p 0 _ _ (.slice (some ⟨gA, oA + 1, none⟩) n (cA - 1)) e10
      have e12 := heap_setCell_same _ p 1 _ _ (.slice (some ⟨gY, oY + 1, none⟩) n (cY - 1)) e11
      have d0 := cell_of_heapE e10 0 _ rfl
      have g0 := Lib.frozen_of_heap e10 0
      have d1 := cell_of_heapE e11 1 _ rfl
      have g1 := Lib.frozen_of_heap e11 1
      have hsl1 : ∀ wx, (Instr.sliceAt 42 (.slice (some ⟨gA, oA, none⟩) (n + 1) cA) (some (.int .i64 1)) none none).run Tryz.prog wx = .ok (.slice (some ⟨gA, oA + 1, none⟩) n (cA - 1)) wx := fun wx => slice_taile gA oA (n + 1) cA wx (by omega) (by omega)
      have hsl2 : ∀ wx, (Instr.sliceAt 42 (.slice (some ⟨gY, oY, none⟩) (n + 1) cY) (some (.int .i64 1)) none none).run Tryz.prog wx = .ok (.slice (some ⟨gY, oY + 1, none⟩) n (cY - 1)) wx := fun wx => slice_taile gY oY (n + 1) cY wx (by omega) (by omega)
      have HV10 := hid (show KPe (((w9.setCell ⟨p, 2, none⟩ (.int .i64 H2)).setCell ⟨p, 0, none⟩ (.slice (some ⟨gA, oA + 1, none⟩) n (cA - 1))).setCell ⟨p, 1, none⟩ (.slice (some ⟨gY, oY + 1, none⟩) n (cY - 1))) B p zs from by
       have hb := HV9.out
       have hne := HNE.out
       have hye := HYL2.out
       subst hne
       rw [← hye] at hb e12 ⊢
       have hb2 : Bke w9 B p h' (.slice (some ⟨gA, oA, none⟩) (xs2.length + 1) cA) (.slice (some ⟨gY, oY, none⟩) (ys2.length + 1) cY) ((Value.slice xa mn xc) :: xs2) ((Value.slice ya mn yc') :: ys2) := by rw [← hye]; exact hb
       have e13 : (((w9.setCell ⟨p, 2, none⟩ (.int .i64 H2)).setCell ⟨p, 0, none⟩ (.slice (some ⟨gA, oA + 1, none⟩) ys2.length (cA - 1))).setCell ⟨p, 1, none⟩ (.slice (some ⟨gY, oY + 1, none⟩) ys2.length (cY - 1))).heap[p]? = some (.cells #[.slice (some ⟨gA, oA + 1, none⟩) xs2.length (cA - 1), .slice (some ⟨gY, oY + 1, none⟩) ys2.length (cY - 1), .int .i64 H2, .bool false] 44 (0, 0)) := by rw [← hye]; exact e12
       refine ⟨H2, _, _, xs2, ys2, k + 1, ?_, hb2.drop e13 fun j _ hj => by
        rw [heap_setCell_other _ ⟨p, 1, none⟩ j _ hj, heap_setCell_other _ ⟨p, 0, none⟩ j _ hj, heap_setCell_other _ ⟨p, 2, none⟩ j _ hj]⟩
       refine ⟨by have h5 := congrArg List.length HXE.out; simp at h5; omega, ?_⟩
       have := congrArg List.tail HXE.out
       rw [List.tail_cons, List.tail_drop] at this
       exact this)
      have HB10 := hid (((HB9.out.set HBP.out 2 (.int .i64 H2)).set HBP.out 0 (.slice (some ⟨gA, oA + 1, none⟩) n (cA - 1))).set HBP.out 1 (.slice (some ⟨gY, oY + 1, none⟩) n (cY - 1)))
      have HLN := hid (show lenAte (((w9.setCell ⟨p, 2, none⟩ (.int .i64 H2)).setCell ⟨p, 0, none⟩ (.slice (some ⟨gA, oA + 1, none⟩) n (cA - 1))).setCell ⟨p, 1, none⟩ (.slice (some ⟨gY, oY + 1, none⟩) n (cY - 1))) p = n by unfold lenAte; rw [cell_of_heapE e12 0 _ rfl]; rfl)
      clear e10 e11 e12 c0 c2 f2 q1 HV9
      go_wp2_with fail
      go_roundw
      case rel => first | exact ⟨HV10.out, HB10.out⟩ | exact ⟨HV10.out, HB10.out.drew⟩
      case measure => rw [HLn.out]; exact Nat.lt_of_le_of_lt (Nat.le_of_eq HLN.out) (Nat.lt_succ_self n)
   ·have t2 : ¬ ((1000000 : Int) < h') := hH
    have t3 : ¬ ((4000 : Int) < (n : Int) + 1) := by omega
    clear q1 q2 hH
    go_wp2_with fail
    exact HK.out _ _ _ _ _ _ _ _ _ _ _ _ _ _ _ _ _ _ _ _ _ _ _ _ _ _ _ _ _ _ _ _ _ _ _ _ _ _ _ _ _ _ _ _ _ _ _ _ _ _ _ _ _ _ _ _ _ _ _ _ _ _ _ _ _ _ _ _ _ _ _ _ _ _ _ _ _ ⟨h', _, _, _, _, k, ⟨HKL.out, HXE.out⟩, HBV2.out⟩ HBL.out
  ·obtain ⟨aA, cA, rfl, hcA⟩ := HBV.2.2.2.1.form
   have c0 := cell_of_heapE HBV.2.2.1 0 _ rfl
   have HBV2 := hid HBV
   have t1 : ¬ ((1 : Int) < (xs'.length : Int)) := by omega
   clear h1 HBV
   go_wp2_with fail
   exact HK.out _ _ _ _ _ _ _ _ _ _ _ _ _ _ _ _ _ _ _ _ _ _ _ _ _ _ _ _ _ _ _ _ _ _ _ _ _ _ _ _ _ _ _ _ _ _ _ _ _ _ _ _ _ _ _ _ _ _ _ _ _ _ _ _ _ _ _ _ _ _ _ _ _ _ _ _ _ ⟨h', _, _, xs', ys', k, ⟨HKL.out, HXE.out⟩, HBV2.out⟩ HBL.out

end Go.Proofs.YtgoefeaopegdoaaGreatDoor

namespace Go.Proofs.YtgoefeaopegdoaaGreatDoor
open Go.RowKit

set_option maxHeartbeats 4000000 in
set_option maxRecDepth 100000 in
theorem stayse (B p : Nat) (h : Int) (A Y : Value) (xs ys : List Value) (w : World) (hbk : Bke w B p h A Y xs ys) (hn : xs.length ≤ 201) :
  Calls Tryz.prog 74 #[.pointer (some ⟨p, 0, none⟩)] w fun e w' => e = .returned (.bool true) ∧ Bke w' B p h A Y xs ys ∧ Bt 38 p B w w' := by
 have HBP := hid hbk.1
 have HB0 := hid hbk
 obtain ⟨aA, cA, rfl, hcA⟩ := hbk.2.2.2.1.form
 obtain ⟨aY, cY, rfl, hcY⟩ := hbk.2.2.2.2.1.form
 obtain ⟨n, hne⟩ : ∃ n, n = xs.length := ⟨_, rfl⟩
 have HNE := hid hne
 have hyl := hbk.2.1
 rw [← hne] at hn hyl hcA HB0
 rw [hyl] at hcY HB0
 have HYL := hid hyl
 have HG := hid (show Bke w B p h (.slice aA n cA) (.slice aY n cY) xs ys ↔ Bke w B p h (.slice aA xs.length cA) (.slice aY ys.length cY) xs ys by rw [hyl, ← hne])
 have HGO := hid (show ∀ X, Bke X B p h (.slice aA n cA) (.slice aY n cY) xs ys → Bke X B p h (.slice aA xs.length cA) (.slice aY ys.length cY) xs ys from fun X hX => by rw [hyl, ← hne]; exact hX)
 clear hbk hne hyl HG
 go_enter Tryz.func74, Tryz.ntmps74
 go_wp2_with fail
 go_loopw [3] (fun v3 wr => ∃ k : Nat, k ≤ n ∧ v3 = .int .i64 k ∧ Hid (Bke wr B p h (.slice aA n cA) (.slice aY n cY) xs ys ∧ Bt 38 p B w wr)) (fun v3 _ => n - (intOf v3).toNat)
 case atStart => exact ⟨0, Nat.zero_le _, rfl, HB0.out, Bt.refl _ _ _ _⟩
 case round =>
  clear HB0
  obtain ⟨k, hk, rfl, HR⟩ := hrel
  have HP7 := hid HR.out.1.2.2.1
  have c3 := cell_of_heapE HP7.out 3 _ rfl
  have c0 := cell_of_heapE HP7.out 0 _ rfl
  have c1 := cell_of_heapE HP7.out 1 _ rfl
  by_cases hlt : k < n
  ·have hin : (k : Int) < (n : Int) := by omega
   have hkx : k < xs.length := by have := HNE.out; omega
   have hky : k < ys.length := by have := HYL.out; omega
   obtain ⟨gA, oA, cA', eA, _, qA⟩ := HR.out.1.2.2.2.1.cell k hkx
   obtain ⟨gY, oY, cY', eY, _, qY⟩ := HR.out.1.2.2.2.2.1.cell k hky
   obtain ⟨mn, M, hM, hMx, hMy⟩ := HR.out.1.2.2.2.2.2.2.1 k xs[k] ys[k] (by simp [hkx]) (by simp [hky])
   injection eA with eA1 _ _
   injection eY with eY1 _ _
   subst eA1 eY1
   generalize xs[k] = X at qA hMx
   generalize ys[k] = Z at qY hMy
   obtain ⟨xa, xc, rfl, _, _⟩ := hMx.slice
   obtain ⟨ya, yc, rfl, _, _⟩ := hMy.slice
   have HSAME := hid (fun (Z : World) (hZ : Below wr.heap.size wr Z) => bsamee (.slice xa mn xc) (.slice ya mn yc) mn M B Z (hMx.below hZ) (hMy.below hZ) (by omega))
   have hplt := HR.out.1.lt
   clear hMx hMy hkx hky
   go_wp2_with fail
   go_region_held (fun wx => wx.cell? ⟨p, 0, none⟩ = some (.slice (some ⟨gA, oA, none⟩) n cA) ∧ wx.cell? ⟨p, 1, none⟩ = some (.slice (some ⟨gY, oY, none⟩) n cY) ∧ wx.cell? ⟨p, 3, none⟩ = some (.bool false) ∧ wx.cell? ⟨gA, oA + k, none⟩ = some (.slice xa mn xc) ∧ wx.cell? ⟨gY, oY + k, none⟩ = some (.slice ya mn yc)) (first | (refine ⟨(setCell_idle hp2 rfl _).trans d0, (setCell_idle hp2 rfl _).trans d1, (setCell_idle hp2 rfl _).trans d3, (setCell_idle hp2 rfl _).trans d4, (setCell_idle hp2 rfl _).trans d5⟩) | go_keep) (first | (go_at_call 22; refine (HSAME.out wr.drew ((Below.refl _ wr).drew)).mono ?_; rintro e w8 ⟨rfl, hb2x⟩; have hb2 : Below wr.heap.size wr w8 := (Below.refl _ wr).drew.trans hb2x; have hp2 := (hb2.block p hplt).trans HP7.out; have f3 := Lib.frozen_of_heap ((hb2.block p hplt).trans HP7.out) 3; have d3 := cell_of_heapE ((hb2.block p hplt).trans HP7.out) 3 _ rfl; have d0 := cell_of_heapE ((hb2.block p hplt).trans HP7.out) 0 _ rfl; have d1 := cell_of_heapE ((hb2.block p hplt).trans HP7.out) 1 _ rfl; have d4 := kept_cell qA hb2; have d5 := kept_cell qY hb2))
   all_goals
    have HV9 := hid ((HR.out.1.below hb2).turn (heap_setCell_same w8 p 3 _ _ (.bool false) hp2) fun k _ hne => heap_setCell_other w8 ⟨p, 3, none⟩ k (.bool false) hne)
    have HB9 := hid ((HR.out.2.step (by have := HBP.out; omega) hb2).set HBP.out 3 (.bool false))
    clear d0 d1 d3 d4 d5 f3 hp2 hb2 hb2x c0 c1 c3 qA qY HSAME
    go_wp2_with fail
    go_roundw
    case rel => first | exact ⟨k + 1, by omega, by go_num, HV9.out, HB9.out⟩ | ((repeat apply Exists.intro); refine ⟨?_, rfl⟩; exact ⟨k + 1, by omega, by go_num, HV9.out, HB9.out⟩)
    case measure => simp [intOf]; omega
  ·obtain rfl : k = n := by omega
   have hng : ¬ ((k : Int) < (k : Int)) := by omega
   clear hk hlt
   go_wp2_with fail
   go_ret
   exact ⟨rfl, HGO.out _ HR.out.1, HR.out.2⟩

end Go.Proofs.YtgoefeaopegdoaaGreatDoor
