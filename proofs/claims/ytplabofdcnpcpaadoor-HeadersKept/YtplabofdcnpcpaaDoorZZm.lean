/-
  Contracts for the law HeadersKept: what headers answers, as lists that a book keeps; two books side by side.
-/
import Derived.Test.YtplabofdcnpcpaaDoorZGg
import Derived.Test.YtplabofdcnpcpaaDoorZGf
import Derived.Test.YtplabofdcnpcpaaDoorZBf
import Derived.Test.YtplabofdcnpcpaaDoorZBkhi
import Derived.Test.YtplabofdcnpcpaaDoorZBksi
set_option linter.unusedSimpArgs false
set_option linter.unusedVariables false
namespace Go.Proofs.YtplabofdcnpcpaaDoor
open Go.RowKit

def bah (L : List Hd) : List ByteArray := L.flatMap fun h => [⟨h.name.toArray⟩, ⟨h.value.toArray⟩]
theorem cS_bah (L : List Hd) : cS (bah L) = cellsH L := by simp [cS, bah, cellsH, List.map_flatMap]
theorem kph_own {w : World} {B n : Nat} {T : TypeId} {v : Value} {L : List Hd} (h : w.ownsRow B T 2 v n (cellsH L)) : KpL 2 T w B v n (bah L) := by
  rw [← cS_bah] at h
  exact own_kp h
def bas (L : List (List UInt8)) : List ByteArray := L.map fun x => ⟨x.toArray⟩
theorem cS_bas (L : List (List UInt8)) : cS (bas L) = cellsT L := by simp [cS, bas, cellsT]
theorem kps_own {w : World} {B n : Nat} {v : Value} {L : List (List UInt8)} (h : w.ownsRow B 9 1 v n (cellsT L)) : KpL 1 9 w B v n (bas L) := by
  rw [← cS_bas] at h
  exact own_kp h

theorem KBh.block {w : World} {B p n : Nat} {S : Nat → Prop} (h : KBh w B p n S) : ∃ cur, w.heap[p]? = some (Obj.cells cur 26 (0, 0)) := by
  obtain ⟨h1, A, Y, xs, ys, _, _, hbk⟩ := h
  exact ⟨_, hbk.2.2.1⟩
theorem KBs.block {w : World} {B p n : Nat} {S : Nat → Prop} (h : KBs w B p n S) : ∃ cur, w.heap[p]? = some (Obj.cells cur 29 (0, 0)) := by
  obtain ⟨h1, A, Y, xs, ys, _, _, hbk⟩ := h
  exact ⟨_, hbk.2.2.1⟩

theorem turned_at {w w' : World} {p q : Nat} {cur : Array Value} {T U V : TypeId} {fz : Nat × Nat} (h : w.heap[q]? = some (Obj.cells cur T fz)) (ht : TurnedBut U p w w') (hp : ∃ cur, w.heap[p]? = some (Obj.cells cur V (0, 0))) (h1 : T ≠ U) (h2 : T ≠ V) : w'.heap[q]? = w.heap[q]? := by
  obtain ⟨pc, hp⟩ := hp
  exact ht q (Array.getElem?_eq_some_iff.1 h).1 (kind_nf h hp h2) (fun c2 f2 h3 => by rw [h] at h3; injection h3 with h3; injection h3 with _ h3 _; exact h1 h3)

theorem own_turned {w w' : World} {p B n k : Nat} {T U V : TypeId} {v : Value} {X : List Value} (h : w.ownsRow B T k v n X) (ht : TurnedBut U p w w') (hp : ∃ cur, w.heap[p]? = some (Obj.cells cur V (0, 0))) (h1 : T ≠ U) (h2 : T ≠ V) : w'.ownsRow B T k v n X := by
  refine ownsRow_same h fun g hg => ?_
  obtain ⟨cur, hc⟩ := ownsRow_kind h g hg
  exact turned_at hc ht hp h1 h2
theorem kp_turned {w w' : World} {p B n k : Nat} {T U V : TypeId} {v : Value} {X : List ByteArray} (h : KpL k T w B v n X) (ht : TurnedBut U p w w') (hp : ∃ cur, w.heap[p]? = some (Obj.cells cur V (0, 0))) (h1 : T ≠ U) (h2 : T ≠ V) : KpL k T w' B v n X := by
  refine h.same fun g hg => ?_
  obtain ⟨cur, hc⟩ := h.kind g hg
  exact turned_at hc ht hp h1 h2

/-- What the one book does is nothing to the other. -/
theorem KBs.turned {w w' : World} {B p n q : Nat} {S : Nat → Prop} (h : KBs w B p n S) (ht : TurnedBut 22 q w w') (hq : ∃ cur, w.heap[q]? = some (Obj.cells cur 26 (0, 0))) : KBs w' B p n S := by
  obtain ⟨pc, hpc⟩ := h.block
  refine h.apart fun k cur U fz hk hU => ?_
  rcases hU with rfl | rfl | rfl
  · exact turned_at hk ht hq (by decide) (by decide)
  · exact turned_at hk ht hq (by decide) (by decide)
  · exact turned_at hpc ht hq (by decide) (by decide)
theorem KBs.turnedH {w w' : World} {B p n q : Nat} {S : Nat → Prop} (h : KBs w B p n S) (ht : TurnedBut 38 q w w') (hq : ∃ cur, w.heap[q]? = some (Obj.cells cur 26 (0, 0))) : KBs w' B p n S := by
  obtain ⟨pc, hpc⟩ := h.block
  refine h.apart fun k cur U fz hk hU => ?_
  rcases hU with rfl | rfl | rfl
  · exact turned_at hk ht hq (by decide) (by decide)
  · exact turned_at hk ht hq (by decide) (by decide)
  · exact turned_at hpc ht hq (by decide) (by decide)
theorem KBh.turned {w w' : World} {B p n q : Nat} {S : Nat → Prop} (h : KBh w B p n S) (ht : TurnedBut 33 q w w') (hq : ∃ cur, w.heap[q]? = some (Obj.cells cur 29 (0, 0))) : KBh w' B p n S := by
  obtain ⟨pc, hpc⟩ := h.block
  refine h.apart fun k cur U fz hk hU => ?_
  rcases hU with rfl | rfl | rfl
  · exact turned_at hk ht hq (by decide) (by decide)
  · exact turned_at hk ht hq (by decide) (by decide)
  · exact turned_at hpc ht hq (by decide) (by decide)

theorem pcsN_len : ∀ (f : Nat) (l : List UInt8), (pcsN f l).length ≤ f + 1 := by
  intro f
  induction f with
  | zero => intro l; simp [pcsN]
  | succ f ih =>
    intro l
    rw [pcsN]
    cases cutQ false l with
    | none => simp
    | some k => have := ih (l.drop (k + 1)); simp; omega
theorem splitV_len (L : List Hd) (n : List UInt8) : (splitV L n).length ≤ bulkV L + 1 := by
  have h1 := pcsN_len (getT L n).length (getT L n)
  have h2 := getT_len L n
  simp only [splitV, pcs, List.length_map]
  omega
theorem setV_len (L : List Hd) (n v : List UInt8) : (setV L n v).length ≤ L.length + 1 := by
  unfold setV
  split
  · simp
  · rename_i k hk
    have h1 := dropV_len (L.drop (k + 1)) n
    have h2 : k < L.length := by
      unfold firstV at hk
      obtain ⟨h, _⟩ := List.findIdx?_eq_some_iff_getElem.1 hk
      exact h
    simp at h1 ⊢
    omega
theorem bld_len {R O : List Hd} (h : Bld R O) : O.length ≤ R.length := by
  induction h with
  | nil => simp
  | step k h hO ih =>
    have h1 := h.1
    have h2 := h.2.1
    simp at ih ⊢
    omega

/-- What a list that is answered is. -/
def KH (w : World) (w' : World) (v : Value) : Prop := ∃ a n c X, v = .slice a n c ∧ n ≤ 1000 ∧ KpL 2 38 w' w.heap.size (.slice a n c) n X ∧ Below w.heap.size w w'

theorem kh_own {w w' : World} {v : Value} {n : Nat} {L : List Hd} (h : w'.ownsRow w.heap.size 38 2 v n (cellsH L)) (hn : n ≤ 1000) (hb : Below w.heap.size w w') : KH w w' v := by
  have hk := kph_own h
  obtain ⟨a, c, rfl, _, _⟩ := hk.slice
  exact ⟨a, n, c, _, rfl, hn, hk, hb⟩
theorem kh_nil {w w' : World} (hb : Below w.heap.size w w') : KH w w' (.slice none 0 0) := ⟨none, 0, 0, [], rfl, by decide, KpL.nil _ _ _ _, hb⟩

theorem addK (v : Value) (L : List Hd) (n s : ByteArray) (w : World) (h : HdAt w v L) (hl : L.length ≤ 100) (hn : n.size ≤ 1000) (hs : s.size ≤ 1000) :
    Calls Tryd.prog 6 #[v, .string n, .string s] w fun e w' => ∃ u k, e = .returned (.tuple #[u, .int .i64 k]) ∧ KH w w' u := by
  refine (add_any v L n s w h (by omega) (by omega) (by omega)).mono ?_
  rintro e w' ⟨hb, ⟨_, rfl⟩ | ⟨_, u, rfl, ho⟩⟩
  · exact ⟨_, _, rfl, kh_nil hb⟩
  · exact ⟨_, _, rfl, kh_own ho (by omega) hb⟩

theorem setK (v : Value) (L : List Hd) (n s : ByteArray) (w : World) (h : HdAt w v L) (hl : L.length ≤ 100) (hn : n.size ≤ 1000) (hs : s.size ≤ 1000) (hz : Szd 140737488351232 L) :
    Calls Tryd.prog 7 #[v, .string n, .string s] w fun e w' => ∃ u k, e = .returned (.tuple #[u, .int .i64 k]) ∧ KH w w' u := by
  refine (set_any v L n s w h (by omega) (by omega) (by omega) hz).mono ?_
  rintro e w' ⟨hb, ⟨_, rfl⟩ | ⟨_, u, rfl, ho⟩⟩
  · exact ⟨_, _, rfl, kh_nil hb⟩
  · exact ⟨_, _, rfl, kh_own ho (by have := setV_len L n.data.toList s.data.toList; omega) hb⟩

theorem dropK (v : Value) (L : List Hd) (n : ByteArray) (w : World) (h : HdAt w v L) (hl : L.length ≤ 100) (hn : n.size ≤ 140737488351232) (hz : Szd 140737488351232 L) :
    Calls Tryd.prog 10 #[v, .string n] w fun e w' => ∃ u, e = .returned u ∧ KH w w' u := by
  refine (drop_any v L n w h hn hz (by omega)).mono ?_
  rintro e w' ⟨u, rfl, ho, hb, _⟩
  exact ⟨_, rfl, kh_own ho (by have := dropV_len L n.data.toList; omega) hb⟩

theorem sortedK (v : Value) (L : List Hd) (w : World) (h : HdAt w v L) (hl : L.length ≤ 20) (hz : Szd 1000000000 L) :
    Calls Tryd.prog 11 #[v] w fun e w' => ∃ u, e = .returned u ∧ KH w w' u := by
  refine (sorted_any v L w h hl hz).mono ?_
  rintro e w' ⟨u, O, rfl, ho, ⟨M, hM, _, _, hbl⟩, hb⟩
  exact ⟨_, rfl, kh_own ho (by have := bld_len hbl; omega) hb⟩

set_option maxHeartbeats 1000000 in
theorem split_none5 (v : Value) (L : List Hd) (n : ByteArray) (w : World) (h : HdAt w v L) (hs : n.size ≤ 140737488351232) (hz : Szd 140737488351232 L) (hl : L.length ≤ 1000000) (hb : bulkV L ≤ 1000000000) (hh : getB L n.data.toList = false) :
    Calls Tryd.prog 8 #[v, .string n] w fun e w' => e = .returned (.tuple #[.slice none 0 0, .bool false]) ∧ Below w.heap.size w w' := by
  have HG := hid (get_any v L n w h hs hz hl (by omega))
  obtain ⟨T, hT⟩ : ∃ T : ByteArray, T = ⟨(getT L n.data.toList).toArray⟩ := ⟨_, rfl⟩
  rw [← hT, hh] at HG
  clear hT h hz hb hh
  go_enter Tryd.func8, Tryd.ntmps8
  go_wp2_with fail
  refine HG.out.mono ?_
  rintro e w0 ⟨rfl, hb0⟩
  go_wp2
  go_ret2
  exact ⟨rfl, hb0⟩

theorem splitK (v : Value) (L : List Hd) (n : ByteArray) (w : World) (h : HdAt w v L) (hl : L.length ≤ 100) (hs : n.size ≤ 140737488351232) (hz : Szd 140737488351232 L) (hb : bulkV L ≤ 990) :
    Calls Tryd.prog 8 #[v, .string n] w fun e w' => ∃ a m c b X, e = .returned (.tuple #[.slice a m c, .bool b]) ∧ m ≤ 1000 ∧ KpL 1 9 w' w.heap.size (.slice a m c) m X ∧ Below w.heap.size w w' := by
  cases hh : getB L n.data.toList with
  | true =>
    refine (split_any v L n w h hs hz (by omega) (by omega) hh).mono ?_
    rintro e w' ⟨u, rfl, ho, hb'⟩
    have hk := kps_own ho
    obtain ⟨a, c, rfl, _, _⟩ := hk.slice
    exact ⟨a, _, c, true, _, rfl, by have := splitV_len L n.data.toList; omega, hk, hb'⟩
  | false =>
    refine (split_none5 v L n w h hs hz (by omega) (by omega) hh).mono ?_
    rintro e w' ⟨rfl, hb'⟩
    exact ⟨none, 0, 0, false, [], rfl, by decide, KpL.nil _ _ _ _, hb'⟩

/-- What stands in a round: both books, the list, and what lay before. -/
def StK (w0 : World) (P : Nat) (lv : Value) (n : Nat) (L : List Hd) (a b sh ss : Nat) (x : World) : Prop :=
  KBh x P P a (fun g => g < sh) ∧ KBs x (P + 1) (P + 1) b (fun g => g < ss) ∧ x.ownsRow w0.heap.size 38 2 lv n (cellsH L) ∧ Below w0.heap.size w0 x ∧ P + 2 ≤ x.heap.size

theorem StK.below {w0 x x' : World} {P : Nat} {lv : Value} {n : Nat} {L : List Hd} {a b sh ss : Nat} (h : StK w0 P lv n L a b sh ss x) (hb : Below x.heap.size x x') : StK w0 P lv n L a b sh ss x' :=
  ⟨h.1.below hb, h.2.1.below hb, own_kept h.2.2.1 hb, below2 h.2.2.2.1 hb, Nat.le_trans h.2.2.2.2 hb.size⟩
theorem StK.hd {w0 x : World} {P : Nat} {lv : Value} {n : Nat} {L : List Hd} {a b sh ss : Nat} (h : StK w0 P lv n L a b sh ss x) (hn : n = L.length) : HdAt x lv L := by
  have := h.2.2.1
  rw [hn] at this
  exact own_hd this

theorem StK.keeph {w0 x : World} {P : Nat} {lv : Value} {n : Nat} {L : List Hd} {a b sh ss : Nat} (h : StK w0 P lv n L a b sh ss x) (hP : w0.heap.size ≤ P) {v : Value} {m : Nat} {X : List ByteArray} (hv : KpL 2 38 x P v m X) (hm : m ≤ 1000) (ha : a ≤ 200) (sh' : Nat) (h1 : ∀ g, v.ownBlock = some g → sh ≤ g ∧ g < sh') (h2 : sh ≤ sh') :
    Calls Tryd.prog 9 #[.pointer (some ⟨P, 0, none⟩), v] x fun e x' => e = .returned (.tuple #[]) ∧ StK w0 P lv n L (a + 1) b sh' ss x' ∧ TurnedBut 22 P x x' ∧ x.heap.size ≤ x'.heap.size := by
  refine (Go.Proofs.YtplabofdcnpcpaaDoor.keeph P P a m _ v X x h.1 hv (fun g hg hlt => by have := (h1 g hg).1; have h7 : g < sh := hlt; omega) hm ha (by have := h.2.2.2.2; omega)).mono ?_
  rintro e x' ⟨rfl, hk, hbt⟩
  exact ⟨rfl, ⟨hk.more (Nat.le_refl _) (fun g hg => hg.elim (fun h => (by have h7 : g < sh := h; show g < sh'; omega)) (fun h => (h1 g h).2)), h.2.1.turned hbt.2 h.1.block, own_turned h.2.2.1 hbt.2 h.1.block (by decide) (by decide), h.2.2.2.1.trans (hbt.1.mono hP), by have := hbt.1.size; have := h.2.2.2.2; omega⟩, hbt.2, hbt.1.size⟩

theorem StK.keeps {w0 x : World} {P : Nat} {lv : Value} {n : Nat} {L : List Hd} {a b sh ss : Nat} (h : StK w0 P lv n L a b sh ss x) (hP : w0.heap.size ≤ P) {v : Value} {m : Nat} {X : List ByteArray} (hv : KpL 1 9 x (P + 1) v m X) (hm : m ≤ 1000) (ha : b ≤ 200) (ss' : Nat) (h1 : ∀ g, v.ownBlock = some g → ss ≤ g ∧ g < ss') (h2 : ss ≤ ss') :
    Calls Tryd.prog 12 #[.pointer (some ⟨P + 1, 0, none⟩), v] x fun e x' => e = .returned (.tuple #[]) ∧ StK w0 P lv n L a (b + 1) sh ss' x' ∧ x.heap.size ≤ x'.heap.size := by
  refine (Go.Proofs.YtplabofdcnpcpaaDoor.keeps (P + 1) (P + 1) b m _ v X x h.2.1 hv (fun g hg hlt => by have := (h1 g hg).1; have h7 : g < ss := hlt; omega) hm ha (by have := h.2.2.2.2; omega)).mono ?_
  rintro e x' ⟨rfl, hk, hbt⟩
  exact ⟨rfl, ⟨h.1.turned hbt.2 h.2.1.block, hk.more (Nat.le_refl _) (fun g hg => hg.elim (fun h => (by have h7 : g < ss := h; show g < ss'; omega)) (fun h => (h1 g h).2)), own_turned h.2.2.1 hbt.2 h.2.1.block (by decide) (by decide), h.2.2.2.1.trans (hbt.1.mono (Nat.le_succ_of_le hP)), by have := hbt.1.size; have := h.2.2.2.2; omega⟩, hbt.1.size⟩

end Go.Proofs.YtplabofdcnpcpaaDoor
