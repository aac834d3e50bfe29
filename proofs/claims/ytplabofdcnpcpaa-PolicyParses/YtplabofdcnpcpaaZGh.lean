/-
  A list of policies, place by place.
  Lists of policies of the document's own From, in memory.
  The walk of the document's own Named of chapter 5.
  The walk of the document's own From of chapter 10.
-/
import Derived.Test.YtplabofdcnpcpaaZAt
import Derived.Test.YtplabofdcnpcpaaZAzc
import Derived.Test.YtplabofdcnpcpaaZGf
set_option linter.unusedSimpArgs false
set_option linter.unusedVariables false
namespace Go.Proofs.Ytplabofdcnpcpaa
open Go.RowKit

/-- A list of policies, place by place. -/
def PlAt (w : World) (v : Value) (Ps : List (List Ru × Bool)) : Prop :=
  ∃ a cap, v = .slice a Ps.length cap ∧ Ps.length ≤ cap ∧ cap ≤ maxLen ∧ ∀ j (hj : j < Ps.length), ∃ b off ua uc, a = some ⟨b, off, none⟩ ∧ w.cell? ⟨b, off + j * 2, none⟩ = some (.slice ua Ps[j].1.length uc) ∧ w.cell? ⟨b, off + j * 2 + 1, none⟩ = some (.bool Ps[j].2) ∧ PoAt w (.slice ua Ps[j].1.length uc) Ps[j].1

theorem PlAt.kept {w w' : World} {v : Value} {Ps : List (List Ru × Bool)} (h : PlAt w v Ps) (hb : Below w.heap.size w w') : PlAt w' v Ps := by
  obtain ⟨a, cap, h1, h2, h3, h4⟩ := h
  refine ⟨a, cap, h1, h2, h3, fun j hj => ?_⟩
  obtain ⟨b, off, ua, uc, e, c1, c2, c3⟩ := h4 j hj
  exact ⟨b, off, ua, uc, e, kept_cell c1 hb, kept_cell c2 hb, c3.kept hb⟩

theorem own_pl {w : World} {B B' : Nat} {v : Value} {P : List (Value × Bool)} {Ps : List (List Ru × Bool)} (h : w.ownsRow B 33 2 v Ps.length (cellsP P)) (hr : RdP w B' P Ps) : PlAt w v Ps := by
  rcases h.2 with ⟨hv, hn⟩ | ⟨g, cap, cur, rfl, hg, hrow, hnc, hcm, hcs, htake⟩
  · obtain rfl := List.eq_nil_of_length_eq_zero hn
    exact ⟨none, 0, hv, Nat.le_refl _, by decide, fun j hj => by simp at hj⟩
  · refine ⟨_, cap, rfl, hnc, hcm, fun j hj => ?_⟩
    have hjP : j < P.length := by rw [hr.1]; exact hj
    obtain ⟨e1, hon⟩ := hr.2 j hjP hj
    have hpo := hon.po
    obtain ⟨Q, hq, _⟩ := hon
    obtain ⟨ua, uc, hu, _, _⟩ := own_form hq
    refine ⟨g, 0, ua, uc, rfl, ?_, ?_, ?_⟩
    · rw [Nat.zero_add, h.cellAt _ (by omega), (cellsP_at P j hjP).1, hu]
    · rw [Nat.zero_add, h.cellAt _ (by omega), (cellsP_at P j hjP).2, e1]
    · rw [← hu]; exact hpo

theorem fromP (v : Value) (H : List Hd) (Ps : List (List Ru × Bool)) (w : World) (h : HdAt w v H) (hz : Szd 140737488351232 H) (hl : H.length ≤ 1000000) (hb : bulkV H ≤ 1000000) (hP : fromV H = Ps) :
    Calls Try.prog 13 #[v] w fun e w' => ∃ a c, e = .returned (.slice a Ps.length c) ∧ (Ps.length ≤ c ∧ c ≤ maxLen ∧ PlAt w' (.slice a Ps.length c) Ps) ∧ Below w.heap.size w w' := by
  subst hP
  refine (from10 v H w h hz hl hb).mono ?_
  rintro e w' ⟨v', P, rfl, hown, hrd, hb'⟩
  obtain ⟨a, c, rfl, h1, h2⟩ := own_form hown
  exact ⟨a, c, rfl, ⟨h1, h2, own_pl hown hrd⟩, hb'⟩

end Go.Proofs.Ytplabofdcnpcpaa

namespace Go.Proofs.Ytplabofdcnpcpaa
open Go.RowKit

theorem infoPoR : (Try.prog.info? 41).map (fun i => (i.zero, i.size, i.bytes)) = some (some (.agg #[.slice none 0 0, .bool false]), 2, 32) := by kernel_rfl

/-- One policy's rules, in memory of its own. -/
def OnRr (w : World) (B : Nat) (v : Value) (L : List Ru) : Prop := ∃ Q, w.ownsRow B 80 2 v L.length (cellsR Q) ∧ RdO w B Q L

theorem OnRr.keptB {w w' : World} {B : Nat} {v : Value} {L : List Ru} (h : OnRr w B v L) (hk : ∀ (k : Nat) (cur : Array Value) (T : TypeId) (fz : Nat × Nat), w.heap[k]? = some (Obj.cells cur T fz) → (T = 80 ∨ T = 9) → w'.heap[k]? = w.heap[k]?) : OnRr w' B v L := by
  obtain ⟨Q, h1, h2⟩ := h
  refine ⟨Q, ownsRow_same h1 fun g hg => ?_, h2.keptB ?_⟩
  · obtain ⟨cur, hc⟩ := ownsRow_kind h1 g hg
    exact hk _ _ _ _ hc (.inl rfl)
  · rintro k ⟨cur, fz, hc⟩
    exact hk _ _ _ _ hc (.inr rfl)
theorem OnRr.low {w : World} {B B' : Nat} {v : Value} {L : List Ru} (h : OnRr w B v L) (hb : B' ≤ B) : OnRr w B' v L := by
  obtain ⟨Q, h1, h2⟩ := h
  exact ⟨Q, own_low10 h1 hb, h2.low hb⟩
theorem OnRr.po {w : World} {B : Nat} {v : Value} {L : List Ru} (h : OnRr w B v L) : PoAt w v L := by
  obtain ⟨Q, h1, h2⟩ := h
  exact own_po h1 h2

/-- These are the policies Ps. -/
def RdPr (w : World) (B : Nat) (P : List (Value × Bool)) (Ps : List (List Ru × Bool)) : Prop :=
  P.length = Ps.length ∧ ∀ j (h1 : j < P.length) (h2 : j < Ps.length), P[j].2 = Ps[j].2 ∧ OnRr w B P[j].1 Ps[j].1

theorem RdPr.nil (w : World) (B : Nat) : RdPr w B [] [] := ⟨rfl, fun j h => by simp at h⟩
theorem RdPr.keptB {w w' : World} {B : Nat} {P : List (Value × Bool)} {Ps : List (List Ru × Bool)} (h : RdPr w B P Ps) (hk : ∀ (k : Nat) (cur : Array Value) (T : TypeId) (fz : Nat × Nat), w.heap[k]? = some (Obj.cells cur T fz) → (T = 80 ∨ T = 9) → w'.heap[k]? = w.heap[k]?) : RdPr w' B P Ps :=
  ⟨h.1, fun j a b => ⟨(h.2 j a b).1, (h.2 j a b).2.keptB hk⟩⟩
theorem RdPr.kept {w w' : World} {B : Nat} {P : List (Value × Bool)} {Ps : List (List Ru × Bool)} (h : RdPr w B P Ps) (hb : Below w.heap.size w w') : RdPr w' B P Ps :=
  h.keptB fun k _ _ _ hk _ => hb.block k (Array.getElem?_eq_some_iff.1 hk).1
theorem RdPr.low {w : World} {B B' : Nat} {P : List (Value × Bool)} {Ps : List (List Ru × Bool)} (h : RdPr w B P Ps) (hb : B' ≤ B) : RdPr w B' P Ps :=
  ⟨h.1, fun j a b => ⟨(h.2 j a b).1, (h.2 j a b).2.low hb⟩⟩
theorem RdPr.app {w : World} {B : Nat} {P P' : List (Value × Bool)} {Ps Ps' : List (List Ru × Bool)} (h : RdPr w B P Ps) (h' : RdPr w B P' Ps') : RdPr w B (P ++ P') (Ps ++ Ps') := by
  refine ⟨by simp [h.1, h'.1], fun j a b => ?_⟩
  by_cases hj : j < P.length
  · have hj2 : j < Ps.length := by rw [← h.1]; exact hj
    rw [List.getElem_append_left hj, List.getElem_append_left hj2]
    exact h.2 j hj hj2
  · have hj2 : ¬ j < Ps.length := by rw [← h.1]; exact hj
    rw [List.getElem_append_right (by omega), List.getElem_append_right (by omega)]
    have := h'.2 (j - P.length) (by simp at a; omega) (by simp at b; rw [h.1]; omega)
    simp only [← h.1]
    exact this
theorem RdPr.one {w : World} {B : Nat} {v : Value} {L : List Ru} {b : Bool} (h : OnRr w B v L) : RdPr w B [(v, b)] [(L, b)] := by
  refine ⟨rfl, fun j h1 h2 => ?_⟩
  obtain rfl : j = 0 := by simp at h1; omega
  exact ⟨rfl, h⟩

/-- An append leaves rules and texts alone. -/
theorem grown_rr {w w' : World} {B : Nat} {v : Value} {n : Nat} {cs : List Value} (hv : w.ownsRow B 41 2 v n cs) (hg : w.grownBy w' v.ownBlock) : ∀ (k : Nat) (cur : Array Value) (T : TypeId) (fz : Nat × Nat), w.heap[k]? = some (Obj.cells cur T fz) → (T = 80 ∨ T = 9) → w'.heap[k]? = w.heap[k]? := fun k cur T fz hk hT => by
  refine hg.block k (Array.getElem?_eq_some_iff.1 hk).1 (fun e => ?_)
  obtain ⟨c2, hc2⟩ := ownsRow_kind hv k e.symm
  rw [hk] at hc2
  injection hc2 with hc2
  injection hc2 with _ hc2 _
  rcases hT with rfl | rfl
  · exact absurd hc2 (by decide)
  · exact absurd hc2 (by decide)

def RPolPost (Ps : List (List Ru × Bool)) (w : World) (e : Ending) (w' : World) : Prop :=
  ∃ v P, e = .returned v ∧ w'.ownsRow w.heap.size 41 2 v Ps.length (cellsP P) ∧ RdPr w' w.heap.size P Ps ∧ Below w.heap.size w w'

theorem RdPr.oneCell {w : World} {B : Nat} {P : List (Value × Bool)} {Ps : List (List Ru × Bool)} (h : RdPr w B P Ps) : ∀ q ∈ P, q.1.oneCell' = true := by
  intro q hq
  obtain ⟨j, hj, rfl⟩ := List.getElem_of_mem hq
  obtain ⟨Q, h1, _⟩ := (h.2 j hj (by rw [← h.1]; exact hj)).2
  obtain ⟨a, c, e, _, _⟩ := own_form h1
  rw [e]
  rfl

theorem own_plr {w : World} {B B' : Nat} {v : Value} {P : List (Value × Bool)} {Ps : List (List Ru × Bool)} (h : w.ownsRow B 41 2 v Ps.length (cellsP P)) (hr : RdPr w B' P Ps) : PlAt w v Ps := by
  rcases h.2 with ⟨hv, hn⟩ | ⟨g, cap, cur, rfl, hg, hrow, hnc, hcm, hcs, htake⟩
  · obtain rfl := List.eq_nil_of_length_eq_zero hn
    exact ⟨none, 0, hv, Nat.le_refl _, by decide, fun j hj => by simp at hj⟩
  · refine ⟨_, cap, rfl, hnc, hcm, fun j hj => ?_⟩
    have hjP : j < P.length := by rw [hr.1]; exact hj
    obtain ⟨e1, hon⟩ := hr.2 j hjP hj
    have hpo := hon.po
    obtain ⟨Q, hq, _⟩ := hon
    obtain ⟨ua, uc, hu, _, _⟩ := own_form hq
    refine ⟨g, 0, ua, uc, rfl, ?_, ?_, ?_⟩
    · rw [Nat.zero_add, h.cellAt _ (by omega), (cellsP_at P j hjP).1, hu]
    · rw [Nat.zero_add, h.cellAt _ (by omega), (cellsP_at P j hjP).2, e1]
    · rw [← hu]; exact hpo


end Go.Proofs.Ytplabofdcnpcpaa

namespace Go.Proofs.Ytplabofdcnpcpaa
open Go.RowKit

set_option maxHeartbeats 1000000 in
theorem rnamed10 (a b o : ByteArray) (w : World) (ha : a.size ≤ 140737488351232) (ho : o.size ≤ 140737488351232) :
    Calls Try.prog 41 #[hdVal a b, .string o] w fun e w' => e = .returned (.bool (decide (low a.data.toList = low o.data.toList))) ∧ Below w.heap.size w w' := by
  obtain ⟨A, hA⟩ : ∃ x : ByteArray, x = ⟨(low a.data.toList).toArray⟩ := ⟨_, rfl⟩
  obtain ⟨B, hB⟩ : ∃ x : ByteArray, x = ⟨(low o.data.toList).toArray⟩ := ⟨_, rfl⟩
  have HE := hid (show decide (low a.data.toList = low o.data.toList) = decide (A = B) by
    rw [hA, hB]
    rw [decide_eq_decide]
    constructor
    · intro e; rw [e]
    · intro e
      have := congrArg (fun x : ByteArray => x.data.toList) e
      exact this)
  have HA := hid hA
  have HB := hid hB
  clear hA hB
  unfold hdVal
  by_cases hab : A = B
  · have HE2 := hid (show decide (low a.data.toList = low o.data.toList) = true by rw [HE.out]; simpa using hab)
    subst hab
    go_enter Try.func41, Try.ntmps41
    go_wp2_with fail
    refine (rlower_any a _ ha).mono ?_
    rintro e w1 ⟨rfl, hb1⟩
    rw [← HA.out]
    go_wp2_with fail
    refine (rlower_any o _ ho).mono ?_
    rintro e w2 ⟨rfl, hb2⟩
    rw [← HB.out]
    go_wp2
    go_ret
    exact ⟨ret_bool (by rw [HE2.out]), belowT (belowT ((Below.refl _ w).alloc (Nat.le_refl _) _) hb1) hb2⟩
  · have HE2 := hid (show decide (low a.data.toList = low o.data.toList) = false by rw [HE.out]; simpa using hab)
    have hne := strNe hab
    clear hab
    go_enter Try.func41, Try.ntmps41
    go_wp2_with fail
    refine (rlower_any a _ ha).mono ?_
    rintro e w1 ⟨rfl, hb1⟩
    rw [← HA.out]
    go_wp2_with fail
    refine (rlower_any o _ ho).mono ?_
    rintro e w2 ⟨rfl, hb2⟩
    rw [← HB.out]
    go_wp2
    go_ret
    exact ⟨ret_bool (by rw [HE2.out]), belowT (belowT ((Below.refl _ w).alloc (Nat.le_refl _) _) hb1) hb2⟩

end Go.Proofs.Ytplabofdcnpcpaa

namespace Go.Proofs.Ytplabofdcnpcpaa
open Go.RowKit

def nmT (t : Nat) : List UInt8 := if t = 0 then nCsp else nCro
/-- What is yet to tell, from a turn on; from a header on. -/
def restT (H : List Hd) (t : Nat) : List (List Ru × Bool) := if t = 0 then fromV H else if t = 1 then (ofV H nCro).map (·, true) else []
def restH (H : List Hd) (t i : Nat) : List (List Ru × Bool) := ((selV (H.drop i) (nmT t)).flatMap nmV).map (·, decide (t = 1)) ++ restT H (t + 1)
def restK (C : List (List UInt8)) (k : Nat) (fl : Bool) (X : List (List Ru × Bool)) : List (List Ru × Bool) := ((C.drop k).filterMap nmOne).map (·, fl) ++ X

theorem rest_turn (H : List Hd) (t : Nat) (ht : t < 2) : restT H t = restH H t 0 := by
  have h : t = 0 ∨ t = 1 := by omega
  rcases h with rfl | rfl
  · show fromV H = ((selV (H.drop 0) nCsp).flatMap nmV).map (·, false) ++ (ofV H nCro).map (·, true)
    rw [List.drop_zero, ← ofV_eq]
    rfl
  · show (ofV H nCro).map (·, true) = ((selV (H.drop 0) nCro).flatMap nmV).map (·, true) ++ []
    rw [List.drop_zero, ← ofV_eq, List.append_nil]

theorem rest_end (H : List Hd) (t : Nat) : restH H t H.length = restT H (t + 1) := by
  unfold restH
  rw [List.drop_length]
  rfl

theorem sel_cons (h : Hd) (L : List Hd) (n : List UInt8) : selV (h :: L) n = (if isN n h then [h.value] else []) ++ selV L n := by
  unfold selV
  by_cases hh : isN n h = true <;> simp [hh]

theorem rest_skip (H : List Hd) (t i : Nat) (hi : i < H.length) (h : isN (nmT t) H[i] = false) : restH H t i = restH H t (i + 1) := by
  unfold restH
  rw [List.drop_eq_getElem_cons hi, sel_cons, h]
  rfl
theorem rest_take (H : List Hd) (t i : Nat) (hi : i < H.length) (h : isN (nmT t) H[i] = true) : restH H t i = restK (pcV 44 H[i].value) 0 (decide (t = 1)) (restH H t (i + 1)) := by
  unfold restH restK
  rw [List.drop_eq_getElem_cons hi, sel_cons, h, if_pos rfl, List.flatMap_append, List.map_append, List.append_assoc, List.drop_zero, ← nmV_eq]
  simp
theorem restK_end (C : List (List UInt8)) (fl : Bool) (X : List (List Ru × Bool)) : restK C C.length fl X = X := by
  unfold restK
  rw [List.drop_length]
  rfl
theorem restK_none (C : List (List UInt8)) (k : Nat) (hk : k < C.length) (fl : Bool) (X : List (List Ru × Bool)) (h : polV C[k] = []) : restK C k fl X = restK C (k + 1) fl X := by
  unfold restK
  rw [List.drop_eq_getElem_cons hk, List.filterMap_cons, show nmOne C[k] = none by unfold nmOne; rw [h]]
theorem restK_some (C : List (List UInt8)) (k : Nat) (hk : k < C.length) (fl : Bool) (X : List (List Ru × Bool)) (L : List Ru) (h : polV C[k] = L) (hL : L ≠ []) : restK C k fl X = (L, fl) :: restK C (k + 1) fl X := by
  unfold restK
  rw [List.drop_eq_getElem_cons hk, List.filterMap_cons, show nmOne C[k] = some L by
    unfold nmOne
    rw [h]
    cases L with
    | nil => exact absurd rfl hL
    | cons r t => rfl]
  rfl

theorem from_len (H : List Hd) (hb : bulkV H ≤ 1000000) : (fromV H).length ≤ 2000002 := by
  unfold fromV
  rw [List.length_append, List.length_map, List.length_map]
  have h1 := ofV_len H nCsp
  have h2 := getT_len H nCsp
  have h3 := ofV_len H nCro
  have h4 := getT_len H nCro
  omega

/-- What stands while policies are told. -/
def FJ (w wr : World) (H : List Hd) (v : Value) (n : Nat) (R : List (List Ru × Bool)) : Prop :=
  ∃ P Ps, fromV H = Ps ++ R ∧ n = Ps.length ∧ wr.ownsRow w.heap.size 41 2 v n (cellsP P) ∧ RdPr wr w.heap.size P Ps ∧ Below w.heap.size w wr

theorem FJ.kept {w wr wr' : World} {H : List Hd} {v : Value} {n : Nat} {R : List (List Ru × Bool)} (h : FJ w wr H v n R) (hb : Below wr.heap.size wr wr') : FJ w wr' H v n R := by
  obtain ⟨P, Ps, h1, h2, h3, h4, h5⟩ := h
  exact ⟨P, Ps, h1, h2, own_kept h3 hb, h4.kept hb, below2 h5 hb⟩

theorem FJ.len {w wr : World} {H : List Hd} {v : Value} {n : Nat} {R : List (List Ru × Bool)} (h : FJ w wr H v n R) (hb : bulkV H ≤ 1000000) : n ≤ 2000002 := by
  obtain ⟨P, Ps, h1, h2, _⟩ := h
  have := from_len H hb
  rw [h1, List.length_append] at this
  omega

theorem FJ.snoc {w w2 w4 : World} {H : List Hd} {v v' V : Value} {n : Nat} {L : List Ru} {fl : Bool} {R : List (List Ru × Bool)} (h : FJ w w2 H v n ((L, fl) :: R)) (hV : OnRr w2 w.heap.size V L) {P : List (Value × Bool)} (hP : w2.ownsRow w.heap.size 41 2 v n (cellsP P))
    (hown : w4.ownsRow w.heap.size 41 2 v' (n + 1) (cellsP P ++ [V, .bool fl])) (hgrow : w2.grownBy w4 v.ownBlock) (hP2 : ∃ Ps, fromV H = Ps ++ (L, fl) :: R ∧ n = Ps.length ∧ RdPr w2 w.heap.size P Ps ∧ Below w.heap.size w w2) : FJ w w4 H v' (n + 1) R := by
  obtain ⟨Ps, h1, h2, h4, h5⟩ := hP2
  have hk := grown_rr hP hgrow
  refine ⟨P ++ [(V, fl)], Ps ++ [(L, fl)], by rw [h1]; simp, by rw [List.length_append, ← h2]; rfl, ?_, RdPr.app (h4.keptB hk) (RdPr.one (hV.keptB hk)), h5.grown hgrow h5.size (fun k hk => (hP.lt k hk).1)⟩
  rw [cellsP_app, cellsP_one]
  exact hown

end Go.Proofs.Ytplabofdcnpcpaa
