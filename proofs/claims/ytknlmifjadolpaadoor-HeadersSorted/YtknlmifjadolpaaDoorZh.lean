/-
  The walks of the document's own answers: ostiaryref5's Add and Set.
-/
import Derived.Test.YtknlmifjadolpaaDoorZg
set_option linter.unusedSimpArgs false
set_option linter.unusedVariables false
namespace Go.Proofs.YtknlmifjadolpaaDoor
open Go.RowKit

/-- A slice that is nil is so in all its parts. -/
def NilOk (v : Value) : Prop := v = .slice none 0 0 ∨ ∃ x n c, v = .slice (some x) n c

theorem own_emptyH (w : World) : (w.alloc (.cells #[] 28)).ownsRow w.heap.size 28 2 (.slice (some ⟨w.heap.size, 0, none⟩) 0 0) 0 (cellsH []) :=
  ⟨rfl, .inr ⟨w.heap.size, 0, #[], rfl, Nat.le_refl _, heap_alloc_new w _, Nat.le_refl _, Nat.zero_le _, rfl, rfl⟩⟩

theorem own_base {w : World} {B B' : Nat} {e : TypeId} {k n : Nat} {v : Value} {xs : List Value} (h : w.ownsRow B e k v n xs) (hb : B' ≤ B) : w.ownsRow B' e k v n xs := by
  rcases h.2 with h' | ⟨g, cap, cur, e1, e2, e3⟩
  · exact ⟨h.1, .inl h'⟩
  · exact ⟨h.1, .inr ⟨g, cap, cur, e1, Nat.le_trans hb e2, e3⟩⟩

set_option maxHeartbeats 2000000 in
set_option maxRecDepth 100000 in
theorem radd_any (vv : Value) (L : List Hd) (n v : ByteArray) (w : World) (h : HdAt w vv L) (hno : NilOk vv) (hl : L.length ≤ 1000000) (hn : n.size ≤ 140737488351232) (hv : v.size ≤ 9223372036854775807) :
    Calls Tryd.prog 23 #[vv, .string n, .string v] w (AddPost L n.data.toList v.data.toList w) := by
  obtain ⟨i0, hi, hz0, hz1, hz2⟩ := info3 infoHd
  have HL := hid h
  have HNo := hid hno
  obtain ⟨a1, c1, rfl, hc1, hm1, hv1⟩ := h.view
  clear h hv1 hno
  obtain ⟨k, hk⟩ : ∃ k, k = hdE n.data.toList v.data.toList := ⟨_, rfl⟩
  have hk3 : k = 0 ∨ k = 1 ∨ k = 3 := by rw [hk]; unfold hdE; split; exact .inr (.inl rfl); split; exact .inr (.inr rfl); exact .inl rfl
  have HK := hid hk
  clear hk
  go_enter Tryd.func23, Tryd.ntmps23
  go_wp2_with fail
  refine (fits_any n v _ hn hv).mono ?_
  rintro e w1 ⟨V, rfl, rfl, hNV⟩
  rw [← HK.out] at hNV
  rw [← HK.out]
  rcases hk3 with rfl | hk3
  · have HV := hid (hNV rfl)
    clear hNV
    by_cases h64 : 64 ≤ L.length
    · have h64' : (64 : Int) ≤ (L.length : Int) := by omega
      have HA := hid (show addE L n.data.toList v.data.toList = 4 by unfold addE; rw [← HK.out]; simp [h64])
      go_wp2
      go_ret2
      refine ⟨Below.refl _ _, .inl ⟨by rw [HA.out]; decide, by rw [HA.out]; rfl⟩⟩
    · have h64' : ¬ (64 : Int) ≤ (L.length : Int) := by omega
      have HA := hid (show addE L n.data.toList v.data.toList = 0 by unfold addE; rw [← HK.out]; simp [h64])
      have hbn : Below w.heap.size w (w.alloc (.cells #[] 28)) := belowA (Below.refl _ _) _
      have HB0 := hid hbn
      have hcl := (HL.out.kept hbn).cells.2
      have HCl := hid hcl
      clear hcl hbn
      have hfin : ∀ (v6 : Value) (w6 : World), w6.ownsRow w.heap.size 28 2 v6 (L.length + 1) (cellsH L ++ [.string n, .string V]) → Below w.heap.size w w6 → AddPost L n.data.toList v.data.toList w (.returned (.tuple #[v6, .int .i64 0])) w6 := fun v6 w6 ho hb => by
        refine ⟨hb, .inr ⟨HA.out, v6, rfl, ?_⟩⟩
        rw [cellsH_app, show cellsH [⟨n.data.toList, valT v.data.toList⟩] = [.string n, .string V] by rw [cellsH_one, ← HV.out, ← xself n, ← xself V]]
        exact ho
      have HFin := hid hfin
      clear hfin
      rcases HNo.out with e | ⟨x, n', c', e⟩
      · simp only [Value.slice.injEq] at e
        obtain ⟨rfl, hl0, rfl⟩ := e
        have hLn : L = [] := List.eq_nil_of_length_eq_zero hl0
        subst hLn
        clear hl0
        go_wp2_with (at_builtin; first | (refine wpList_append_own_none rfl _ _ 22 rfl w.heap.size 28 i0 2 Tryd.underlying22 hi _ _ _ rfl (own_emptyH w) rfl ?_) | (go_must (refine wpList_append_own _ rfl _ _ 22 rfl w.heap.size 28 i0 _ 2 32 Tryd.underlying22 hi hz0 hz1 hz2 rfl (by decide) _ _ _ rfl ((own_emptyH w).alloc _) ⟨w.heap.size + 1, 0, none⟩ 1 1 [.string n, .string V] rfl rfl ?d1 ?d2 ?d3 ?d4 ?d5 ?_)))
        case d1 =>
          intro q u hq
          match q, hq with
          | 0, hq => simp at hq; subst hq; simp [Addr.add]
          | 1, hq => simp at hq; subst hq; simp [Addr.add]
        case d2 => intro u hu; simp at hu; rcases hu with rfl | rfl <;> rfl
        case d3 => unfold maxLen; omega
        case d4 => omega
        case d5 => simp; omega
        intro v5 w5 hown5 hgrow5 hnil5
        have HO5 := hid hown5
        have HB5 := hid (show Below w.heap.size w w5 from (belowA HB0.out _).grown hgrow5 (by simp; omega) (fun g hg => by simp [Value.ownBlock] at hg; omega))
        clear hown5 hgrow5 hnil5
        go_wp2
        go_ret2
        exact HFin.out _ _ HO5.out HB5.out
      · cases e
        go_wp2_with (at_builtin; go_must (refine wpList_append_own _ rfl _ _ 22 rfl w.heap.size 28 i0 _ 2 32 Tryd.underlying22 hi hz0 hz1 hz2 rfl (by decide) _ _ _ rfl (own_emptyH w) x L.length c1 (cellsH L) rfl (cellsH_len L) (fun j u hj => by obtain ⟨y, e, hh⟩ := HCl.out j u hj; cases e; exact hh) (cellsH_oneCell L) (by unfold maxLen; omega) (by omega) (by simp) ?_))
        intro v4 w4 hown4 hgrow4 hnil4
        have HO4 := hid (show w4.ownsRow w.heap.size 28 2 v4 L.length (cellsH L) by simpa [cellsH] using hown4)
        have hb4 : Below w.heap.size w w4 := HB0.out.grown hgrow4 (by simp) (fun g hg => by simp [Value.ownBlock] at hg; omega)
        have hw4 := hb4.size
        have HB4 := hid hb4
        clear hown4 hgrow4 hnil4 hb4
        go_wp2_with (at_builtin; go_must (refine wpList_append_own _ rfl _ _ 22 rfl w.heap.size 28 i0 _ 2 32 Tryd.underlying22 hi hz0 hz1 hz2 rfl (by decide) _ _ _ rfl (HO4.out.alloc _) ⟨w4.heap.size, 0, none⟩ 1 1 [.string n, .string V] rfl rfl ?c1 ?c2 ?c3 ?c4 ?c5 ?_))
        case c1 =>
          intro q u hq
          match q, hq with
          | 0, hq => simp at hq; subst hq; simp [Addr.add]
          | 1, hq => simp at hq; subst hq; simp [Addr.add]
        case c2 => intro u hu; simp at hu; rcases hu with rfl | rfl <;> rfl
        case c3 => unfold maxLen; omega
        case c4 => omega
        case c5 => simp; omega
        intro v5 w5 hown5 hgrow5 hnil5
        have HO5 := hid hown5
        have HB5 := hid (show Below w.heap.size w w5 from (HB4.out.alloc hw4 _).grown hgrow5 (by simp; omega) (fun g hg => (HO4.out.lt g hg).1))
        clear hown5 hgrow5 hnil5
        go_wp2
        go_ret2
        exact HFin.out _ _ HO5.out HB5.out
  · have hkz : k ≠ 0 := by omega
    have HA := hid (show addE L n.data.toList v.data.toList = k by unfold addE; rw [← HK.out, if_pos hkz])
    rcases hk3 with rfl | rfl
    · go_wp2
      go_ret2
      refine ⟨Below.refl _ _, .inl ⟨by rw [HA.out]; decide, by rw [HA.out]; rfl⟩⟩
    · go_wp2
      go_ret2
      refine ⟨Below.refl _ _, .inl ⟨by rw [HA.out]; decide, by rw [HA.out]; rfl⟩⟩

/-- What the document's own Set makes of a list, 'd': the value is placed. -/
def rsetV (n V : List UInt8) : Bool → List Hd → List Hd
  | _, [] => []
  | d, h :: r => if isN n h then (if d then rsetV n V d r else ⟨h.name, V⟩ :: rsetV n V true r) else h :: rsetV n V d r

theorem rset_true (n V : List UInt8) (L : List Hd) : rsetV n V true L = dropV L n := by
  induction L with
  | nil => rfl
  | cons h L ih =>
    cases hh : isN n h with
    | true => rw [rsetV, if_pos hh, if_pos rfl, ih]; unfold dropV; rw [List.filter_cons_of_neg (by simp [hh])]
    | false => rw [rsetV, if_neg (by simp [hh]), ih]; unfold dropV; rw [List.filter_cons_of_pos (by simp [hh])]

theorem rset_none (n V : List UInt8) (L : List Hd) (h : L.any (isN n) = false) : rsetV n V false L = L := by
  induction L with
  | nil => rfl
  | cons x L ih =>
    simp only [List.any_cons, Bool.or_eq_false_iff] at h
    rw [rsetV, if_neg (by simp [h.1]), ih h.2]

theorem rset_some (n V : List UInt8) : ∀ (L : List Hd) (k : Nat) (hk : k < L.length), isN n L[k] = true → (∀ j (hj : j < L.length), j < k → isN n L[j] = false) → rsetV n V false L = L.take k ++ [⟨L[k].name, V⟩] ++ dropV (L.drop (k + 1)) n
  | [], k, hk, _, _ => by simp at hk
  | x :: L, 0, _, h1, _ => by
    have h1' : isN n x = true := h1
    rw [rsetV, if_pos h1', if_neg (by simp), rset_true]; rfl
  | x :: L, k + 1, hk, h1, h2 => by
    have hx : isN n x = false := h2 0 (by simp) (by omega)
    rw [rsetV, if_neg (by simp [hx]), rset_some n V L k (by simpa using hk) h1 (fun j hj hjk => h2 (j + 1) (by simpa using hj) (by omega))]
    rfl

theorem first_any_iff (L : List Hd) (n : List UInt8) : (firstV L n = none ∧ L.any (isN n) = false) ∨ (∃ k, firstV L n = some k ∧ L.any (isN n) = true) := by
  cases h : firstV L n with
  | none =>
    left
    refine ⟨rfl, ?_⟩
    unfold firstV at h
    rw [List.findIdx?_eq_none_iff] at h
    rw [List.any_eq_false]
    intro x hx
    simp [h x hx]
  | some k =>
    right
    refine ⟨k, rfl, ?_⟩
    obtain ⟨hk, h1, _⟩ := first_ahead L n k h
    rw [List.any_eq_true]
    exact ⟨L[k], List.getElem_mem hk, h1⟩

theorem rset_set (L : List Hd) (n v : List UInt8) (h : L.any (isN n) = true) : rsetV n (valT v) false L = setV L n v ∧ setE L n v = hdE n v := by
  rcases first_any_iff L n with ⟨_, h'⟩ | ⟨k, hk, _⟩
  · rw [h] at h'; cases h'
  · have hf := hk
    unfold firstV at hk
    rw [List.findIdx?_eq_some_iff_getElem] at hk
    obtain ⟨hkl, h1, h2⟩ := hk
    constructor
    · rw [rset_some n (valT v) L k hkl h1 (fun j hj hjk => by have := h2 j hjk; simpa using this)]
      unfold setV
      rw [hf]
      simp [List.getD, hkl]
    · unfold setE; rw [hf]

theorem rset_add (L : List Hd) (n v : List UInt8) (h : L.any (isN n) = false) : setV L n v = L ++ [⟨n, valT v⟩] ∧ setE L n v = addE L n v := by
  rcases first_any_iff L n with ⟨hf, _⟩ | ⟨k, _, h'⟩
  · exact ⟨by unfold setV; rw [hf], by unfold setE; rw [hf]⟩
  · rw [h] at h'; cases h'

theorem rset_len (n V : List UInt8) : ∀ (d : Bool) (L : List Hd), (rsetV n V d L).length ≤ L.length
  | _, [] => Nat.le_refl _
  | d, h :: r => by
    rw [rsetV]
    split
    · split
      · have := rset_len n V d r; simp; omega
      · have := rset_len n V true r; simp; omega
    · have := rset_len n V d r; simp; omega

/-- What is known at each round's head. -/
def RsInv (L : List Hd) (n V : List UInt8) (k : Nat) (out : List Hd) (d : Bool) : Prop := out ++ rsetV n V d (L.drop k) = rsetV n V false L ∧ d = (L.take k).any (isN n) ∧ out.length ≤ k

theorem RsInv.skip {L : List Hd} {n V : List UInt8} {k : Nat} {out : List Hd} {d : Bool} (h : RsInv L n V k out d) (hk : k < L.length) (hn : isN n L[k] = false) : RsInv L n V (k + 1) (out ++ [L[k]]) d := by
  obtain ⟨h1, h2, h3⟩ := h
  refine ⟨?_, ?_, by simp; omega⟩
  · rw [← h1, ← List.getElem_cons_drop hk, rsetV, if_neg (by simp [hn])]; simp
  · rw [List.take_add_one, List.getElem?_eq_getElem hk, h2, List.any_append]; simp [hn]

theorem RsInv.place {L : List Hd} {n V : List UInt8} {k : Nat} {out : List Hd} (h : RsInv L n V k out false) (hk : k < L.length) (hn : isN n L[k] = true) : RsInv L n V (k + 1) (out ++ [⟨L[k].name, V⟩]) true := by
  obtain ⟨h1, h2, h3⟩ := h
  refine ⟨?_, ?_, by simp; omega⟩
  · rw [← h1, ← List.getElem_cons_drop hk, rsetV, if_pos hn, if_neg (by simp)]; simp
  · rw [List.take_add_one, List.getElem?_eq_getElem hk, List.any_append]; simp [hn]

theorem RsInv.pass {L : List Hd} {n V : List UInt8} {k : Nat} {out : List Hd} (h : RsInv L n V k out true) (hk : k < L.length) (hn : isN n L[k] = true) : RsInv L n V (k + 1) out true := by
  obtain ⟨h1, h2, h3⟩ := h
  refine ⟨?_, ?_, by omega⟩
  · rw [← h1, ← List.getElem_cons_drop hk, rsetV, if_pos hn, if_pos rfl]
  · rw [List.take_add_one, List.getElem?_eq_getElem hk, List.any_append]; simp [hn]

end Go.Proofs.YtknlmifjadolpaaDoor
