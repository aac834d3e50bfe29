/-
  The walk of the law IntegrityKept.
-/
import Derived.Test.YtbdlicomkpnalaaDoorZQh
import Derived.Test.YtbdlicomkpnalaaDoorZQes
import Derived.Test.YtbdlicomkpnalaaDoorZQen
import Derived.Test.YtbdlicomkpnalaaDoorZOi
set_option linter.unusedSimpArgs false
set_option linter.unusedVariables false
namespace Go.Proofs.YtbdlicomkpnalaaDoor
open Go.RowKit

theorem ba_ext9k {a b : ByteArray} (h : a.data.toList = b.data.toList) : a = b := by
  cases a; cases b
  congr
  exact Array.toList_inj.1 h

theorem own_low9 {w : World} {base base' : Nat} {e : TypeId} {size : Nat} {v : Value} {n : Nat} {xs : List Value} (h : w.ownsRow base e size v n xs) (hb : base' ≤ base) : w.ownsRow base' e size v n xs := by
  refine ⟨h.1, h.2.imp id ?_⟩
  rintro ⟨g, cap, cur, h1, h2, h3⟩
  exact ⟨g, cap, cur, h1, Nat.le_trans hb h2, h3⟩

set_option maxHeartbeats 400000 in
theorem few9_any (s : ByteArray) (n : Nat) (w : World) (hn : n ≤ 1000000) (hs : s.size ≤ 9223372036854775807) :
    Calls Tryd.prog 22 #[.string s, .int .i64 n] w fun e w' => e = .returned (.string ⟨(s.data.toList.take n).toArray⟩) ∧ w = w' := by
  by_cases h : n < s.size
  · have h' : (n : Int) < (s.size : Int) := by omega
    have HE := hid (show s.extract 0 n = ⟨(s.data.toList.take n).toArray⟩ from ba_ext9k (by rw [Lib.extract_data]; simp))
    go_enter Tryd.func22, Tryd.ntmps22
    go_wp2
    go_ret
    rw [← HE.out]
    exact ⟨rfl, rfl⟩
  · have h' : ¬ ((n : Int) < (s.size : Int)) := by omega
    have HE := hid (show s = ⟨(s.data.toList.take n).toArray⟩ from ba_ext9k (by rw [List.take_of_length_le (by simp; omega)]))
    go_enter Tryd.func22, Tryd.ntmps22
    go_wp2
    go_ret
    rw [← HE.out]
    exact ⟨rfl, rfl⟩

/-- A book of at most so many lists. -/
def KB9 (w : World) (B p n : Nat) : Prop := ∃ (h : Int) (A Y : Value) (xs ys : List Value), xs.length ≤ n ∧ Bk9 w B p h A Y xs ys

theorem KB9.below {w w' : World} {B p n : Nat} (h : KB9 w B p n) (hb : Below w.heap.size w w') : KB9 w' B p n := by
  obtain ⟨h1, A, Y, xs, ys, hl, hbk⟩ := h
  exact ⟨h1, A, Y, xs, ys, hl, hbk.below hb⟩

theorem Bk9.old {w : World} {B p : Nat} {h : Int} {A Y : Value} {xs ys : List Value} (hb : Bk9 w B p h A Y xs ys) : ∀ a ∈ xs, ∀ g, a.ownBlock = some g → g < w.heap.size := by
  intro a ha g hg
  obtain ⟨i, hi, rfl⟩ := List.getElem_of_mem ha
  have hy := hb.2.1
  obtain ⟨L, _, hX, _⟩ := hb.2.2.2.2.2.2.1 i xs[i] (ys[i]'(by omega)) (by simp [hi]) (by simp)
  obtain ⟨cur, hc⟩ := ownsRow_kind hX g hg
  exact (Array.getElem?_eq_some_iff.1 hc).1

/-- What Keep leaves: the list is among those held. -/
theorem KP9.out {w : World} {B p : Nat} {xs : List Value} {v : Value} (h : KP9 w B p (xs ++ [v])) : KB9 w B p (xs.length + 1) ∧ ∃ L : List It, L.length ≤ 1000 ∧ w.ownsRow B 56 3 v L.length (cellsI L) := by
  obtain ⟨h1, A, Y, zs, ys, k, ⟨hk, rfl⟩, hbk⟩ := h
  refine ⟨⟨h1, A, Y, _, ys, by simp, hbk⟩, ?_⟩
  have hk' : k ≤ xs.length := by simp at hk; omega
  have hy := hbk.2.1
  have hl : ((xs ++ [v]).drop k)[xs.length - k]? = some v := by rw [List.getElem?_drop, show k + (xs.length - k) = xs.length by omega]; simp
  have hyl : xs.length - k < ys.length := by rw [hy]; simp; omega
  obtain ⟨L, h5, hX, _⟩ := hbk.2.2.2.2.2.2.1 (xs.length - k) v (ys[xs.length - k]'hyl) hl (by simp [hyl])
  exact ⟨L, h5, hX⟩

/-- Keep at a list just made. -/
theorem keep9 (B p n : Nat) (v : Value) (L : List It) (w0 w : World) (hkb : KB9 w0 B p n) (hb : Below w0.heap.size w0 w) (hown : w.ownsRow w0.heap.size 56 3 v L.length (cellsI L)) (hL : L.length ≤ 1000) (hn : n ≤ 1000) (hBw : B ≤ w0.heap.size) :
    Calls Tryd.prog 27 #[.pointer (some ⟨p, 0, none⟩), v] w fun e w' => e = .returned (.tuple #[]) ∧ KB9 w' B p (n + 1) ∧ (∃ M : List It, M.length ≤ 1000 ∧ w'.ownsRow B 56 3 v M.length (cellsI M)) ∧ Below B w w' := by
  obtain ⟨h, A, Y, xs, ys, hl, hbk⟩ := hkb
  have hbk2 := hbk.below hb
  have hBw2 : B ≤ w.heap.size := Nat.le_trans hBw hb.size
  have hup : ∀ {w' : World}, KB9 w' B p (xs.length + 1) → KB9 w' B p (n + 1) := fun ⟨h, A, Y, xs', ys', h2, h3⟩ => ⟨h, A, Y, xs', ys', by omega, h3⟩
  rcases hown.2 with ⟨rfl, hz⟩ | ⟨g, cap, cur, rfl, hg, _⟩
  · refine (keep9n B p h A Y xs ys w hbk2 (by omega) hBw2).mono ?_
    rintro e w' ⟨rfl, hkp, hb'⟩
    obtain ⟨h1, h2⟩ := hkp.out
    exact ⟨rfl, hup h1, h2, hb'⟩
  · refine (keep9s B p h A Y xs ys g cap L w hbk2 (own_low9 hown hBw) hL (fun a ha => ?_) (by omega) hBw2).mono ?_
    · by_cases hn : a.ownBlock = none
      · exact .inl hn
      · right
        intro e
        have := hbk.old a ha g e
        omega
    · rintro e w' ⟨rfl, hkp, hb'⟩
      obtain ⟨h1, h2⟩ := hkp.out
      exact ⟨rfl, hup h1, h2, hb'⟩

theorem book9 (w : World) : KB9 (w.alloc (.cells #[.slice none 0 0, .slice none 0 0, .int .i64 0, .bool false] 53)) w.heap.size w.heap.size 0 :=
  ⟨0, .slice none 0 0, .slice none 0 0, [], [], Nat.le_refl _, Nat.le_refl _, rfl, by (show (w.heap.push _)[w.heap.size]? = _; exact Array.getElem?_push_size), .inl ⟨rfl, rfl⟩, .inl ⟨rfl, rfl⟩, .inl rfl, fun i x y hx _ => by simp at hx, List.Pairwise.nil⟩

end Go.Proofs.YtbdlicomkpnalaaDoor
