/-
  The walk of mime's Extract.
-/
import Derived.Test.YtiemggepdeaogaaDoorMl
import Derived.Test.YtiemggepdeaogaaDoorXk
set_option linter.unusedSimpArgs false
set_option linter.unusedVariables false
namespace Go.Proofs.YtiemggepdeaogaaDoor
open Go.RowKit

set_option maxHeartbeats 1000000 in
theorem split_none (v : Value) (L : List Hd) (n : ByteArray) (w : World) (h : HdAt w v L) (hs : n.size ≤ 140737488351232) (hz : Szd 140737488351232 L) (hl : L.length ≤ 1000000) (hb : bulkV L ≤ 1000000000) (hh : getB L n.data.toList = false) :
    Calls Tryd.prog 30 #[v, .string n] w fun e w' => e = .returned (.tuple #[.slice none 0 0, .bool false]) ∧ Below w.heap.size w w' := by
  have HG := hid (get_any v L n w h hs hz hl (by omega))
  obtain ⟨T, hT⟩ : ∃ T : ByteArray, T = ⟨(getT L n.data.toList).toArray⟩ := ⟨_, rfl⟩
  rw [← hT, hh] at HG
  clear hT h hz hb hh
  go_enter Tryd.func30, Tryd.ntmps30
  go_wp2_with fail
  refine HG.out.mono ?_
  rintro e w0 ⟨rfl, hb0⟩
  go_wp2
  go_ret2
  exact ⟨rfl, hb0⟩

/-- The pieces of a header. -/
def pcsV (L : List Hd) (n : List UInt8) : List (List UInt8) := if getB L n then splitV L n else []

def PcPost (L : List (List UInt8)) (w : World) (e : Ending) (w' : World) : Prop :=
  ∃ v b, e = .returned (.tuple #[v, .bool b]) ∧ w'.ownsRow w.heap.size 9 1 v L.length (cellsT L) ∧ Below w.heap.size w w'

theorem split6_any (v : Value) (L : List Hd) (n : ByteArray) (w : World) (h : HdAt w v L) (hs : n.size ≤ 140737488351232) (hz : Szd 140737488351232 L) (hl : L.length ≤ 1000000) (hb : bulkV L ≤ 1000000000) :
    Calls Tryd.prog 30 #[v, .string n] w (PcPost (pcsV L n.data.toList) w) := by
  cases hh : getB L n.data.toList with
  | true =>
    refine (split_any v L n w h hs hz hl hb hh).mono ?_
    rintro e w' ⟨u, rfl, ho, hb'⟩
    have e : pcsV L n.data.toList = splitV L n.data.toList := by unfold pcsV; rw [hh]; rfl
    unfold PcPost
    rw [e]
    exact ⟨u, true, rfl, ho, hb'⟩
  | false =>
    refine (split_none v L n w h hs hz hl hb hh).mono ?_
    rintro e w' ⟨rfl, hb'⟩
    have e : pcsV L n.data.toList = [] := by unfold pcsV; rw [hh]; rfl
    unfold PcPost
    rw [e]
    exact ⟨_, false, rfl, World.ownsRow_nil _ _ _ _, hb'⟩

theorem pcsN_sum : ∀ (f : Nat) (l : List UInt8), ∀ p ∈ pcsN f l, p.length ≤ l.length := by
  intro f
  induction f with
  | zero => intro l p hp; simp [pcsN] at hp; subst hp; exact Nat.le_refl _
  | succ f ih =>
    intro l p hp
    rw [pcsN] at hp
    cases hc : cutQ false l with
    | none => rw [hc] at hp; simp at hp; subst hp; exact Nat.le_refl _
    | some k =>
      rw [hc] at hp
      rcases List.mem_cons.1 hp with rfl | hp
      · simp; omega
      · have := ih _ p hp; simp at this; omega

theorem pcsV_le (L : List Hd) (n : List UInt8) : ∀ p ∈ pcsV L n, p.length ≤ bulkV L := by
  intro p hp
  unfold pcsV at hp
  split at hp
  · unfold splitV at hp
    obtain ⟨q, hq, rfl⟩ := List.mem_map.1 hp
    have h1 := pcsN_sum _ _ q hq
    have h2 := getT_len L n
    have h3 : (trimB q).length ≤ q.length := by
      unfold trimB Lib.trimS Lib.trimLeftS Lib.trimRightS
      refine Nat.le_trans (List.dropWhile_suffix _).length_le ?_
      rw [List.length_reverse]
      exact Nat.le_trans (List.dropWhile_suffix _).length_le (by simp)
    omega
  · simp at hp

theorem prmN_len : ∀ (f : Nat) (out : List Hd) (l : List UInt8), (prmN f out l).length ≤ out.length + f := by
  intro f
  induction f with
  | zero => intro out l; exact Nat.le_refl _
  | succ f ih =>
    intro out l
    rw [prmN]
    split
    · have := ih (stepP out (l.drop 1)) (parR (l.drop 1))
      have h2 : (stepP out (l.drop 1)).length ≤ out.length + 1 := by unfold stepP; split <;> simp
      omega
    · omega

theorem kn_len (s : List UInt8) : (knV s).major.length ≤ s.length ∧ (knV s).minor.length ≤ s.length ∧ (knV s).params.length ≤ s.length := by
  unfold knV
  split
  · have h1 := tB_le s
    have h2 := cut6_le (tB s) 47
    have h3 := upA_le [59] (bhn s)
    have h4 := upR_le [59] (bhn s)
    have h5 := tR_le (upA [59] (bhn s))
    have h6 := prmN_len (upR [59] (bhn s)).length [] (upR [59] (bhn s))
    refine ⟨?_, ?_, ?_⟩
    · show (low (mjr s)).length ≤ _
      unfold low mjr; rw [List.length_map]; omega
    · show (low (mnr s)).length ≤ _
      unfold low mnr; rw [List.length_map]; unfold bhn at *; omega
    · show (prm [] _).length ≤ _
      unfold prm; unfold bhn at *; simp at h6; omega
  · simp [knNone]

theorem withC_len (t a : Kn) : (withC t a).major = t.major ∧ (withC t a).minor = t.minor ∧ (withC t a).params.length ≤ t.params.length + 1 := by
  unfold withC
  split
  · simp
  · split
    · split <;> simp
    · simp

def SmallK (t : Kn) : Prop := t.major.length ≤ 1000000000 ∧ t.minor.length ≤ 1000000000 ∧ t.params.length ≤ 1000000000

theorem extS_small (st : Kn × Bool) (s : List UInt8) (h : SmallK st.1) (hs : s.length ≤ 100000000) : SmallK (extS st s).1 := by
  unfold extS
  split
  · have h1 := kn_len s
    have h2 := withC_len (knV s) st.1
    refine ⟨?_, ?_, ?_⟩
    · show (withC _ _).major.length ≤ _; rw [h2.1]; omega
    · show (withC _ _).minor.length ≤ _; rw [h2.2.1]; omega
    · show (withC _ _).params.length ≤ _; omega
  · exact h

/-- After k pieces. -/
def extK (ps : List (List UInt8)) (k : Nat) : Kn × Bool := (ps.take k).foldl extS (knNone, false)

theorem extK_succ (ps : List (List UInt8)) (k : Nat) (h : k < ps.length) : extK ps (k + 1) = extS (extK ps k) ps[k] := by
  unfold extK
  rw [List.take_succ_eq_append_getElem h, List.foldl_append]; rfl
theorem extK_all (ps : List (List UInt8)) : extK ps ps.length = extV ps := by unfold extK extV; rw [List.take_length]
theorem extK_small (ps : List (List UInt8)) (hp : ∀ p ∈ ps, p.length ≤ 100000000) : ∀ k, k ≤ ps.length → SmallK (extK ps k).1 := by
  intro k
  induction k with
  | zero => intro _; exact ⟨by simp [extK, knNone], by simp [extK, knNone], by simp [extK, knNone]⟩
  | succ k ih =>
    intro hk
    rw [extK_succ ps k (by omega)]
    exact extS_small _ _ (ih (by omega)) (hp _ (List.getElem_mem _))

def ExPost (st : Kn × Bool) (w : World) (e : Ending) (w' : World) : Prop :=
  ∃ v, e = .returned (.tuple #[knVal (ba st.1.major) (ba st.1.minor) v, .bool st.2]) ∧ w'.ownsRow w.heap.size 49 2 v st.1.params.length (cellsH st.1.params) ∧ Below w.heap.size w w'

end Go.Proofs.YtiemggepdeaogaaDoor
