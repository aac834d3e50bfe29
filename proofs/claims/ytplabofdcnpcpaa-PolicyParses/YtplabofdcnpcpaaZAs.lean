/-
  Lists of policies in memory; the walks of policy's named and From.
-/
import Derived.Test.YtplabofdcnpcpaaZAm
import Derived.Test.YtplabofdcnpcpaaZGf
import Derived.Laws.AppendOwn
import Derived.Laws.AppendOwnNone
set_option linter.unusedSimpArgs false
set_option linter.unusedVariables false
namespace Go.Proofs.Ytplabofdcnpcpaa
open Go.RowKit

theorem infoPo : (Try.prog.info? 33).map (fun i => (i.zero, i.size, i.bytes)) = some (some (.agg #[.slice none 0 0, .bool false]), 2, 32) := by kernel_rfl

def cellsP (P : List (Value × Bool)) : List Value := P.flatMap fun q => [q.1, .bool q.2]
theorem cellsP_app (a b : List (Value × Bool)) : cellsP (a ++ b) = cellsP a ++ cellsP b := by simp [cellsP]
theorem cellsP_one (V : Value) (b : Bool) : cellsP [(V, b)] = [V, .bool b] := rfl
theorem cellsP_len (a : List (Value × Bool)) : (cellsP a).length = a.length * 2 := by
  induction a with
  | nil => rfl
  | cons h a ih =>
    have e : cellsP (h :: a) = [h.1, .bool h.2] ++ cellsP a := rfl
    rw [e, List.length_append, ih]
    simp only [List.length_cons, List.length_nil]
    omega
theorem cellsP_at (L : List (Value × Bool)) : ∀ j (h : j < L.length), (cellsP L)[j * 2]? = some L[j].1 ∧ (cellsP L)[j * 2 + 1]? = some (.bool L[j].2) := by
  induction L with
  | nil => intro j h; simp at h
  | cons a L ih =>
    intro j h
    have e : cellsP (a :: L) = a.1 :: .bool a.2 :: cellsP L := rfl
    cases j with
    | zero => rw [e]; exact ⟨rfl, rfl⟩
    | succ j =>
      have := ih j (by simpa using h)
      rw [e, show (j + 1) * 2 = j * 2 + 1 + 1 by omega]
      simpa using this

/-- One policy's rules, in memory of its own. -/
def OnR (w : World) (B : Nat) (v : Value) (L : List Ru) : Prop := ∃ Q, w.ownsRow B 52 2 v L.length (cellsR Q) ∧ RdO w B Q L

theorem OnR.keptB {w w' : World} {B : Nat} {v : Value} {L : List Ru} (h : OnR w B v L) (hk : ∀ (k : Nat) (cur : Array Value) (T : TypeId) (fz : Nat × Nat), w.heap[k]? = some (Obj.cells cur T fz) → (T = 52 ∨ T = 9) → w'.heap[k]? = w.heap[k]?) : OnR w' B v L := by
  obtain ⟨Q, h1, h2⟩ := h
  refine ⟨Q, ownsRow_same h1 fun g hg => ?_, h2.keptB ?_⟩
  · obtain ⟨cur, hc⟩ := ownsRow_kind h1 g hg
    exact hk _ _ _ _ hc (.inl rfl)
  · rintro k ⟨cur, fz, hc⟩
    exact hk _ _ _ _ hc (.inr rfl)
theorem OnR.low {w : World} {B B' : Nat} {v : Value} {L : List Ru} (h : OnR w B v L) (hb : B' ≤ B) : OnR w B' v L := by
  obtain ⟨Q, h1, h2⟩ := h
  exact ⟨Q, own_low10 h1 hb, h2.low hb⟩
theorem OnR.po {w : World} {B : Nat} {v : Value} {L : List Ru} (h : OnR w B v L) : PoAt w v L := by
  obtain ⟨Q, h1, h2⟩ := h
  exact own_po h1 h2

/-- These are the policies Ps. -/
def RdP (w : World) (B : Nat) (P : List (Value × Bool)) (Ps : List (List Ru × Bool)) : Prop :=
  P.length = Ps.length ∧ ∀ j (h1 : j < P.length) (h2 : j < Ps.length), P[j].2 = Ps[j].2 ∧ OnR w B P[j].1 Ps[j].1

theorem RdP.nil (w : World) (B : Nat) : RdP w B [] [] := ⟨rfl, fun j h => by simp at h⟩
theorem RdP.keptB {w w' : World} {B : Nat} {P : List (Value × Bool)} {Ps : List (List Ru × Bool)} (h : RdP w B P Ps) (hk : ∀ (k : Nat) (cur : Array Value) (T : TypeId) (fz : Nat × Nat), w.heap[k]? = some (Obj.cells cur T fz) → (T = 52 ∨ T = 9) → w'.heap[k]? = w.heap[k]?) : RdP w' B P Ps :=
  ⟨h.1, fun j a b => ⟨(h.2 j a b).1, (h.2 j a b).2.keptB hk⟩⟩
theorem RdP.kept {w w' : World} {B : Nat} {P : List (Value × Bool)} {Ps : List (List Ru × Bool)} (h : RdP w B P Ps) (hb : Below w.heap.size w w') : RdP w' B P Ps :=
  h.keptB fun k _ _ _ hk _ => hb.block k (Array.getElem?_eq_some_iff.1 hk).1
theorem RdP.low {w : World} {B B' : Nat} {P : List (Value × Bool)} {Ps : List (List Ru × Bool)} (h : RdP w B P Ps) (hb : B' ≤ B) : RdP w B' P Ps :=
  ⟨h.1, fun j a b => ⟨(h.2 j a b).1, (h.2 j a b).2.low hb⟩⟩
theorem RdP.app {w : World} {B : Nat} {P P' : List (Value × Bool)} {Ps Ps' : List (List Ru × Bool)} (h : RdP w B P Ps) (h' : RdP w B P' Ps') : RdP w B (P ++ P') (Ps ++ Ps') := by
  refine ⟨by simp [h.1, h'.1], fun j a b => ?_⟩
  by_cases hj : j < P.length
  · have hj2 : j < Ps.length := by rw [← h.1]; exact hj
    rw [List.getElem_append_left hj, List.getElem_append_left hj2]
    exact h.2 j hj hj2
  · have hj2 : ¬ j < Ps.length := by rw [← h.1]; exact hj
    rw [List.getElem_append_right (by omega), List.getElem_append_right (by omega)]
    have := h'.2 (j - P.length) (by simp at a; omega) (by simp at b; rw [h.1]; omega)
    simp only [← h.1]
    exact this
theorem RdP.one {w : World} {B : Nat} {v : Value} {L : List Ru} {b : Bool} (h : OnR w B v L) : RdP w B [(v, b)] [(L, b)] := by
  refine ⟨rfl, fun j h1 h2 => ?_⟩
  obtain rfl : j = 0 := by simp at h1; omega
  exact ⟨rfl, h⟩

/-- An append leaves rules and texts alone. -/
theorem grown_rt {w w' : World} {B : Nat} {v : Value} {n : Nat} {cs : List Value} (hv : w.ownsRow B 33 2 v n cs) (hg : w.grownBy w' v.ownBlock) : ∀ (k : Nat) (cur : Array Value) (T : TypeId) (fz : Nat × Nat), w.heap[k]? = some (Obj.cells cur T fz) → (T = 52 ∨ T = 9) → w'.heap[k]? = w.heap[k]? := fun k cur T fz hk hT => by
  refine hg.block k (Array.getElem?_eq_some_iff.1 hk).1 (fun e => ?_)
  obtain ⟨c2, hc2⟩ := ownsRow_kind hv k e.symm
  rw [hk] at hc2
  injection hc2 with hc2
  injection hc2 with _ hc2 _
  rcases hT with rfl | rfl
  · exact absurd hc2 (by decide)
  · exact absurd hc2 (by decide)

def PolPost (Ps : List (List Ru × Bool)) (w : World) (e : Ending) (w' : World) : Prop :=
  ∃ v P, e = .returned v ∧ w'.ownsRow w.heap.size 33 2 v Ps.length (cellsP P) ∧ RdP w' w.heap.size P Ps ∧ Below w.heap.size w w'

def nst (mo : Bool) (l : List UInt8) : List (List Ru) := if mo then nmV l else []
def ofL (L : List Ru) : List (List Ru) := match L with
  | [] => []
  | r :: t => [r :: t]
def oneL (p : List UInt8) : List (List Ru) := ofL (polV p)
theorem one_toL (p : List UInt8) : (match nmOne p with | some x => [x] | none => []) = oneL p := by
  unfold nmOne oneL ofL
  cases polV p <;> rfl
theorem nst_step (l : List UInt8) : nst true l = oneL (part 44 l).1 ++ nst (part 44 l).2.2 (part 44 l).2.1 := by
  show nmV l = _
  rw [nmV_eq, pcV_part]
  unfold nst
  cases (part 44 l).2.2
  · show List.filterMap nmOne [_] = _ ++ []
    rw [← one_toL, List.append_nil]
    cases h : nmOne (part 44 l).1 <;> simp [h]
  · show List.filterMap nmOne (_ :: _) = _ ++ nmV _
    rw [← one_toL, nmV_eq, List.filterMap_cons]
    cases h : nmOne (part 44 l).1 <;> simp

theorem nst_len (mo : Bool) (l : List UInt8) : (nst mo l).length ≤ l.length + 1 := by
  unfold nst
  cases mo
  · simp
  · show (nmV l).length ≤ _
    rw [nmV_eq]
    exact Nat.le_trans (List.length_filterMap_le _ _) (pcV_len 44 l)

set_option maxHeartbeats 8000000 in
set_option maxRecDepth 100000 in
theorem named10 (v : Value) (H : List Hd) (nm : ByteArray) (rp : Bool) (w : World) (h : HdAt w v H) (hn : nm.size ≤ 100000) (hz : Szd 140737488351232 H) (hl : H.length ≤ 1000000) (hb : bulkV H ≤ 1000000) :
    Calls Try.prog 30 #[v, .string nm, .bool rp] w (PolPost ((ofV H nm.data.toList).map (·, rp)) w) := by
  obtain ⟨i0, hi, hz0, hz1, hz2⟩ := info_parts infoPo
  have HG := hid (get_any v H nm w h (by omega) hz hl (by omega))
  obtain ⟨va, vcc, rfl, _, _, _⟩ := h.view
  obtain ⟨vl, hvl⟩ : ∃ vl, vl = H.length := ⟨_, rfl⟩
  rw [← hvl] at HG ⊢
  obtain ⟨S0, hS0⟩ : ∃ S : ByteArray, S = ⟨(getT H nm.data.toList).toArray⟩ := ⟨_, rfl⟩
  obtain ⟨m0, hm0⟩ : ∃ m, m = getB H nm.data.toList := ⟨_, rfl⟩
  have hS0s : S0.size ≤ 1000000 := by
    rw [Lib.size_eq, hS0]
    show (getT H nm.data.toList).length ≤ _
    exact Nat.le_trans (getT_len _ _) hb
  obtain ⟨G, hG⟩ : ∃ G, G = ofV H nm.data.toList := ⟨_, rfl⟩
  have HGE := hid (show G = nst m0 S0.data.toList by rw [hG, hm0, hS0]; rfl)
  rw [← hS0, ← hm0] at HG
  rw [← hG]
  clear hS0 hm0 hG h hz hb hn hvl hl
  go_enter Try.func30, Try.ntmps30
  go_wp2_with fail
  refine HG.out.mono ?_
  rintro e w1 ⟨rfl, hb1⟩
  have HB1 := hid hb1
  clear hb1 HG
  go_wp2_with fail
  go_loopw [7, 8, 9] (fun v7 v8 v9 wr => ∃ (S : ByteArray) (mo : Bool) (n : Nat) (P : List (Value × Bool)) (Ps : List (List Ru)), v8 = .string S ∧ v9 = .bool mo ∧ S.size ≤ 1000000 ∧ n ≤ 1000001 ∧ Hid (n + S.size + boOf (.bool mo) ≤ 1000001 ∧ G = Ps ++ nst mo S.data.toList ∧ n = Ps.length ∧ wr.ownsRow w1.heap.size 33 2 v7 n (cellsP P) ∧ RdP wr w1.heap.size P (Ps.map (·, rp)) ∧ Below w1.heap.size w1 wr)) (fun _ v8 v9 _ => szOf v8 + boOf v9)
  case atStart => exact ⟨S0, m0, 0, [], [], rfl, rfl, hS0s, by omega, by have : boOf (.bool m0) ≤ 1 := (by cases m0 <;> decide); omega, HGE.out, rfl, World.ownsRow_nil _ _ _ _, RdP.nil _ _, Below.refl _ _⟩
  case round =>
    clear HGE
    obtain ⟨S, mo, n, P, Ps, rfl, rfl, hSs, hnS, HR⟩ := hrel
    cases mo with
    | false =>
      have HF := hid (show PolPost (G.map (·, rp)) w (.returned u7) wr from by
        obtain ⟨_, h1, h2, h3, h4, h5⟩ := HR.out
        have e : G = Ps := by rw [h1]; show Ps ++ [] = Ps; simp
        rw [e]
        refine ⟨u7, P, rfl, ?_, h4.low HB1.out.size, below2 HB1.out h5⟩
        rw [List.length_map, ← h2]
        exact own_low10 h3 HB1.out.size)
      go_wp2_with fail
      go_ret
      exact HF.out
    | true =>
      obtain ⟨PC, hP⟩ : ∃ P : ByteArray, P = ⟨(part 44 S.data.toList).1.toArray⟩ := ⟨_, rfl⟩
      obtain ⟨R, hR⟩ : ∃ P : ByteArray, P = ⟨(part 44 S.data.toList).2.1.toArray⟩ := ⟨_, rfl⟩
      obtain ⟨m2, hm2⟩ : ∃ m, m = (part 44 S.data.toList).2.2 := ⟨_, rfl⟩
      have HC := hid (cut10 S 44 wr (by omega))
      rw [← hP, ← hR, ← hm2] at HC
      have hPl : PC.data.toList = (part 44 S.data.toList).1 := by rw [hP]
      have hPs : PC.size ≤ 1000000 := by
        rw [Lib.size_eq, hPl]
        have h1 := (part_le 44 S.data.toList).1
        rw [← Lib.size_eq] at h1
        omega
      have hRs : R.size + (if m2 then 1 else 0) ≤ S.size := by
        have h1 := part_rest10 44 S.data.toList
        rw [← Lib.size_eq, ← hm2] at h1
        rw [Lib.size_eq, hR]
        exact h1
      have HST := hid (show nst true S.data.toList = oneL PC.data.toList ++ nst m2 R.data.toList by rw [nst_step, hPl, hR, hm2])
      have HMS := hid (show szOf (.string R) + boOf (.bool m2) < szOf (.string S) + boOf (.bool true) from by
        show R.size + boOf (.bool m2) < S.size + 1
        cases m2
        · simp [boOf] at hRs ⊢; omega
        · simp [boOf] at hRs ⊢; omega)
      have hRS : R.size ≤ S.size := by omega
      have HPA := hid (fun X => parse10 PC rp X (by omega))
      unfold ParsePost10 at HPA
      obtain ⟨LP, hLP⟩ : ∃ L, L = polV PC.data.toList := ⟨_, rfl⟩
      have HOL := hid (show oneL PC.data.toList = ofL LP by rw [hLP]; rfl)
      obtain ⟨ln, hln⟩ : ∃ ln, ln = LP.length := ⟨_, rfl⟩
      have hln32 : ln ≤ 32 := by rw [hln, hLP]; exact polV_len _
      rw [← hLP] at HPA
      clear hP hR hm2 hPl hPs hLP hRs
      go_wp2_with fail
      refine HC.out.mono ?_
      rintro e w2 ⟨rfl, hb2⟩
      go_wp2_with fail
      refine (HPA.out _).mono ?_
      rintro e w3 ⟨v3, Q3, rfl, hown3, hrd3, hb3⟩
      obtain ⟨a3, c3, rfl, hc3, hm3⟩ := own_form hown3
      have hb4 := (Below.refl _ w3).alloc (Nat.le_refl _) (.cells #[.slice a3 LP.length c3, .bool rp] 33)
      have HON := hid (show OnR (w3.alloc (.cells #[.slice a3 LP.length c3, .bool rp] 33)) w1.heap.size (.slice a3 LP.length c3) LP from
        ⟨Q3, own_low10 (own_kept hown3 hb4) (by have := HR.out.2.2.2.2.2.size; have := hb2.size; omega), (hrd3.kept hb4).low (by have := HR.out.2.2.2.2.2.size; have := hb2.size; omega)⟩)
      have HBB := hid (below2 hb2 (below2 hb3 hb4))
      have HMM := hid (heap_alloc_new w3 (.cells #[.slice a3 LP.length c3, .bool rp] 33))
      rw [← hln] at HON HBB HMM ⊢
      have HLN := hid hln
      clear hown3 hrd3 hb2 hb3 hb4 HC HPA hc3 hm3 hln
      have HO4 := hid (own_kept HR.out.2.2.2.1 HBB.out)
      have HR4 := hid (HR.out.2.2.2.2.1.kept HBB.out)
      have HB4 := hid (below2 HR.out.2.2.2.2.2 HBB.out)
      have hw14 : w1.heap.size ≤ w3.heap.size + 1 := by have := HB4.out.size; simpa using this
      by_cases hz : ln = 0
      · have HE := hid (show G = Ps ++ nst m2 R.data.toList by
          have h0 : LP = [] := List.eq_nil_of_length_eq_zero (by rw [← HLN.out]; exact hz)
          rw [HR.out.2.1, HST.out, HOL.out, h0]; rfl)
        have hz' : ¬ ((0 : Int) < (ln : Int)) := by omega
        have hz'' : ¬ (0 < ln) := by omega
        clear hz
        go_wp2_with fail
        go_roundw
        case rel =>
          have e4 := And.intro (show n + R.size + boOf (.bool m2) ≤ 1000001 by have := HR.out.1; have := HMS.out; simp only [szOf] at this; have : boOf (.bool true) = 1 := rfl; omega) (And.intro HE.out (And.intro HR.out.2.2.1 (And.intro HO4.out (And.intro HR4.out HB4.out))))
          first
            | exact ⟨R, m2, n, P, Ps, rfl, rfl, by omega, hnS, e4⟩
            | ((repeat apply Exists.intro); refine ⟨?_, rfl⟩; exact ⟨R, m2, n, P, Ps, rfl, rfl, by omega, hnS, e4⟩)
            | ((repeat apply Exists.intro); exact ⟨⟨R, m2, n, P, Ps, rfl, rfl, by omega, hnS, e4⟩, rfl⟩)
        case measure => exact HMS.out
      · have HE := hid (show G = (Ps ++ [LP]) ++ nst m2 R.data.toList by
          rw [HR.out.2.1, HST.out, HOL.out, List.append_assoc]
          cases hl : LP with
          | nil => have := HLN.out; rw [hl] at this; exact absurd this hz
          | cons r t => rfl)
        have hz' : (0 : Int) < (ln : Int) := by omega
        have hz'' : 0 < ln := by omega
        obtain ⟨d0, d1⟩ := cells_p HMM.out
        clear hz
        go_wp2_with (at_builtin; refine wpList_append_own _ rfl _ _ 26 rfl w1.heap.size 33 i0 _ 2 32 Try.underlying26 hi hz0 hz1 hz2 rfl (by decide) _ _ _ rfl (HO4.out.alloc _) ⟨w3.heap.size + 1, 0, none⟩ 1 1 [.slice a3 ln c3, .bool rp] rfl rfl ?c1 ?c2 (by unfold maxLen; omega) (by omega) (by simp; omega) ?_)
        case c1 =>
          intro q u hq
          match q, hq with
          | 0, hq => simp at hq; subst hq; simp [Addr.add]
          | 1, hq => simp at hq; subst hq; simp [Addr.add]
        case c2 => intro u hu; simp at hu; rcases hu with rfl | rfl <;> rfl
        intro v5 w5 hown hgrow hnil
        have HR5 := hid (show n + 1 + R.size + boOf (.bool m2) ≤ 1000001 ∧ G = (Ps ++ [LP]) ++ nst m2 R.data.toList ∧ n + 1 = (Ps ++ [LP]).length ∧ w5.ownsRow w1.heap.size 33 2 v5 (n + 1) (cellsP (P ++ [(.slice a3 ln c3, rp)])) ∧ RdP w5 w1.heap.size (P ++ [(.slice a3 ln c3, rp)]) ((Ps ++ [LP]).map (·, rp)) ∧ Below w1.heap.size w1 w5 by
          have hk := grown_rt (HO4.out.alloc (.cells #[.slice a3 ln c3, .bool rp] 33)) hgrow
          have hb6 := (Below.refl _ (w3.alloc (.cells #[.slice a3 ln c3, .bool rp] 33))).alloc (Nat.le_refl _) (.cells #[.slice a3 ln c3, .bool rp] 33)
          refine ⟨?_, HE.out, ?_, ?_, ?_, ?_⟩
          · have h1 := HR.out.1
            have h2 := HMS.out
            have h3 : boOf (.bool true) = 1 := rfl
            simp only [szOf] at h2
            omega
          · rw [List.length_append, ← HR.out.2.2.1]; rfl
          · rw [cellsP_app, cellsP_one]
            exact hown
          · rw [List.map_append]
            refine RdP.app ((HR4.out.kept hb6).keptB hk) (RdP.one ?_)
            exact (HON.out.keptB (w' := (w3.alloc (.cells #[.slice a3 ln c3, .bool rp] 33)).alloc (.cells #[.slice a3 ln c3, .bool rp] 33)) fun k _ _ _ hk2 _ => hb6.block k (Array.getElem?_eq_some_iff.1 hk2).1).keptB hk
          · exact (HB4.out.alloc HB4.out.size _).grown hgrow (by have := HB4.out.size; simp at this ⊢; omega) (fun k hk => (HO4.out.lt k hk).1))
        have hn1 : n + 1 ≤ 1000001 := by have := HR5.out.1; omega
        clear hown hgrow hnil HON d0 d1
        go_wp2_with fail
        go_roundw
        case rel =>
          first
            | exact ⟨R, m2, n + 1, _, _, rfl, rfl, by omega, hn1, HR5.out⟩
            | ((repeat apply Exists.intro); refine ⟨?_, rfl⟩; exact ⟨R, m2, n + 1, _, _, rfl, rfl, by omega, hn1, HR5.out⟩)
            | ((repeat apply Exists.intro); exact ⟨⟨R, m2, n + 1, _, _, rfl, rfl, by omega, hn1, HR5.out⟩, rfl⟩)
        case measure => exact HMS.out

end Go.Proofs.Ytplabofdcnpcpaa
