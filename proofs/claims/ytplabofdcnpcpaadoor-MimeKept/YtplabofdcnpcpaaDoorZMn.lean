/-
  The walk of mime's Extract.
  The walk of mime's Extract.
-/
import Derived.Test.YtplabofdcnpcpaaDoorZMl
import Derived.Test.YtplabofdcnpcpaaDoorZXk
set_option linter.unusedSimpArgs false
set_option linter.unusedVariables false
namespace Go.Proofs.YtplabofdcnpcpaaDoor
open Go.RowKit

set_option maxHeartbeats 1000000 in
theorem split_none (v : Value) (L : List Hd) (n : ByteArray) (w : World) (h : HdAt w v L) (hs : n.size ≤ 140737488351232) (hz : Szd 140737488351232 L) (hl : L.length ≤ 1000000) (hb : bulkV L ≤ 1000000000) (hh : getB L n.data.toList = false) :
    Calls Tryd.prog 8 #[v, .string n] w fun e w' => e = .returned (.tuple #[.slice none 0 0, .bool false]) ∧ Below w.heap.size w w' := by
  have HG := hid (get_any v L n w h hs hz hl (by omega))
  obtain ⟨T, hT⟩ : ∃ T : ByteArray, T = ⟨(getT L n.data.toList).toArray⟩ := ⟨_, rfl⟩
  rw [← hT, hh] at HG
  clear hT h hz hb hh
  go_enter Tryd.func8, Tryd.ntmps8
  go_wp2_with fail
  refine HG.out.mono ?_
  rintro e w0 ⟨rfl, hb0⟩
  go_wp2
  go_ret2
  exact ⟨rfl, hb0⟩

/-- The pieces of a header. -/
def pcsV (L : List Hd) (n : List UInt8) : List (List UInt8) := if getB L n then splitV L n else []

def MpcPost (L : List (List UInt8)) (w : World) (e : Ending) (w' : World) : Prop :=
  ∃ v b, e = .returned (.tuple #[v, .bool b]) ∧ w'.ownsRow w.heap.size 9 1 v L.length (cellsT L) ∧ Below w.heap.size w w'

theorem split6_any (v : Value) (L : List Hd) (n : ByteArray) (w : World) (h : HdAt w v L) (hs : n.size ≤ 140737488351232) (hz : Szd 140737488351232 L) (hl : L.length ≤ 1000000) (hb : bulkV L ≤ 1000000000) :
    Calls Tryd.prog 8 #[v, .string n] w (MpcPost (pcsV L n.data.toList) w) := by
  cases hh : getB L n.data.toList with
  | true =>
    refine (split_any v L n w h hs hz hl hb hh).mono ?_
    rintro e w' ⟨u, rfl, ho, hb'⟩
    have e : pcsV L n.data.toList = splitV L n.data.toList := by unfold pcsV; rw [hh]; rfl
    unfold MpcPost
    rw [e]
    exact ⟨u, true, rfl, ho, hb'⟩
  | false =>
    refine (split_none v L n w h hs hz hl hb hh).mono ?_
    rintro e w' ⟨rfl, hb'⟩
    have e : pcsV L n.data.toList = [] := by unfold pcsV; rw [hh]; rfl
    unfold MpcPost
    rw [e]
    exact ⟨_, false, rfl, World.ownsRow_nil _ _ _ _, hb'⟩

theorem pcsN_sum : ∀ (f : Nat) (l : List UInt8), ∀ p ∈ pcsN f l, p.length ≤ l.length := by
  intro f
  induction f with
  | zero => intro l p hp; simp [pcsN] at hp; subst hp; exact Nat.le_refl _
  | succ f ih =>
    intro l p hp
    rw [pcsN] at hp
    cases hc : cutQ false l with
    | none => rw [hc] at hp; simp at hp; subst hp; exact Nat.le_refl _
    | some k =>
      rw [hc] at hp
      rcases List.mem_cons.1 hp with rfl | hp
      · simp; omega
      · have := ih _ p hp; simp at this; omega

theorem pcsV_le (L : List Hd) (n : List UInt8) : ∀ p ∈ pcsV L n, p.length ≤ bulkV L := by
  intro p hp
  unfold pcsV at hp
  split at hp
  · unfold splitV at hp
    obtain ⟨q, hq, rfl⟩ := List.mem_map.1 hp
    have h1 := pcsN_sum _ _ q hq
    have h2 := getT_len L n
    have h3 : (trimB q).length ≤ q.length := by
      unfold trimB Lib.trimS Lib.trimLeftS Lib.trimRightS
      refine Nat.le_trans (List.dropWhile_suffix _).length_le ?_
      rw [List.length_reverse]
      exact Nat.le_trans (List.dropWhile_suffix _).length_le (by simp)
    omega
  · simp at hp

theorem prmN_len : ∀ (f : Nat) (out : List Hd) (l : List UInt8), (prmN f out l).length ≤ out.length + f := by
  intro f
  induction f with
  | zero => intro out l; exact Nat.le_refl _
  | succ f ih =>
    intro out l
    rw [prmN]
    split
    · have := ih (mstepP out (l.drop 1)) (parR (l.drop 1))
      have h2 : (mstepP out (l.drop 1)).length ≤ out.length + 1 := by unfold mstepP; split <;> simp
      omega
    · omega

theorem kn_len (s : List UInt8) : (knV s).major.length ≤ s.length ∧ (knV s).minor.length ≤ s.length ∧ (knV s).params.length ≤ s.length := by
  unfold knV
  split
  · have h1 := tB_le s
    have h2 := cut6_le (tB s) 47
    have h3 := upA_le [59] (bhn s)
    have h4 := upR_le [59] (bhn s)
    have h5 := tR_le (upA [59] (bhn s))
    have h6 := prmN_len (upR [59] (bhn s)).length [] (upR [59] (bhn s))
    refine ⟨?_, ?_, ?_⟩
    · show (low (mjr s)).length ≤ _
      unfold low mjr; rw [List.length_map]; omega
    · show (low (mnr s)).length ≤ _
      unfold low mnr; rw [List.length_map]; unfold bhn at *; omega
    · show (prm [] _).length ≤ _
      unfold prm; unfold bhn at *; simp at h6; omega
  · simp [knNone]

theorem withC_len (t a : Kn) : (withC t a).major = t.major ∧ (withC t a).minor = t.minor ∧ (withC t a).params.length ≤ t.params.length + 1 := by
  unfold withC
  split
  · simp
  · split
    · split <;> simp
    · simp

def SmallK (t : Kn) : Prop := t.major.length ≤ 1000000000 ∧ t.minor.length ≤ 1000000000 ∧ t.params.length ≤ 1000000000

theorem extS_small (st : Kn × Bool) (s : List UInt8) (h : SmallK st.1) (hs : s.length ≤ 100000000) : SmallK (extS st s).1 := by
  unfold extS
  split
  · have h1 := kn_len s
    have h2 := withC_len (knV s) st.1
    refine ⟨?_, ?_, ?_⟩
    · show (withC _ _).major.length ≤ _; rw [h2.1]; omega
    · show (withC _ _).minor.length ≤ _; rw [h2.2.1]; omega
    · show (withC _ _).params.length ≤ _; omega
  · exact h

/-- After k pieces. -/
def extK (ps : List (List UInt8)) (k : Nat) : Kn × Bool := (ps.take k).foldl extS (knNone, false)

theorem extK_succ (ps : List (List UInt8)) (k : Nat) (h : k < ps.length) : extK ps (k + 1) = extS (extK ps k) ps[k] := by
  unfold extK
  rw [List.take_succ_eq_append_getElem h, List.foldl_append]; rfl
theorem extK_all (ps : List (List UInt8)) : extK ps ps.length = extMv ps := by unfold extK extMv; rw [List.take_length]
theorem extK_small (ps : List (List UInt8)) (hp : ∀ p ∈ ps, p.length ≤ 100000000) : ∀ k, k ≤ ps.length → SmallK (extK ps k).1 := by
  intro k
  induction k with
  | zero => intro _; exact ⟨by simp [extK, knNone], by simp [extK, knNone], by simp [extK, knNone]⟩
  | succ k ih =>
    intro hk
    rw [extK_succ ps k (by omega)]
    exact extS_small _ _ (ih (by omega)) (hp _ (List.getElem_mem _))

def ExPost (st : Kn × Bool) (w : World) (e : Ending) (w' : World) : Prop :=
  ∃ v, e = .returned (.tuple #[knVal (ba st.1.major) (ba st.1.minor) v, .bool st.2]) ∧ w'.ownsRow w.heap.size 60 2 v st.1.params.length (cellsH st.1.params) ∧ Below w.heap.size w w'

end Go.Proofs.YtplabofdcnpcpaaDoor

namespace Go.Proofs.YtplabofdcnpcpaaDoor
open Go.RowKit

theorem tri_own {w : World} {B n p : Nat} {v u : Value} {a m : ByteArray} {xs : List Value} (h : w.ownsRow B 9 1 v n xs) (ht : Tri w p a m u) : v.ownBlock ≠ some p := fun e => by
  rcases h.2 with ⟨hv, _⟩ | ⟨g, cap, cur, hv, _, hrow, _⟩
  · subst hv; cases e
  · subst hv
    cases e
    unfold Tri at ht
    rw [hrow] at ht
    simp at ht

theorem own_lt {w : World} {B n k : Nat} {e : TypeId} {v : Value} {xs : List Value} (h : w.ownsRow B e k v n xs) : ∀ g, v.ownBlock = some g → g < w.heap.size := fun g hg => (h.lt g hg).2
theorem own_belowC {w w' : World} {B n k C : Nat} {e : TypeId} {v : Value} {xs : List Value} (h : w.ownsRow B e k v n xs) (hb : Below C w w') (hC : ∀ g, v.ownBlock = some g → g < C) : w'.ownsRow B e k v n xs := by
  rcases h.2 with h' | ⟨g, cap, cur, hv, hg, hrow, rest⟩
  · exact ⟨h.1, .inl h'⟩
  · exact ⟨h.1, .inr ⟨g, cap, cur, hv, hg, (hb.block g (hC g (by rw [hv]; rfl))).trans hrow, rest⟩⟩

set_option maxHeartbeats 4000000 in
set_option maxRecDepth 100000 in
theorem extract_any (v : Value) (L : List Hd) (w : World) (hG : G5 w) (h : HdAt w v L) (hz : Szd 140737488351232 L) (hl : L.length ≤ 1000000) (hb : bulkV L ≤ 100000000) :
    Calls Tryd.prog 20 #[v] w (ExPost (extMv (pcsV L [99, 111, 110, 116, 101, 110, 116, 45, 116, 121, 112, 101])) w) := by
  have HG := hid hG
  clear hG
  have hps := pcsV_le L [99, 111, 110, 116, 101, 110, 116, 45, 116, 121, 112, 101]
  have HSp := hid (fun (X : World) (hX : Below w.heap.size w X) => split6_any v L ⟨#[99, 111, 110, 116, 101, 110, 116, 45, 116, 121, 112, 101]⟩ X (h.kept hX) (by decide) hz hl (by omega))
  rw [show (⟨#[99, 111, 110, 116, 101, 110, 116, 45, 116, 121, 112, 101]⟩ : ByteArray).data.toList = [99, 111, 110, 116, 101, 110, 116, 45, 116, 121, 112, 101] from rfl] at HSp
  generalize pcsV L [99, 111, 110, 116, 101, 110, 116, 45, 116, 121, 112, 101] = ps at *
  have HPs := hid (fun p hp => Nat.le_trans (hps p hp) hb)
  have HSm := hid (extK_small ps HPs.out)
  have HEx := hid (extK_succ ps)
  have HAl := hid (extK_all ps)
  obtain ⟨i1, n1, c1, rfl, _⟩ : ∃ a n c, v = .slice a n c ∧ True := by obtain ⟨a, c, e, _⟩ := h; exact ⟨a, _, c, e, trivial⟩
  clear h hz hl hb hps
  have h0 : Tri ((w.alloc (.cells #[.string ⟨#[]⟩, .string ⟨#[]⟩, .slice none 0 0] 53)).alloc (.cells #[.string ⟨#[]⟩, .string ⟨#[]⟩, .slice none 0 0] 53)) w.heap.size ⟨#[]⟩ ⟨#[]⟩ (.slice none 0 0) := (show Tri (w.alloc (.cells #[.string ⟨#[]⟩, .string ⟨#[]⟩, .slice none 0 0] 53)) w.heap.size ⟨#[]⟩ ⟨#[]⟩ (.slice none 0 0) from heap_alloc_new _ _).kept ((Below.refl _ _).alloc (Nat.le_refl _) _)
  have h1 : Tri ((w.alloc (.cells #[.string ⟨#[]⟩, .string ⟨#[]⟩, .slice none 0 0] 53)).alloc (.cells #[.string ⟨#[]⟩, .string ⟨#[]⟩, .slice none 0 0] 53)) (w.heap.size + 1) ⟨#[]⟩ ⟨#[]⟩ (.slice none 0 0) := by
    have := heap_alloc_new (w.alloc (.cells #[.string ⟨#[]⟩, .string ⟨#[]⟩, .slice none 0 0] 53)) (.cells #[.string ⟨#[]⟩, .string ⟨#[]⟩, .slice none 0 0] 53)
    rw [World.size_alloc] at this
    exact this
  have hB0 : Below w.heap.size w ((w.alloc (.cells #[.string ⟨#[]⟩, .string ⟨#[]⟩, .slice none 0 0] 53)).alloc (.cells #[.string ⟨#[]⟩, .string ⟨#[]⟩, .slice none 0 0] 53)) := ((Below.refl _ w).alloc (Nat.le_refl _) _).alloc (by simp) _
  have hs0 : w.heap.size + 2 ≤ ((w.alloc (.cells #[.string ⟨#[]⟩, .string ⟨#[]⟩, .slice none 0 0] 53)).alloc (.cells #[.string ⟨#[]⟩, .string ⟨#[]⟩, .slice none 0 0] 53)).heap.size := by simp
  have H0 := hid h0
  have H1 := hid h1
  have HB0 := hid hB0
  have HS0 := hid hs0
  clear h0 h1 hB0 hs0
  go_enter Tryd.func20, Tryd.ntmps20
  go_wp2_with fail
  generalize ((w.alloc (.cells #[.string ⟨#[]⟩, .string ⟨#[]⟩, .slice none 0 0] 53)).alloc (.cells #[.string ⟨#[]⟩, .string ⟨#[]⟩, .slice none 0 0] 53)) = W at *
  refine (HSp.out W HB0.out).mono ?_
  rintro e w1 ⟨pv, fb, rfl, ho1, hb1⟩
  obtain ⟨x1, c2, rfl, hc2, hm2, _⟩ := (own_txt' ho1).view
  have HO1 := hid ho1
  have HT0 := hid (H0.out.kept hb1)
  have HT1 := hid (H1.out.kept hb1)
  have HB1 := hid (belowT HB0.out hb1)
  have hs1 : w.heap.size + 2 ≤ w1.heap.size := by have := hb1.size; have := HS0.out; omega
  have hpl : ps.length ≤ 9223372036854775807 := by unfold maxLen at hm2; omega
  clear ho1 hb1
  go_wp2
  go_loopw [5, 19] (fun fd i wr => ∃ (k : Nat) (lv : Value), k ≤ ps.length ∧ i = .int .i64 k ∧ fd = .bool (extK ps k).2 ∧ Tri wr w.heap.size ⟨#[]⟩ ⟨#[]⟩ (.slice none 0 0) ∧ Tri wr (w.heap.size + 1) (ba (extK ps k).1.major) (ba (extK ps k).1.minor) lv ∧ wr.ownsRow w.heap.size 60 2 lv (extK ps k).1.params.length (cellsH (extK ps k).1.params) ∧ wr.ownsRow W.heap.size 9 1 (.slice x1 ps.length c2) ps.length (cellsT ps) ∧ Below w.heap.size w wr ∧ w.heap.size + 2 ≤ wr.heap.size) (fun _ i _ => ps.length - (intOf i).toNat)
  case atStart => exact ⟨0, .slice none 0 0, Nat.zero_le _, rfl, rfl, HT0.out, HT1.out, World.ownsRow_nil _ _ _ _, HO1.out, HB1.out, hs1⟩
  case round =>
    obtain ⟨k, lv, hk, rfl, rfl, hT0, hT1, hol, hop, hbw, hsz⟩ := hrel
    have HSk := hid (HSm.out k hk)
    obtain ⟨l1, l2, l3, rfl⟩ := own_slice hol
    have HQ0 := hid hT0
    have HQ1 := hid hT1
    have HOl := hid hol
    have HOp := hid hop
    have HBw := hid hbw
    clear hT0 hT1 hol hop hbw
    generalize hst : extK ps k = st at *
    obtain ⟨⟨mj, mn, lps⟩, fd⟩ := st
    by_cases hlt : k < ps.length
    · have hlt' : (k : Int) < (ps.length : Int) := by omega
      have hnx := HEx.out k hlt
      obtain ⟨_, _, e1, _, _, htx⟩ := (own_txt' HOp.out).view
      cases e1
      obtain ⟨b1, o1, rfl, f1⟩ := htx k hlt
      have hpk := HPs.out _ (List.getElem_mem hlt)
      obtain ⟨P, hP⟩ : ∃ P : ByteArray, P = ⟨ps[k].toArray⟩ := ⟨_, rfl⟩
      have hPl : ps[k] = P.data.toList := by rw [hP]
      rw [← hP] at f1
      rw [hPl] at hpk hnx
      have hPs : P.size ≤ 100000000 := by rw [Lib.size_eq]; exact hpk
      rw [hst] at hnx
      have HNx := hid hnx
      clear hnx htx hP hPl hpk hst
      go_wp2_with fail
      refine (parse6_any P _ (HG.out.kept HBw.out) (by omega)).mono ?_
      rintro e w2 ⟨tv, rfl, ho2, hb2⟩
      obtain ⟨q1, q2, q3, rfl⟩ := own_slice ho2
      have hkl := kn_len P.data.toList
      rw [← Lib.size_eq] at hkl
      have HNy := hid (show extK ps (k + 1) = if knOk P.data.toList && !(essV (knV P.data.toList) == [42, 47, 42]) then (withC (knV P.data.toList) ⟨mj, mn, lps⟩, true) else (⟨mj, mn, lps⟩, fd) from HNx.out)
      generalize knOk P.data.toList = ok at *
      generalize knV P.data.toList = t at *
      obtain ⟨A, hA⟩ : ∃ A, ba t.major = A := ⟨_, rfl⟩
      obtain ⟨M, hM⟩ : ∃ M, ba t.minor = M := ⟨_, rfl⟩
      have hAl : t.major = A.data.toList := by rw [← hA]; rfl
      have hMl : t.minor = M.data.toList := by rw [← hM]; rfl
      have hAs : A.size ≤ 4000000000 := by rw [← hA, ba_size]; omega
      have hMs : M.size ≤ 4000000000 := by rw [← hM, ba_size]; omega
      rw [hA, hM]
      obtain ⟨tj, tn, tps⟩ := t
      simp only at hAl hMl hkl ho2
      subst hAl hMl
      have htl : tps.length ≤ 1000000000 := by omega
      have HO2 := hid ho2
      have HQ0a := hid ((HQ0.out.kept hb2).kept ((Below.refl _ w2).alloc (Nat.le_refl _) (.cells #[.string A, .string M, .slice q1 q2 q3] 53)))
      have HQ1a := hid ((HQ1.out.kept hb2).kept ((Below.refl _ w2).alloc (Nat.le_refl _) (.cells #[.string A, .string M, .slice q1 q2 q3] 53)))
      have HOla := hid ((own_same HOl.out hb2).alloc (.cells #[.string A, .string M, .slice q1 q2 q3] 53))
      have HOpa := hid ((own_same HOp.out hb2).alloc (.cells #[.string A, .string M, .slice q1 q2 q3] 53))
      have HOta := hid (ho2.alloc (.cells #[.string A, .string M, .slice q1 q2 q3] 53))
      have hB2 := HBw.out.trans (hb2.mono HBw.out.size)
      have HBa := hid (hB2.alloc hB2.size (.cells #[.string A, .string M, .slice q1 q2 q3] 53))
      have HTa := hid (show Tri (w2.alloc (.cells #[.string A, .string M, .slice q1 q2 q3] 53)) w2.heap.size A M (.slice q1 q2 q3) from heap_alloc_new _ _)
      have hsa : wr.heap.size ≤ w2.heap.size := hb2.size
      have hla : w2.heap.size + 1 = (w2.alloc (.cells #[.string A, .string M, .slice q1 q2 q3] 53)).heap.size := by simp
      have Hla := hid hla
      clear ho2 hb2 hB2 hA hM hkl HNx hla
      cases ok with
      | false =>
        have HN := hid (show extK ps (k + 1) = (⟨mj, mn, lps⟩, fd) by rw [HNy.out]; rfl)
        unfold knVal
        go_wp2
        go_roundw
        case rel =>
          refine ⟨k + 1, .slice l1 l2 l3, by omega, by go_num, ?_, HQ0a.out, ?_, ?_, HOpa.out, HBa.out, ?_⟩
          · rw [HN.out]
          · rw [HN.out]; exact HQ1a.out
          · rw [HN.out]; exact HOla.out
          · rw [← Hla.out]; omega
        case measure => simp [intOf]; omega
      | true =>
        have HNz := hid (show extK ps (k + 1) = if !(A.data.toList ++ 47 :: M.data.toList == [42, 47, 42]) then (withC ⟨A.data.toList, M.data.toList, tps⟩ ⟨mj, mn, lps⟩, true) else (⟨mj, mn, lps⟩, fd) by rw [HNy.out]; rfl)
        obtain ⟨E, hE⟩ : ∃ E, ba (A.data.toList ++ 47 :: M.data.toList) = E := ⟨_, rfl⟩
        have HEs : Hid (∀ w : World, Calls Tryd.prog 48 #[.agg #[.string A, .string M, .slice q1 q2 q3]] w fun e w' => e = .returned (.string E) ∧ Below w.heap.size w w') := fun w => by
          rw [← hE]; exact essence_any A M _ w hAs hMs ⟨_, _, _, rfl⟩
        obtain ⟨q, hq⟩ : ∃ q, (E.toList == [42, 47, 42]) = q := ⟨_, rfl⟩
        have HQq := hid (show (A.data.toList ++ 47 :: M.data.toList == [42, 47, 42]) = q by rw [← hq, Lib.toList_data, ← hE]; rfl)
        rw [HQq.out] at HNz
        obtain ⟨x0, x1', x2⟩ := HTa.out.cells
        have Hq := hid hq
        clear hE hq HQq HNy
        unfold knVal
        go_wp2_with fail
        generalize (w2.alloc (.cells #[.string A, .string M, .slice q1 q2 q3] 53)) = X at *
        refine (HEs.out _).mono ?_
        rintro e w3 ⟨rfl, hb3⟩
        have HQ0b := hid (HQ0a.out.kept hb3)
        have HQ1b := hid (HQ1a.out.kept hb3)
        have HOlb := hid (own_same HOla.out hb3)
        have HOpb := hid (own_same HOpa.out hb3)
        have HOtb := hid (own_same HOta.out hb3)
        have HBb := hid (HBa.out.trans (hb3.mono HBa.out.size))
        have HTb := hid (HTa.out.kept hb3)
        have hsb : wr.heap.size + 1 ≤ w3.heap.size := by have := hb3.size; have := Hla.out; omega
        clear x0 x1' x2 hb3
        cases q with
        | true =>
          have HN := hid (show extK ps (k + 1) = (⟨mj, mn, lps⟩, fd) by rw [HNz.out]; rfl)
          have hq := Hq.out
          go_wp2
          go_roundw
          case rel =>
            refine ⟨k + 1, .slice l1 l2 l3, by omega, by go_num, ?_, HQ0b.out, ?_, ?_, HOpb.out, HBb.out, by omega⟩
            · rw [HN.out]
            · rw [HN.out]; exact HQ1b.out
            · rw [HN.out]; exact HOlb.out
          case measure => simp [intOf]; omega
        | false =>
          have HN := hid (show extK ps (k + 1) = (withC ⟨A.data.toList, M.data.toList, tps⟩ ⟨mj, mn, lps⟩, true) by rw [HNz.out]; rfl)
          have hq := Hq.out
          have hwl := withC_len ⟨A.data.toList, M.data.toList, tps⟩ ⟨mj, mn, lps⟩
          have hsk := HSk.out
          obtain ⟨k1, k2, k3⟩ := hsk
          simp only at k1 k2 k3
          have HWc : Hid (Calls Tryd.prog 49 #[.agg #[.string A, .string M, .slice q1 q2 q3], .agg #[.string (ba mj), .string (ba mn), .slice l1 l2 l3]] w3 (WcPost wr.heap.size A M (withC ⟨A.data.toList, M.data.toList, tps⟩ ⟨mj, mn, lps⟩) w3)) :=
            withCharset_any wr.heap.size A M (ba mj) (ba mn) (.slice q1 q2 q3) (.slice l1 l2 l3) tps lps w3 (by omega) HOtb.out (own_hd HOlb.out) hAs hMs (by rw [ba_size]; omega) (by rw [ba_size]; omega) htl k3
          obtain ⟨x0, x1', x2⟩ := HTb.out.cells
          obtain ⟨y0, y1, y2⟩ := HQ1b.out.cells
          clear k1 k2 k3
          go_wp2_with fail
          refine HWc.out.mono ?_
          rintro e w4 ⟨nv, rfl, ho4, hb4⟩
          obtain ⟨r1, r2, r3, rfl⟩ := own_slice ho4
          have HQ0c := hid (show Tri w4 w.heap.size ⟨#[]⟩ ⟨#[]⟩ (.slice none 0 0) from (hb4.block _ (by omega)).trans HQ0b.out)
          have HQ1c := hid (show Tri w4 (w.heap.size + 1) (ba mj) (ba mn) (.slice l1 l2 l3) from (hb4.block _ (by omega)).trans HQ1b.out)
          have HBc := hid (HBb.out.trans (hb4.mono (by omega)))
          have HOn := hid (own_base ho4 (show w.heap.size ≤ wr.heap.size by omega))
          have HOpc := hid (own_belowC HOpb.out hb4 (own_lt HOp.out))
          have hsc : w.heap.size + 2 ≤ w4.heap.size := by have := hb4.size; omega
          clear ho4 hb4 x0 x1' x2 y0 y1 y2
          obtain ⟨y0, y1, y2⟩ := HQ1c.out.cells
          have f0 := HQ1c.out.frozen 0
          have f1 := HQ1c.out.frozen 1
          have f2 := HQ1c.out.frozen 2
          unfold knVal
          go_wp2
          go_roundw
          case rel =>
            refine ⟨k + 1, .slice r1 r2 r3, by omega, by go_num, ?_, ?_, ?_, ?_, ?_, ?_, ?_⟩
            · rw [HN.out]
            · exact HQ0c.out.but ((((But.refl (w.heap.size + 1) w4).set 0 _).set 1 _).set 2 _) (by omega)
            · rw [HN.out]
              show Tri _ _ (ba (withC _ _).major) (ba (withC _ _).minor) _
              rw [hwl.1, hwl.2.1, mba_self, mba_self]
              exact HQ1c.out.set
            · rw [HN.out]
              exact ((((But.refl (w.heap.size + 1) w4).set 0 _).set 1 _).set 2 _).own HOn.out (own_tri HOn.out HQ1c.out)
            · exact ((((But.refl (w.heap.size + 1) w4).set 0 _).set 1 _).set 2 _).own HOpc.out (tri_own HOpc.out HQ1c.out)
            · exact ((HBc.out.setCell (p := ⟨w.heap.size + 1, 0, none⟩) (Nat.le_succ _) _).setCell (p := ⟨w.heap.size + 1, 1, none⟩) (Nat.le_succ _) _).setCell (p := ⟨w.heap.size + 1, 2, none⟩) (Nat.le_succ _) _
            · simpa using hsc
          case measure => simp [intOf]; omega
    · have hke : k = ps.length := by omega
      subst hke
      have HF := hid (show extMv ps = (⟨mj, mn, lps⟩, fd) by rw [← HAl.out]; exact hst)
      clear hst
      obtain ⟨x0, x1', x2⟩ := HQ1.out.cells
      obtain ⟨y0, y1, y2⟩ := HQ0.out.cells
      have f0 := HQ0.out.frozen 0
      have f1 := HQ0.out.frozen 1
      have f2 := HQ0.out.frozen 2
      go_wp2
      refine bodyPost_ret (results_k2 rfl _ _ w.heap.size (ba mj) (ba mn) (.slice l1 l2 l3) rfl HQ0.out.set.range) rfl ⟨.slice l1 l2 l3, ?_, ?_, ?_⟩
      · rw [HF.out]; rfl
      · rw [HF.out]
        exact ((((But.refl w.heap.size wr).set 0 _).set 1 _).set 2 _).own HOl.out (own_tri HOl.out HQ0.out)
      · exact ((HBw.out.setCell (p := ⟨w.heap.size, 0, none⟩) (Nat.le_refl _) _).setCell (p := ⟨w.heap.size, 1, none⟩) (Nat.le_refl _) _).setCell (p := ⟨w.heap.size, 2, none⟩) (Nat.le_refl _) _

end Go.Proofs.YtplabofdcnpcpaaDoor
