/-
  The walks of the document's own answers of chapter 6: ostiaryref6's Essence, Text.
  The walks of the document's own answers: ostiaryref1's Has, ostiaryref6's Group.
-/
import Derived.Test.YtiemggepdeaogaaDoorNd
import Derived.Test.YtiemggepdeaogaaDoorMk
set_option linter.unusedSimpArgs false
set_option linter.unusedVariables false
namespace Go.Proofs.YtiemggepdeaogaaDoor
open Go.RowKit

set_option maxHeartbeats 1000000 in
theorem ressence_any (a m : ByteArray) (x : Option Addr) (n c : Nat) (w : World) (ha : a.size ≤ 4000000000) (hm : m.size ≤ 4000000000) :
    Calls Tryd.prog 22 #[.agg #[.string a, .string m, .slice x n c]] w fun e w' => e = .returned (.string (ba (a.data.toList ++ 47 :: m.data.toList))) ∧ Below w.heap.size w w' := by
  have HV := hid (show ba (a.data.toList ++ 47 :: m.data.toList) = a ++ (⟨#[47]⟩ : ByteArray) ++ m from xba (by simp [ba]))
  have HB := hid (show Below w.heap.size w (w.alloc (.cells #[.string a, .string m, .slice x n c] 39)) from (Below.refl _ w).alloc (Nat.le_refl _) _)
  go_enter Tryd.func22, Tryd.ntmps22
  go_wp2
  go_ret
  rw [HV.out]
  exact ⟨rfl, HB.out⟩

theorem esc_step (v : ByteArray) (k : Nat) (h : k < v.size) : (v.data.toList.take (k + 1)).flatMap escC = (v.data.toList.take k).flatMap escC ++ escC v[k] := by
  rw [take_snoc v k h, List.flatMap_append]; simp

theorem ba_two (a b : List UInt8) : ba a ++ ba b = ba (a ++ b) := xba (by simp [ba])
theorem ba_lit (a : List UInt8) (c : UInt8) : ba a ++ (⟨#[c]⟩ : ByteArray) = ba (a ++ [c]) := xba (by simp [ba])
theorem ba_str (a : List UInt8) (s : ByteArray) : ba a ++ s = ba (a ++ s.data.toList) := xba (by simp [ba])
theorem ba_ext1 (a : List UInt8) (s : ByteArray) (k : Nat) (h : k < s.size) : ba a ++ s.extract k (k + 1) = ba (a ++ [s[k]]) := word_app s k h a

set_option maxHeartbeats 8000000 in
set_option maxRecDepth 100000 in
theorem rtext_any (a m : ByteArray) (v : Value) (ps : List Hd) (w : World) (h : HdAt w v ps) (hl : (txtV ⟨a.data.toList, m.data.toList, ps⟩).length ≤ 400000000) :
    Calls Tryd.prog 20 #[.agg #[.string a, .string m, v]] w fun e w' => e = .returned (.string (ba (txtV ⟨a.data.toList, m.data.toList, ps⟩))) ∧ Below w.heap.size w w' := by
  obtain ⟨x1, c1, rfl, hc1, hm1, hv1⟩ := h.view
  have V1 := hid hv1
  clear h hv1
  have hpl : ps.length ≤ 400000000 := by
    have h1 : ps.length ≤ (ps.flatMap prmT).length := by
      generalize ps = l
      induction l with
      | nil => simp
      | cons c l ih =>
        rw [List.flatMap_cons, List.length_append, List.length_cons]
        have : 1 ≤ (prmT c).length := by unfold prmT; simp
        omega
    have h2 : (ps.flatMap prmT).length ≤ (txtV ⟨a.data.toList, m.data.toList, ps⟩).length := by simp only [txtV, List.length_append]; omega
    omega
  have HE := hid (pfx_all ⟨a.data.toList, m.data.toList, ps⟩)
  have h0 := pfx_le ⟨a.data.toList, m.data.toList, ps⟩ 0
  have e0 : pfx ⟨a.data.toList, m.data.toList, ps⟩ 0 = a.data.toList ++ 47 :: m.data.toList := by simp [pfx, essV]
  rw [e0, List.length_append, List.length_cons, ← Lib.size_eq, ← Lib.size_eq] at h0
  have ha : a.size ≤ 4000000000 := by omega
  have hm : m.size ≤ 4000000000 := by omega
  have HTL := hid (fun k (hk : k < ps.length) => (show (pfx ⟨a.data.toList, m.data.toList, ps⟩ k).length + (prmT ps[k]).length ≤ 400000000 by
    have h1 := pfx_le ⟨a.data.toList, m.data.toList, ps⟩ (k + 1)
    rw [pfx_succ _ _ hk, List.length_append] at h1
    exact Nat.le_trans h1 hl))
  have HPS := hid (fun k (hk : k < ps.length) => pfx_succ ⟨a.data.toList, m.data.toList, ps⟩ k hk)
  have HEs : Hid (∀ w : World, Calls Tryd.prog 22 #[.agg #[.string a, .string m, .slice x1 ps.length c1]] w fun e w' => e = .returned (.string (ba (pfx ⟨a.data.toList, m.data.toList, ps⟩ 0))) ∧ Below w.heap.size w w') := fun w => by
    rw [e0]; exact ressence_any a m _ _ _ w ha hm
  have HP0 := hid (show (pfx ⟨a.data.toList, m.data.toList, ps⟩ 0).length ≤ 400000000 from Nat.le_trans (pfx_le _ 0) hl)
  generalize hpf : pfx ⟨a.data.toList, m.data.toList, ps⟩ = PF at *
  generalize htx : txtV ⟨a.data.toList, m.data.toList, ps⟩ = TX at *
  clear h0 e0 hpf htx
  have HT := hid (show TriR (w.alloc (.cells #[.string a, .string m, .slice x1 ps.length c1] 39)) w.heap.size a m (.slice x1 ps.length c1) from heap_alloc_new _ _)
  have HB := hid (show Below w.heap.size w (w.alloc (.cells #[.string a, .string m, .slice x1 ps.length c1] 39)) from (Below.refl _ w).alloc (Nat.le_refl _) _)
  obtain ⟨q0, q1, q2⟩ := HT.out.cells
  go_enter Tryd.func20, Tryd.ntmps20
  go_wp2_with fail
  generalize (w.alloc (.cells #[.string a, .string m, .slice x1 ps.length c1] 39)) = W at *
  refine (HEs.out _).mono ?_
  rintro e w1 ⟨rfl, hb1⟩
  have HT1 := hid (HT.out.kept hb1)
  have HB1 := hid (belowT HB.out hb1)
  obtain ⟨y0, y1, y2⟩ := HT1.out.cells
  clear hb1 q0 q1 q2
  go_wp2
  go_loop [3, 4] (fun o i => ∃ k : Nat, k ≤ ps.length ∧ i = .int .i64 k ∧ o = .string (ba (PF k)) ∧ (PF k).length ≤ 400000000) (fun _ i => ps.length - (intOf i).toNat)
  case atStart => exact ⟨0, Nat.zero_le _, rfl, rfl, HP0.out⟩
  case round =>
    obtain ⟨k, hk, rfl, rfl, hPl⟩ := hrel
    have hPs : (ba (PF k)).size ≤ 400000000 := by rw [ba_size]; exact hPl
    by_cases hlt : k < ps.length
    · have hlt' : (k : Int) < (ps.length : Int) := by omega
      obtain ⟨b1, o1, rfl, e1, e2⟩ := V1.out k hlt
      have f1 : w1.cell? ⟨b1, o1 + k * 2, none⟩ = some (.string ⟨ps[k].name.toArray⟩) := (HB1.out.cell (World.block_lt_of_cell? w _ e1)).trans e1
      have f2 : w1.cell? ⟨b1, o1 + k * 2 + 1, none⟩ = some (.string ⟨ps[k].value.toArray⟩) := (HB1.out.cell (World.block_lt_of_cell? w _ e2)).trans e2
      have hln := HTL.out k hlt
      have hst := HPS.out k hlt
      clear e1 e2
      obtain ⟨nm, hnm⟩ : ∃ x : ByteArray, x = ⟨ps[k].name.toArray⟩ := ⟨_, rfl⟩
      obtain ⟨vl, hvl⟩ : ∃ x : ByteArray, x = ⟨ps[k].value.toArray⟩ := ⟨_, rfl⟩
      rw [← hnm] at f1
      rw [← hvl] at f2
      have hp : prmT ps[k] = 59 :: (nm.data.toList ++ 61 :: wrtV vl.data.toList) := by unfold prmT; rw [hnm, hvl]
      rw [hp] at hln hst
      simp only [List.length_cons, List.length_append, ← Lib.size_eq] at hln
      obtain ⟨R, hR⟩ : ∃ R, PF k ++ [59] ++ nm.data.toList ++ [61] = R := ⟨_, rfl⟩
      have HR := hid (show ba (PF k) ++ (⟨#[59]⟩ : ByteArray) ++ nm ++ (⟨#[61]⟩ : ByteArray) = ba R by rw [ba_lit, ba_str, ba_lit, hR])
      have hRl : R.length + (wrtV vl.data.toList).length ≤ 400000000 := by rw [← hR]; simp only [List.length_append, List.length_cons, List.length_nil, ← Lib.size_eq]; omega
      have hst2 : PF (k + 1) = R ++ wrtV vl.data.toList := by rw [hst, ← hR]; simp
      have hnms : nm.size ≤ 400000000 := by omega
      obtain ⟨t, ht⟩ : ∃ t, tokL vl.data.toList = t := ⟨_, rfl⟩
      have hvs : vl.size ≤ 400000000 := by
        have : vl.size ≤ (wrtV vl.data.toList).length := by
          rw [Lib.size_eq]; unfold wrtV
          split
          · exact Nat.le_refl _
          · have : vl.data.toList.length ≤ (vl.data.toList.flatMap escC).length := by
              generalize vl.data.toList = l
              induction l with
              | nil => simp
              | cons c l ih =>
                rw [List.flatMap_cons, List.length_append, List.length_cons]
                have : 1 ≤ (escC c).length := by unfold escC; split <;> simp
                omega
            rw [List.length_cons, List.length_append]; omega
        omega
      have HTk : Hid (∀ w : World, Calls Tryd.prog 42 #[.string vl] w fun e w' => e = .returned (.bool t) ∧ w = w') := fun w => by
        rw [← ht]; exact rtoken_any vl w (by omega)
      have hRs : (ba R).size ≤ 400000000 := by rw [ba_size]; omega
      clear hnm hvl hp hln hst hR
      cases t with
      | true =>
        have HN := hid (show ba R ++ vl = ba (PF (k + 1)) by rw [hst2, wrtV, if_pos ht, ba_str])
        have hPn : (PF (k + 1)).length ≤ 400000000 := by rw [hst2, List.length_append]; exact hRl
        clear hst2 ht hRl
        go_wp2_with fail
        rw [HR.out]
        refine (HTk.out _).mono ?_
        rintro e w' ⟨rfl, rfl⟩
        go_wp2
        go_round
        case rel => exact ⟨k + 1, by omega, by go_num, by rw [HN.out], hPn⟩
        case measure => simp [intOf]; omega
      | false =>
        have hw : wrtV vl.data.toList = 34 :: (vl.data.toList.flatMap escC ++ [34]) := by rw [wrtV, ht]; rfl
        rw [hw] at hst2 hRl
        simp only [List.length_cons, List.length_append, List.length_nil] at hRl
        have hPn : (PF (k + 1)).length ≤ 400000000 := by rw [hst2]; simp only [List.length_cons, List.length_append, List.length_nil]; omega
        have HEl := hid (fun j => (show ((vl.data.toList.take j).flatMap escC).length ≤ (vl.data.toList.flatMap escC).length by
          have : vl.data.toList.flatMap escC = (vl.data.toList.take j).flatMap escC ++ (vl.data.toList.drop j).flatMap escC := by rw [← List.flatMap_append, List.take_append_drop]
          rw [this, List.length_append]; omega))
        have HQ0 := hid (show ba R ++ (⟨#[34]⟩ : ByteArray) = ba (R ++ [34] ++ (vl.data.toList.take 0).flatMap escC) by rw [ba_lit]; simp)
        have Hst2 := hid hst2
        have HRl := hid hRl
        clear hst2 hw ht hRl
        go_wp2_with fail
        rw [HR.out]
        refine (HTk.out _).mono ?_
        rintro e w' ⟨rfl, rfl⟩
        go_wp2
        rw [HQ0.out]
        go_loop [3, 6] (fun o j => ∃ i : Nat, i ≤ vl.size ∧ j = .int .i64 i ∧ o = .string (ba (R ++ [34] ++ (vl.data.toList.take i).flatMap escC))) (fun _ j => vl.size - (intOf j).toNat)
        case atStart => exact ⟨0, Nat.zero_le _, rfl, rfl⟩
        case round =>
          obtain ⟨i, hi, rfl, rfl⟩ := hrel
          have hgs : (ba (R ++ [34] ++ (vl.data.toList.take i).flatMap escC)).size ≤ 400000000 := by
            have h1 := HEl.out i
            have h2 := HRl.out
            rw [ba_size]; simp only [List.length_cons, List.length_append, List.length_nil]; omega
          obtain ⟨G, hG⟩ : ∃ G, R ++ [34] ++ (vl.data.toList.take i).flatMap escC = G := ⟨_, rfl⟩
          rw [hG] at hgs ⊢
          by_cases hil : i < vl.size
          · have hil' : (i : Int) < (vl.size : Int) := by omega
            have hi1 : (i : Int) + 1 ≤ (vl.size : Int) := by omega
            have hes := esc_step vl i hil
            have hb := vl[i].toNat_lt
            have HG1 := hid (ba_ext1 G vl i hil)
            have HG2 := hid (ba_lit G 92)
            have HG3 := hid (ba_ext1 (G ++ [92]) vl i hil)
            have hg2s : (ba (G ++ [92])).size ≤ 400000001 := by rw [ba_size] at hgs ⊢; simp; omega
            by_cases hq : vl[i] = 34 ∨ vl[i] = 92
            · have HN := hid (show R ++ [34] ++ (vl.data.toList.take (i + 1)).flatMap escC = G ++ [92] ++ [vl[i]] by rw [hes, ← List.append_assoc, hG, escC, if_pos hq]; simp)
              have hcs : ((vl[i].toNat : Int) == 34) = true ∨ (((vl[i].toNat : Int) == 34) = false ∧ ((vl[i].toNat : Int) == 92) = true) := by
                rcases hq with e | e
                · left; rw [e]; rfl
                · right; rw [e]; exact ⟨rfl, rfl⟩
              clear hes hq hG
              rcases hcs with c1' | ⟨c1', c2'⟩
              all_goals
                go_wp2
                go_round
                case rel => exact ⟨i + 1, by omega, by go_num, by rw [HN.out, HG2.out, HG3.out]⟩
                case measure => simp [intOf]; omega
            · have HN := hid (show R ++ [34] ++ (vl.data.toList.take (i + 1)).flatMap escC = G ++ [vl[i]] by rw [hes, ← List.append_assoc, hG, escC, if_neg hq])
              have c1' : ((vl[i].toNat : Int) == 34) = false := by rw [beq_eq_false_iff_ne]; intro e; exact hq (.inl (UInt8.toNat_inj.1 (by show vl[i].toNat = 34; omega)))
              have c2' : ((vl[i].toNat : Int) == 92) = false := by rw [beq_eq_false_iff_ne]; intro e; exact hq (.inr (UInt8.toNat_inj.1 (by show vl[i].toNat = 92; omega)))
              clear hes hq hG
              go_wp2
              go_round
              case rel => exact ⟨i + 1, by omega, by go_num, by rw [HN.out, HG1.out]⟩
              case measure => simp [intOf]; omega
          · have HGe := hid (show ba G ++ (⟨#[34]⟩ : ByteArray) = ba (PF (k + 1)) by
              rw [← hG, take_all vl i hil, ba_lit, Hst2.out]; simp)
            clear hG
            go_wp2
            go_round
            case rel => exact ⟨k + 1, by omega, by go_num, by rw [HGe.out], hPn⟩
            case measure => simp [intOf]; omega
    · have hke : k = ps.length := by omega
      subst hke
      go_wp2
      go_ret
      rw [HE.out]
      exact ⟨rfl, HB1.out⟩

end Go.Proofs.YtiemggepdeaogaaDoor

namespace Go.Proofs.YtiemggepdeaogaaDoor
open Go.RowKit

set_option maxHeartbeats 1000000 in
theorem rhas_any (v : Value) (L : List (List UInt8)) (s : ByteArray) (w : World) (h : TxAt w v L) (hl : L.length ≤ 1000000) :
    Calls Tryd.prog 51 #[v, .string s] w fun e w' => e = .returned (.bool (L.any fun x => isL s.data.toList x)) ∧ w = w' := by
  obtain ⟨x1, c1, rfl, hc1, hm1, hv1⟩ := h.view
  have V1 := hid hv1
  clear h hv1
  go_enter Tryd.func51, Tryd.ntmps51
  go_wp2
  go_loop [5] (fun i => ∃ k : Nat, k ≤ L.length ∧ i = .int .i64 k ∧ ((L.take k).any fun x => isL s.data.toList x) = false) (fun i => L.length - (intOf i).toNat)
  case atStart => exact ⟨0, Nat.zero_le _, rfl, rfl⟩
  case round =>
    obtain ⟨k, hk, rfl, hno⟩ := hrel
    have HN := hid hno
    clear hno
    by_cases hlt : k < L.length
    · have hlt' : (k : Int) < (L.length : Int) := by omega
      obtain ⟨b1, o1, rfl, e1⟩ := V1.out k hlt
      obtain ⟨X, hX⟩ : ∃ x : ByteArray, (⟨L[k].toArray⟩ : ByteArray) = x := ⟨_, rfl⟩
      rw [hX] at e1
      obtain ⟨q, hq⟩ : ∃ q, (X.toList == s.toList) = q := ⟨_, rfl⟩
      have hLk : isL s.data.toList L[k] = q := by
        rw [← hq, Lib.toList_data, Lib.toList_data, ← hX]
        show (s.data.toList == L[k]) = (L[k] == s.data.toList)
        exact BEq.comm
      have hs : ((L.take (k + 1)).any fun x => isL s.data.toList x) = (((L.take k).any fun x => isL s.data.toList x) || q) := by
        rw [List.take_succ_eq_append_getElem hlt, List.any_append]; simp [hLk]
      rw [HN.out, Bool.false_or] at hs
      cases q with
      | true =>
        have HF := hid (show (L.any fun x => isL s.data.toList x) = true by
          rw [List.any_eq_true]
          exact ⟨L[k], List.getElem_mem hlt, hLk⟩)
        clear hs hLk hX
        go_wp2
        go_ret
        exact ⟨ret_tf HF.out.symm, rfl⟩
      | false =>
        have HS := hid hs
        clear hs hLk hX
        go_wp2
        go_round
        case rel => exact ⟨k + 1, by omega, by go_num, HS.out⟩
        case measure => simp [intOf]; omega
    · have hke : k = L.length := by omega
      subst hke
      have HF := hid (show (L.any fun x => isL s.data.toList x) = false by have := HN.out; rwa [List.take_length] at this)
      go_wp2
      go_ret
      exact ⟨ret_tf HF.out.symm, rfl⟩

def jsL : List (List UInt8) := [[106, 97, 118, 97, 115, 99, 114, 105, 112, 116], [101, 99, 109, 97, 115, 99, 114, 105, 112, 116], [120, 45, 106, 97, 118, 97, 115, 99, 114, 105, 112, 116], [120, 45, 101, 99, 109, 97, 115, 99, 114, 105, 112, 116]]

theorem isL_eq {l x : List UInt8} (h : isL l x = true) : l = x := by unfold isL at h; simpa using h

theorem scr_ref (a m : List UInt8) : isScrV a m = ((icV a && (jsL.any fun x => isL m x)) || (isL a [116, 101, 120, 116] && isL m [106, 115, 99, 114, 105, 112, 116])) := by
  have hj : (jsL.any fun x => isL m x) = (isL m [106, 97, 118, 97, 115, 99, 114, 105, 112, 116] || (isL m [101, 99, 109, 97, 115, 99, 114, 105, 112, 116] || (isL m [120, 45, 106, 97, 118, 97, 115, 99, 114, 105, 112, 116] || isL m [120, 45, 101, 99, 109, 97, 115, 99, 114, 105, 112, 116]))) := by
    simp [jsL]
  unfold isScrV
  rw [hj]
  generalize hg : (isL m [106, 97, 118, 97, 115, 99, 114, 105, 112, 116] || (isL m [101, 99, 109, 97, 115, 99, 114, 105, 112, 116] || (isL m [120, 45, 106, 97, 118, 97, 115, 99, 114, 105, 112, 116] || isL m [120, 45, 101, 99, 109, 97, 115, 99, 114, 105, 112, 116]))) = g
  cases g with
  | false => simp [Bool.and_comm]
  | true =>
    have : isL m [106, 115, 99, 114, 105, 112, 116] = false := by
      simp only [Bool.or_eq_true] at hg
      rcases hg with h | h | h | h <;> (rw [isL_eq h]; decide)
    rw [this]; simp

set_option maxHeartbeats 8000000 in
set_option maxRecDepth 100000 in
theorem rgroup_any (a m : ByteArray) (x : Option Addr) (n c : Nat) (w : World) (hm : m.size ≤ 4000000000) :
    Calls Tryd.prog 24 #[.agg #[.string a, .string m, .slice x n c]] w fun e w' => e = .returned (.int .i64 (grpV a.data.toList m.data.toList)) ∧ Below w.heap.size w w' := by
  have HTx := hid (show TxAt ((w.alloc (.cells #[.string a, .string m, .slice x n c] 39)).alloc (.cells #[.string ⟨#[106, 97, 118, 97, 115, 99, 114, 105, 112, 116]⟩, .string ⟨#[101, 99, 109, 97, 115, 99, 114, 105, 112, 116]⟩, .string ⟨#[120, 45, 106, 97, 118, 97, 115, 99, 114, 105, 112, 116]⟩, .string ⟨#[120, 45, 101, 99, 109, 97, 115, 99, 114, 105, 112, 116]⟩] 9)) (.slice (some ⟨w.heap.size + 1, 0, none⟩) 4 4) jsL by
    have := tx_new6 (w.alloc (.cells #[.string a, .string m, .slice x n c] 39)) jsL 9 (by decide)
    rw [World.size_alloc] at this
    exact this)
  have HBf := hid (show Below w.heap.size w ((w.alloc (.cells #[.string a, .string m, .slice x n c] 39)).alloc (.cells #[.string ⟨#[106, 97, 118, 97, 115, 99, 114, 105, 112, 116]⟩, .string ⟨#[101, 99, 109, 97, 115, 99, 114, 105, 112, 116]⟩, .string ⟨#[120, 45, 106, 97, 118, 97, 115, 99, 114, 105, 112, 116]⟩, .string ⟨#[120, 45, 101, 99, 109, 97, 115, 99, 114, 105, 112, 116]⟩] 9)) from ((Below.refl _ w).alloc (Nat.le_refl _) _).alloc (by simp) _)
  have HBg := hid (show Below w.heap.size w (w.alloc (.cells #[.string a, .string m, .slice x n c] 39)) from (Below.refl _ w).alloc (Nat.le_refl _) _)
  have h1 := isL_to a [97, 112, 112, 108, 105, 99, 97, 116, 105, 111, 110]
  have h2 := isL_to a [116, 101, 120, 116]
  have h3 := isL_to m [106, 115, 99, 114, 105, 112, 116]
  have h4 := isL_to m [106, 115, 111, 110]
  have h5 := isL_to m [120, 109, 108]
  have h6 := isL_to a [105, 109, 97, 103, 101]
  have h7 := isL_to m [99, 115, 115]
  have h8 := isL_to a [97, 117, 100, 105, 111]
  have h9 := isL_to a [118, 105, 100, 101, 111]
  obtain ⟨jh, hjh⟩ : ∃ b, (jsL.any fun x => isL m.data.toList x) = b := ⟨_, rfl⟩
  obtain ⟨e1, he1⟩ : ∃ b, Lib.hasSuffix m.data.toList [43, 106, 115, 111, 110] = b := ⟨_, rfl⟩
  obtain ⟨e2, he2⟩ : ∃ b, Lib.hasSuffix m.data.toList [43, 120, 109, 108] = b := ⟨_, rfl⟩
  have HH : Hid (Calls Tryd.prog 51 #[.slice (some ⟨w.heap.size + 1, 0, none⟩) 4 4, .string m] ((w.alloc (.cells #[.string a, .string m, .slice x n c] 39)).alloc (.cells #[.string ⟨#[106, 97, 118, 97, 115, 99, 114, 105, 112, 116]⟩, .string ⟨#[101, 99, 109, 97, 115, 99, 114, 105, 112, 116]⟩, .string ⟨#[120, 45, 106, 97, 118, 97, 115, 99, 114, 105, 112, 116]⟩, .string ⟨#[120, 45, 101, 99, 109, 97, 115, 99, 114, 105, 112, 116]⟩] 9)) fun e w' => e = .returned (.bool jh) ∧ ((w.alloc (.cells #[.string a, .string m, .slice x n c] 39)).alloc (.cells #[.string ⟨#[106, 97, 118, 97, 115, 99, 114, 105, 112, 116]⟩, .string ⟨#[101, 99, 109, 97, 115, 99, 114, 105, 112, 116]⟩, .string ⟨#[120, 45, 106, 97, 118, 97, 115, 99, 114, 105, 112, 116]⟩, .string ⟨#[120, 45, 101, 99, 109, 97, 115, 99, 114, 105, 112, 116]⟩] 9)) = w') := by
    rw [← hjh]; exact rhas_any _ jsL m _ HTx.out (by decide)
  have HE1 : Hid (∀ w : World, Calls Tryd.prog 52 #[.string m, .string ⟨#[43, 106, 115, 111, 110]⟩] w fun e w' => e = .returned (.bool e1) ∧ w = w') := fun w => by
    rw [← he1]; exact ends_any m ⟨#[43, 106, 115, 111, 110]⟩ w hm (by decide)
  have HE2 : Hid (∀ w : World, Calls Tryd.prog 52 #[.string m, .string ⟨#[43, 120, 109, 108]⟩] w fun e w' => e = .returned (.bool e2) ∧ w = w') := fun w => by
    rw [← he2]; exact ends_any m ⟨#[43, 120, 109, 108]⟩ w hm (by decide)
  have hV : grpV a.data.toList m.data.toList = (if ((isL a.data.toList [97, 112, 112, 108, 105, 99, 97, 116, 105, 111, 110] || isL a.data.toList [116, 101, 120, 116]) && jh) || (isL a.data.toList [116, 101, 120, 116] && isL m.data.toList [106, 115, 99, 114, 105, 112, 116]) then 1 else if (isL m.data.toList [106, 115, 111, 110] && (isL a.data.toList [97, 112, 112, 108, 105, 99, 97, 116, 105, 111, 110] || isL a.data.toList [116, 101, 120, 116])) || e1 then 2 else if (isL m.data.toList [120, 109, 108] && (isL a.data.toList [97, 112, 112, 108, 105, 99, 97, 116, 105, 111, 110] || isL a.data.toList [116, 101, 120, 116])) || e2 then 3
      else if isL a.data.toList [105, 109, 97, 103, 101] then 4 else if isL a.data.toList [116, 101, 120, 116] && isL m.data.toList [99, 115, 115] then 5 else if isL a.data.toList [97, 117, 100, 105, 111] || isL a.data.toList [118, 105, 100, 101, 111] then 6 else 0) := by
    unfold grpV wrInV
    rw [scr_ref, hjh, he1, he2]; rfl
  have HV := hid hV
  clear hjh he1 he2 hV
  generalize isL a.data.toList [97, 112, 112, 108, 105, 99, 97, 116, 105, 111, 110] = qa at *
  generalize isL a.data.toList [116, 101, 120, 116] = qt at *
  generalize isL m.data.toList [106, 115, 99, 114, 105, 112, 116] = qj at *
  generalize isL m.data.toList [106, 115, 111, 110] = qn at *
  generalize isL m.data.toList [120, 109, 108] = qx at *
  generalize isL a.data.toList [105, 109, 97, 103, 101] = qi at *
  generalize isL m.data.toList [99, 115, 115] = qc at *
  generalize isL a.data.toList [97, 117, 100, 105, 111] = qu at *
  generalize isL a.data.toList [118, 105, 100, 101, 111] = qv at *
  cases qa with
  | true =>
    cases qt with
    | true =>
      go_enter Tryd.func24, Tryd.ntmps24
      go_wp2_with fail
      refine (HH.out).mono ?_
      rintro e w' ⟨rfl, rfl⟩
      cases jh with
      | true =>
        go_wp2
        go_ret
        rw [HV.out]
        first | exact ⟨rfl, HBf.out⟩ | exact ⟨by simp, HBg.out⟩
      | false =>
        cases qj with
        | true =>
          go_wp2
          go_ret
          rw [HV.out]
          first | exact ⟨rfl, HBf.out⟩ | exact ⟨by simp, HBg.out⟩
        | false =>
          cases qn with
          | true =>
            go_wp2
            go_ret
            rw [HV.out]
            first | exact ⟨rfl, HBf.out⟩ | exact ⟨by simp, HBg.out⟩
          | false =>
            go_wp2_with fail
            refine (HE1.out _).mono ?_
            rintro e w' ⟨rfl, rfl⟩
            cases e1 with
            | true =>
              go_wp2
              go_ret
              rw [HV.out]
              first | exact ⟨rfl, HBf.out⟩ | exact ⟨by simp, HBg.out⟩
            | false =>
              cases qx with
              | true =>
                go_wp2
                go_ret
                rw [HV.out]
                first | exact ⟨rfl, HBf.out⟩ | exact ⟨by simp, HBg.out⟩
              | false =>
                go_wp2_with fail
                refine (HE2.out _).mono ?_
                rintro e w' ⟨rfl, rfl⟩
                cases e2 with
                | true =>
                  go_wp2
                  go_ret
                  rw [HV.out]
                  first | exact ⟨rfl, HBf.out⟩ | exact ⟨by simp, HBg.out⟩
                | false =>
                  cases qi with
                  | true =>
                    go_wp2
                    go_ret
                    rw [HV.out]
                    first | exact ⟨rfl, HBf.out⟩ | exact ⟨by simp, HBg.out⟩
                  | false =>
                    cases qc with
                    | true =>
                      go_wp2
                      go_ret
                      rw [HV.out]
                      first | exact ⟨rfl, HBf.out⟩ | exact ⟨by simp, HBg.out⟩
                    | false =>
                      cases qu with
                      | true =>
                        go_wp2
                        go_ret
                        rw [HV.out]
                        first | exact ⟨rfl, HBf.out⟩ | exact ⟨by simp, HBg.out⟩
                      | false =>
                        cases qv with
                        | true =>
                          go_wp2
                          go_ret
                          rw [HV.out]
                          first | exact ⟨rfl, HBf.out⟩ | exact ⟨by simp, HBg.out⟩
                        | false =>
                          go_wp2
                          go_ret
                          rw [HV.out]
                          first | exact ⟨rfl, HBf.out⟩ | exact ⟨by simp, HBg.out⟩
    | false =>
      go_enter Tryd.func24, Tryd.ntmps24
      go_wp2_with fail
      refine (HH.out).mono ?_
      rintro e w' ⟨rfl, rfl⟩
      cases jh with
      | true =>
        go_wp2
        go_ret
        rw [HV.out]
        first | exact ⟨rfl, HBf.out⟩ | exact ⟨by simp, HBg.out⟩
      | false =>
        cases qn with
        | true =>
          go_wp2
          go_ret
          rw [HV.out]
          first | exact ⟨rfl, HBf.out⟩ | exact ⟨by simp, HBg.out⟩
        | false =>
          go_wp2_with fail
          refine (HE1.out _).mono ?_
          rintro e w' ⟨rfl, rfl⟩
          cases e1 with
          | true =>
            go_wp2
            go_ret
            rw [HV.out]
            first | exact ⟨rfl, HBf.out⟩ | exact ⟨by simp, HBg.out⟩
          | false =>
            cases qx with
            | true =>
              go_wp2
              go_ret
              rw [HV.out]
              first | exact ⟨rfl, HBf.out⟩ | exact ⟨by simp, HBg.out⟩
            | false =>
              go_wp2_with fail
              refine (HE2.out _).mono ?_
              rintro e w' ⟨rfl, rfl⟩
              cases e2 with
              | true =>
                go_wp2
                go_ret
                rw [HV.out]
                first | exact ⟨rfl, HBf.out⟩ | exact ⟨by simp, HBg.out⟩
              | false =>
                cases qi with
                | true =>
                  go_wp2
                  go_ret
                  rw [HV.out]
                  first | exact ⟨rfl, HBf.out⟩ | exact ⟨by simp, HBg.out⟩
                | false =>
                  cases qu with
                  | true =>
                    go_wp2
                    go_ret
                    rw [HV.out]
                    first | exact ⟨rfl, HBf.out⟩ | exact ⟨by simp, HBg.out⟩
                  | false =>
                    cases qv with
                    | true =>
                      go_wp2
                      go_ret
                      rw [HV.out]
                      first | exact ⟨rfl, HBf.out⟩ | exact ⟨by simp, HBg.out⟩
                    | false =>
                      go_wp2
                      go_ret
                      rw [HV.out]
                      first | exact ⟨rfl, HBf.out⟩ | exact ⟨by simp, HBg.out⟩
  | false =>
    cases qt with
    | true =>
      go_enter Tryd.func24, Tryd.ntmps24
      go_wp2_with fail
      refine (HH.out).mono ?_
      rintro e w' ⟨rfl, rfl⟩
      cases jh with
      | true =>
        go_wp2
        go_ret
        rw [HV.out]
        first | exact ⟨rfl, HBf.out⟩ | exact ⟨by simp, HBg.out⟩
      | false =>
        cases qj with
        | true =>
          go_wp2
          go_ret
          rw [HV.out]
          first | exact ⟨rfl, HBf.out⟩ | exact ⟨by simp, HBg.out⟩
        | false =>
          cases qn with
          | true =>
            go_wp2
            go_ret
            rw [HV.out]
            first | exact ⟨rfl, HBf.out⟩ | exact ⟨by simp, HBg.out⟩
          | false =>
            go_wp2_with fail
            refine (HE1.out _).mono ?_
            rintro e w' ⟨rfl, rfl⟩
            cases e1 with
            | true =>
              go_wp2
              go_ret
              rw [HV.out]
              first | exact ⟨rfl, HBf.out⟩ | exact ⟨by simp, HBg.out⟩
            | false =>
              cases qx with
              | true =>
                go_wp2
                go_ret
                rw [HV.out]
                first | exact ⟨rfl, HBf.out⟩ | exact ⟨by simp, HBg.out⟩
              | false =>
                go_wp2_with fail
                refine (HE2.out _).mono ?_
                rintro e w' ⟨rfl, rfl⟩
                cases e2 with
                | true =>
                  go_wp2
                  go_ret
                  rw [HV.out]
                  first | exact ⟨rfl, HBf.out⟩ | exact ⟨by simp, HBg.out⟩
                | false =>
                  cases qi with
                  | true =>
                    go_wp2
                    go_ret
                    rw [HV.out]
                    first | exact ⟨rfl, HBf.out⟩ | exact ⟨by simp, HBg.out⟩
                  | false =>
                    cases qc with
                    | true =>
                      go_wp2
                      go_ret
                      rw [HV.out]
                      first | exact ⟨rfl, HBf.out⟩ | exact ⟨by simp, HBg.out⟩
                    | false =>
                      cases qu with
                      | true =>
                        go_wp2
                        go_ret
                        rw [HV.out]
                        first | exact ⟨rfl, HBf.out⟩ | exact ⟨by simp, HBg.out⟩
                      | false =>
                        cases qv with
                        | true =>
                          go_wp2
                          go_ret
                          rw [HV.out]
                          first | exact ⟨rfl, HBf.out⟩ | exact ⟨by simp, HBg.out⟩
                        | false =>
                          go_wp2
                          go_ret
                          rw [HV.out]
                          first | exact ⟨rfl, HBf.out⟩ | exact ⟨by simp, HBg.out⟩
    | false =>
      go_enter Tryd.func24, Tryd.ntmps24
      go_wp2_with fail
      refine (HE1.out _).mono ?_
      rintro e w' ⟨rfl, rfl⟩
      cases e1 with
      | true =>
        go_wp2
        go_ret
        rw [HV.out]
        first | exact ⟨rfl, HBf.out⟩ | exact ⟨by simp, HBg.out⟩
      | false =>
        go_wp2_with fail
        refine (HE2.out _).mono ?_
        rintro e w' ⟨rfl, rfl⟩
        cases e2 with
        | true =>
          go_wp2
          go_ret
          rw [HV.out]
          first | exact ⟨rfl, HBf.out⟩ | exact ⟨by simp, HBg.out⟩
        | false =>
          cases qi with
          | true =>
            go_wp2
            go_ret
            rw [HV.out]
            first | exact ⟨rfl, HBf.out⟩ | exact ⟨by simp, HBg.out⟩
          | false =>
            cases qu with
            | true =>
              go_wp2
              go_ret
              rw [HV.out]
              first | exact ⟨rfl, HBf.out⟩ | exact ⟨by simp, HBg.out⟩
            | false =>
              cases qv with
              | true =>
                go_wp2
                go_ret
                rw [HV.out]
                first | exact ⟨rfl, HBf.out⟩ | exact ⟨by simp, HBg.out⟩
              | false =>
                go_wp2
                go_ret
                rw [HV.out]
                first | exact ⟨rfl, HBf.out⟩ | exact ⟨by simp, HBg.out⟩

end Go.Proofs.YtiemggepdeaogaaDoor
