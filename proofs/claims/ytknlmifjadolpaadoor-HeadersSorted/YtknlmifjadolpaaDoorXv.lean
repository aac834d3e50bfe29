/-
  The walks of headers' Drop and first.
-/
import Derived.Test.YtknlmifjadolpaaDoorXu
set_option linter.unusedSimpArgs false
set_option linter.unusedVariables false
namespace Go.Proofs.YtknlmifjadolpaaDoor
open Go.RowKit

/-- The headers of other names. -/
def dropV (L : List Hd) (n : List UInt8) : List Hd := L.filter fun h => !isN n h

theorem dropV_snoc (L : List Hd) (h : Hd) (n : List UInt8) : dropV (L ++ [h]) n = dropV L n ++ (if isN n h then [] else [h]) := by
  unfold dropV
  rw [List.filter_append]
  by_cases hh : isN n h = true <;> simp [hh]

theorem dropV_len (L : List Hd) (n : List UInt8) : (dropV L n).length ≤ L.length := List.length_filter_le _ _

theorem hd_eta (h : Hd) (a b : ByteArray) (ha : a = ⟨h.name.toArray⟩) (hb : b = ⟨h.value.toArray⟩) : [Value.string a, .string b] = cellsH [h] := by rw [ha, hb]; rfl

/-- It is no nil slice. -/
def NonNil (v : Value) : Prop := v ≠ .slice none 0 0

/-- A list of headers in a block of its own, as it is answered. -/
def HdPost2 (L : List Hd) (w : World) (e : Ending) (w' : World) : Prop := ∃ v, e = .returned v ∧ w'.ownsRow w.heap.size 28 2 v L.length (cellsH L) ∧ Below w.heap.size w w' ∧ NonNil v

theorem NonNil.form {w : World} {B n : Nat} {e : TypeId} {k : Nat} {v : Value} {xs : List Value} (h : NonNil v) (ho : w.ownsRow B e k v n xs) : ∃ g cap, v = .slice (some ⟨g, 0, none⟩) n cap ∧ n ≤ cap ∧ cap ≤ maxLen := by
  rcases ho.2 with ⟨hv, _⟩ | ⟨g, cap, cur, rfl, _, _, h1, h2, _⟩
  · exact absurd hv h
  · exact ⟨g, cap, rfl, h1, h2⟩

set_option maxHeartbeats 2000000 in
set_option maxRecDepth 100000 in
theorem drop_any (v : Value) (L : List Hd) (n : ByteArray) (w : World) (h : HdAt w v L) (hs : n.size ≤ 140737488351232) (hz : Szd 140737488351232 L) (hl : L.length ≤ 1000000) :
    Calls Tryd.prog 25 #[v, .string n] w (HdPost2 (dropV L n.data.toList) w) := by
  obtain ⟨a1, c1, rfl, hc1, hm1, hv1⟩ := h.view
  have V1 := hid hv1
  clear h hv1
  obtain ⟨i0, hi, hz0, hz1, hz2⟩ := info3 infoHd
  have HZ := hid hz
  clear hz
  obtain ⟨N, hN⟩ : ∃ N : ByteArray, N = ⟨(low n.data.toList).toArray⟩ := ⟨_, rfl⟩
  have HN := hid (show N.data.toList = low n.data.toList by rw [hN])
  have HNe := hid hN
  clear hN
  go_enter Tryd.func25, Tryd.ntmps25
  go_wp2_with fail
  refine (lower_any n _ hs).mono ?_
  rintro e w0 ⟨rfl, hb0⟩
  rw [← HNe.out]
  obtain ⟨w1, hmk, hown1, hgr1⟩ := run_make_own (P := Tryd.prog) w0 w0.heap.size 22 28 i0 _ 2 Tryd.underlying22 hi hz0 hz1 .i64 .i64 L.length (by rw [hz2]; omega) (by unfold maxLen; omega) (Nat.le_refl _)
  have hb1 : Below w.heap.size w w1 := hb0.grown hgr1 hb0.size (fun g hg => by cases hg)
  have hown1' : w1.ownsRow w.heap.size 28 2 (.slice (some ⟨w0.heap.size, 0, none⟩) 0 L.length) 0 [] := by
    rcases hown1.2 with ⟨h1, h2⟩ | ⟨g, cap, cur, e1, e2, e3⟩
    · cases h1
    · exact ⟨hown1.1, .inr ⟨g, cap, cur, e1, Nat.le_trans hb0.size e2, e3⟩⟩
  have HO1 := hid hown1'
  have HB1 := hid hb1
  clear hown1 hown1' hgr1 hb1 hb0
  go_wp2
  go_loopw [5, 7, 15] (fun vv x i wr => ∃ k : Nat, k ≤ L.length ∧ i = .int .i64 k ∧ wr.ownsRow w.heap.size 28 2 vv (dropV (L.take k) n.data.toList).length (cellsH (dropV (L.take k) n.data.toList)) ∧ Below w.heap.size w wr ∧ NonNil vv)
    (fun _ _ i _ => L.length - (intOf i).toNat)
  case atStart => exact ⟨0, Nat.zero_le _, rfl, HO1.out, HB1.out, fun h => by cases h⟩
  case round =>
    obtain ⟨k, hk, rfl, hown, hbw, hnn⟩ := hrel
    have HO := hid hown
    have HNN := hid hnn
    clear hnn
    have hwr := hbw.size
    clear hown
    by_cases hlt : k < L.length
    · have hlt' : (k : Int) < (L.length : Int) := by omega
      obtain ⟨b1, o1, rfl, e1, e2⟩ := V1.out k hlt
      have f1 : wr.cell? ⟨b1, o1 + k * 2, none⟩ = some (.string ⟨L[k].name.toArray⟩) := (hbw.cell (World.block_lt_of_cell? w _ e1)).trans e1
      have f2 : wr.cell? ⟨b1, o1 + k * 2 + 1, none⟩ = some (.string ⟨L[k].value.toArray⟩) := (hbw.cell (World.block_lt_of_cell? w _ e2)).trans e2
      clear e1 e2
      obtain ⟨nm, hnm⟩ : ∃ x : ByteArray, x = ⟨L[k].name.toArray⟩ := ⟨_, rfl⟩
      obtain ⟨vl, hvl⟩ : ∃ x : ByteArray, x = ⟨L[k].value.toArray⟩ := ⟨_, rfl⟩
      rw [← hnm] at f1
      rw [← hvl] at f2
      have hsz : nm.size ≤ 140737488351232 := by rw [hnm, xsize]; exact (HZ.out _ (List.getElem_mem hlt)).1
      have HV := hid hvl
      have HM := hid hnm
      clear hnm hvl
      have HT := hid (show L.take (k + 1) = L.take k ++ [L[k]] by rw [List.take_add_one, List.getElem?_eq_getElem hlt]; rfl)
      obtain ⟨M, hM⟩ : ∃ x : ByteArray, x = ⟨(low nm.data.toList).toArray⟩ := ⟨_, rfl⟩
      have HMe := hid hM
      clear hM
      go_wp2_with fail
      refine (lower_any nm _ hsz).mono ?_
      rintro e w1 ⟨rfl, hb1⟩
      rw [← HMe.out]
      have hbw1 := (hbw.alloc hwr (.cells #[.string nm, .string vl] 28)).trans (hb1.mono (by simp; omega))
      have g1 : w1.cell? ⟨wr.heap.size, 0, none⟩ = some (.string nm) := (hb1.cell (p := ⟨wr.heap.size, 0, none⟩) (by simp)).trans (by simp [go_sem])
      have g2 : w1.cell? ⟨wr.heap.size, 1, none⟩ = some (.string vl) := (hb1.cell (p := ⟨wr.heap.size, 1, none⟩) (by simp)).trans (by simp [go_sem])
      have HO1 := hid (own_same (HO.out.alloc (.cells #[.string nm, .string vl] 28)) hb1)
      have hw1 := hbw1.size
      have hdl := dropV_len (L.take k) n.data.toList
      rw [List.length_take] at hdl
      by_cases hmn : M = N
      · subst hmn
        have HS := hid (show dropV (L.take (k + 1)) n.data.toList = dropV (L.take k) n.data.toList by
          rw [HT.out, dropV_snoc, if_pos, List.append_nil]
          rw [isN, beq_iff_eq, ← HN.out, HMe.out, HM.out])
        go_wp2
        go_roundw
        case rel =>
          refine ⟨k + 1, by omega, by go_num, ?_, hbw1, HNN.out⟩
          rw [HS.out]
          exact HO1.out
        case measure => simp [intOf]; omega
      · have hne := strNe hmn
        have HS := hid (show dropV (L.take (k + 1)) n.data.toList = dropV (L.take k) n.data.toList ++ [L[k]] by
          rw [HT.out, dropV_snoc, if_neg]
          rw [isN, beq_iff_eq, ← HN.out]
          intro e
          exact hmn (xba (by rw [← e, HMe.out, HM.out])))
        clear hmn
        go_wp2_with (at_builtin; go_must (refine wpList_append_own _ rfl _ _ 22 rfl w.heap.size 28 i0 _ 2 32 Tryd.underlying22 hi hz0 hz1 hz2 rfl (by decide) _ _ _ rfl (HO1.out.alloc _) ⟨w1.heap.size, 0, none⟩ 1 1 [.string nm, .string vl] rfl rfl ?c1 ?c2 ?c3 ?c4 ?c5 ?_))
        case c1 =>
          intro q u hq
          match q, hq with
          | 0, hq => simp at hq; subst hq; simp [Addr.add]
          | 1, hq => simp at hq; subst hq; simp [Addr.add]
        case c2 => intro u hu; simp at hu; rcases hu with rfl | rfl <;> rfl
        case c3 => unfold maxLen; omega
        case c4 => omega
        case c5 => simp; omega
        intro v' w2 hown' hgrow hnil
        have HO2 := hid hown'
        have HB2 := hid (show Below w.heap.size w w2 from (hbw1.alloc hw1 _).grown hgrow (by simp; omega) (fun g hg => (HO1.out.lt g hg).1))
        have HNN2 := hid (show NonNil v' from hnil)
        clear hown' hgrow hnil
        go_wp2
        go_roundw
        case rel =>
          refine ⟨k + 1, by omega, by go_num, ?_, HB2.out, HNN2.out⟩
          rw [HS.out, cellsH_app, List.length_append, ← hd_eta L[k] nm vl HM.out HV.out]
          exact HO2.out
        case measure => simp [intOf]; omega
    · have hke : k = L.length := by omega
      subst hke
      have HT := hid (show dropV (L.take L.length) n.data.toList = dropV L n.data.toList by rw [List.take_length])
      go_wp2
      go_ret
      refine ⟨_, rfl, ?_, hbw, HNN.out⟩
      rw [← HT.out]
      exact HO.out

/-- Where the first header of that name stands. -/
def firstV (L : List Hd) (n : List UInt8) : Option Nat := L.findIdx? (isN n)

set_option maxHeartbeats 2000000 in
set_option maxRecDepth 100000 in
theorem first_any (v : Value) (L : List Hd) (n : ByteArray) (w : World) (h : HdAt w v L) (hs : n.size ≤ 140737488351232) (hz : Szd 140737488351232 L) (hl : L.length ≤ 1000000) :
    Calls Tryd.prog 44 #[v, .string n] w fun e w' => Below w.heap.size w w' ∧ ((firstV L n.data.toList = none ∧ e = .returned (.int .i64 (-1))) ∨ ∃ k : Nat, firstV L n.data.toList = some k ∧ e = .returned (.int .i64 (k : Int))) := by
  obtain ⟨a1, c1, rfl, hc1, hm1, hv1⟩ := h.view
  have V1 := hid hv1
  clear h hv1
  have HZ := hid hz
  clear hz
  obtain ⟨N, hN⟩ : ∃ N : ByteArray, N = ⟨(low n.data.toList).toArray⟩ := ⟨_, rfl⟩
  have HN := hid (show N.data.toList = low n.data.toList by rw [hN])
  have HNe := hid hN
  clear hN
  go_enter Tryd.func44, Tryd.ntmps44
  go_wp2_with fail
  refine (lower_any n _ hs).mono ?_
  rintro e w0 ⟨rfl, hb0⟩
  rw [← HNe.out]
  go_wp2
  go_loopw [5, 6, 11] (fun y x i wr => ∃ k : Nat, k ≤ L.length ∧ i = .int .i64 k ∧ (∀ j (hj : j < L.length), j < k → isN n.data.toList L[j] = false) ∧ Below w.heap.size w wr)
    (fun _ _ i _ => L.length - (intOf i).toNat)
  case atStart => exact ⟨0, Nat.zero_le _, rfl, fun j _ h => absurd h (by omega), hb0⟩
  case round =>
    obtain ⟨k, hk, rfl, hno, hbw⟩ := hrel
    have HO := hid hno
    have hwr := hbw.size
    clear hno
    by_cases hlt : k < L.length
    · have hlt' : (k : Int) < (L.length : Int) := by omega
      obtain ⟨b1, o1, rfl, e1, e2⟩ := V1.out k hlt
      have f1 : wr.cell? ⟨b1, o1 + k * 2, none⟩ = some (.string ⟨L[k].name.toArray⟩) := (hbw.cell (World.block_lt_of_cell? w _ e1)).trans e1
      have f2 : wr.cell? ⟨b1, o1 + k * 2 + 1, none⟩ = some (.string ⟨L[k].value.toArray⟩) := (hbw.cell (World.block_lt_of_cell? w _ e2)).trans e2
      clear e1 e2
      obtain ⟨nm, hnm⟩ : ∃ x : ByteArray, x = ⟨L[k].name.toArray⟩ := ⟨_, rfl⟩
      obtain ⟨vl, hvl⟩ : ∃ x : ByteArray, x = ⟨L[k].value.toArray⟩ := ⟨_, rfl⟩
      rw [← hnm] at f1
      rw [← hvl] at f2
      have hsz : nm.size ≤ 140737488351232 := by rw [hnm, xsize]; exact (HZ.out _ (List.getElem_mem hlt)).1
      have HM := hid hnm
      clear hnm hvl
      obtain ⟨M, hM⟩ : ∃ x : ByteArray, x = ⟨(low nm.data.toList).toArray⟩ := ⟨_, rfl⟩
      have HMe := hid hM
      clear hM
      go_wp2_with fail
      refine (lower_any nm _ hsz).mono ?_
      rintro e w1 ⟨rfl, hb1⟩
      rw [← HMe.out]
      have hbw1 := (hbw.alloc hwr (.cells #[.string nm, .string vl] 28)).trans (hb1.mono (by simp; omega))
      by_cases hmn : M = N
      · subst hmn
        have HS := hid (show isN n.data.toList L[k] = true by rw [isN, beq_iff_eq, ← HN.out, HMe.out, HM.out])
        go_wp2
        go_ret
        refine ⟨hbw1, .inr ⟨k, ?_, rfl⟩⟩
        unfold firstV
        rw [List.findIdx?_eq_some_iff_getElem]
        exact ⟨hlt, HS.out, fun j hj => by have := HO.out j (by omega) hj; simp [this]⟩
      · have hne := strNe hmn
        have HS := hid (show isN n.data.toList L[k] = false by
          rw [isN, beq_eq_false_iff_ne, ← HN.out]
          intro e
          exact hmn (xba (by rw [← e, HMe.out, HM.out])))
        clear hmn
        go_wp2
        go_roundw
        case rel =>
          refine ⟨k + 1, by omega, by go_num, fun j hj hjk => ?_, hbw1⟩
          by_cases he : j = k
          · subst he; exact HS.out
          · exact HO.out j hj (by omega)
        case measure => simp [intOf]; omega
    · go_wp2
      go_ret
      refine ⟨hbw, .inl ⟨?_, rfl⟩⟩
      unfold firstV
      rw [List.findIdx?_eq_none_iff]
      intro x hx
      obtain ⟨j, hj, rfl⟩ := List.getElem_of_mem hx
      exact HO.out j hj (by omega)

end Go.Proofs.YtknlmifjadolpaaDoor
