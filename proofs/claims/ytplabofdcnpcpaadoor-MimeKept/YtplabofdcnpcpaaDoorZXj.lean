/-
  What the library tells of texts, at this translation: Trim, Cut, CutPrefix, Join; the walk of headers' Get.
-/
import Derived.Test.YtplabofdcnpcpaaDoorZXi
import Derived.Test.YtplabofdcnpcpaaDoorZSh
import Derived.Test.YtplabofdcnpcpaaDoorZWj
import Derived.Shelf.Strings.SlTrimAscii
set_option linter.unusedSimpArgs false
set_option linter.unusedVariables false
namespace Go.Proofs.YtplabofdcnpcpaaDoor
open Go.RowKit

/-- What the library's own variable holds. -/
def G5 (w : World) : Prop := ∃ m, w.cell? ⟨0, 0, none⟩ = some (.int .i64 m)

theorem G5.kept {w w' : World} (h : G5 w) (hb : Below w.heap.size w w') : G5 w' := by
  obtain ⟨m, hm⟩ := h
  exact ⟨m, (hb.cell (World.block_lt_of_cell? w _ hm)).trans hm⟩

theorem cut5_any (s sep : ByteArray) (w : World) (hg : G5 w) (hs : s.size ≤ 4000000000) :
    Calls Tryd.prog 43 #[.string s, .string sep] w fun e w' => e = .returned (.tuple #[.string ⟨(Lib.cut s.data.toList sep.data.toList).1.toArray⟩, .string ⟨(Lib.cut s.data.toList sep.data.toList).2.1.toArray⟩, .bool (Lib.cut s.data.toList sep.data.toList).2.2]) ∧ Below w.heap.size w w' := by
  obtain ⟨m, hm⟩ := hg
  refine (Tryd.strings_Cut s sep m w (by omega) hm).mono ?_
  rintro e w' ⟨rfl, n, rfl⟩
  exact ⟨rfl, Go.below_drewN (Below.refl _ _) n⟩

theorem trim5_any (s c : ByteArray) (w : World) (hs : s.size ≤ 9223372036854775807) (hc : c.size < 4294967281) (ha : c.data.toList.all (fun b => decide (b.toNat < 128)) = true) :
    Calls Tryd.prog 31 #[.string s, .string c] w fun e w' => e = .returned (.string ⟨(Lib.trimS s.data.toList c.data.toList).toArray⟩) ∧ Below w.heap.size w w' :=
  Any.strings_Trim_laid Tryd.lays160 (by kernel_rfl) s c w hs hc (ascii_of_all ha)

theorem trimB_any (s : ByteArray) (w : World) (hs : s.size ≤ 9223372036854775807) :
    Calls Tryd.prog 31 #[.string s, .string ⟨#[9, 32]⟩] w fun e w' => e = .returned (.string ⟨(trimB s.data.toList).toArray⟩) ∧ Below w.heap.size w w' :=
  trim5_any s ⟨#[9, 32]⟩ w hs (by decide) (by decide)

theorem join5_any (v : Value) (L : List (List UInt8)) (sep : ByteArray) (w : World) (h : TxAt w v L) (hl : L.length ≤ 140737488355328) (hf : (Lib.join L sep.data.toList).length ≤ 140737488355328) :
    Calls Tryd.prog 55 #[v, .string sep] w fun e w' => e = .returned (.string ⟨(Lib.join L sep.data.toList).toArray⟩) ∧ Below w.heap.size w w' := by
  obtain ⟨a, cap, rfl, h3, h4, h5⟩ := h
  by_cases h0 : L = []
  · subst h0
    refine (Tryd.strings_Join_none a cap sep w).mono ?_
    rintro e w' ⟨rfl, rfl⟩
    exact ⟨rfl, Below.refl _ _⟩
  · have hl0 : 0 < L.length := List.length_pos_iff.2 h0
    obtain ⟨b, off, rfl, c0⟩ := h5 0 hl0
    have h2 : b < w.heap.size := World.block_lt_of_cell? w _ c0
    have e1 : (L.map fun x => (⟨x.toArray⟩ : ByteArray)).map (·.data.toList) = L := by
      rw [List.map_map]
      exact List.map_id L
    have hj := Tryd.strings_Join b off cap (L.map fun x => (⟨x.toArray⟩ : ByteArray)) sep w ?_ h2 (by simp; omega) (by simp; omega) ?_
    · rw [e1, List.length_map] at hj
      exact hj
    · intro j x hx
      rw [List.getElem?_map] at hx
      obtain ⟨y, hy, rfl⟩ := Option.map_eq_some_iff.1 hx
      obtain ⟨hj, e⟩ := List.getElem?_eq_some_iff.1 hy
      obtain ⟨b', off', e', c'⟩ := h5 j hj
      cases e'
      rw [c', e]
    · rw [e1]; omega

/-- How many bytes all values have. -/
def bulkV (L : List Hd) : Nat := (L.map fun h => h.value.length + 2).sum

theorem join_len (L : List (List UInt8)) (sep : List UInt8) : (Lib.join L sep).length ≤ (L.map fun x => x.length + sep.length).sum := by
  unfold Lib.join
  induction L with
  | nil => simp
  | cons x r ih =>
    cases r with
    | nil => simp [List.intercalate]
    | cons y r => simp [List.intercalate] at ih ⊢; omega

theorem selV_len (L : List Hd) (n : List UInt8) : (selV L n).length ≤ L.length := by
  unfold selV; simp [List.length_filter_le]

theorem getT_len (L : List Hd) (n : List UInt8) : (getT L n).length ≤ bulkV L := by
  refine Nat.le_trans (join_len _ _) ?_
  unfold selV bulkV
  rw [List.map_map]
  induction L with
  | nil => simp
  | cons h L ih =>
    by_cases hh : isN n h = true
    · simp [List.filter_cons, hh] at ih ⊢; omega
    · simp [List.filter_cons, hh] at ih ⊢; omega

theorem selV_low (L : List Hd) (n : List UInt8) (N : ByteArray) (h : N.data.toList = low n) (hd : Hd) : isN n hd = (low hd.name == N.data.toList) := by rw [h]; rfl

/-- The texts of each header are of some size. -/
def Szd (n : Nat) (L : List Hd) : Prop := ∀ h ∈ L, h.name.length ≤ n ∧ h.value.length ≤ n

theorem strNe {M N : ByteArray} (h : ¬ M = N) : (M.toList == N.toList) = false := by
  rw [Lib.toList_data, Lib.toList_data]
  rw [beq_eq_false_iff_ne]
  exact fun e => h (xba e)

theorem xret_sb {a b : ByteArray} {x y : Bool} (h : a = b) (g : x = y) : Ending.returned (.tuple #[.string a, .bool x]) = .returned (.tuple #[.string b, .bool y]) := by rw [h, g]

set_option maxHeartbeats 2000000 in
set_option maxRecDepth 100000 in
theorem get_any (v : Value) (L : List Hd) (n : ByteArray) (w : World) (h : HdAt w v L) (hs : n.size ≤ 140737488351232) (hz : Szd 140737488351232 L) (hl : L.length ≤ 1000000) (hb : bulkV L ≤ 140737488355328) :
    Calls Tryd.prog 29 #[v, .string n] w fun e w' => e = .returned (.tuple #[.string ⟨(getT L n.data.toList).toArray⟩, .bool (getB L n.data.toList)]) ∧ Below w.heap.size w w' := by
  obtain ⟨a1, c1, rfl, hc1, hm1, hv1⟩ := h.view
  have V1 := hid hv1
  clear h hv1
  obtain ⟨i0, hi, hz0, hz1, hz2⟩ := info3 infoTx
  have HZ := hid hz
  have HB := hid hb
  clear hz hb
  obtain ⟨N, hN⟩ : ∃ N : ByteArray, N = ⟨(low n.data.toList).toArray⟩ := ⟨_, rfl⟩
  have HN := hid (show N.data.toList = low n.data.toList by rw [hN])
  have HNe := hid hN
  clear hN
  go_enter Tryd.func29, Tryd.ntmps29
  go_wp2_with (go_at_call 33; refine (lower_any n _ hs).mono ?_)
  rintro e w0 ⟨rfl, hb0⟩
  rw [← HNe.out]
  go_wp2
  go_loopw [6, 8, 13] (fun vv x i wr => ∃ k : Nat, k ≤ L.length ∧ i = .int .i64 k ∧ wr.ownsRow w.heap.size 9 1 vv (selV (L.take k) n.data.toList).length (cellsT (selV (L.take k) n.data.toList)) ∧ Below w.heap.size w wr)
    (fun _ _ i _ => L.length - (intOf i).toNat)
  case atStart => exact ⟨0, Nat.zero_le _, rfl, World.ownsRow_nil _ _ _ _, hb0⟩
  case round =>
    obtain ⟨k, hk, rfl, hown, hbw⟩ := hrel
    have HO := hid hown
    have hwr := hbw.size
    clear hown
    by_cases hlt : k < L.length
    · have hlt' : (k : Int) < (L.length : Int) := by omega
      obtain ⟨b1, o1, rfl, e1, e2⟩ := V1.out k hlt
      have f1 : wr.cell? ⟨b1, o1 + k * 2, none⟩ = some (.string ⟨L[k].name.toArray⟩) := (hbw.cell (World.block_lt_of_cell? w _ e1)).trans e1
      have f2 : wr.cell? ⟨b1, o1 + k * 2 + 1, none⟩ = some (.string ⟨L[k].value.toArray⟩) := (hbw.cell (World.block_lt_of_cell? w _ e2)).trans e2
      clear e1 e2
      obtain ⟨nm, hnm⟩ : ∃ x : ByteArray, x = ⟨L[k].name.toArray⟩ := ⟨_, rfl⟩
      obtain ⟨vl, hvl⟩ : ∃ x : ByteArray, x = ⟨L[k].value.toArray⟩ := ⟨_, rfl⟩
      rw [← hnm] at f1
      rw [← hvl] at f2
      have hsz : nm.size ≤ 140737488351232 := by rw [hnm, xsize]; exact (HZ.out _ (List.getElem_mem hlt)).1
      have HV := hid hvl
      have HM := hid hnm
      clear hnm hvl
      have HT := hid (show L.take (k + 1) = L.take k ++ [L[k]] by rw [List.take_add_one, List.getElem?_eq_getElem hlt]; rfl)
      obtain ⟨M, hM⟩ : ∃ x : ByteArray, x = ⟨(low nm.data.toList).toArray⟩ := ⟨_, rfl⟩
      have HMe := hid hM
      clear hM
      go_wp2_with fail
      refine (lower_any nm _ hsz).mono ?_
      rintro e w1 ⟨rfl, hb1⟩
      rw [← HMe.out]
      have hbw1 := (hbw.alloc hwr (.cells #[.string nm, .string vl] 38)).trans (hb1.mono (by simp; omega))
      have g2 : w1.cell? ⟨wr.heap.size, 1, none⟩ = some (.string vl) := (hb1.cell (p := ⟨wr.heap.size, 1, none⟩) (by simp)).trans (by simp [go_sem])
      have HO1 := hid (own_same (HO.out.alloc (.cells #[.string nm, .string vl] 38)) hb1)
      have hw1 := hbw1.size
      by_cases hmn : M = N
      · subst hmn
        have HS := hid (show selV (L.take (k + 1)) n.data.toList = selV (L.take k) n.data.toList ++ [vl.data.toList] by
          rw [HT.out, selV_snoc, if_pos, HV.out]
          rw [isN, beq_iff_eq, ← HN.out, HMe.out, HM.out])
        go_wp2_with (at_builtin; go_must (refine wpList_append_own _ rfl _ _ 33 rfl w.heap.size 9 i0 (.string ByteArray.empty) 1 16 Tryd.underlying33 hi hz0 hz1 hz2 rfl (by decide) _ _ _ rfl (HO1.out.alloc _) ⟨w1.heap.size, 0, none⟩ 1 1 [.string vl] rfl rfl ?c1 ?c2 ?c3 ?c4 ?c5 ?_))
        case c1 =>
          intro q u hq
          match q, hq with
          | 0, hq => simp at hq; subst hq; simp [Addr.add]
        case c2 => intro u hu; simp at hu; subst hu; rfl
        case c3 => have := selV_len (L.take k) n.data.toList; simp at this; unfold maxLen; omega
        case c4 => have := selV_len (L.take k) n.data.toList; simp at this; omega
        case c5 => simp; omega
        intro v' w2 hown' hgrow hnil
        have HO2 := hid hown'
        have HB2 := hid (show Below w.heap.size w w2 from (hbw1.alloc hw1 _).grown hgrow (by simp; omega) (fun g hg => (HO1.out.lt g hg).1))
        clear hown' hgrow hnil
        go_wp2
        go_roundw
        case rel =>
          refine ⟨k + 1, by omega, by go_num, ?_, HB2.out⟩
          rw [HS.out, cellsT_app, cellsT_one, List.length_append]
          exact HO2.out
        case measure => simp [intOf]; omega
      · have hne := strNe hmn
        have HS := hid (show selV (L.take (k + 1)) n.data.toList = selV (L.take k) n.data.toList by
          rw [HT.out, selV_snoc, if_neg, List.append_nil]
          rw [isN, beq_iff_eq, ← HN.out]
          intro e
          exact hmn (xba (by rw [← e, HMe.out, HM.out])))
        clear hmn
        go_wp2
        go_roundw
        case rel =>
          refine ⟨k + 1, by omega, by go_num, ?_, hbw1⟩
          rw [HS.out]
          exact HO1.out
        case measure => simp [intOf]; omega
    · have hke : k = L.length := by omega
      subst hke
      have HT := hid (show selV (L.take L.length) n.data.toList = selV L n.data.toList by rw [List.take_length])
      have hown := HO.out
      rw [HT.out] at hown
      have hta := own_txt' hown
      obtain ⟨q, hq⟩ : ∃ q, q = selV L n.data.toList := ⟨_, rfl⟩
      have HQ := hid hq
      rw [← hq] at hown hta
      have hql : q.length ≤ L.length := by rw [hq]; exact selV_len _ _
      obtain ⟨a2, c2, rfl, _, _, _⟩ := hta.view
      have HA := hid hta
      clear hown hta hq HT HO
      have hjl : (Lib.join q [44, 32]).length ≤ 140737488355328 := by
        have h1 := getT_len L n.data.toList
        rw [getT, ← HQ.out] at h1
        exact Nat.le_trans h1 HB.out
      have HJ := hid (join5_any _ q ⟨#[44, 32]⟩ wr HA.out (by omega) hjl)
      clear hjl
      go_wp2_with fail
      refine HJ.out.mono ?_
      rintro e w3 ⟨rfl, hb3⟩
      go_wp2
      go_ret2
      refine ⟨xret_sb (xext ?_) ?_, hbw.trans (hb3.mono hwr)⟩
      · rw [getT, ← HQ.out]
      · rw [getB, ← HQ.out]
        cases q with
        | nil => rfl
        | cons x y => simp

end Go.Proofs.YtplabofdcnpcpaaDoor
