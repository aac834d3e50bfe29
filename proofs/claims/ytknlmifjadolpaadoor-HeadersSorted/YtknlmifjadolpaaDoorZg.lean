/-
  The walks of the document's own answers: ostiaryref5's Value, fits, Drop, Add.
-/
import Derived.Test.YtknlmifjadolpaaDoorZf
import Derived.Laws.AppendOwnNone
set_option linter.unusedSimpArgs false
set_option linter.unusedVariables false
namespace Go.Proofs.YtknlmifjadolpaaDoor
open Go.RowKit

theorem badC_int (c : UInt8) : badC c = ((c.toNat : Int) == 0 || ((c.toNat : Int) == 10 || (c.toNat : Int) == 13)) := by
  have e0 := byteInt c 0 (by omega)
  have e10 := byteInt c 10 (by omega)
  have e13 := byteInt c 13 (by omega)
  have f0 : ((c.toNat : Int) == 0) = decide (c = 0) := e0
  have f10 : ((c.toNat : Int) == 10) = decide (c = 10) := e10
  have f13 : ((c.toNat : Int) == 13) = decide (c = 13) := e13
  rw [f0, f10, f13]
  unfold badC
  rw [Bool.eq_iff_iff]; simp

set_option maxHeartbeats 2000000 in
theorem rvalue_any (s : ByteArray) (w : World) (hs : s.size ≤ 9223372036854775807) :
    Calls Tryd.prog 86 #[.string s] w fun e w' => e = .returned (.tuple #[.string ⟨(valA s.data.toList).toArray⟩, .bool (valB s.data.toList)]) ∧ w = w' := by
  obtain ⟨T, hT⟩ : ∃ x : ByteArray, x = ⟨(valT s.data.toList).toArray⟩ := ⟨_, rfl⟩
  have hTs : T.size ≤ 9223372036854775807 := by have := trimS_le s.data.toList [9, 10, 13, 32]; rw [hT, xsize]; unfold valT; simp at this; omega
  have HB := hid (show valB s.data.toList = !T.data.toList.any badC by rw [hT]; rfl)
  have HA := hid (show valA s.data.toList = if valB s.data.toList then T.data.toList else [] by unfold valA; rw [hT])
  have HTr : Hid (∀ w : World, Calls Tryd.prog 102 #[.string s, .bool false] w fun e w' => e = .returned (.string T) ∧ w = w') := fun w => by
    have := rtrim_any s w hs
    rw [← hT] at this
    exact this
  clear hT
  go_enter Tryd.func86, Tryd.ntmps86
  go_wp2_with fail
  refine (HTr.out _).mono ?_
  rintro e w1 ⟨rfl, rfl⟩
  go_wp2
  go_loop [4] (fun i => ∃ k : Nat, k ≤ T.size ∧ i = .int .i64 k ∧ (T.data.toList.take k).any badC = false) (fun i => T.size - (intOf i).toNat)
  case atStart => exact ⟨0, Nat.zero_le _, rfl, rfl⟩
  case round =>
    obtain ⟨k, hk, rfl, hno⟩ := hrel
    have HN := hid hno
    clear hno
    by_cases hlt : k < T.size
    · have HT := hid (take_snoc T k hlt)
      have hb8 := T[k].toNat_lt
      have HC := hid (badC_int T[k])
      have hbad : badC T[k] = true → Ending.returned (.tuple #[.string ⟨#[]⟩, .bool false]) = .returned (.tuple #[.string ⟨(valA s.data.toList).toArray⟩, .bool (valB s.data.toList)]) := fun h => by
        have hv : valB s.data.toList = false := by
          rw [HB.out]
          have : T.data.toList.any badC = true := by
            rw [List.any_eq_true]
            refine ⟨T[k], ?_, h⟩
            have : T[k] = T.data.toList[k]'(by simpa using hlt) := rfl
            rw [this]; exact List.getElem_mem _
          rw [this]; rfl
        rw [HA.out, hv]; rfl
      have HBad := hid hbad
      clear hbad
      by_cases h0 : (T[k].toNat : Int) = 0
      · have hbt := hid (show badC T[k] = true by rw [HC.out]; simp [h0])
        go_wp2
        go_ret2
        exact ⟨HBad.out hbt.out, rfl⟩
      · have h0' : ((T[k].toNat : Int) == 0) = false := by simpa using h0
        by_cases h10 : (T[k].toNat : Int) = 10
        · have hbt := hid (show badC T[k] = true by rw [HC.out]; simp [h10])
          clear h0
          go_wp2
          go_ret2
          exact ⟨HBad.out hbt.out, rfl⟩
        · have h10' : ((T[k].toNat : Int) == 10) = false := by simpa using h10
          by_cases h13 : (T[k].toNat : Int) = 13
          · have hbt := hid (show badC T[k] = true by rw [HC.out]; simp [h13])
            clear h0 h10
            go_wp2
            go_ret2
            exact ⟨HBad.out hbt.out, rfl⟩
          · have h13' : ((T[k].toNat : Int) == 13) = false := by simpa using h13
            have HG := hid (show (T.data.toList.take (k + 1)).any badC = false by rw [HT.out, List.any_append, HN.out]; simp [HC.out, h0', h10', h13'])
            clear h0 h10 h13
            go_wp2
            go_round
            case rel => exact ⟨k + 1, by omega, by go_num, HG.out⟩
            case measure => simp [intOf]; omega
    · have ha := HN.out
      rw [take_all T k hlt] at ha
      have HV := hid (show valB s.data.toList = true by rw [HB.out, ha]; rfl)
      clear ha
      go_wp2
      go_ret2
      exact ⟨xret_sb (xext (by rw [HA.out, HV.out]; rfl)) HV.out.symm, rfl⟩

theorem ret_si {a b : ByteArray} {x y : Int} (h : a = b) (g : x = y) : Ending.returned (.tuple #[.string a, .int .i64 x]) = .returned (.tuple #[.string b, .int .i64 y]) := by rw [h, g]

set_option maxHeartbeats 1000000 in
theorem fits_any (n v : ByteArray) (w : World) (hn : n.size ≤ 140737488351232) (hv : v.size ≤ 9223372036854775807) :
    Calls Tryd.prog 57 #[.string n, .string v] w fun e w' => ∃ V : ByteArray, e = .returned (.tuple #[.string V, .int .i64 (hdE n.data.toList v.data.toList : Int)]) ∧ w = w' ∧ (hdE n.data.toList v.data.toList = 0 → V.data.toList = valT v.data.toList) := by
  obtain ⟨T, hT⟩ : ∃ x : ByteArray, x = ⟨(valA v.data.toList).toArray⟩ := ⟨_, rfl⟩
  obtain ⟨ok, hok⟩ : ∃ x, x = valB v.data.toList := ⟨_, rfl⟩
  obtain ⟨tk, htk⟩ : ∃ x, x = tokL n.data.toList := ⟨_, rfl⟩
  have HV : Hid (∀ w : World, Calls Tryd.prog 86 #[.string v] w fun e w' => e = .returned (.tuple #[.string T, .bool ok]) ∧ w = w') := fun w => by
    have := rvalue_any v w hv
    rw [← hT, ← hok] at this
    exact this
  have HTk : Hid (∀ w : World, Calls Tryd.prog 87 #[.string n] w fun e w' => e = .returned (.bool tk) ∧ w = w') := fun w => by
    have := rtoken_any n w hn
    rw [← htk] at this
    exact this
  have HE := hid (show hdE n.data.toList v.data.toList = if ok = false ∨ tk = false then 1 else if 4096 < n.size ∨ 4096 < (valT v.data.toList).length then 3 else 0 by unfold hdE; rw [hok, htk]; simp)
  have HT := hid (show ok = true → T.data.toList = valT v.data.toList by intro h; rw [hT]; show valA _ = _; unfold valA; rw [← hok, if_pos h])
  have hTs : T.size ≤ 9223372036854775807 := by
    rw [hT, xsize]; unfold valA
    split
    · have := trimS_le v.data.toList [9, 10, 13, 32]; unfold valT; simp at this; omega
    · simp
  clear hT hok htk
  cases tk with
  | false =>
    have HEk := hid (show hdE n.data.toList v.data.toList = 1 by rw [HE.out, if_pos (.inr rfl)])
    go_enter Tryd.func57, Tryd.ntmps57
    go_wp2_with (first | (go_at_call 86; refine (HV.out _).mono ?_; rintro e w' ⟨rfl, rfl⟩) | (go_at_call 87; refine (HTk.out _).mono ?_; rintro e w' ⟨rfl, rfl⟩))
    go_ret2
    exact ⟨_, ret_si rfl (by rw [HEk.out]; rfl), rfl, fun h => by rw [HEk.out] at h; cases h⟩
  | true =>
    cases ok with
    | false =>
      have HEk := hid (show hdE n.data.toList v.data.toList = 1 by rw [HE.out, if_pos (.inl rfl)])
      go_enter Tryd.func57, Tryd.ntmps57
      go_wp2_with (first | (go_at_call 86; refine (HV.out _).mono ?_; rintro e w' ⟨rfl, rfl⟩) | (go_at_call 87; refine (HTk.out _).mono ?_; rintro e w' ⟨rfl, rfl⟩))
      go_ret2
      exact ⟨_, ret_si rfl (by rw [HEk.out]; rfl), rfl, fun h => by rw [HEk.out] at h; cases h⟩
    | true =>
      have hTl : T.data.toList = valT v.data.toList := HT.out rfl
      have hTz : T.size = (valT v.data.toList).length := by rw [← hTl]; simp
      have hE2 : hdE n.data.toList v.data.toList = if 4096 < n.size ∨ 4096 < T.size then 3 else 0 := by rw [HE.out, if_neg (by simp), hTz]
      have HTl := hid hTl
      clear hTl hTz
      by_cases h1 : 4096 < n.size
      · have HEk := hid (show hdE n.data.toList v.data.toList = 3 by rw [hE2, if_pos (.inl h1)])
        have h1' : (4096 : Int) < (n.size : Int) := by omega
        clear hE2
        go_enter Tryd.func57, Tryd.ntmps57
        go_wp2_with (first | (go_at_call 86; refine (HV.out _).mono ?_; rintro e w' ⟨rfl, rfl⟩) | (go_at_call 87; refine (HTk.out _).mono ?_; rintro e w' ⟨rfl, rfl⟩))
        go_ret2
        exact ⟨_, ret_si rfl (by rw [HEk.out]; rfl), rfl, fun h => by rw [HEk.out] at h; cases h⟩
      · have h1' : decide ((4096 : Int) < (n.size : Int)) = false := by rw [decide_eq_false_iff_not]; omega
        by_cases h2 : 4096 < T.size
        · have HEk := hid (show hdE n.data.toList v.data.toList = 3 by rw [hE2, if_pos (.inr h2)])
          have h2' : (4096 : Int) < (T.size : Int) := by omega
          clear hE2
          go_enter Tryd.func57, Tryd.ntmps57
          go_wp2_with (first | (go_at_call 86; refine (HV.out _).mono ?_; rintro e w' ⟨rfl, rfl⟩) | (go_at_call 87; refine (HTk.out _).mono ?_; rintro e w' ⟨rfl, rfl⟩))
          go_ret2
          exact ⟨_, ret_si rfl (by rw [HEk.out]; rfl), rfl, fun h => by rw [HEk.out] at h; cases h⟩
        · have HEk := hid (show hdE n.data.toList v.data.toList = 0 by rw [hE2, if_neg (by omega)])
          have h2' : ¬ (4096 : Int) < (T.size : Int) := by omega
          clear hE2
          go_enter Tryd.func57, Tryd.ntmps57
          go_wp2_with (first | (go_at_call 86; refine (HV.out _).mono ?_; rintro e w' ⟨rfl, rfl⟩) | (go_at_call 87; refine (HTk.out _).mono ?_; rintro e w' ⟨rfl, rfl⟩))
          go_ret2
          exact ⟨T, ret_si rfl (by rw [HEk.out]; rfl), rfl, fun _ => HTl.out⟩

theorem isN_dec (n : List UInt8) (h : Hd) : decide (low h.name = low n) = isN n h := by
  unfold isN; rw [Bool.eq_iff_iff]; simp

set_option maxHeartbeats 2000000 in
set_option maxRecDepth 100000 in
theorem rdrop_any (v : Value) (L : List Hd) (n : ByteArray) (w : World) (h : HdAt w v L) (hs : n.size ≤ 140737488351232) (hz : Szd 140737488351232 L) (hl : L.length ≤ 1000000) :
    Calls Tryd.prog 26 #[v, .string n] w (HdPost (dropV L n.data.toList) w) := by
  obtain ⟨a1, c1, rfl, hc1, hm1, hv1⟩ := h.view
  have V1 := hid hv1
  clear h hv1
  obtain ⟨i0, hi, hz0, hz1, hz2⟩ := info3 infoHd
  have HZ := hid hz
  clear hz
  go_enter Tryd.func26, Tryd.ntmps26
  go_wp2
  go_loopw [5, 6] (fun vv i wr => ∃ k : Nat, k ≤ L.length ∧ i = .int .i64 k ∧ wr.ownsRow w.heap.size 28 2 vv (dropV (L.take k) n.data.toList).length (cellsH (dropV (L.take k) n.data.toList)) ∧ Below w.heap.size w wr)
    (fun _ i _ => L.length - (intOf i).toNat)
  case atStart => exact ⟨0, Nat.zero_le _, rfl, World.ownsRow_nil _ _ _ _, Below.refl _ _⟩
  case round =>
    obtain ⟨k, hk, rfl, hown, hbw⟩ := hrel
    have HO := hid hown
    have hwr := hbw.size
    clear hown
    by_cases hlt : k < L.length
    · have hlt' : (k : Int) < (L.length : Int) := by omega
      obtain ⟨b1, o1, rfl, e1, e2⟩ := V1.out k hlt
      have f1 : wr.cell? ⟨b1, o1 + k * 2, none⟩ = some (.string ⟨L[k].name.toArray⟩) := (hbw.cell (World.block_lt_of_cell? w _ e1)).trans e1
      have f2 : wr.cell? ⟨b1, o1 + k * 2 + 1, none⟩ = some (.string ⟨L[k].value.toArray⟩) := (hbw.cell (World.block_lt_of_cell? w _ e2)).trans e2
      clear e1 e2
      obtain ⟨nm, hnm⟩ : ∃ x : ByteArray, x = ⟨L[k].name.toArray⟩ := ⟨_, rfl⟩
      obtain ⟨vl, hvl⟩ : ∃ x : ByteArray, x = ⟨L[k].value.toArray⟩ := ⟨_, rfl⟩
      rw [← hnm] at f1
      rw [← hvl] at f2
      have hsz : nm.size ≤ 140737488351232 := by rw [hnm, xsize]; exact (HZ.out _ (List.getElem_mem hlt)).1
      obtain ⟨q, hq⟩ : ∃ q, q = isN n.data.toList L[k] := ⟨_, rfl⟩
      have HNm : Hid (∀ w : World, Calls Tryd.prog 30 #[.agg #[.string nm, .string vl], .string n] w fun e w' => e = .returned (.bool q) ∧ Below w.heap.size w w') := fun w => by
        have := named_any nm vl n w hsz hs
        rw [show nm.data.toList = L[k].name by rw [hnm], isN_dec, ← hq] at this
        exact this
      have HV := hid hvl
      have HM := hid hnm
      have HQ := hid hq
      clear hnm hvl hq
      have HT := hid (show L.take (k + 1) = L.take k ++ [L[k]] by rw [List.take_add_one, List.getElem?_eq_getElem hlt]; rfl)
      have hdl := dropV_len (L.take k) n.data.toList
      rw [List.length_take] at hdl
      go_wp2_with fail
      refine (HNm.out _).mono ?_
      rintro e w1 ⟨rfl, hb1⟩
      have hbw1 := hbw.trans (hb1.mono hwr)
      have hw1 := hbw1.size
      have g1 : w1.cell? ⟨b1, o1 + k * 2, none⟩ = some (.string nm) := (hb1.cell (World.block_lt_of_cell? wr _ f1)).trans f1
      have g2 : w1.cell? ⟨b1, o1 + k * 2 + 1, none⟩ = some (.string vl) := (hb1.cell (World.block_lt_of_cell? wr _ f2)).trans f2
      have HO1 := hid (own_same HO.out hb1)
      cases q with
      | true =>
        have HS := hid (show dropV (L.take (k + 1)) n.data.toList = dropV (L.take k) n.data.toList by
          rw [HT.out, dropV_snoc, if_pos HQ.out.symm, List.append_nil])
        go_wp2
        go_roundw
        case rel =>
          refine ⟨k + 1, by omega, by go_num, ?_, hbw1⟩
          rw [HS.out]
          exact HO1.out
        case measure => simp [intOf]; omega
      | false =>
        have HS := hid (show dropV (L.take (k + 1)) n.data.toList = dropV (L.take k) n.data.toList ++ [L[k]] by
          rw [HT.out, dropV_snoc, if_neg (by rw [← HQ.out]; simp)])
        go_wp2_with (at_builtin; go_must (refine wpList_append_own _ rfl _ _ 22 rfl w.heap.size 28 i0 _ 2 32 Tryd.underlying22 hi hz0 hz1 hz2 rfl (by decide) _ _ _ rfl (HO1.out.alloc _) ⟨w1.heap.size, 0, none⟩ 1 1 [.string nm, .string vl] rfl rfl ?c1 ?c2 ?c3 ?c4 ?c5 ?_))
        case c1 =>
          intro q u hq
          match q, hq with
          | 0, hq => simp at hq; subst hq; simp [Addr.add]
          | 1, hq => simp at hq; subst hq; simp [Addr.add]
        case c2 => intro u hu; simp at hu; rcases hu with rfl | rfl <;> rfl
        case c3 => unfold maxLen; omega
        case c4 => omega
        case c5 => simp; omega
        intro v' w2 hown' hgrow hnil
        have HO2 := hid hown'
        have HB2 := hid (show Below w.heap.size w w2 from (hbw1.alloc hw1 _).grown hgrow (by simp; omega) (fun g hg => (HO1.out.lt g hg).1))
        clear hown' hgrow hnil
        go_wp2
        go_roundw
        case rel =>
          refine ⟨k + 1, by omega, by go_num, ?_, HB2.out⟩
          rw [HS.out, cellsH_app, List.length_append, ← hd_eta L[k] nm vl HM.out HV.out]
          exact HO2.out
        case measure => simp [intOf]; omega
    · have hke : k = L.length := by omega
      subst hke
      have HT := hid (show dropV (L.take L.length) n.data.toList = dropV L n.data.toList by rw [List.take_length])
      go_wp2
      go_ret
      refine ⟨_, rfl, ?_, hbw⟩
      rw [← HT.out]
      exact HO.out

end Go.Proofs.YtknlmifjadolpaaDoor
