/-
  The walk of the document's own answer: ostiaryref5's Set.
-/
import Derived.Test.YtknlmifjadolpaaDoorZh
set_option linter.unusedSimpArgs false
set_option linter.unusedVariables false
namespace Go.Proofs.YtknlmifjadolpaaDoor
open Go.RowKit

set_option maxHeartbeats 4000000 in
set_option maxRecDepth 100000 in
theorem rset_any (vv : Value) (L : List Hd) (n v : ByteArray) (w : World) (h : HdAt w vv L) (hno : NilOk vv) (hl : L.length ≤ 1000000) (hn : n.size ≤ 140737488351232) (hv : v.size ≤ 9223372036854775807) (hz : Szd 140737488351232 L) :
    Calls Tryd.prog 24 #[vv, .string n, .string v] w (SetPost L n.data.toList v.data.toList w) := by
  obtain ⟨i0, hi, hz0, hz1, hz2⟩ := info3 infoHd
  have HL := hid h
  have HNo := hid hno
  have HZ := hid hz
  obtain ⟨a1, c1, rfl, hc1, hm1, hv1⟩ := h.view
  have V1 := hid hv1
  clear h hv1 hno hz
  obtain ⟨k0, hk⟩ : ∃ k, k = hdE n.data.toList v.data.toList := ⟨_, rfl⟩
  have hk3 : k0 = 0 ∨ k0 = 1 ∨ k0 = 3 := by rw [hk]; unfold hdE; split; exact .inr (.inl rfl); split; exact .inr (.inr rfl); exact .inl rfl
  have HK := hid hk
  clear hk
  have HErr := hid (show k0 ≠ 0 → setE L n.data.toList v.data.toList = k0 by
    intro h0
    unfold setE
    cases firstV L n.data.toList with
    | none => simp only; unfold addE; rw [← HK.out, if_pos h0]
    | some j => simp only; rw [← HK.out])
  go_enter Tryd.func24, Tryd.ntmps24
  go_wp2_with fail
  refine (fits_any n v _ hn hv).mono ?_
  rintro e w1 ⟨V, rfl, rfl, hNV⟩
  rw [← HK.out] at hNV
  rw [← HK.out]
  rcases hk3 with rfl | rfl | rfl
  rotate_left
  · have HE := hid (HErr.out (by decide))
    go_wp2
    go_ret2
    refine ⟨Below.refl _ _, .inl ⟨by rw [HE.out]; decide, by rw [HE.out]; rfl⟩⟩
  · have HE := hid (HErr.out (by decide))
    go_wp2
    go_ret2
    refine ⟨Below.refl _ _, .inl ⟨by rw [HE.out]; decide, by rw [HE.out]; rfl⟩⟩
  have HV := hid (hNV rfl)
  clear hNV HErr
  go_wp2
  go_loopw [10, 11, 12] (fun ov dv i wr => ∃ (k : Nat) (out : List Hd) (d : Bool), k ≤ L.length ∧ i = .int .i64 k ∧ dv = .bool d ∧ RsInv L n.data.toList V.data.toList k out d ∧ wr.ownsRow w.heap.size 28 2 ov out.length (cellsH out) ∧ Below w.heap.size w wr)
    (fun _ _ i _ => L.length - (intOf i).toNat)
  case atStart => exact ⟨0, [], false, Nat.zero_le _, rfl, rfl, ⟨rfl, rfl, Nat.le_refl _⟩, World.ownsRow_nil _ _ _ _, Below.refl _ _⟩
  case round =>
    obtain ⟨k, out, d, hk, rfl, rfl, hinv, hown, hbw⟩ := hrel
    have hol := hinv.2.2
    have HI := hid hinv
    have HO := hid hown
    have hwr := hbw.size
    clear hown hinv
    by_cases hlt : k < L.length
    · have hlt' : (k : Int) < (L.length : Int) := by omega
      obtain ⟨b1, o1, rfl, e1, e2⟩ := V1.out k hlt
      have f1 : wr.cell? ⟨b1, o1 + k * 2, none⟩ = some (.string ⟨L[k].name.toArray⟩) := (hbw.cell (World.block_lt_of_cell? w _ e1)).trans e1
      have f2 : wr.cell? ⟨b1, o1 + k * 2 + 1, none⟩ = some (.string ⟨L[k].value.toArray⟩) := (hbw.cell (World.block_lt_of_cell? w _ e2)).trans e2
      clear e1 e2
      obtain ⟨nm, hnm⟩ : ∃ x : ByteArray, x = ⟨L[k].name.toArray⟩ := ⟨_, rfl⟩
      obtain ⟨vl, hvl⟩ : ∃ x : ByteArray, x = ⟨L[k].value.toArray⟩ := ⟨_, rfl⟩
      rw [← hnm] at f1
      rw [← hvl] at f2
      have hsz : nm.size ≤ 140737488351232 := by rw [hnm, xsize]; exact (HZ.out _ (List.getElem_mem hlt)).1
      obtain ⟨q, hq⟩ : ∃ q, q = isN n.data.toList L[k] := ⟨_, rfl⟩
      have HNm : Hid (∀ w : World, Calls Tryd.prog 30 #[.agg #[.string nm, .string vl], .string n] w fun e w' => e = .returned (.bool q) ∧ Below w.heap.size w w') := fun w => by
        have := named_any nm vl n w hsz hn
        rw [show nm.data.toList = L[k].name by rw [hnm], isN_dec, ← hq] at this
        exact this
      have HVl := hid hvl
      have HM := hid hnm
      have HQ := hid hq
      clear hnm hvl hq
      go_wp2_with fail
      refine (HNm.out _).mono ?_
      rintro e w1 ⟨rfl, hb1⟩
      have hbw1 := hbw.trans (hb1.mono hwr)
      have hw1 := hbw1.size
      have g1 : w1.cell? ⟨b1, o1 + k * 2, none⟩ = some (.string nm) := (hb1.cell (World.block_lt_of_cell? wr _ f1)).trans f1
      have g2 : w1.cell? ⟨b1, o1 + k * 2 + 1, none⟩ = some (.string vl) := (hb1.cell (World.block_lt_of_cell? wr _ f2)).trans f2
      have HO1 := hid (own_same HO.out hb1)
      cases q with
      | false =>
        have HS := hid (HI.out.skip hlt HQ.out.symm)
        go_wp2_with (at_builtin; go_must (refine wpList_append_own _ rfl _ _ 22 rfl w.heap.size 28 i0 _ 2 32 Tryd.underlying22 hi hz0 hz1 hz2 rfl (by decide) _ _ _ rfl (HO1.out.alloc _) ⟨w1.heap.size, 0, none⟩ 1 1 [.string nm, .string vl] rfl rfl ?c1 ?c2 ?c3 ?c4 ?c5 ?_))
        case c1 =>
          intro q u hq
          match q, hq with
          | 0, hq => simp at hq; subst hq; simp [Addr.add]
          | 1, hq => simp at hq; subst hq; simp [Addr.add]
        case c2 => intro u hu; simp at hu; rcases hu with rfl | rfl <;> rfl
        case c3 => unfold maxLen; omega
        case c4 => omega
        case c5 => simp; omega
        intro v' w2 hown' hgrow hnil
        have HO2 := hid hown'
        have HB2 := hid (show Below w.heap.size w w2 from (hbw1.alloc hw1 _).grown hgrow (by simp; omega) (fun g hg => (HO1.out.lt g hg).1))
        clear hown' hgrow hnil
        go_wp2
        go_roundw
        case rel =>
          refine ⟨k + 1, out ++ [L[k]], d, by omega, by go_num, rfl, HS.out, ?_, HB2.out⟩
          rw [cellsH_app, List.length_append, ← hd_eta L[k] nm vl HM.out HVl.out]
          exact HO2.out
        case measure => simp [intOf]; omega
      | true =>
        cases d with
        | true =>
          have HS := hid (HI.out.pass hlt HQ.out.symm)
          go_wp2
          go_roundw
          case rel => exact ⟨k + 1, out, true, by omega, by go_num, rfl, HS.out, HO1.out, hbw1⟩
          case measure => simp [intOf]; omega
        | false =>
          have HS := hid (HI.out.place hlt HQ.out.symm)
          go_wp2_with (at_builtin; go_must (refine wpList_append_own _ rfl _ _ 22 rfl w.heap.size 28 i0 _ 2 32 Tryd.underlying22 hi hz0 hz1 hz2 rfl (by decide) _ _ _ rfl (HO1.out.alloc _) ⟨w1.heap.size, 0, none⟩ 1 1 [.string nm, .string V] rfl rfl ?d1 ?d2 ?d3 ?d4 ?d5 ?_))
          case d1 =>
            intro q u hq
            match q, hq with
            | 0, hq => simp at hq; subst hq; simp [Addr.add]
            | 1, hq => simp at hq; subst hq; simp [Addr.add]
          case d2 => intro u hu; simp at hu; rcases hu with rfl | rfl <;> rfl
          case d3 => unfold maxLen; omega
          case d4 => omega
          case d5 => simp; omega
          intro v' w2 hown' hgrow hnil
          have HO2 := hid hown'
          have HB2 := hid (show Below w.heap.size w w2 from (hbw1.alloc hw1 _).grown hgrow (by simp; omega) (fun g hg => (HO1.out.lt g hg).1))
          clear hown' hgrow hnil
          go_wp2
          go_roundw
          case rel =>
            refine ⟨k + 1, out ++ [⟨L[k].name, V.data.toList⟩], true, by omega, by go_num, rfl, HS.out, ?_, HB2.out⟩
            rw [cellsH_app, List.length_append, ← hd_eta ⟨L[k].name, V.data.toList⟩ nm V HM.out (xself V)]
            exact HO2.out
          case measure => simp [intOf]; omega
    · have hke : k = L.length := by omega
      subst hke
      have hi1 := HI.out.1
      have hi2 := HI.out.2.1
      rw [List.drop_length, List.take_length] at *
      have hi1' : out = rsetV n.data.toList V.data.toList false L := by rw [← hi1]; simp [rsetV]
      have HI1 := hid hi1'
      have HI2 := hid hi2
      clear hi1 hi2 hi1'
      cases d with
      | true =>
        have hs := rset_set L n.data.toList v.data.toList HI2.out.symm
        have HS := hid hs
        clear hs
        go_wp2
        go_ret2
        refine ⟨hbw, .inr ⟨by rw [HS.out.2, ← HK.out], _, rfl, ?_⟩⟩
        rw [← HS.out.1, ← HV.out, ← HI1.out]
        exact HO.out
      | false =>
        have hs := rset_add L n.data.toList v.data.toList HI2.out.symm
        have HS := hid hs
        clear hs
        go_wp2_with fail
        refine (radd_any _ L n v _ (HL.out.kept hbw) HNo.out hl hn hv).mono ?_
        rintro e w2 ⟨hb2, ⟨hne, rfl⟩ | ⟨he, v2, rfl, hown2⟩⟩
        · go_wp2
          go_ret2
          refine ⟨belowT hbw hb2, .inl ⟨by rw [HS.out.2]; exact hne, by rw [HS.out.2]; rfl⟩⟩
        · have HO2 := hid hown2
          clear hown2
          go_wp2
          go_ret2
          refine ⟨belowT hbw hb2, .inr ⟨by rw [HS.out.2]; exact he, _, rfl, ?_⟩⟩
          rw [HS.out.1, List.length_append]
          exact own_base HO2.out hbw.size

end Go.Proofs.YtknlmifjadolpaaDoor
