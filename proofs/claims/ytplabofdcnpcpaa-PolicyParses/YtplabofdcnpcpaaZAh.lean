/-
  The walk of policy's Parse.
-/
import Derived.Test.YtplabofdcnpcpaaZAg
set_option linter.unusedSimpArgs false
set_option linter.unusedVariables false
namespace Go.Proofs.Ytplabofdcnpcpaa
open Go.RowKit

def szOf (v : Value) : Nat := match v with | .string s => s.size | _ => 0
def boOf (v : Value) : Nat := match v with | .bool true => 1 | _ => 0

theorem ruleV_nil {l : List UInt8} (h : words9 l = []) : ruleV l = none := by unfold ruleV; rw [h]
theorem ruleV_cons {l x : List UInt8} {t : List (List UInt8)} (h : words9 l = x :: t) : ruleV l = some ⟨low x, t⟩ := by unfold ruleV; rw [h]

set_option maxHeartbeats 4000000 in
set_option maxRecDepth 100000 in
theorem parse10 (s : ByteArray) (rp : Bool) (w : World) (hs : s.size ≤ 1000000000) :
    Calls Try.prog 14 #[.string s, .bool rp] w (ParsePost10 s.data.toList rp w) := by
  obtain ⟨i0, hi, hz0, hz1, hz2⟩ := info_parts infoRu
  obtain ⟨l, hl⟩ : ∃ l, l = s.data.toList := ⟨_, rfl⟩
  have HL := hid hl
  have HSZ := hid (show l.length ≤ 1000000000 by rw [hl, ← Lib.size_eq]; exact hs)
  have HJ0 := hid (show PJ l true s [] from ⟨by rw [hl]; rfl, by simp, by rw [hl, Lib.size_eq]; exact Nat.le_refl _⟩)
  have HI0 := hid (show PI w ((w.alloc (.cells #[.slice none 0 0, .bool false] 33)).alloc (.cells #[.slice none 0 0, .bool rp] 33)) rp (.slice none 0 0) [] [] from
    ⟨(Lib.alloc_old _ _ _ (by simp)).trans (heap_alloc_new w _), by have := heap_alloc_new (w.alloc (.cells #[.slice none 0 0, .bool false] 33)) (.cells #[.slice none 0 0, .bool rp] 33); simpa using this, World.ownsRow_nil _ _ _ _, RdO.nil _ _, ((Below.refl _ w).alloc (Nat.le_refl _) _).alloc (by simp) _⟩)
  rw [← hl]
  clear hl hs
  go_enter Try.func14, Try.ntmps14
  go_wp2_with fail
  go_loopw [0, 6] (fun v0 v6 wr => ∃ (S : ByteArray) (mo : Bool) (a : Option Addr) (n c : Nat) (Q : List (ByteArray × Value)) (L : List Ru), v0 = .string S ∧ v6 = .bool mo ∧ n ≤ 32 ∧ Hid (n = L.length ∧ PJ l mo S L ∧ PI w wr rp (.slice a n c) Q L)) (fun v0 v6 _ => szOf v0 + boOf v6)
  case atStart => exact ⟨s, true, none, 0, 0, [], [], rfl, rfl, by decide, rfl, HJ0.out, HI0.out⟩
  case round =>
    clear HJ0 HI0
    obtain ⟨S, mo, a, n, c, Q, L, rfl, rfl, hn32, HR⟩ := hrel
    obtain ⟨c0, c1, z0⟩ := HR.out.2.2.cells
    have c4a : wr.cell? ⟨w.heap.size, 0, none⟩ = some (.slice none 0 0) := by rw [Lib.cell_of_heap HR.out.2.2.1]; rfl
    have c4b : wr.cell? ⟨w.heap.size, 1, none⟩ = some (.bool false) := by rw [Lib.cell_of_heap HR.out.2.2.1]; rfl
    have z4a : wr.frozen? ⟨w.heap.size, 0, none⟩ = false := Lib.frozen_of_heap HR.out.2.2.1 0
    have z4b : wr.frozen? ⟨w.heap.size, 1, none⟩ = false := Lib.frozen_of_heap HR.out.2.2.1 1
    cases mo with
    | false =>
      have HO := hid (HR.out.2.2.out (l := l) (by have := HR.out.2.1.1; exact this))
      go_wp2_with fail
      exact bodyPost_ret (results_p1 rfl _ _ w.heap.size a n c rp rfl HO.out.1) rfl HO.out.2
    | true =>
      by_cases hful : n = 32
      · have HO := hid (HR.out.2.2.out (l := l) (by
          have h1 := HR.out.2.1.1
          rw [polF_full _ _ (by have := HR.out.1; omega)] at h1
          exact h1))
        have hng : ¬ ((n : Int) < 32) := by omega
        clear hful
        go_wp2_with fail
        exact bodyPost_ret (results_p1 rfl _ _ w.heap.size a n c rp rfl HO.out.1) rfl HO.out.2
      · have hin : (n : Int) < 32 := by omega
        have hnl : n < 32 := by omega
        obtain ⟨P, hP⟩ : ∃ P : ByteArray, P = ⟨(part 59 S.data.toList).1.toArray⟩ := ⟨_, rfl⟩
        obtain ⟨R, hR⟩ : ∃ P : ByteArray, P = ⟨(part 59 S.data.toList).2.1.toArray⟩ := ⟨_, rfl⟩
        obtain ⟨m2, hm2⟩ : ∃ m, m = (part 59 S.data.toList).2.2 := ⟨_, rfl⟩
        have HC := hid (cut10 S 59 wr (by have := HR.out.2.1.2.2; have := HSZ.out; omega))
        rw [← hP, ← hR, ← hm2] at HC
        have hPl : P.data.toList = (part 59 S.data.toList).1 := by rw [hP]
        have hPs : P.size ≤ 1000000000 := by
          rw [Lib.size_eq, hPl]
          have h1 := (part_le 59 S.data.toList).1
          rw [← Lib.size_eq] at h1
          have := HR.out.2.1.2.2; have := HSZ.out; omega
        have HRD := hid (fun X => read10 P X hPs)
        unfold RdPost10 at HRD
        -- what is done behind this piece
        have HJ2 := hid (show PJ l m2 R (addR L P.data.toList) from by
          have h := HR.out.2.1
          refine ⟨?_, ?_, ?_⟩
          · rw [← h.1, pol_step _ _ (by have := HR.out.1; omega), hPl, hm2, hR]
          · have := addR_len L P.data.toList; have := HR.out.1; omega
          · rw [Lib.size_eq, hR]
            have h1 := (part_le 59 S.data.toList).2
            rw [← Lib.size_eq] at h1
            show (part 59 S.data.toList).2.1.length ≤ _
            have := h.2.2; omega)
        have HMS := hid (show szOf (.string R) + boOf (.bool m2) < szOf (.string S) + boOf (.bool true) from by
          have h1 := part_rest10 59 S.data.toList
          rw [← Lib.size_eq, ← hm2] at h1
          have h2 : R.size = (part 59 S.data.toList).2.1.length := by rw [Lib.size_eq, hR]
          show R.size + boOf (.bool m2) < S.size + 1
          rw [h2]
          cases m2
          · simp [boOf] at h1 ⊢; omega
          · simp [boOf] at h1 ⊢; omega)
        clear hP hR hm2 hPl hPs hful c4a c4b z4a z4b
        go_wp2_with fail
        refine HC.out.mono ?_
        rintro e w1 ⟨rfl, hb1⟩
        have HI1 := hid (HR.out.2.2.kept hb1)
        clear hb1 c0 c1 z0
        go_wp2_with fail
        refine (HRD.out w1).mono ?_
        cases hw : words9 P.data.toList with
        | nil =>
          rintro e w2 ⟨rfl, hb2⟩
          have HI2 := hid ((HI1.out.kept hb2).kept ((Below.refl _ w2).alloc (Nat.le_refl _) (.cells #[.string ⟨#[]⟩, .slice none 0 0] 52)))
          have HAD := hid (show addR L P.data.toList = L by unfold addR; rw [ruleV_nil hw])
          clear hb2 hw HRD
          go_wp2_with fail
          go_roundw
          case rel =>
            have h3 := HJ2.out
            rw [HAD.out] at h3
            first
              | exact ⟨R, m2, a, n, c, Q, L, rfl, rfl, hn32, HR.out.1, h3, HI2.out⟩
              | ((repeat apply Exists.intro); refine ⟨?_, rfl⟩; exact ⟨R, m2, a, n, c, Q, L, rfl, rfl, hn32, HR.out.1, h3, HI2.out⟩)
              | ((repeat apply Exists.intro); exact ⟨⟨R, m2, a, n, c, Q, L, rfl, rfl, hn32, HR.out.1, h3, HI2.out⟩, rfl⟩)
          case measure => exact HMS.out
        | cons x t =>
          rintro e w2 ⟨va, vn, vc, rfl, hsl, hb2⟩
          obtain ⟨N, hN⟩ : ∃ N : ByteArray, N = ⟨(low x).toArray⟩ := ⟨_, rfl⟩
          have HNL := hid (show N.data.toList = low x by rw [hN])
          have HRV := hid (ruleV_cons hw)
          rw [← hN]
          have hb3 := (Below.refl _ w2).alloc (Nat.le_refl _) (.cells #[.string N, .slice va vn vc] 52)
          have HI3 := hid ((HI1.out.kept hb2).kept hb3)
          have HSL := hid (show SlV (w2.alloc (.cells #[.string N, .slice va vn vc] 52)) w1.heap.size 9 (.slice va vn vc) (cellsT t) from hsl.same fun k hk => hb3.block k (hsl.lt k hk).2)
          have HB13 := hid (show Below w1.heap.size w1 (w2.alloc (.cells #[.string N, .slice va vn vc] 52)) from below2 hb2 hb3)
          obtain ⟨d0, d1, _⟩ := HI3.out.cells
          have HTW := hid (show TwR (w2.alloc (.cells #[.string N, .slice va vn vc] 52)) w2.heap.size N (.slice va vn vc) from heap_alloc_new w2 _)
          have HPL := hid (fun X (hX : Below (w2.alloc (.cells #[.string N, .slice va vn vc] 52)).heap.size (w2.alloc (.cells #[.string N, .slice va vn vc] 52)) X) => place10 (.slice a n c) rp L N X ((own_po (by have h := HI3.out.2.2.1; exact h) HI3.out.2.2.2.1).kept hX) (by have := HR.out.1; omega))
          obtain ⟨ix, hix⟩ : ∃ ix, ix = idxR L N.data.toList := ⟨_, rfl⟩
          rw [← hix] at HPL
          have HIX := hid (show decide (ix < 0) = !hasR L (low x) by rw [hix, HNL.out, ← HNL.out]; rw [HNL.out]; exact idx_has L (low x))
          clear hb2 hb3 hsl hw HRD hN hix
          go_wp2_with fail
          refine (HPL.out _ (Below.refl _ _)).mono ?_
          rintro e w4 ⟨rfl, hb4⟩
          have HI4 := hid (HI3.out.kept hb4)
          have HB14 := hid (below2 HB13.out hb4)
          have HSL4 := hid (HSL.out.same fun k hk => hb4.block k (HSL.out.lt k hk).2)
          have HTW4 := hid (row_kept HTW.out hb4)
          clear HPL HI3 HB13 HSL d0 d1
          by_cases hhas : hasR L (low x) = true
          · have hlt0 : ¬ (ix < 0) := by have := HIX.out; rw [hhas] at this; simpa using this
            have HAD := hid (show addR L P.data.toList = L by unfold addR; rw [HRV.out]; simp [hhas])
            clear hhas hb4
            go_wp2_with fail
            go_roundw
            case rel =>
              have h3 := HJ2.out
              rw [HAD.out] at h3
              first
                | exact ⟨R, m2, a, n, c, Q, L, rfl, rfl, hn32, HR.out.1, h3, HI4.out⟩
                | ((repeat apply Exists.intro); refine ⟨?_, rfl⟩; exact ⟨R, m2, a, n, c, Q, L, rfl, rfl, hn32, HR.out.1, h3, HI4.out⟩)
                | ((repeat apply Exists.intro); exact ⟨⟨R, m2, a, n, c, Q, L, rfl, rfl, hn32, HR.out.1, h3, HI4.out⟩, rfl⟩)
            case measure => exact HMS.out
          · have hlt0 : ix < 0 := by have := HIX.out; rw [show hasR L (low x) = false by simpa using hhas] at this; simpa using this
            have HAD := hid (show addR L P.data.toList = L ++ [⟨low x, t⟩] by unfold addR; rw [HRV.out]; simp [hhas])
            obtain ⟨d0, d1, y0⟩ := HI4.out.cells
            obtain ⟨r0, r1, _, _⟩ := TwR.cells HTW4.out
            have HO4 := hid (show w4.ownsRow (w.heap.size + 2) 52 2 (.slice a n c) n (cellsR Q) from by have h := HI4.out.2.2.1; rw [← HR.out.1] at h; exact h)
            have hw4 : w.heap.size + 2 ≤ w4.heap.size := HI4.out.lt
            clear hhas hb4
            go_wp2_with (at_builtin; refine wpList_append_own _ rfl _ _ 31 rfl (w.heap.size + 2) 52 i0 _ 2 40 Try.underlying31 hi hz0 hz1 hz2 rfl (by decide) _ _ _ rfl (HO4.out.alloc _) ⟨w4.heap.size, 0, none⟩ 1 1 [.string N, .slice va vn vc] rfl rfl ?c1 ?c2 (by unfold maxLen; omega) (by omega) (by simp; omega) ?_)
            case c1 =>
              intro q u hq
              match q, hq with
              | 0, hq => simp at hq; subst hq; simp [Addr.add]
              | 1, hq => simp at hq; subst hq; simp [Addr.add]
            case c2 => intro u hu; simp at hu; rcases hu with rfl | rfl <;> rfl
            intro v5 w5 hown hgrow hnil
            obtain ⟨a5, c5, rfl, hc5, hm5⟩ := own_form hown
            have hP4 : (w4.alloc (.cells #[.string N, .slice va vn vc] 52)).heap[w.heap.size + 1]? = some (.cells #[.slice a n c, .bool rp] 33 (0, 0)) := (Lib.alloc_old w4 _ _ (by omega)).trans HI4.out.2.1
            have hP5 : w5.heap[w.heap.size + 1]? = some (.cells #[.slice a n c, .bool rp] 33 (0, 0)) := (hgrow.block _ (by simp; omega) (fun e => by
              obtain ⟨cur, hc⟩ := ownsRow_kind (HO4.out.alloc (.cells #[.string N, .slice va vn vc] 52)) _ e.symm
              exact kind_nf hc hP4 (by decide) rfl)).trans hP4
            have e0 : w5.cell? ⟨w.heap.size + 1, 0, none⟩ = some (.slice a n c) := by rw [Lib.cell_of_heap hP5]; rfl
            have y5 : w5.frozen? ⟨w.heap.size + 1, 0, none⟩ = false := Lib.frozen_of_heap hP5 0
            have HI6 := hid (show PI w (w5.setCell ⟨w.heap.size + 1, 0, none⟩ (.slice a5 (n + 1) c5)) rp (.slice a5 (n + 1) c5) (Q ++ [(⟨(low x).toArray⟩, .slice va vn vc)]) (L ++ [⟨low x, t⟩]) from by
              refine PI.snoc (r := ⟨low x, t⟩) (w2 := w4.alloc (.cells #[.string N, .slice va vn vc] 52)) (B := w1.heap.size) HI1.out (below2 HB14.out ((Below.refl _ w4).alloc (Nat.le_refl _) _)) (HSL4.out.alloc0 _) (Nat.le_refl _) ?_ hgrow
              rw [← HR.out.1, show (⟨(low x).toArray⟩ : ByteArray) = N by rw [← HNL.out, Lib.mk_data]]
              exact hown)
            have HLN := hid (show n + 1 = (L ++ [(⟨low x, t⟩ : Ru)]).length by rw [List.length_append, ← HR.out.1]; rfl)
            clear hown hgrow hnil hP4 hP5 d0 d1 y0 r0 r1 hc5 hm5 HO4
            go_wp2_with fail
            go_roundw
            case rel =>
              have h3 := HJ2.out
              rw [HAD.out] at h3
              first
                | exact ⟨R, m2, a5, n + 1, c5, _, _, rfl, rfl, by omega, HLN.out, h3, HI6.out⟩
                | ((repeat apply Exists.intro); refine ⟨?_, rfl⟩; exact ⟨R, m2, a5, n + 1, c5, _, _, rfl, rfl, by omega, HLN.out, h3, HI6.out⟩)
                | ((repeat apply Exists.intro); exact ⟨⟨R, m2, a5, n + 1, c5, _, _, rfl, rfl, by omega, HLN.out, h3, HI6.out⟩, rfl⟩)
            case measure => exact HMS.out

end Go.Proofs.Ytplabofdcnpcpaa
