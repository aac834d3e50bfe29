/-
  The walk of policy's From.
-/
import Derived.Test.YtplabofdcnpcpaaZAs
set_option linter.unusedSimpArgs false
set_option linter.unusedVariables false
namespace Go.Proofs.Ytplabofdcnpcpaa
open Go.RowKit

theorem cellsP_one' {P : List (Value × Bool)} (h : ∀ q ∈ P, q.1.oneCell' = true) : ∀ u ∈ cellsP P, u.oneCell' = true := by
  intro u hu
  obtain ⟨x, hx, hm⟩ := List.mem_flatMap.1 hu
  simp at hm
  rcases hm with rfl | rfl
  · exact h x hx
  · rfl

theorem RdP.oneCell {w : World} {B : Nat} {P : List (Value × Bool)} {Ps : List (List Ru × Bool)} (h : RdP w B P Ps) : ∀ q ∈ P, q.1.oneCell' = true := by
  intro q hq
  obtain ⟨j, hj, rfl⟩ := List.getElem_of_mem hq
  obtain ⟨Q, h1, _⟩ := (h.2 j hj (by rw [← h.1]; exact hj)).2
  obtain ⟨a, c, e, _, _⟩ := own_form h1
  rw [e]
  rfl

theorem ofV_len (H : List Hd) (n : List UInt8) : (ofV H n).length ≤ (getT H n).length + 1 := by
  unfold ofV
  split
  · rw [nmV_eq]; exact Nat.le_trans (List.length_filterMap_le _ _) (pcV_len 44 _)
  · simp

set_option maxHeartbeats 4000000 in
set_option maxRecDepth 100000 in
theorem from10 (v : Value) (H : List Hd) (w : World) (h : HdAt w v H) (hz : Szd 140737488351232 H) (hl : H.length ≤ 1000000) (hb : bulkV H ≤ 1000000) :
    Calls Try.prog 13 #[v] w (PolPost (fromV H) w) := by
  obtain ⟨i0, hi, hz0, hz1, hz2⟩ := info_parts infoPo
  have HN1 := hid (named10 v H ⟨#[99, 111, 110, 116, 101, 110, 116, 45, 115, 101, 99, 117, 114, 105, 116, 121, 45, 112, 111, 108, 105, 99, 121]⟩ false w h (by decide) hz hl hb)
  have HN2 := hid (fun X (hX : Below w.heap.size w X) => named10 v H ⟨#[99, 111, 110, 116, 101, 110, 116, 45, 115, 101, 99, 117, 114, 105, 116, 121, 45, 112, 111, 108, 105, 99, 121, 45, 114, 101, 112, 111, 114, 116, 45, 111, 110, 108, 121]⟩ true X (h.kept hX) (by decide) hz hl hb)
  unfold PolPost at HN1 HN2
  obtain ⟨A1, hA1⟩ : ∃ A, A = (ofV H nCsp).map (·, false) := ⟨_, rfl⟩
  obtain ⟨A2, hA2⟩ : ∃ A, A = (ofV H nCro).map (·, true) := ⟨_, rfl⟩
  have hl1 : A1.length ≤ 1000001 := by rw [hA1, List.length_map]; have := ofV_len H nCsp; have := getT_len H nCsp; omega
  have hl2 : A2.length ≤ 1000001 := by rw [hA2, List.length_map]; have := ofV_len H nCro; have := getT_len H nCro; omega
  rw [show (ofV H (⟨#[99, 111, 110, 116, 101, 110, 116, 45, 115, 101, 99, 117, 114, 105, 116, 121, 45, 112, 111, 108, 105, 99, 121]⟩ : ByteArray).data.toList).map (·, false) = A1 by rw [hA1]] at HN1
  rw [show (ofV H (⟨#[99, 111, 110, 116, 101, 110, 116, 45, 115, 101, 99, 117, 114, 105, 116, 121, 45, 112, 111, 108, 105, 99, 121, 45, 114, 101, 112, 111, 114, 116, 45, 111, 110, 108, 121]⟩ : ByteArray).data.toList).map (·, true) = A2 by rw [hA2]] at HN2
  have HFE := hid (show fromV H = A1 ++ A2 by rw [hA1, hA2]; rfl)
  obtain ⟨va, vc, hve, _, _, _⟩ := h.view
  obtain ⟨vl, hvl⟩ : ∃ vl, vl = H.length := ⟨_, rfl⟩
  rw [← hvl] at hve
  subst hve
  clear hA1 hA2 h hz hl hb hvl
  go_enter Try.func13, Try.ntmps13
  go_wp2_with fail
  refine HN1.out.mono ?_
  rintro e w1 ⟨v1, P1, rfl, hown1, hrd1, hb1⟩
  have HO1 := hid hown1
  have HR1 := hid hrd1
  have HB1 := hid hb1
  clear hown1 hrd1 hb1 HN1
  go_wp2_with fail
  refine (HN2.out _ HB1.out).mono ?_
  rintro e w2 ⟨v2, P2, rfl, hown2, hrd2, hb2⟩
  have HO1' := hid (own_kept HO1.out hb2)
  have HR1' := hid (HR1.out.kept hb2)
  have HR2 := hid (hrd2.low HB1.out.size)
  have HB2 := hid (below2 HB1.out hb2)
  have HOC := hid (cellsP_one' hrd2.oneCell)
  rcases hown2.2 with ⟨hv2, hn2⟩ | ⟨g, cap, cur, hv2, hg, hrow, hnc, hcm, hcs, htake⟩
  · subst hv2
    have HF := hid (show PolPost (fromV H) w (.returned v1) w2 from by
      have e : A2 = [] := List.eq_nil_of_length_eq_zero hn2
      rw [HFE.out, e, List.append_nil]
      exact ⟨v1, P1, rfl, HO1'.out, HR1'.out, HB2.out⟩)
    clear hown2 hrd2 hb2 HN2 hn2
    go_wp2_with (at_builtin; refine wpList_append_own_none rfl _ _ 26 rfl w.heap.size 33 i0 2 Try.underlying26 hi v1 A1.length (cellsP P1) rfl HO1'.out rfl ?_)
    go_wp2_with fail
    go_ret
    exact HF.out
  · subst hv2
    have HC2 := hid (show ∀ j u, (cellsP P2)[j]? = some u → w2.cell? ((⟨g, 0, none⟩ : Addr).add j) = some u from hown2.cells (g := g) rfl)
    have HL2 := hid (show (cellsP P2).length = A2.length * 2 by rw [cellsP_len, hrd2.1])
    obtain ⟨n1, hn1⟩ : ∃ n, n = A1.length := ⟨_, rfl⟩
    obtain ⟨n2, hn2⟩ : ∃ n, n = A2.length := ⟨_, rfl⟩
    rw [← hn1] at hl1 HO1'
    rw [← hn2] at hl2 HL2 hnc ⊢
    have HLL := hid (show n1 + n2 = (A1 ++ A2).length by rw [List.length_append, hn1, hn2])
    have hw12 := HB2.out.size
    clear hown2 hrd2 hb2 HN2 hrow htake hcs hn1 hn2
    go_wp2_with (at_builtin; refine wpList_append_own _ rfl _ _ 26 rfl w.heap.size 33 i0 _ 2 32 Try.underlying26 hi hz0 hz1 hz2 rfl (by decide) v1 n1 (cellsP P1) rfl HO1'.out ⟨g, 0, none⟩ n2 cap (cellsP P2) rfl HL2.out HC2.out HOC.out (by unfold maxLen; omega) (by omega) hw12 ?_)
    intro v3 w3 hown hgrow hnil
    have HF := hid (show PolPost (fromV H) w (.returned v3) w3 from by
      rw [HFE.out]
      have hk := grown_rt HO1'.out hgrow
      refine ⟨v3, P1 ++ P2, rfl, ?_, RdP.app (HR1'.out.keptB hk) (HR2.out.keptB hk), HB2.out.grown hgrow hw12 (fun k hk => (HO1'.out.lt k hk).1)⟩
      rw [cellsP_app, ← HLL.out]
      exact hown)
    clear hown hgrow hnil
    go_wp2_with fail
    go_ret
    exact HF.out

end Go.Proofs.Ytplabofdcnpcpaa
