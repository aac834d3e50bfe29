/-
  The walk of headers' Set.
-/
import Derived.Test.YtknlmifjadolpaaDoorXv
import Derived.Deep.RegionLaw
import Derived.RegionTactic
import Derived.Deep.RegionWith
import Derived.Deep.RegionHeldLaw
set_option linter.unusedSimpArgs false
set_option linter.unusedVariables false
namespace Go.Proofs.YtknlmifjadolpaaDoor
open Go.RowKit

/-- An append to a row of the call's own, in a region that draws its order. -/
theorem xstep_append_own {P : Program} {ops : Array Oper} {o : Oper} {a : Act} {w : World} {K : Act → World → Prop} {Q : Exit → Act → World → Prop} {E : Prop} (hgd : o.guard = none) (s x : Operand) (t : TypeId)
    (ho : o.op = .call { callee := .builtin .append, args := #[s, x], argTypes := #[t, t] })
    (base : Nat) (e : TypeId) (i : TypeInfo) (z : Value) (size bytes : Nat) (ht : P.underlying t = some (.slice e)) (hi : P.info? e = some i) (hz : i.zero = some z)
    (hsize : i.size = size) (hby : i.bytes = bytes) (hzs : z.cells.size = size) (hsz : 0 < size)
    (v : Value) (n : Nat) (xs : List Value) (hs : a.eval s = v) (hown : w.ownsRow base e size v n xs)
    (ad : Addr) (m c : Nat) (news : List Value) (hx : a.eval x = .slice (some ad) m c) (hl : news.length = m * size) (hnews : ∀ j u, news[j]? = some u → w.cell? (ad.add j) = some u) (h1 : ∀ u ∈ news, u.oneCell' = true)
    (h63 : n + m ≤ maxLen) (hbytes : (n + m) * bytes ≤ 140737488355328) (hbase : base ≤ w.heap.size)
    (h : ∀ v' w', w'.ownsRow base e size v' (n + m) (xs ++ news) → w.grownBy w' v.ownBlock → (v' = .slice none 0 0 ↔ v = .slice none 0 0 ∧ m = 0) → K (a.put o.dst v') w') :
    if Region.wanted o (yielded ops a.tmps) = true then Oper.wp P o a w K Q else E := by
  rw [if_pos (by simp [Region.wanted, hgd])]
  exact wp_append_own w s x t ho base e i z size bytes ht hi hz hsize hby hzs hsz v n xs hs hown ad m c news hx hl hnews h1 h63 hbytes hbase h

theorem hd_take {w : World} {a : Option Addr} {n cap : Nat} {L : List Hd} (h : HdAt w (.slice a n cap) L) (k : Nat) (hk : k ≤ L.length) : HdAt w (.slice a k cap) (L.take k) := by
  obtain ⟨a', cap', e, h1, h2, h3⟩ := h
  cases e
  have hl : (L.take k).length = k := by simp; omega
  refine ⟨a, cap, by rw [hl], by omega, h2, fun j hj => ?_⟩
  rw [hl] at hj
  have := h3 j (by omega)
  simpa using this

theorem hd_drop {w : World} {b off n cap : Nat} {L : List Hd} (h : HdAt w (.slice (some ⟨b, off, none⟩) n cap) L) (k : Nat) (hk : k ≤ L.length) : HdAt w (.slice (some ⟨b, off + k * 2, none⟩) (n - k) (cap - k)) (L.drop k) := by
  obtain ⟨a', cap', e, h1, h2, h3⟩ := h
  cases e
  have hl : (L.drop k).length = L.length - k := by simp
  refine ⟨_, cap - k, by rw [hl], by omega, by omega, fun j hj => ?_⟩
  rw [hl] at hj
  obtain ⟨b', off', e, c1, c2⟩ := h3 (k + j) (by omega)
  cases e
  refine ⟨b, off + k * 2, rfl, ?_, ?_⟩
  · rw [show off + k * 2 + j * 2 = off + (k + j) * 2 by omega, c1]; simp
  · rw [show off + k * 2 + j * 2 = off + (k + j) * 2 by omega, c2]; simp

def setE (L : List Hd) (n v : List UInt8) : Nat := match firstV L n with | none => addE L n v | some _ => hdE n v

/-- The list with the value in the place of all that the name had. -/
def setV (L : List Hd) (n v : List UInt8) : List Hd := match firstV L n with
  | none => L ++ [⟨n, valT v⟩]
  | some k => L.take k ++ [⟨(L.getD k ⟨[], []⟩).name, valT v⟩] ++ dropV (L.drop (k + 1)) n

/-- What Set answers. -/
def SetPost (L : List Hd) (n v : List UInt8) (w : World) (e : Ending) (w' : World) : Prop :=
  Below w.heap.size w w' ∧ ((setE L n v ≠ 0 ∧ e = .returned (.tuple #[.slice none 0 0, .int .i64 (setE L n v : Int)])) ∨
    (setE L n v = 0 ∧ ∃ vv, e = .returned (.tuple #[vv, .int .i64 0]) ∧ w'.ownsRow w.heap.size 28 2 vv (setV L n v).length (cellsH (setV L n v))))

set_option maxHeartbeats 2000000 in
set_option maxRecDepth 100000 in
theorem set_any (vv : Value) (L : List Hd) (n v : ByteArray) (w : World) (h : HdAt w vv L) (hl : L.length ≤ 1000000) (hn : n.size ≤ 140737488351232) (hv : v.size ≤ 9223372036854775807) (hz : Szd 140737488351232 L) :
    Calls Tryd.prog 13 #[vv, .string n, .string v] w (SetPost L n.data.toList v.data.toList w) := by
  have HL := hid h
  have HZ := hid hz
  obtain ⟨i0, hi, hz0, hz1, hz2⟩ := info3 infoHd
  obtain ⟨a1, c1, rfl, hc1, hm1, hv1⟩ := h.view
  have V1 := hid hv1
  clear h hv1 hz
  go_enter Tryd.func13, Tryd.ntmps13
  go_wp2_with fail
  refine (first_any _ L n _ HL.out hn HZ.out hl).mono ?_
  rintro e w1 ⟨hb1, ⟨hf, rfl⟩ | ⟨k, hf, rfl⟩⟩
  · have HE := hid (show setE L n.data.toList v.data.toList = addE L n.data.toList v.data.toList by unfold setE; rw [hf])
    have HV := hid (show setV L n.data.toList v.data.toList = L ++ [⟨n.data.toList, valT v.data.toList⟩] by unfold setV; rw [hf])
    clear hf
    go_wp2_with fail
    refine (add_any _ L n v _ (HL.out.kept hb1) hl hn hv).mono ?_
    rintro e w2 ⟨hb2, ⟨hne, rfl⟩ | ⟨he, v2, rfl, hown2⟩⟩
    · go_wp2
      go_ret2
      refine ⟨belowT hb1 hb2, .inl ⟨by rw [HE.out]; exact hne, by rw [HE.out]; rfl⟩⟩
    · have HO := hid hown2
      clear hown2
      go_wp2
      go_ret2
      refine ⟨belowT hb1 hb2, .inr ⟨by rw [HE.out]; exact he, _, rfl, ?_⟩⟩
      rw [HV.out, List.length_append]
      rcases HO.out.2 with ⟨h1, h2⟩ | ⟨g, cap, cur, e1, e2, e3⟩
      · simp at h2
      · exact ⟨HO.out.1, .inr ⟨g, cap, cur, e1, Nat.le_trans hb1.size e2, e3⟩⟩
  · have hkl : k < L.length := by unfold firstV at hf; rw [List.findIdx?_eq_some_iff_getElem] at hf; exact hf.1
    have HE := hid (show setE L n.data.toList v.data.toList = hdE n.data.toList v.data.toList by unfold setE; rw [hf])
    have HV := hid (show setV L n.data.toList v.data.toList = L.take k ++ [⟨L[k].name, valT v.data.toList⟩] ++ dropV (L.drop (k + 1)) n.data.toList by unfold setV; rw [hf]; simp [List.getD, hkl])
    clear hf
    have hk0 : ¬ (k : Int) < 0 := by omega
    obtain ⟨q, hq⟩ : ∃ q, q = hdE n.data.toList v.data.toList := ⟨_, rfl⟩
    have hk3 : q = 0 ∨ q = 1 ∨ q = 3 := by rw [hq]; unfold hdE; split; exact .inr (.inl rfl); split; exact .inr (.inr rfl); exact .inl rfl
    have HQ := hid hq
    clear hq
    go_wp2_with fail
    refine (header_any n v _ hn hv).mono ?_
    rintro e w2 ⟨N, V, rfl, hb2, hNV⟩
    rw [← HQ.out] at hNV
    rw [← HQ.out]
    unfold hdVal
    have hbw2 := belowT hb1 hb2
    have HB3 := hid (belowA hbw2 (.cells #[.string N, .string V] 28))
    have HTwo : Hid (Two (w2.alloc (.cells #[.string N, .string V] 28)) w2.heap.size N V) := heap_alloc_new _ _
    obtain ⟨W3, hW3⟩ : ∃ W3, W3 = w2.alloc (.cells #[.string N, .string V] 28) := ⟨_, rfl⟩
    rcases hk3 with rfl | hk3
    · obtain ⟨rfl, hVv⟩ := hNV rfl
      have HVv := hid hVv
      clear hVv hNV
      have hkl' : (k : Int) < (L.length : Int) := by omega
      obtain ⟨b1, o1, rfl, e1, e2⟩ := V1.out k hkl
      have f1 : (w2.alloc (.cells #[.string N, .string V] 28)).cell? ⟨b1, o1 + k * 2, none⟩ = some (.string ⟨L[k].name.toArray⟩) := (HB3.out.cell (World.block_lt_of_cell? w _ e1)).trans e1
      clear e1 e2
      clear hW3 W3
      obtain ⟨nk, hnk⟩ : ∃ x : ByteArray, x = ⟨L[k].name.toArray⟩ := ⟨_, rfl⟩
      rw [← hnk] at f1
      have HNk := hid (show nk.data.toList = L[k].name by rw [hnk])
      have HB4 := hid (belowA hbw2 (.cells #[.string nk, .string V] 28))
      clear hnk
      go_wp2_with fail
      obtain ⟨W, hW⟩ : ∃ W, W = w2.alloc (.cells #[.string nk, .string V] 28) := ⟨_, rfl⟩
      have hTW : Two W w2.heap.size nk V := by rw [hW]; exact heap_alloc_new _ _
      rw [← hW]
      rw [← hW] at HB4
      obtain ⟨g0, g1, _, _⟩ := hTW.cells
      have HLW := hid (HL.out.kept HB4.out)
      have hkc : (k : Int) ≤ (c1 : Int) := by omega
      have hk1c : (k : Int) + 1 ≤ (L.length : Int) := by omega
      have hk1n : ((k : Int) + 1).toNat = k + 1 := by omega
      have hlc : (L.length : Int) ≤ (c1 : Int) := by omega
      have hwrap : IntKind.i64.wrap ((k : Int) + 1) = (k : Int) + 1 := by rw [IntKind.wrap_i64]; omega
      have hq0 : (0 : Int) ≤ (k : Int) + 1 := by omega
      have hwl : w2.heap.size < W.heap.size := by rw [hW]; simp
      have HK := hid (fun (X : World) (hX : Below W.heap.size W X) => (⟨hX, (hX.cell hwl).trans g0, (hX.cell hwl).trans g1⟩ : Below W.heap.size W X ∧ X.cell? ⟨w2.heap.size, 0, none⟩ = some (.string nk) ∧ X.cell? ⟨w2.heap.size, 1, none⟩ = some (.string V)))
      have hbD : Below W.heap.size W W.drew := (Below.refl _ W).drew
      obtain ⟨C4, hC4⟩ : ∃ C, cellsH (L.take k ++ [⟨nk.data.toList, V.data.toList⟩]) = C := ⟨_, rfl⟩
      obtain ⟨C5, hC5⟩ : ∃ C, cellsH (dropV (L.drop (k + 1)) N.data.toList) = C := ⟨_, rfl⟩
      obtain ⟨m5, hm5⟩ : ∃ m, (dropV (L.drop (k + 1)) N.data.toList).length = m := ⟨_, rfl⟩
      have hm5l : m5 ≤ 1000000 := by have := dropV_len (L.drop (k + 1)) N.data.toList; simp at this; omega
      have HC5l := hid (show C5.length = m5 * 2 by rw [← hC5, ← hm5]; exact cellsH_len _)
      have HC5o := hid (show ∀ u ∈ C5, u.oneCell' = true by rw [← hC5]; exact cellsH_oneCell _)
      have HC4 := hid hC4
      have HC5 := hid hC5
      have HM5 := hid hm5
      have HVe := hid (show L.take k ++ [⟨L[k].name, valT v.data.toList⟩] = L.take k ++ [⟨nk.data.toList, V.data.toList⟩] by rw [HNk.out, HVv.out])
      clear hW hTW f1 HB3 HTwo hC4 hC5 hm5 hwl
      by_cases hce : c1 = k + 1
      · have HTL : Hid (HdAt W (.slice (some ⟨b1, o1, none⟩) (L.length - (k + 1)) (c1 - (k + 1))) (L.drop (k + 1))) := by
          rw [show L.drop (k + 1) = [] from List.drop_eq_nil_of_le (by omega)]
          refine ⟨_, c1 - (k + 1), by rw [show L.length - (k + 1) = 0 by omega]; rfl, by simp, by omega, fun j hj => by simp at hj⟩
        have hcet : (c1 = k + 1) = True := by simp [hce]
        clear hce
        have HWith : Hid (∀ X : World, Below W.heap.size W X → Calls Tryd.prog 43 #[.slice (some ⟨b1, o1, none⟩) k c1, .agg #[.string nk, .string V]] X fun e X' => ∃ v4, e = .returned v4 ∧ X'.ownsRow W.heap.size 28 2 v4 (k + 1) C4 ∧ Below W.heap.size W X') := fun X hX => by
          have := with_any _ _ nk V X ((hd_take HLW.out k (by omega)).kept hX) (by simp; omega)
          unfold hdVal at this
          refine this.mono ?_
          rintro e X' ⟨v4, rfl, ho, hb⟩
          rw [HC4.out, show (L.take k ++ [(⟨nk.data.toList, V.data.toList⟩ : Hd)]).length = k + 1 by simp; omega] at ho
          refine ⟨v4, rfl, ?_, hX.trans (hb.mono hX.size)⟩
          rcases ho.2 with ⟨h1, h2⟩ | ⟨g, cap, cur, e1, e2, e3⟩
          · simp at h2
          · exact ⟨ho.1, .inr ⟨g, cap, cur, e1, Nat.le_trans hX.size e2, e3⟩⟩
        have HDrop : Hid (∀ X : World, Below W.heap.size W X → Calls Tryd.prog 25 #[.slice (some ⟨b1, o1, none⟩) (L.length - (k + 1)) (c1 - (k + 1)), .string N] X fun e X' => ∃ g5 cap5, e = .returned (.slice (some ⟨g5, 0, none⟩) m5 cap5) ∧ (∀ j u, C5[j]? = some u → X'.cell? ((⟨g5, 0, none⟩ : Addr).add j) = some u) ∧ Below W.heap.size W X' ∧ Below X.heap.size X X') := fun X hX => by
          refine (drop_any _ (L.drop (k + 1)) N X (HTL.out.kept hX) hn (fun h hh => HZ.out h (List.mem_of_mem_drop hh)) (by simp; omega)).mono ?_
          rintro e X' ⟨v5, rfl, ho, hb, hnn⟩
          obtain ⟨g5, cap5, rfl, hcap5, hmax5⟩ := hnn.form ho
          have hc := (own_hd ho).cells.2
          rw [HC5.out] at hc
          rw [← HM5.out]
          exact ⟨g5, cap5, rfl, fun j u hj => by obtain ⟨x, e, h⟩ := hc j u hj; cases e; exact h, hX.trans (hb.mono hX.size), hb⟩
        go_region_held_law (fun wx => Below W.heap.size W wx ∧ wx.cell? ⟨w2.heap.size, 0, none⟩ = some (.string nk) ∧ wx.cell? ⟨w2.heap.size, 1, none⟩ = some (.string V))
          (first | exact HK.out _ hbD | exact HK.out _ (by assumption) | (go_split_ands; exact HK.out _ (by assumption)))
          (first
            | (go_at_call 43; refine (HWith.out _ (by (try dsimp only at *); go_split_ands; assumption)).mono ?_; rintro e w4 ⟨v4, rfl, ho4, hbW4⟩)
            | (go_at_call 25; refine (HDrop.out _ (by (try dsimp only at *); go_split_ands; assumption)).mono ?_; rintro e w5 ⟨g5, cap5, rfl, hcell5, hbW5, hb5⟩)
            | (refine xstep_append_own rfl (.tmp 41) (.tmp 47) 22 rfl W.heap.size 28 i0 _ 2 32 Tryd.underlying22 hi hz0 hz1 hz2 rfl (by decide) v4 (k + 1) C4 rfl (own_same ho4 hb5) ⟨g5, 0, none⟩ m5 cap5 C5 rfl HC5l.out hcell5 HC5o.out (by unfold maxLen; omega) (by omega) hbW5.size ?_; intro v6 w6 hown6 hgrow6 hnil6; have hbW6 : Below W.heap.size W w6 := hbW5.grown hgrow6 hbW5.size (fun g hg => (ho4.lt g hg).1)))
        all_goals
          (try dsimp only at *)
          go_wp2
          go_ret2
          refine ⟨HB4.out.trans (hbW6.mono HB4.out.size), .inr ⟨by rw [HE.out, ← HQ.out], v6, by simp, ?_⟩⟩
          rw [HV.out, HVe.out, cellsH_app, HC4.out, HC5.out, List.length_append, HM5.out, show (L.take k ++ [(⟨nk.data.toList, V.data.toList⟩ : Hd)]).length = k + 1 by simp; omega]
          rcases hown6.2 with ⟨h1, h2⟩ | ⟨g, cap, cur, e1, e2, e3⟩
          · omega
          · exact ⟨hown6.1, .inr ⟨g, cap, cur, e1, Nat.le_trans HB4.out.size e2, e3⟩⟩
      · have HTL := hid (hd_drop HLW.out (k + 1) (by omega))
        have HWith : Hid (∀ X : World, Below W.heap.size W X → Calls Tryd.prog 43 #[.slice (some ⟨b1, o1, none⟩) k c1, .agg #[.string nk, .string V]] X fun e X' => ∃ v4, e = .returned v4 ∧ X'.ownsRow W.heap.size 28 2 v4 (k + 1) C4 ∧ Below W.heap.size W X') := fun X hX => by
          have := with_any _ _ nk V X ((hd_take HLW.out k (by omega)).kept hX) (by simp; omega)
          unfold hdVal at this
          refine this.mono ?_
          rintro e X' ⟨v4, rfl, ho, hb⟩
          rw [HC4.out, show (L.take k ++ [(⟨nk.data.toList, V.data.toList⟩ : Hd)]).length = k + 1 by simp; omega] at ho
          refine ⟨v4, rfl, ?_, hX.trans (hb.mono hX.size)⟩
          rcases ho.2 with ⟨h1, h2⟩ | ⟨g, cap, cur, e1, e2, e3⟩
          · simp at h2
          · exact ⟨ho.1, .inr ⟨g, cap, cur, e1, Nat.le_trans hX.size e2, e3⟩⟩
        have HDrop : Hid (∀ X : World, Below W.heap.size W X → Calls Tryd.prog 25 #[.slice (some ⟨b1, o1 + (k + 1) * 2, none⟩) (L.length - (k + 1)) (c1 - (k + 1)), .string N] X fun e X' => ∃ g5 cap5, e = .returned (.slice (some ⟨g5, 0, none⟩) m5 cap5) ∧ (∀ j u, C5[j]? = some u → X'.cell? ((⟨g5, 0, none⟩ : Addr).add j) = some u) ∧ Below W.heap.size W X' ∧ Below X.heap.size X X') := fun X hX => by
          refine (drop_any _ (L.drop (k + 1)) N X (HTL.out.kept hX) hn (fun h hh => HZ.out h (List.mem_of_mem_drop hh)) (by simp; omega)).mono ?_
          rintro e X' ⟨v5, rfl, ho, hb, hnn⟩
          obtain ⟨g5, cap5, rfl, hcap5, hmax5⟩ := hnn.form ho
          have hc := (own_hd ho).cells.2
          rw [HC5.out] at hc
          rw [← HM5.out]
          exact ⟨g5, cap5, rfl, fun j u hj => by obtain ⟨x, e, h⟩ := hc j u hj; cases e; exact h, hX.trans (hb.mono hX.size), hb⟩
        go_region_held_law (fun wx => Below W.heap.size W wx ∧ wx.cell? ⟨w2.heap.size, 0, none⟩ = some (.string nk) ∧ wx.cell? ⟨w2.heap.size, 1, none⟩ = some (.string V))
          (first | exact HK.out _ hbD | exact HK.out _ (by assumption) | (go_split_ands; exact HK.out _ (by assumption)))
          (first
            | (go_at_call 43; refine (HWith.out _ (by (try dsimp only at *); go_split_ands; assumption)).mono ?_; rintro e w4 ⟨v4, rfl, ho4, hbW4⟩)
            | (go_at_call 25; refine (HDrop.out _ (by (try dsimp only at *); go_split_ands; assumption)).mono ?_; rintro e w5 ⟨g5, cap5, rfl, hcell5, hbW5, hb5⟩)
            | (refine xstep_append_own rfl (.tmp 41) (.tmp 47) 22 rfl W.heap.size 28 i0 _ 2 32 Tryd.underlying22 hi hz0 hz1 hz2 rfl (by decide) v4 (k + 1) C4 rfl (own_same ho4 hb5) ⟨g5, 0, none⟩ m5 cap5 C5 rfl HC5l.out hcell5 HC5o.out (by unfold maxLen; omega) (by omega) hbW5.size ?_; intro v6 w6 hown6 hgrow6 hnil6; have hbW6 : Below W.heap.size W w6 := hbW5.grown hgrow6 hbW5.size (fun g hg => (ho4.lt g hg).1)))
        all_goals
          (try dsimp only at *)
          go_wp2
          go_ret2
          refine ⟨HB4.out.trans (hbW6.mono HB4.out.size), .inr ⟨by rw [HE.out, ← HQ.out], v6, by simp, ?_⟩⟩
          rw [HV.out, HVe.out, cellsH_app, HC4.out, HC5.out, List.length_append, HM5.out, show (L.take k ++ [(⟨nk.data.toList, V.data.toList⟩ : Hd)]).length = k + 1 by simp; omega]
          rcases hown6.2 with ⟨h1, h2⟩ | ⟨g, cap, cur, e1, e2, e3⟩
          · omega
          · exact ⟨hown6.1, .inr ⟨g, cap, cur, e1, Nat.le_trans HB4.out.size e2, e3⟩⟩
    · clear hW3
      have hqz : q ≠ 0 := by omega
      have HE2 := hid (show setE L n.data.toList v.data.toList = q by rw [HE.out, ← HQ.out])
      rcases hk3 with rfl | rfl
      · go_wp2
        go_ret2
        refine ⟨HB3.out, .inl ⟨by rw [HE2.out]; decide, by rw [HE2.out]; rfl⟩⟩
      · go_wp2
        go_ret2
        refine ⟨HB3.out, .inl ⟨by rw [HE2.out]; decide, by rw [HE2.out]; rfl⟩⟩

end Go.Proofs.YtknlmifjadolpaaDoor
