/-
  The walks of strings.Builder's WriteString and of mime's Text.
-/
import Derived.Test.YtplabofdcnpcpaaDoorZMj
import Derived.Lib.AppendIntMem
set_option linter.unusedSimpArgs false
set_option linter.unusedVariables false
namespace Go.Proofs.YtplabofdcnpcpaaDoor
open Go.RowKit

set_option maxHeartbeats 2000000 in
set_option maxRecDepth 100000 in
theorem wstr6 (B b : Nat) (bs : List Value) (s : ByteArray) (w : World) (h : Lib.IsBuilderF 117 5 B b bs w) (hlen : bs.length + s.size ≤ 140737488355328) (hBw : B ≤ w.heap.size) :
    Calls Tryd.prog 76 #[.pointer (some ⟨b, 0, none⟩), .string s] w fun e w' => e = .returned (.tuple #[.int .i64 s.size, .nilIface]) ∧ (Lib.BuilderAtF 117 5 B b (.pointer (some ⟨b, 0, none⟩)) (bs ++ Lib.strCells s) w' ∧ Below B w w') := by
  obtain ⟨i0, hi, hz0, hz1, hz2⟩ := info3 infoU8
  go_enter Tryd.func76, Tryd.ntmps76
  go_wp2_with (go_at_call 102; refine (copyCheck_k B b bs _ h).mono ?_)
  rintro e w1 ⟨rfl, h1, hb1, hk1⟩
  obtain ⟨hB, v, hbk, hown, hne⟩ := h1
  have c0 : w1.cell? ⟨b, 0, none⟩ = some (.pointer (some ⟨b, 0, none⟩)) := by rw [Lib.cell_of_heap hbk]; rfl
  have c1 : w1.cell? ⟨b, 1, none⟩ = some v := by rw [Lib.cell_of_heap hbk]; rfl
  go_wp2_with (at_builtin; refine Lib.wpList_append_own_stringF _ rfl _ _ 83 9 rfl B 5 i0 Tryd.underlying83 Tryd.underlying9 hi hz0 hz1 hz2 _ _ _ rfl hown s rfl ?c3 ?c4 ?c5 ?_)
  case c3 => unfold maxLen; omega
  case c4 => omega
  case c5 => have := hb1.size; omega
  intro v' w2 hown' hgrow _
  have hlt : b < w1.heap.size := by
    rcases Nat.lt_or_ge b w1.heap.size with h' | h'
    · exact h'
    · simp [Array.getElem?_eq_none h'] at hbk
  have hb2 : w2.heap[b]? = some (.cells #[.pointer (some ⟨b, 0, none⟩), v] 117 (0, 0)) := by
    rw [hgrow.block b hlt (fun e => hne e.symm)]
    exact hbk
  have d0 : w2.cell? ⟨b, 0, none⟩ = some (.pointer (some ⟨b, 0, none⟩)) := by rw [Lib.cell_of_heap hb2]; rfl
  have d1 : w2.cell? ⟨b, 1, none⟩ = some v := by rw [Lib.cell_of_heap hb2]; rfl
  have f1 : w2.frozen? ⟨b, 1, none⟩ = false := Lib.frozen_of_heap hb2 1
  obtain ⟨ao, n', cap, rfl⟩ : ∃ ao n' cap, v' = .slice ao n' cap := by
    rcases hown'.2 with ⟨hv, _⟩ | ⟨g, cap, cur, fz, hv, _⟩
    · exact ⟨_, _, _, hv⟩
    · exact ⟨_, _, _, hv⟩
  go_wp2
  go_ret2
  refine ⟨rfl, ?_, ?_⟩
  · exact Lib.BuilderAtF.put (T := 117) (e := 5) hB hb2 (bs' := bs ++ Lib.strCells s) (by simpa [Lib.strCells_length] using hown') (by decide)
  · exact (hb1.grown hgrow (by have := hb1.size; omega) (fun k hk => (hown.lt k hk).1)).setCell (p := ⟨b, 1, none⟩) hB _

theorem bat_below {T e : TypeId} {B b : Nat} {p : Value} {bs : List Value} {W W' : World} (h : Lib.BuilderAtF T e B b p bs W) (hb : Below W.heap.size W W') : Lib.BuilderAtF T e B b p bs W' := by
  have hlt := h.lt
  obtain ⟨hB, v, hv, hown, hne⟩ := h
  exact ⟨hB, v, (hb.block b hlt).trans hv, hown.kept (row := none) ⟨hb.os, hb.tape, hb.output, hb.size, fun k hk _ => hb.block k hk⟩ (Classical.em _), hne⟩
theorem bld_below {T e : TypeId} {B b : Nat} {bs : List Value} {W W' : World} (h : Lib.IsBuilderF T e B b bs W) (hb : Below W.heap.size W W') : Lib.IsBuilderF T e B b bs W' :=
  h.elim (fun x => .inl (bat_below x hb)) (fun x => .inr (bat_below x hb))

def pfx (t : Kn) (k : Nat) : List UInt8 := essV t ++ (t.params.take k).flatMap prmT

theorem pfx_succ (t : Kn) (k : Nat) (h : k < t.params.length) : pfx t (k + 1) = pfx t k ++ prmT t.params[k] := by
  unfold pfx
  rw [List.take_succ_eq_append_getElem h, List.flatMap_append, List.append_assoc]; simp

theorem pfx_all (t : Kn) : pfx t t.params.length = txtV t := by unfold pfx txtV; rw [List.take_length]

theorem pfx_le (t : Kn) (k : Nat) : (pfx t k).length ≤ (txtV t).length := by
  unfold pfx txtV
  rw [List.length_append, List.length_append]
  have : t.params.flatMap prmT = (t.params.take k).flatMap prmT ++ (t.params.drop k).flatMap prmT := by rw [← List.flatMap_append, List.take_append_drop]
  rw [this, List.length_append]; omega

set_option maxHeartbeats 4000000 in
set_option maxRecDepth 100000 in
theorem mtext_any (a m : ByteArray) (v : Value) (ps : List Hd) (w : World) (hG : G5 w) (h : HdAt w v ps) (hl : (txtV ⟨a.data.toList, m.data.toList, ps⟩).length ≤ 400000000) :
    Calls Tryd.prog 53 #[knVal a m v] w fun e w' => e = .returned (.string (ba (txtV ⟨a.data.toList, m.data.toList, ps⟩))) ∧ Below w.heap.size w w' := by
  obtain ⟨x1, c1, rfl, hc1, hm1, hv1⟩ := h.view
  have V1 := hid hv1
  have HG := hid hG
  clear h hv1 hG
  have hpl : ps.length ≤ 400000000 := by
    have h1 : ps.length ≤ (ps.flatMap prmT).length := by
      generalize ps = l
      induction l with
      | nil => simp
      | cons c l ih =>
        rw [List.flatMap_cons, List.length_append, List.length_cons]
        have : 1 ≤ (prmT c).length := by unfold prmT; simp
        omega
    have h2 : (ps.flatMap prmT).length ≤ (txtV ⟨a.data.toList, m.data.toList, ps⟩).length := by simp only [txtV, List.length_append]; omega
    omega
  have HE := hid (pfx_all ⟨a.data.toList, m.data.toList, ps⟩)
  have h0 := pfx_le ⟨a.data.toList, m.data.toList, ps⟩ 0
  have e0 : pfx ⟨a.data.toList, m.data.toList, ps⟩ 0 = a.data.toList ++ 47 :: m.data.toList := by simp [pfx, essV]
  rw [e0, List.length_append, List.length_cons, ← Lib.size_eq, ← Lib.size_eq] at h0
  have ha : a.size ≤ 4000000000 := by omega
  have hm : m.size ≤ 4000000000 := by omega
  have HTL := hid (fun k (hk : k < ps.length) => (show (pfx ⟨a.data.toList, m.data.toList, ps⟩ k).length + (prmT ps[k]).length ≤ 400000000 by
    have h1 := pfx_le ⟨a.data.toList, m.data.toList, ps⟩ (k + 1)
    rw [pfx_succ _ _ hk, List.length_append] at h1
    exact Nat.le_trans h1 hl))
  have HPS := hid (fun k (hk : k < ps.length) => pfx_succ ⟨a.data.toList, m.data.toList, ps⟩ k hk)
  obtain ⟨E, hE⟩ : ∃ E, ba (a.data.toList ++ 47 :: m.data.toList) = E := ⟨_, rfl⟩
  have hEs : E.size ≤ 4000000000 := by rw [← hE, ba_size, List.length_append, List.length_cons, ← Lib.size_eq, ← Lib.size_eq]; omega
  have hEl : E.data.toList = pfx ⟨a.data.toList, m.data.toList, ps⟩ 0 := by rw [e0, ← hE]; rfl
  have HEs : Hid (∀ w : World, Calls Tryd.prog 48 #[.agg #[.string a, .string m, .slice x1 ps.length c1]] w fun e w' => e = .returned (.string E) ∧ Below w.heap.size w w') := fun w => by
    rw [← hE]; exact essence_any a m _ w ha hm ⟨_, _, _, rfl⟩
  generalize hpf : pfx ⟨a.data.toList, m.data.toList, ps⟩ = PF at *
  generalize htx : txtV ⟨a.data.toList, m.data.toList, ps⟩ = TX at *
  clear h0 e0 hE hpf htx
  have hW : Below w.heap.size w ((w.alloc (.cells #[.string a, .string m, .slice x1 ps.length c1] 53)).alloc (.cells #[.pointer none, .slice none 0 0] 117)) := ((Below.refl _ w).alloc (Nat.le_refl _) _).alloc (by simp) _
  have hfb : Lib.IsBuilderF 117 5 (w.heap.size + 1) (w.heap.size + 1) (Lib.byteCells []) ((w.alloc (.cells #[.string a, .string m, .slice x1 ps.length c1] 53)).alloc (.cells #[.pointer none, .slice none 0 0] 117)) := by
    have := Lib.IsBuilderF.of (Lib.fresh_isBuilder 117 5 (w.alloc (.cells #[.string a, .string m, .slice x1 ps.length c1] 53)))
    rw [World.size_alloc] at this
    exact this
  have hT : Tri ((w.alloc (.cells #[.string a, .string m, .slice x1 ps.length c1] 53)).alloc (.cells #[.pointer none, .slice none 0 0] 117)) w.heap.size a m (.slice x1 ps.length c1) :=
    (show Tri (w.alloc (.cells #[.string a, .string m, .slice x1 ps.length c1] 53)) w.heap.size a m (.slice x1 ps.length c1) from heap_alloc_new _ _).kept ((Below.refl _ _).alloc (Nat.le_refl _) _)
  have hsz : ((w.alloc (.cells #[.string a, .string m, .slice x1 ps.length c1] 53)).alloc (.cells #[.pointer none, .slice none 0 0] 117)).heap.size = w.heap.size + 2 := by simp
  have HW := hid hW
  have HFb := hid hfb
  have HT := hid hT
  have HSz := hid hsz
  obtain ⟨q0, q1, q2⟩ := hT.cells
  clear hW hfb hT hsz
  unfold knVal
  go_enter Tryd.func53, Tryd.ntmps53
  go_wp2_with fail
  generalize ((w.alloc (.cells #[.string a, .string m, .slice x1 ps.length c1] 53)).alloc (.cells #[.pointer none, .slice none 0 0] 117)) = W at *
  refine (HEs.out _).mono ?_
  rintro e w1 ⟨rfl, hb1⟩
  have HF1 := hid (bld_below HFb.out hb1)
  have HT1 := hid (HT.out.kept hb1)
  have HW1 := hid (belowT HW.out hb1)
  have hw1 := hb1.size
  have hs1 : w.heap.size + 2 ≤ w1.heap.size := by rw [← HSz.out]; exact hw1
  clear hb1 q0 q1 q2
  go_wp2_with fail
  refine (wstr6 (w.heap.size + 1) (w.heap.size + 1) _ E _ HF1.out (by simp [Lib.byteCells]; omega) (by omega)).mono ?_
  rintro e w2 ⟨rfl, h2, hb2⟩
  have HF2 := hid (show Lib.IsBuilderF 117 5 (w.heap.size + 1) (w.heap.size + 1) (Lib.byteCells (PF 0)) w2 by
    rw [← hEl]
    refine .inr ?_
    have e1 : Lib.byteCells E.data.toList = Lib.byteCells [] ++ Lib.strCells E := by rw [← Lib.strCells_toArray, Lib.mk_data]; rfl
    rw [e1]; exact h2)
  have HW2 := hid (HW1.out.trans (hb2.mono (by omega)))
  have hs2 : w.heap.size + 2 ≤ w2.heap.size := by have := hb2.size; omega
  have q2 : w2.cell? ⟨w.heap.size, 2, none⟩ = some (.slice x1 ps.length c1) := (hb2.cell (p := ⟨w.heap.size, 2, none⟩) (by simp)).trans HT1.out.cells.2.2
  clear h2 hb2 hw1
  go_wp2
  clear q2
  go_loopw [12] (fun i wr => ∃ k : Nat, k ≤ ps.length ∧ i = .int .i64 k ∧ Lib.IsBuilderF 117 5 (w.heap.size + 1) (w.heap.size + 1) (Lib.byteCells (PF k)) wr ∧ Below w.heap.size w wr ∧ w.heap.size + 2 ≤ wr.heap.size) (fun i _ => ps.length - (intOf i).toNat)
  case atStart => exact ⟨0, Nat.zero_le _, rfl, HF2.out, HW2.out, hs2⟩
  case round =>
    obtain ⟨k, hk, rfl, hI, hbw, hsz⟩ := hrel
    have HI := hid hI
    have HBw := hid hbw
    clear hI hbw
    by_cases hlt : k < ps.length
    · have hlt' : (k : Int) < (ps.length : Int) := by omega
      obtain ⟨b1, o1, rfl, e1, e2⟩ := V1.out k hlt
      have f1 : wr.cell? ⟨b1, o1 + k * 2, none⟩ = some (.string ⟨ps[k].name.toArray⟩) := (HBw.out.cell (World.block_lt_of_cell? w _ e1)).trans e1
      have f2 : wr.cell? ⟨b1, o1 + k * 2 + 1, none⟩ = some (.string ⟨ps[k].value.toArray⟩) := (HBw.out.cell (World.block_lt_of_cell? w _ e2)).trans e2
      have hln := HTL.out k hlt
      have hst := HPS.out k hlt
      clear e1 e2
      obtain ⟨nm, hnm⟩ : ∃ x : ByteArray, x = ⟨ps[k].name.toArray⟩ := ⟨_, rfl⟩
      obtain ⟨vl, hvl⟩ : ∃ x : ByteArray, x = ⟨ps[k].value.toArray⟩ := ⟨_, rfl⟩
      rw [← hnm] at f1
      rw [← hvl] at f2
      have hp : prmT ps[k] = 59 :: (nm.data.toList ++ 61 :: wrtV vl.data.toList) := by unfold prmT; rw [hnm, hvl]
      rw [hp] at hln hst
      obtain ⟨WV, hWV⟩ : ∃ x, ba (wrtV vl.data.toList) = x := ⟨_, rfl⟩
      have hWl : WV.data.toList = wrtV vl.data.toList := by rw [← hWV]; rfl
      rw [← hWl] at hln hst
      simp only [List.length_cons, List.length_append, ← Lib.size_eq] at hln
      have hvs : vl.size ≤ 400000000 := by
        have : vl.size ≤ WV.size := by
          rw [Lib.size_eq, Lib.size_eq, hWl]; unfold wrtV
          split
          · exact Nat.le_refl _
          · have : vl.data.toList.length ≤ (vl.data.toList.flatMap escC).length := by
              generalize vl.data.toList = l
              induction l with
              | nil => simp
              | cons c l ih =>
                rw [List.flatMap_cons, List.length_append, List.length_cons]
                have : 1 ≤ (escC c).length := by unfold escC; split <;> simp
                omega
            rw [List.length_cons, List.length_append]; omega
        omega
      have HWr : Hid (∀ X : World, G5 X → Calls Tryd.prog 77 #[.string vl] X fun e w' => e = .returned (.string WV) ∧ Below X.heap.size X w') := hid (fun X hX => by rw [← hWV]; exact written_any vl X hX (by omega))
      have HS := hid (show Lib.byteCells (PF k) ++ Lib.strCells ((⟨#[59]⟩ : ByteArray) ++ nm ++ (⟨#[61]⟩ : ByteArray) ++ WV) = Lib.byteCells (PF (k + 1)) by
        rw [hst, Lib.byteCells_append]
        congr 1
        rw [← Lib.strCells_toArray]
        congr 1
        exact xba (by simp))
      have hPF : (PF k).length ≤ 400000000 := by omega
      have hnms : nm.size ≤ 400000000 := by omega
      have hWVs : WV.size ≤ 400000000 := by omega
      have HLn := hid (show (Lib.byteCells (PF k)).length + ((⟨#[59]⟩ : ByteArray) ++ nm ++ (⟨#[61]⟩ : ByteArray) ++ WV).size ≤ 140737488355328 by
        rw [Lib.byteCells_length, ByteArray.size_append, ByteArray.size_append, ByteArray.size_append]
        have : (⟨#[59]⟩ : ByteArray).size = 1 := rfl
        have : (⟨#[61]⟩ : ByteArray).size = 1 := rfl
        omega)
      have HGX := hid (show G5 (wr.alloc (.cells #[.string nm, .string vl] 60)).drew from HG.out.kept ((HBw.out.alloc HBw.out.size _).drew))
      have HY : Hid (∀ Y : World, Below (wr.heap.size + 1) (wr.alloc (.cells #[.string nm, .string vl] 60)).drew Y → (Y.cell? ⟨wr.heap.size, 0, none⟩ = some (.string nm) ∧ Y.cell? ⟨wr.heap.size, 1, none⟩ = some (.string vl)) ∧ Lib.IsBuilderF 117 5 (w.heap.size + 1) (w.heap.size + 1) (Lib.byteCells (PF k)) Y ∧ Below w.heap.size w Y ∧ w.heap.size + 2 ≤ Y.heap.size) := hid (fun Y hY => by
        have hb2 : Below wr.heap.size wr (wr.alloc (.cells #[.string nm, .string vl] 60)).drew := ((Below.refl wr.heap.size wr).alloc (Nat.le_refl _) _).drew
        have hb3 := hb2.trans (hY.mono (by omega))
        refine ⟨⟨?_, ?_⟩, bld_below HI.out hb3, HBw.out.trans (hb3.mono (by have := HBw.out.size; omega)), by have := hb3.size; omega⟩
        · rw [hY.cell (by show wr.heap.size < _; omega)]
          rw [Lib.cell_of_heap (show (wr.alloc (.cells #[.string nm, .string vl] 60)).drew.heap[wr.heap.size]? = some (.cells #[.string nm, .string vl] 60) from heap_alloc_new wr _)]
          rfl
        · rw [hY.cell (by show wr.heap.size < _; omega)]
          rw [Lib.cell_of_heap (show (wr.alloc (.cells #[.string nm, .string vl] 60)).drew.heap[wr.heap.size]? = some (.cells #[.string nm, .string vl] 60) from heap_alloc_new wr _)]
          rfl)
      clear hnm hvl hp hWV hWl hst hln
      go_wp2
      go_region_with (first
        | (go_at_call 77; refine (HWr.out _ HGX.out).mono ?_; rintro e wy ⟨rfl, hby⟩; have hby2 : Below (wr.heap.size + 1) (wr.alloc (.cells #[.string nm, .string vl] 60)).drew wy := (by first | exact hby | simpa using hby); obtain ⟨⟨s0, s1⟩, hIy, hbY, hsY⟩ := HY.out wy hby2; have HIy := hid hIy; have HbY := hid hbY; clear hIy hbY hby hby2)
        | (go_at_call 76; refine (wstr6 (w.heap.size + 1) (w.heap.size + 1) _ _ _ HIy.out HLn.out (by omega)).mono ?_; rintro e wz ⟨rfl, hz, hbz⟩))
      all_goals
        have HI3 := hid (show Lib.IsBuilderF 117 5 (w.heap.size + 1) (w.heap.size + 1) (Lib.byteCells (PF (k + 1))) wz by rw [← HS.out]; exact .inr hz)
        have HB3 := hid (HbY.out.trans (hbz.mono (by omega)))
        have hsz3 := hbz.size
        clear hz hbz
        go_wp2
        go_roundw
        case rel => exact ⟨k + 1, by omega, by go_num, HI3.out, HB3.out, by omega⟩
        case measure => simp [intOf]; omega
    · have hke : k = ps.length := by omega
      subst hke
      have HI4 := hid (show Lib.IsBuilderF 117 5 (w.heap.size + 1) (w.heap.size + 1) (Lib.byteCells TX) wr by rw [← HE.out]; exact HI.out)
      go_wp2_with fail
      refine (Tryd.Builder_String_any_k (w.heap.size + 1) (w.heap.size + 1) _ _ HI4.out (by omega)).mono ?_
      rintro e w4 ⟨rfl, _, hb4, _⟩
      have HB4 := hid (HBw.out.trans (hb4.mono (by omega)))
      clear hb4
      go_wp2
      go_ret
      exact ⟨rfl, HB4.out⟩

end Go.Proofs.YtplabofdcnpcpaaDoor
