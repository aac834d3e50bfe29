/-
  The walk of ostiarylaw6.same.
  The walk of the law MimeParses.
-/
import Derived.Test.YtiemggepdeaogaaDoorNf
import Derived.Test.YtiemggepdeaogaaDoorXq
import Derived.Deep.RegionHeld
set_option linter.unusedSimpArgs false
set_option linter.unusedVariables false
namespace Go.Proofs.YtiemggepdeaogaaDoor
open Go.RowKit

set_option maxHeartbeats 4000000 in
set_option maxRecDepth 100000 in
theorem lsame_any (A M : ByteArray) (v1 v2 : Value) (ps : List Hd) (w : World) (h1 : HdAt w v1 ps) (h2 : HdAt w v2 ps) (hl : ps.length ≤ 1000000) :
    Calls Tryd.prog 18 #[.agg #[.string A, .string M, v1], .agg #[.string A, .string M, v2]] w fun e w' => e = .returned (.bool true) ∧ Below w.heap.size w w' := by
  obtain ⟨a1, c1, rfl, hc1, hm1, hv1⟩ := h1.view
  obtain ⟨a2, c2, rfl, hc2, hm2, hv2⟩ := h2.view
  have V1 := hid hv1
  have V2 := hid hv2
  clear h1 h2 hv1 hv2
  obtain ⟨W, hW⟩ : ∃ W, (w.alloc (.cells #[.string A, .string M, .slice a1 ps.length c1] 28)).alloc (.cells #[.string A, .string M, .slice a2 ps.length c2] 39) = W := ⟨_, rfl⟩
  have HB := hid (show Below w.heap.size w W by rw [← hW]; exact ((Below.refl _ w).alloc (Nat.le_refl _) _).alloc (by simp) _)
  have HT1 := hid (show Tri W w.heap.size A M (.slice a1 ps.length c1) by
    rw [← hW]
    exact (show Tri (w.alloc (.cells #[.string A, .string M, .slice a1 ps.length c1] 28)) w.heap.size A M (.slice a1 ps.length c1) from heap_alloc_new _ _).kept ((Below.refl _ _).alloc (Nat.le_refl _) _))
  have HT2 := hid (show TriR W (w.heap.size + 1) A M (.slice a2 ps.length c2) by
    rw [← hW]
    have := heap_alloc_new (w.alloc (.cells #[.string A, .string M, .slice a1 ps.length c1] 28)) (.cells #[.string A, .string M, .slice a2 ps.length c2] 39)
    rw [World.size_alloc] at this
    exact this)
  have HWe := hid hW
  clear hW
  go_enter Tryd.func18, Tryd.ntmps18
  go_wp2
  rw [HWe.out]
  go_loopw [5] (fun i wr => ∃ k : Nat, k ≤ ps.length ∧ i = .int .i64 k ∧ Below W.heap.size W wr) (fun i _ => ps.length - (intOf i).toNat)
  case atStart => exact ⟨0, Nat.zero_le _, rfl, Below.refl _ _⟩
  case round =>
    obtain ⟨k, hk, rfl, hb⟩ := hrel
    have HBk := hid hb
    obtain ⟨x0, x1, x2⟩ := (HT1.out.kept hb).cells
    obtain ⟨y0, y1, y2⟩ := (HT2.out.kept hb).cells
    clear hb
    by_cases hlt : k < ps.length
    · have hlt' : (k : Int) < (ps.length : Int) := by omega
      obtain ⟨b1, o1, rfl, e1, e1'⟩ := V1.out k hlt
      obtain ⟨b2, o2, rfl, e2, e2'⟩ := V2.out k hlt
      have hbw := belowT HB.out HBk.out
      have f1 := (hbw.cell (World.block_lt_of_cell? w _ e1)).trans e1
      have f1' := (hbw.cell (World.block_lt_of_cell? w _ e1')).trans e1'
      have f2 := (hbw.cell (World.block_lt_of_cell? w _ e2)).trans e2
      have f2' := (hbw.cell (World.block_lt_of_cell? w _ e2')).trans e2'
      clear e1 e2 e1' e2' hbw
      obtain ⟨X, hX⟩ : ∃ x : ByteArray, (⟨ps[k].name.toArray⟩ : ByteArray) = x := ⟨_, rfl⟩
      obtain ⟨Y, hY⟩ : ∃ x : ByteArray, (⟨ps[k].value.toArray⟩ : ByteArray) = x := ⟨_, rfl⟩
      rw [hX] at f1 f2
      rw [hY] at f1' f2'
      clear hX hY
      go_wp2
      go_quiet (fail)
      go_wp2
      go_roundw
      case rel => exact ⟨k + 1, by omega, by go_num, below_drewN HBk.out _⟩
      case measure => simp [intOf]; omega
    · go_wp2
      go_ret
      exact ⟨rfl, belowT HB.out HBk.out⟩

end Go.Proofs.YtiemggepdeaogaaDoor

namespace Go.Proofs.YtiemggepdeaogaaDoor
open Go.RowKit

set_option maxHeartbeats 16000000 in
set_option maxRecDepth 100000 in
theorem mimeParses_walk (s0 : ByteArray) (w : World) (hs0 : s0.size ≤ 140737488351232) (hG : G5 w) :
    Calls Tryd.prog 4 #[.string s0] w fun e w' => e = .returned (.bool true) ∧ Below w.heap.size w w' := by
  have HG := hid hG
  clear hG
  have HF := hid (xfew_any s0 500 w (by omega) (by omega))
  obtain ⟨s, hs⟩ : ∃ s : ByteArray, (⟨(s0.data.toList.take 500).toArray⟩ : ByteArray) = s := ⟨_, rfl⟩
  have hsl : s.size ≤ 500 := by rw [← hs, xsize, List.length_take]; omega
  rw [hs] at HF
  clear hs
  have hkl := kn_len s.data.toList
  rw [← Lib.size_eq] at hkl
  have hln := txt_small s.data.toList (by rw [← Lib.size_eq]; omega)
  have HP : Hid (∀ X, G5 X → Calls Tryd.prog 16 #[.string s] X (KnPost s.data.toList X)) := fun X hX => parse6_any s X hX (by omega)
  have HQ : Hid (∀ X, Calls Tryd.prog 17 #[.string s] X (KrPost s.data.toList X)) := fun X => rparse6_any s X (by omega)
  unfold KnPost at HP
  unfold KrPost at HQ
  generalize knOk s.data.toList = ok at *
  generalize knV s.data.toList = t at *
  obtain ⟨tj, tn, ps⟩ := t
  simp only at HP HQ hkl hln
  obtain ⟨A, hA⟩ : ∃ A, ba tj = A := ⟨_, rfl⟩
  obtain ⟨M, hM⟩ : ∃ M, ba tn = M := ⟨_, rfl⟩
  have hAl : tj = A.data.toList := by rw [← hA]; rfl
  have hMl : tn = M.data.toList := by rw [← hM]; rfl
  have hAs : A.size ≤ 500 := by rw [← hA, ba_size]; omega
  have hMs : M.size ≤ 500 := by rw [← hM, ba_size]; omega
  have hpl : ps.length ≤ 1000000 := by omega
  rw [hA, hM] at HP HQ
  subst hAl hMl
  clear hA hM hkl
  unfold knVal at HP HQ
  obtain ⟨TX, hTX⟩ : ∃ x, ba (txtV ⟨A.data.toList, M.data.toList, ps⟩) = x := ⟨_, rfl⟩
  obtain ⟨ES, hES⟩ : ∃ x, ba (A.data.toList ++ 47 :: M.data.toList) = x := ⟨_, rfl⟩
  obtain ⟨g, hg⟩ : ∃ x, grpV A.data.toList M.data.toList = x := ⟨_, rfl⟩
  go_enter Tryd.func4, Tryd.ntmps4
  go_wp2_with fail
  refine HF.out.mono ?_
  rintro e w0 ⟨rfl, rfl⟩
  go_wp2_with fail
  refine (HP.out _ HG.out).mono ?_
  rintro e w1 ⟨v1, rfl, ho1, hb1⟩
  obtain ⟨p1, p2, p3, rfl⟩ := own_slice ho1
  have H1 := hid ((own_hd ho1).kept ((Below.refl _ w1).alloc (Nat.le_refl _) (.cells #[.string A, .string M, .slice p1 p2 p3] 28)))
  have HB1 := hid (hb1.alloc hb1.size (.cells #[.string A, .string M, .slice p1 p2 p3] 28))
  have HT1 := hid (show Tri (w1.alloc (.cells #[.string A, .string M, .slice p1 p2 p3] 28)) w1.heap.size A M (.slice p1 p2 p3) from heap_alloc_new _ _)
  clear ho1 hb1
  go_wp2_with fail
  generalize (w1.alloc (.cells #[.string A, .string M, .slice p1 p2 p3] 28)) = W1 at *
  refine (HQ.out _).mono ?_
  rintro e w2 ⟨v2, rfl, ho2, hb2⟩
  obtain ⟨r1, r2, r3, rfl⟩ := own_slice ho2
  have hlt1 : w1.heap.size < w2.heap.size := (HT1.out.kept hb2).lt
  have H2 := hid ((own_hd ho2).kept ((Below.refl _ w2).alloc (Nat.le_refl _) (.cells #[.string A, .string M, .slice r1 r2 r3] 39)))
  have H12 := hid ((H1.out.kept hb2).kept ((Below.refl _ w2).alloc (Nat.le_refl _) (.cells #[.string A, .string M, .slice r1 r2 r3] 39)))
  have HT12 := hid ((HT1.out.kept hb2).kept ((Below.refl _ w2).alloc (Nat.le_refl _) (.cells #[.string A, .string M, .slice r1 r2 r3] 39)))
  have HT2 := hid (show TriR (w2.alloc (.cells #[.string A, .string M, .slice r1 r2 r3] 39)) w2.heap.size A M (.slice r1 r2 r3) from heap_alloc_new _ _)
  have hB2 := belowT HB1.out hb2
  have HB2 := hid (hB2.alloc hB2.size (.cells #[.string A, .string M, .slice r1 r2 r3] 39))
  obtain ⟨X, hX⟩ : ∃ X, w2.alloc (.cells #[.string A, .string M, .slice r1 r2 r3] 39) = X := ⟨_, rfl⟩
  rw [hX] at H2 H12 HT12 HT2 HB2
  have HXe := hid hX
  clear ho2 hb2 hB2 hX H1 HB1 HT1 HP HQ HF
  generalize w1.heap.size = pa at *
  generalize hpb : w2.heap.size = pb at *
  have HK : Hid (∀ Y Z : World, Below X.heap.size X Y → Below Y.heap.size Y Z → Below X.heap.size X Z) := hid (fun Y Z h1 h2 => h1.trans (h2.mono h1.size))
  have HXD := hid ((Below.refl X.heap.size X).drew)
  have HS := hid (fun Y (hY : Below X.heap.size X Y) => (show Below X.heap.size X Y ∧ Y.cell? ⟨pa, 0, none⟩ = some (.string A) ∧ Y.cell? ⟨pa, 1, none⟩ = some (.string M) ∧ Y.cell? ⟨pa, 2, none⟩ = some (.slice p1 p2 p3) ∧ Y.cell? ⟨pb, 0, none⟩ = some (.string A) ∧ Y.cell? ⟨pb, 1, none⟩ = some (.string M) ∧ Y.cell? ⟨pb, 2, none⟩ = some (.slice r1 r2 r3) from
    ⟨hY, (HT12.out.kept hY).cells.1, (HT12.out.kept hY).cells.2.1, (HT12.out.kept hY).cells.2.2, (HT2.out.kept hY).cells.1, (HT2.out.kept hY).cells.2.1, (HT2.out.kept hY).cells.2.2⟩))
  have HSm : Hid (∀ Y, Below X.heap.size X Y → Calls Tryd.prog 18 #[.agg #[.string A, .string M, .slice p1 p2 p3], .agg #[.string A, .string M, .slice r1 r2 r3]] Y fun e w' => e = .returned (.bool true) ∧ Below Y.heap.size Y w') := fun Y hY => lsame_any A M _ _ ps Y (H12.out.kept hY) (H2.out.kept hY) hpl
  have HKn : Hid (∀ Y, Below X.heap.size X Y → Calls Tryd.prog 14 #[] Y fun e w' => e = .returned (.bool true) ∧ Below Y.heap.size Y w') := fun Y hY => known6_any Y (HG.out.kept (belowT HB2.out hY))
  have HT : Hid (∀ Y, Below X.heap.size X Y → Calls Tryd.prog 19 #[.agg #[.string A, .string M, .slice p1 p2 p3]] Y fun e w' => e = .returned (.string TX) ∧ Below Y.heap.size Y w') := fun Y hY => by
    rw [← hTX]; exact text6_any A M _ ps Y (HG.out.kept (belowT HB2.out hY)) (H12.out.kept hY) hln
  have HrT : Hid (∀ Y, Below X.heap.size X Y → Calls Tryd.prog 20 #[.agg #[.string A, .string M, .slice r1 r2 r3]] Y fun e w' => e = .returned (.string TX) ∧ Below Y.heap.size Y w') := fun Y hY => by
    rw [← hTX]; exact rtext_any A M _ ps Y (H2.out.kept hY) hln
  have HE : Hid (∀ Y : World, Calls Tryd.prog 21 #[.agg #[.string A, .string M, .slice p1 p2 p3]] Y fun e w' => e = .returned (.string ES) ∧ Below Y.heap.size Y w') := fun Y => by
    rw [← hES]; exact essence_any A M _ Y (by omega) (by omega) ⟨_, _, _, rfl⟩
  have HrE : Hid (∀ Y : World, Calls Tryd.prog 22 #[.agg #[.string A, .string M, .slice r1 r2 r3]] Y fun e w' => e = .returned (.string ES) ∧ Below Y.heap.size Y w') := fun Y => by
    rw [← hES]; exact ressence_any A M _ _ _ Y (by omega) (by omega)
  have HGr : Hid (∀ Y : World, Calls Tryd.prog 23 #[.agg #[.string A, .string M, .slice p1 p2 p3]] Y fun e w' => e = .returned (.int .i64 g) ∧ Below Y.heap.size Y w') := fun Y => by
    rw [← hg]; exact group_any A M _ _ _ Y (by omega)
  have HrG : Hid (∀ Y : World, Calls Tryd.prog 24 #[.agg #[.string A, .string M, .slice r1 r2 r3]] Y fun e w' => e = .returned (.int .i64 g) ∧ Below Y.heap.size Y w') := fun Y => by
    rw [← hg]; exact rgroup_any A M _ _ _ Y (by omega)
  have HBX := hid HB2.out
  clear hTX hES hg hln hAs hMs hpl HT12 HT2 H12 H2 hs0 hsl hlt1 HB2
  cases ok with
  | false =>
    go_wp2
    first | rw [HXe.out] | skip
    refine wp_region_held_drew (S := (fun wx => Below X.heap.size X wx ∧ wx.cell? ⟨pa, 0, none⟩ = some (.string A) ∧ wx.cell? ⟨pa, 1, none⟩ = some (.string M) ∧ wx.cell? ⟨pa, 2, none⟩ = some (.slice p1 p2 p3) ∧ wx.cell? ⟨pb, 0, none⟩ = some (.string A) ∧ wx.cell? ⟨pb, 1, none⟩ = some (.string M) ∧ wx.cell? ⟨pb, 2, none⟩ = some (.slice r1 r2 r3))) (by kernel_rfl) (HS.out _ HXD.out) (fun hHeld => ?_)
    refine' wpAnyH_take (i := 0) (v := _) rfl (by kernel_rfl) (by kernel_rfl) (by kernel_rfl) (fun _ _ _ h => h) (Or.inl ⟨by kernel_rfl, ?hy0⟩) (by assumption) ?rest0
    case hy0 => (intro w hSw; (try dsimp only at hSw); go_simp; try with_reducible rfl)
    (try simp only [Act.put, List.setIfInBounds_toArray, List.set_cons_zero, List.set_cons_succ])
    refine' wpAnyH_take (i := 1) (v := _) rfl (by kernel_rfl) (by kernel_rfl) (by kernel_rfl) (fun _ _ _ h => h) (Or.inl ⟨by kernel_rfl, ?hy1⟩) (by assumption) ?rest1
    case hy1 => (intro w hSw; (try dsimp only at hSw); go_simp; try with_reducible rfl)
    (try simp only [Act.put, List.setIfInBounds_toArray, List.set_cons_zero, List.set_cons_succ])
    refine' wpAnyH_take (i := 2) (v := _) rfl (by kernel_rfl) (by kernel_rfl) (by kernel_rfl) (fun _ _ _ h => h) (Or.inl ⟨by kernel_rfl, ?hy2⟩) (by assumption) ?rest2
    case hy2 => (intro w hSw; (try dsimp only at hSw); go_simp; try with_reducible rfl)
    (try simp only [Act.put, List.setIfInBounds_toArray, List.set_cons_zero, List.set_cons_succ])
    refine' wpAnyH_take (i := 3) (v := _) rfl (by kernel_rfl) (by kernel_rfl) (by kernel_rfl) (fun _ _ _ h => h) (Or.inl ⟨by kernel_rfl, ?hy3⟩) (by assumption) ?rest3
    case hy3 => (intro w hSw; (try dsimp only at hSw); go_simp; try with_reducible rfl)
    (try simp only [Act.put, List.setIfInBounds_toArray, List.set_cons_zero, List.set_cons_succ])
    refine' wpAnyH_take (i := 4) (v := _) rfl (by kernel_rfl) (by kernel_rfl) (by kernel_rfl) (fun _ _ _ h => h) (Or.inl ⟨by kernel_rfl, ?hy4⟩) (by assumption) ?rest4
    case hy4 => (intro w hSw; (try dsimp only at hSw); go_simp; try with_reducible rfl)
    (try simp only [Act.put, List.setIfInBounds_toArray, List.set_cons_zero, List.set_cons_succ])
    refine' wpAnyH_take (i := 5) (v := _) rfl (by kernel_rfl) (by kernel_rfl) (by kernel_rfl) (fun _ _ _ h => h) (Or.inl ⟨by kernel_rfl, ?hy5⟩) (by assumption) ?rest5
    case hy5 => (intro w hSw; (try dsimp only at hSw); go_simp; try with_reducible rfl)
    (try simp only [Act.put, List.setIfInBounds_toArray, List.set_cons_zero, List.set_cons_succ])
    refine wpAnyH_ready (rs := [6]) (by kernel_rfl) (by simp) ?_
    refine AllReadyH.cons rfl (fun K hK => ?_) AllReadyH.nil
    rw [if_pos (by kernel_rfl)]
    go_simp
    go_wp2_with (go_at_call 18; refine (HSm.out _ HXD.out).mono ?_; rintro e wa ⟨rfl, hwa⟩)
    refine hK.out _ _ (HS.out _ (HK.out _ _ HXD.out hwa)) (fun hHeld2 => ?_)
    clear hK K hHeld
    rename _ => hHeld
    refine' wpAnyH_take (i := 7) (v := _) rfl (by kernel_rfl) (by kernel_rfl) (by kernel_rfl) (fun _ _ _ h => h) (Or.inl ⟨by kernel_rfl, ?hy7⟩) (by assumption) ?rest7
    case hy7 => (intro w hSw; (try dsimp only at hSw); go_simp; try with_reducible rfl)
    (try simp only [Act.put, List.setIfInBounds_toArray, List.set_cons_zero, List.set_cons_succ])
    refine' wpAnyH_take (i := 8) (v := _) rfl (by kernel_rfl) (by kernel_rfl) (by kernel_rfl) (fun _ _ _ h => h) (Or.inl ⟨by kernel_rfl, ?hy8⟩) (by assumption) ?rest8
    case hy8 => (intro w hSw; (try dsimp only at hSw); go_simp; try with_reducible rfl)
    (try simp only [Act.put, List.setIfInBounds_toArray, List.set_cons_zero, List.set_cons_succ])
    refine' wpAnyH_take (i := 9) (v := _) rfl (by kernel_rfl) (by kernel_rfl) (by kernel_rfl) (fun _ _ _ h => h) (Or.inl ⟨by kernel_rfl, ?hy9⟩) (by assumption) ?rest9
    case hy9 => (intro w hSw; (try dsimp only at hSw); go_simp; try with_reducible rfl)
    (try simp only [Act.put, List.setIfInBounds_toArray, List.set_cons_zero, List.set_cons_succ])
    refine' wpAnyH_take (i := 10) (v := _) rfl (by kernel_rfl) (by kernel_rfl) (by kernel_rfl) (fun _ _ _ h => h) (Or.inl ⟨by kernel_rfl, ?hy10⟩) (by assumption) ?rest10
    case hy10 => (intro w hSw; (try dsimp only at hSw); go_simp; try with_reducible rfl)
    (try simp only [Act.put, List.setIfInBounds_toArray, List.set_cons_zero, List.set_cons_succ])
    refine' wpAnyH_take (i := 11) (v := _) rfl (by kernel_rfl) (by kernel_rfl) (by kernel_rfl) (fun _ _ _ h => h) (Or.inl ⟨by kernel_rfl, ?hy11⟩) (by assumption) ?rest11
    case hy11 => (intro w hSw; (try dsimp only at hSw); go_simp; try with_reducible rfl)
    (try simp only [Act.put, List.setIfInBounds_toArray, List.set_cons_zero, List.set_cons_succ])
    refine wpAnyH_take (i := 12) (v := undef) rfl (by kernel_rfl) (by kernel_rfl) (by kernel_rfl) (fun _ _ _ h => h) (Or.inr ⟨by kernel_rfl, by kernel_rfl⟩) (by assumption) ?_
    (try simp only [Act.put, List.setIfInBounds_toArray, List.set_cons_zero, List.set_cons_succ])
    refine wpAnyH_take (i := 13) (v := undef) rfl (by kernel_rfl) (by kernel_rfl) (by kernel_rfl) (fun _ _ _ h => h) (Or.inr ⟨by kernel_rfl, by kernel_rfl⟩) (by assumption) ?_
    (try simp only [Act.put, List.setIfInBounds_toArray, List.set_cons_zero, List.set_cons_succ])
    refine wpAnyH_take (i := 14) (v := undef) rfl (by kernel_rfl) (by kernel_rfl) (by kernel_rfl) (fun _ _ _ h => h) (Or.inr ⟨by kernel_rfl, by kernel_rfl⟩) (by assumption) ?_
    (try simp only [Act.put, List.setIfInBounds_toArray, List.set_cons_zero, List.set_cons_succ])
    refine wpAnyH_take (i := 15) (v := undef) rfl (by kernel_rfl) (by kernel_rfl) (by kernel_rfl) (fun _ _ _ h => h) (Or.inr ⟨by kernel_rfl, by kernel_rfl⟩) (by assumption) ?_
    (try simp only [Act.put, List.setIfInBounds_toArray, List.set_cons_zero, List.set_cons_succ])
    refine wpAnyH_take (i := 16) (v := undef) rfl (by kernel_rfl) (by kernel_rfl) (by kernel_rfl) (fun _ _ _ h => h) (Or.inr ⟨by kernel_rfl, by kernel_rfl⟩) (by assumption) ?_
    (try simp only [Act.put, List.setIfInBounds_toArray, List.set_cons_zero, List.set_cons_succ])
    refine wpAnyH_take (i := 17) (v := undef) rfl (by kernel_rfl) (by kernel_rfl) (by kernel_rfl) (fun _ _ _ h => h) (Or.inr ⟨by kernel_rfl, by kernel_rfl⟩) (by assumption) ?_
    (try simp only [Act.put, List.setIfInBounds_toArray, List.set_cons_zero, List.set_cons_succ])
    refine wpAnyH_take (i := 18) (v := undef) rfl (by kernel_rfl) (by kernel_rfl) (by kernel_rfl) (fun _ _ _ h => h) (Or.inr ⟨by kernel_rfl, by kernel_rfl⟩) (by assumption) ?_
    (try simp only [Act.put, List.setIfInBounds_toArray, List.set_cons_zero, List.set_cons_succ])
    refine wpAnyH_take (i := 19) (v := undef) rfl (by kernel_rfl) (by kernel_rfl) (by kernel_rfl) (fun _ _ _ h => h) (Or.inr ⟨by kernel_rfl, by kernel_rfl⟩) (by assumption) ?_
    (try simp only [Act.put, List.setIfInBounds_toArray, List.set_cons_zero, List.set_cons_succ])
    refine wpAnyH_take (i := 20) (v := undef) rfl (by kernel_rfl) (by kernel_rfl) (by kernel_rfl) (fun _ _ _ h => h) (Or.inr ⟨by kernel_rfl, by kernel_rfl⟩) (by assumption) ?_
    (try simp only [Act.put, List.setIfInBounds_toArray, List.set_cons_zero, List.set_cons_succ])
    refine wpAnyH_take (i := 21) (v := undef) rfl (by kernel_rfl) (by kernel_rfl) (by kernel_rfl) (fun _ _ _ h => h) (Or.inr ⟨by kernel_rfl, by kernel_rfl⟩) (by assumption) ?_
    (try simp only [Act.put, List.setIfInBounds_toArray, List.set_cons_zero, List.set_cons_succ])
    refine wpAnyH_take (i := 22) (v := undef) rfl (by kernel_rfl) (by kernel_rfl) (by kernel_rfl) (fun _ _ _ h => h) (Or.inr ⟨by kernel_rfl, by kernel_rfl⟩) (by assumption) ?_
    (try simp only [Act.put, List.setIfInBounds_toArray, List.set_cons_zero, List.set_cons_succ])
    refine wpAnyH_take (i := 23) (v := undef) rfl (by kernel_rfl) (by kernel_rfl) (by kernel_rfl) (fun _ _ _ h => h) (Or.inr ⟨by kernel_rfl, by kernel_rfl⟩) (by assumption) ?_
    (try simp only [Act.put, List.setIfInBounds_toArray, List.set_cons_zero, List.set_cons_succ])
    refine wpAnyH_take (i := 24) (v := undef) rfl (by kernel_rfl) (by kernel_rfl) (by kernel_rfl) (fun _ _ _ h => h) (Or.inr ⟨by kernel_rfl, by kernel_rfl⟩) (by assumption) ?_
    (try simp only [Act.put, List.setIfInBounds_toArray, List.set_cons_zero, List.set_cons_succ])
    refine wpAnyH_take (i := 25) (v := undef) rfl (by kernel_rfl) (by kernel_rfl) (by kernel_rfl) (fun _ _ _ h => h) (Or.inr ⟨by kernel_rfl, by kernel_rfl⟩) (by assumption) ?_
    (try simp only [Act.put, List.setIfInBounds_toArray, List.set_cons_zero, List.set_cons_succ])
    refine wpAnyH_take (i := 26) (v := undef) rfl (by kernel_rfl) (by kernel_rfl) (by kernel_rfl) (fun _ _ _ h => h) (Or.inr ⟨by kernel_rfl, by kernel_rfl⟩) (by assumption) ?_
    (try simp only [Act.put, List.setIfInBounds_toArray, List.set_cons_zero, List.set_cons_succ])
    refine wpAnyH_take (i := 27) (v := undef) rfl (by kernel_rfl) (by kernel_rfl) (by kernel_rfl) (fun _ _ _ h => h) (Or.inr ⟨by kernel_rfl, by kernel_rfl⟩) (by assumption) ?_
    (try simp only [Act.put, List.setIfInBounds_toArray, List.set_cons_zero, List.set_cons_succ])
    refine wpAnyH_take (i := 28) (v := undef) rfl (by kernel_rfl) (by kernel_rfl) (by kernel_rfl) (fun _ _ _ h => h) (Or.inr ⟨by kernel_rfl, by kernel_rfl⟩) (by assumption) ?_
    (try simp only [Act.put, List.setIfInBounds_toArray, List.set_cons_zero, List.set_cons_succ])
    refine wpAnyH_take (i := 29) (v := undef) rfl (by kernel_rfl) (by kernel_rfl) (by kernel_rfl) (fun _ _ _ h => h) (Or.inr ⟨by kernel_rfl, by kernel_rfl⟩) (by assumption) ?_
    (try simp only [Act.put, List.setIfInBounds_toArray, List.set_cons_zero, List.set_cons_succ])
    refine wpAnyH_take (i := 30) (v := undef) rfl (by kernel_rfl) (by kernel_rfl) (by kernel_rfl) (fun _ _ _ h => h) (Or.inr ⟨by kernel_rfl, by kernel_rfl⟩) (by assumption) ?_
    (try simp only [Act.put, List.setIfInBounds_toArray, List.set_cons_zero, List.set_cons_succ])
    refine' wpAnyH_take (i := 31) (v := _) rfl (by kernel_rfl) (by kernel_rfl) (by kernel_rfl) (fun _ _ _ h => h) (Or.inl ⟨by kernel_rfl, ?hy31⟩) (by assumption) ?rest31
    case hy31 => (intro w hSw; (try dsimp only at hSw); go_simp; try with_reducible rfl)
    (try simp only [Act.put, List.setIfInBounds_toArray, List.set_cons_zero, List.set_cons_succ])
    refine' wpAnyH_take (i := 32) (v := _) rfl (by kernel_rfl) (by kernel_rfl) (by kernel_rfl) (fun _ _ _ h => h) (Or.inl ⟨by kernel_rfl, ?hy32⟩) (by assumption) ?rest32
    case hy32 => (intro w hSw; (try dsimp only at hSw); go_simp; try with_reducible rfl)
    (try simp only [Act.put, List.setIfInBounds_toArray, List.set_cons_zero, List.set_cons_succ])
    refine' wpAnyH_take (i := 33) (v := _) rfl (by kernel_rfl) (by kernel_rfl) (by kernel_rfl) (fun _ _ _ h => h) (Or.inl ⟨by kernel_rfl, ?hy33⟩) (by assumption) ?rest33
    case hy33 => (intro w hSw; (try dsimp only at hSw); go_simp; try with_reducible rfl)
    (try simp only [Act.put, List.setIfInBounds_toArray, List.set_cons_zero, List.set_cons_succ])
    refine wpAnyH_ready (rs := [34]) (by kernel_rfl) (by simp) ?_
    refine AllReadyH.cons rfl (fun K hK => ?_) AllReadyH.nil
    rw [if_pos (by kernel_rfl)]
    go_simp
    go_wp2_with (go_at_call 14; refine (HKn.out _ (HK.out _ _ HXD.out hwa)).mono ?_; rintro e wk ⟨rfl, hwk⟩)
    refine hK.out _ _ (HS.out _ (HK.out _ _ (HK.out _ _ HXD.out hwa) hwk)) (fun hHeld2 => ?_)
    clear hK K hHeld
    rename _ => hHeld
    refine' wpAnyH_take (i := 35) (oi := ⟨some 54, _, _, _, _, _⟩) (v := _) rfl (by kernel_rfl) (by kernel_rfl) (by kernel_rfl) (fun _ _ _ h => h) (Or.inl ⟨by kernel_rfl, ?hy35⟩) (by assumption) ?rest35
    case hy35 => (intro w hSw; (try dsimp only at hSw); go_simp; try with_reducible rfl)
    (try simp only [Act.put, List.setIfInBounds_toArray, List.set_cons_zero, List.set_cons_succ])
    refine' wpAnyH_take (i := 36) (oi := ⟨some 2, _, _, _, _, _⟩) (v := _) rfl (by kernel_rfl) (by kernel_rfl) (by kernel_rfl) (fun _ _ _ h => h) (Or.inl ⟨by kernel_rfl, ?hy36⟩) (by assumption) ?rest36
    case hy36 => (intro w hSw; (try dsimp only at hSw); go_simp; try with_reducible rfl)
    (try simp only [Act.put, List.setIfInBounds_toArray, List.set_cons_zero, List.set_cons_succ])
    refine wpAnyH_done (by kernel_rfl) ?_ _
    have hfin := hHeld.1
    go_wp2
    go_ret
    exact ⟨rfl, belowT HBX.out hfin⟩
  | true =>
    go_wp2
    first | rw [HXe.out] | skip
    (first | (go_region_held (fun wx => Below X.heap.size X wx ∧ wx.cell? ⟨pa, 0, none⟩ = some (.string A) ∧ wx.cell? ⟨pa, 1, none⟩ = some (.string M) ∧ wx.cell? ⟨pa, 2, none⟩ = some (.slice p1 p2 p3) ∧ wx.cell? ⟨pb, 0, none⟩ = some (.string A) ∧ wx.cell? ⟨pb, 1, none⟩ = some (.string M) ∧ wx.cell? ⟨pb, 2, none⟩ = some (.slice r1 r2 r3))
      (first | exact HS.out _ HXD.out | exact HS.out _ (HK.out _ _ HXD.out (by assumption)) | (go_split_ands; exact HS.out _ (HK.out _ _ (by assumption) (by assumption))) | (go_split_ands; exact HS.out _ (by assumption)))
      (first | (go_at_call 18; refine (HSm.out _ (by (try dsimp only at *); go_split_ands; first | assumption | exact HXD.out)).mono ?_; rintro e wa ⟨rfl, hwa⟩) | (go_at_call 19; refine (HT.out _ (by (try dsimp only at *); go_split_ands; first | assumption | exact HXD.out)).mono ?_; rintro e wt ⟨rfl, hwt⟩) | (go_at_call 20; refine (HrT.out _ (by (try dsimp only at *); go_split_ands; first | assumption | exact HXD.out)).mono ?_; rintro e wrt ⟨rfl, hwrt⟩) | (go_at_call 21; refine (HE.out _).mono ?_; rintro e we ⟨rfl, hwe⟩) | (go_at_call 22; refine (HrE.out _).mono ?_; rintro e wre ⟨rfl, hwre⟩) | (go_at_call 23; refine (HGr.out _).mono ?_; rintro e wg ⟨rfl, hwg⟩) | (go_at_call 24; refine (HrG.out _).mono ?_; rintro e wrg ⟨rfl, hwrg⟩) | (go_at_call 14; refine (HKn.out _ (by (try dsimp only at *); go_split_ands; first | assumption | exact HXD.out)).mono ?_; rintro e wk ⟨rfl, hwk⟩))) | fail "x")
    all_goals
      rename_i hHeld
      have hfin := hHeld.1
      go_wp2
      go_ret
      exact ⟨rfl, belowT HBX.out hfin⟩

end Go.Proofs.YtiemggepdeaogaaDoor
