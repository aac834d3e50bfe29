/- Walks and plain facts. -/
import Derived.Test.YtooihpkoplgmbaaGreatDoorQg29
set_option linter.unusedSimpArgs false
set_option linter.unusedVariables false
set_option maxHeartbeats 16000000
set_option maxRecDepth 100000

namespace Go.Proofs.YtooihpkoplgmbaaGreatDoor
open Go.RowKit
theorem enters_path : ∀ args w, (callFunc 205 args).run Tryz.prog w = .ok (.enter 205 args) w := enters_of Tryz.func205 (by kernel_rfl) rfl
def Sized11 (u : Adr) : Prop := u.host.length <= 4000000000 /\ ∀ x ∈ u.path, x.length <= 140737488351232
theorem readPath11_any (u : Adr) (uv : Value) (hops : Int) (w : World) (hg : Gd w) (hu : UrlAt w u uv) (hz : Sized11 u) :
  Calls Tryz.prog 176 #[adrVal u uv, .int .i64 hops] w (MkPost11 (pathM hops u) w) := by
 have hmf : ∀ (fn : Fn) (first cap : Array Value) (w : World), (Instr.makeFunc fn first cap).run Tryz.prog w = .ok (.func fn first cap) w := fun _ _ _ _ => rfl
 obtain ⟨ua, un, uc, rfl⟩ := hu.sl
 obtain ⟨u0, u1, u2, u3, u4, u5, u6, u8, u9, u10, u11, hx, -, -, -, -⟩ := adr_named u ua un uc
 have hva : adrVal u (.slice ua un uc) = .agg #[.string u0, .string u1, .string u2, .string u3, .bool u4, .int .i64 u5, .bool u6, .slice ua un uc, .string u8, .string u9, .bool u10, .bool u11] := by unfold adrVal; rw [hx]
 rw [hva]
 obtain ⟨W1, hW1⟩ : ∃ W1, (w.alloc (.cells #[.string u0, .string u1, .string u2, .string u3, .bool u4, .int .i64 u5, .bool u6, .slice ua un uc, .string u8, .string u9, .bool u10, .bool u11] 31)) = W1 := ⟨_, rfl⟩
 have hb1 : Below w.heap.size w W1 := by rw [<- hW1]; exact (Below.refl _ w).alloc (Nat.le_refl _) _
 have hs1 : W1.heap.size = w.heap.size + 1 := by rw [<- hW1]; simp
 have hA1 : AdrIn W1 w.heap.size u (.slice ua un uc) := by
  unfold AdrIn
  rw [hx, <- hW1]
  exact heap_alloc_new w _
 obtain ⟨W2, hW2⟩ : ∃ W2, (W1.alloc (.cells #[.int .i64 hops] 3)) = W2 := ⟨_, rfl⟩
 have hb2 : Below W1.heap.size W1 W2 := by rw [<- hW2]; exact (Below.refl _ W1).alloc (Nat.le_refl _) _
 have hA2 := hA1.kept hb2
 have hI2 : W2.cell? ⟨w.heap.size + 1, 0, none⟩ = some (.int .i64 hops) := by
  have := heap_alloc_new W1 (.cells #[.int .i64 hops] 3)
  rw [hW2, hs1] at this
  rw [Lib.cell_of_heap this]; rfl
 have hB2 := below2 hb1 hb2
 have hfl : ∀ j v, (adrCells u (.slice ua un uc))[j]? = some v -> W2.cell? ⟨w.heap.size, j, none⟩ = some v := fun j v h => hA2.cell j v h
 rw [hx] at hfl
 have y7 := hfl 7 _ rfl
 have HG2 := hid (hg.kept hB2)
 have HU2 := hid (hu.kept hB2)
 have HA2 := hid hA2
 have HI2 := hid hI2
 have HB2 := hid hB2
 have HUn := hid (fun (w : World) (h : PathAt w (.slice ua un uc) u.path) => unpercented_any (.slice ua un uc) u.path w h (by have := hu.2.1; omega) hz.2)
 have HL := hid (show u.path.length <= 5000000000 by have := hu.2.1; omega)
 unfold TxPost at HUn
 obtain ⟨n, hn⟩ : ∃ n, n = (u.path.map unpct).length := ⟨_, rfl⟩
 have HNN := hid hn
 rw [<- hn] at HUn
 clear hb1 hA1 hb2 hA2 hI2 hB2 hfl hg hu hz hx hva hn
 go_enter Tryz.func176, Tryz.ntmps176
 go_wp2_with fail
 refine (HUn.out _ HU2.out.1).mono ?_
 rintro e w3 ⟨g, cap, rfl, hown, hb3⟩
 have HB3 := hid (below2 HB2.out hb3)
 have HB23 := hid hb3
 have HO := hid hown
 clear hb3 hown
 go_wp2_with fail
 go_ret
 obtain ⟨W4, hW4⟩ : ∃ W4, W4 = w3.alloc (.cells #[.slice (some ⟨g, 0, none⟩) n cap] 29) := ⟨_, rfl⟩
 rw [<- hW4]
 have hb4 : Below w3.heap.size w3 W4 := by rw [hW4]; exact (Below.refl _ w3).alloc (Nat.le_refl _) _
 have hcell : W4.cell? ⟨w3.heap.size, 0, none⟩ = some (.slice (some ⟨g, 0, none⟩) n cap) := by
  have := heap_alloc_new w3 (.cells #[.slice (some ⟨g, 0, none⟩) n cap] 29)
  rw [<- hW4] at this
  rw [Lib.cell_of_heap this]; rfl
 have h24 := below2 HB23.out hb4
 have hO := HO.out
 have hnn := HNN.out
 rw [hnn] at hO hcell
 obtain ⟨t1, t2, t3⟩ := own_txS hO
 refine ⟨_, rfl, ⟨_, _, rfl, enters_path, fun X s hX hs => ?_⟩, below2 HB3.out hb4⟩
 exact pathC_any u (.slice ua un uc) hops (w.heap.size + 1) w.heap.size w3.heap.size g cap s X ((HG2.out.kept h24).kept hX) ((HA2.out.kept h24).kept hX) (keptC (keptC HI2.out h24) hX) (keptC hcell hX) ((t1.kept hb4).kept hX) t2 HL.out hs
theorem meaning_any (u p : Adr) (uv pv : Value) (hops : Int) (w : World) (hg : Gd w) (hu : UrlAt w u uv) (hp : UrlAt w p pv) (hz : Sized11 u) :
  Calls Tryz.prog 144 #[adrVal u uv, adrVal p pv, .int .i64 hops] w (MkPost11 (oneV u p hops) w) := by
 obtain ⟨ua, un, uc, rfl⟩ := hu.sl
 obtain ⟨pa, pn, pc, rfl⟩ := hp.sl
 have H1 := hid (fun (w : World) (hg : Gd w) (hu : UrlAt w u (.slice ua un uc)) => readPath11_any u (.slice ua un uc) hops w hg hu hz)
 have H2 := hid (fun (nv : Value) (q : List UInt8 -> Bool) (w : World) (hr : Rdr11 w nv q) => readPort11_any u (.slice ua un uc) ⟨_, _, _, rfl⟩ nv q w hr)
 have H3 := hid (fun (nv : Value) (q : List UInt8 -> Bool) (w : World) (hr : Rdr11 w nv q) => readHost_any u (.slice ua un uc) ⟨_, _, _, rfl⟩ hz.1 nv q w hr)
 have H4 := hid (fun (nv : Value) (q : List UInt8 -> Bool) (w : World) (hg : Gd w) (hr : Rdr11 w nv q) => readScheme_any u p (.slice ua un uc) (.slice pa pn pc) ⟨_, _, _, rfl⟩ ⟨_, _, _, rfl⟩ nv q w hg hr)
 have H5 := hid (fun (nv : Value) (q : List UInt8 -> Bool) (w : World) (hg : Gd w) (hu : UrlAt w u (.slice ua un uc)) (hp : UrlAt w p (.slice pa pn pc)) (hr : Rdr11 w nv q) => readWord_any u p (.slice ua un uc) (.slice pa pn pc) nv q w hg hu hp hr)
 obtain ⟨u0, u1, u2, u3, u4, u5, u6, u8, u9, u10, u11, hx, -, -, -, -⟩ := adr_named u ua un uc
 obtain ⟨p0, p1, p2, p3, p4, p5, p6, p8, p9, p10, p11, hy, -, -, -, -⟩ := adr_named p pa pn pc
 have hva : adrVal u (.slice ua un uc) = .agg #[.string u0, .string u1, .string u2, .string u3, .bool u4, .int .i64 u5, .bool u6, .slice ua un uc, .string u8, .string u9, .bool u10, .bool u11] := by unfold adrVal; rw [hx]
 have hvb : adrVal p (.slice pa pn pc) = .agg #[.string p0, .string p1, .string p2, .string p3, .bool p4, .int .i64 p5, .bool p6, .slice pa pn pc, .string p8, .string p9, .bool p10, .bool p11] := by unfold adrVal; rw [hy]
 rw [hva] at H1 H2 H3 ⊢
 rw [hva, hvb] at H4 H5
 rw [hvb]
 obtain ⟨W1, hW1⟩ : ∃ W1, (w.alloc (.cells #[.string u0, .string u1, .string u2, .string u3, .bool u4, .int .i64 u5, .bool u6, .slice ua un uc, .string u8, .string u9, .bool u10, .bool u11] 31)) = W1 := ⟨_, rfl⟩
 have hb1 : Below w.heap.size w W1 := by rw [<- hW1]; exact (Below.refl _ w).alloc (Nat.le_refl _) _
 have hs1 : W1.heap.size = w.heap.size + 1 := by rw [<- hW1]; simp
 have hA1 : AdrIn W1 w.heap.size u (.slice ua un uc) := by
  unfold AdrIn
  rw [hx, <- hW1]
  exact heap_alloc_new w _
 obtain ⟨W2, hW2⟩ : ∃ W2, (W1.alloc (.cells #[.string p0, .string p1, .string p2, .string p3, .bool p4, .int .i64 p5, .bool p6, .slice pa pn pc, .string p8, .string p9, .bool p10, .bool p11] 31)) = W2 := ⟨_, rfl⟩
 have hb2 : Below W1.heap.size W1 W2 := by rw [<- hW2]; exact (Below.refl _ W1).alloc (Nat.le_refl _) _
 have hA2 := hA1.kept hb2
 have hP2 : AdrIn W2 (w.heap.size + 1) p (.slice pa pn pc) := by
  unfold AdrIn
  rw [hy, <- hW2, <- hs1]
  exact heap_alloc_new W1 _
 have hB2 := below2 hb1 hb2
 have HG2 := hid (hg.kept hB2)
 have HU2 := hid (hu.kept hB2)
 have HP2 := hid (hp.kept hB2)
 have HB2 := hid hB2
 have HRu := hid (show ∀ Z, Below W2.heap.size W2 Z -> Z.rangeAt w.heap.size 0 [.string u0, .string u1, .string u2, .string u3, .bool u4, .int .i64 u5, .bool u6, .slice ua un uc, .string u8, .string u9, .bool u10, .bool u11] from fun Z hZ => by
  have := range_row (show Z.heap[w.heap.size]? = some (.cells (adrCells u (.slice ua un uc)).toArray 31 (0, 0)) from hA2.kept hZ)
  rw [hx] at this
  exact this)
 have HRp := hid (show ∀ Z, Below W2.heap.size W2 Z -> Z.rangeAt (w.heap.size + 1) 0 [.string p0, .string p1, .string p2, .string p3, .bool p4, .int .i64 p5, .bool p6, .slice pa pn pc, .string p8, .string p9, .bool p10, .bool p11] from fun Z hZ => by
  have := range_row (show Z.heap[w.heap.size + 1]? = some (.cells (adrCells p (.slice pa pn pc)).toArray 31 (0, 0)) from hP2.kept hZ)
  rw [hy] at this
  exact this)
 clear hb1 hb2 hA1 hA2 hP2 hB2 hg hu hp hx hy hz hva hvb
 go_enter Tryz.func144, Tryz.ntmps144
 go_wp2_with fail
 have HQ0 := hid ((Below.refl W2.heap.size W2).drew)
 refine wp_region_held_drew (S := (fun wx => Below W2.heap.size W2 wx)) (by kernel_rfl) HQ0.out (fun hHeld => ?_)
 refine wpAnyH_take (i := 0) rfl (by kernel_rfl) (by kernel_rfl) (by kernel_rfl) (fun _ _ _ h => h) (yieldsIf_load_mid (by kernel_rfl) 31 (.tmp 3) rfl w.heap.size 0 rfl [.string u0, .string u1, .string u2, .string u3, .bool u4, .int .i64 u5, .bool u6, .slice ua un uc, .string u8, .string u9, .bool u10, .bool u11] _ HRu.out Tryz.underlying31 rfl sizeU) (by assumption) ?_
 (try simp only [Act.put, List.setIfInBounds_toArray, List.set_cons_zero, List.set_cons_succ])
 refine wpAnyH_take (i := 1) rfl (by kernel_rfl) (by kernel_rfl) (by kernel_rfl) (fun _ _ _ h => h) (yieldsIf_load_mid (by kernel_rfl) 31 (.tmp 4) rfl (w.heap.size + 1) 0 rfl [.string p0, .string p1, .string p2, .string p3, .bool p4, .int .i64 p5, .bool p6, .slice pa pn pc, .string p8, .string p9, .bool p10, .bool p11] _ HRp.out Tryz.underlying31 rfl sizeU) (by assumption) ?_
 (try simp only [Act.put, List.setIfInBounds_toArray, List.set_cons_zero, List.set_cons_succ])
 refine wpAnyH_take (i := 2) rfl (by kernel_rfl) (by kernel_rfl) (by kernel_rfl) (fun _ _ _ h => h) (yieldsIf_load_mid (by kernel_rfl) 31 (.tmp 3) rfl w.heap.size 0 rfl [.string u0, .string u1, .string u2, .string u3, .bool u4, .int .i64 u5, .bool u6, .slice ua un uc, .string u8, .string u9, .bool u10, .bool u11] _ HRu.out Tryz.underlying31 rfl sizeU) (by assumption) ?_
 (try simp only [Act.put, List.setIfInBounds_toArray, List.set_cons_zero, List.set_cons_succ])
 refine wpAnyH_take (i := 3) rfl (by kernel_rfl) (by kernel_rfl) (by kernel_rfl) (fun _ _ _ h => h) (yieldsIf_load_mid (by kernel_rfl) 31 (.tmp 4) rfl (w.heap.size + 1) 0 rfl [.string p0, .string p1, .string p2, .string p3, .bool p4, .int .i64 p5, .bool p6, .slice pa pn pc, .string p8, .string p9, .bool p10, .bool p11] _ HRp.out Tryz.underlying31 rfl sizeU) (by assumption) ?_
 (try simp only [Act.put, List.setIfInBounds_toArray, List.set_cons_zero, List.set_cons_succ])
 refine wpAnyH_take (i := 4) rfl (by kernel_rfl) (by kernel_rfl) (by kernel_rfl) (fun _ _ _ h => h) (yieldsIf_load_mid (by kernel_rfl) 31 (.tmp 3) rfl w.heap.size 0 rfl [.string u0, .string u1, .string u2, .string u3, .bool u4, .int .i64 u5, .bool u6, .slice ua un uc, .string u8, .string u9, .bool u10, .bool u11] _ HRu.out Tryz.underlying31 rfl sizeU) (by assumption) ?_
 (try simp only [Act.put, List.setIfInBounds_toArray, List.set_cons_zero, List.set_cons_succ])
 refine wpAnyH_take (i := 5) rfl (by kernel_rfl) (by kernel_rfl) (by kernel_rfl) (fun _ _ _ h => h) (yieldsIf_load_mid (by kernel_rfl) 31 (.tmp 3) rfl w.heap.size 0 rfl [.string u0, .string u1, .string u2, .string u3, .bool u4, .int .i64 u5, .bool u6, .slice ua un uc, .string u8, .string u9, .bool u10, .bool u11] _ HRu.out Tryz.underlying31 rfl sizeU) (by assumption) ?_
 (try simp only [Act.put, List.setIfInBounds_toArray, List.set_cons_zero, List.set_cons_succ])
 refine wpAnyH_take (i := 6) rfl (by kernel_rfl) (by kernel_rfl) (by kernel_rfl) (fun _ _ _ h => h) (yieldsIf_load_mid (by kernel_rfl) 31 (.tmp 3) rfl w.heap.size 0 rfl [.string u0, .string u1, .string u2, .string u3, .bool u4, .int .i64 u5, .bool u6, .slice ua un uc, .string u8, .string u9, .bool u10, .bool u11] _ HRu.out Tryz.underlying31 rfl sizeU) (by assumption) ?_
 (try simp only [Act.put, List.setIfInBounds_toArray, List.set_cons_zero, List.set_cons_succ])
 refine' wpAnyH_take (i := 7) (oi := ⟨some 14, _, _, _, _, _⟩) (v := _) rfl (by kernel_rfl) (by kernel_rfl) (by kernel_rfl) (fun _ _ _ h => h) (Or.inl ⟨by kernel_rfl, ?hy7⟩) (by assumption) ?rest7
 case hy7 => (intro w hSw; (try dsimp only at hSw); go_simp; first | done | with_reducible rfl)
 (try simp only [Act.put, List.setIfInBounds_toArray, List.set_cons_zero, List.set_cons_succ])
 refine wpAnyH_ready (rs := [8]) (by kernel_rfl) (by simp) ?_
 refine AllReadyH.cons rfl (fun K hK => ?_) AllReadyH.nil
 rw [if_pos (by kernel_rfl)]
 go_simp
 go_wp2_with (go_at_call 176; refine (H1.out _ (HG2.out.kept HQ0.out) (HU2.out.kept HQ0.out)).mono ?_; rintro e x1 ⟨v1, rfl, hr1, hbx1⟩)
 have HR1 := hid hr1
 have HQ1 := hid (below2 HQ0.out hbx1)
 clear hr1 hbx1
 refine hK.out _ _ HQ1.out (fun hHeld2 => ?_)
 clear hK K hHeld
 rename _ => hHeld
 refine wpAnyH_ready (rs := [9]) (by kernel_rfl) (by simp) ?_
 refine AllReadyH.cons rfl (fun K hK => ?_) AllReadyH.nil
 rw [if_pos (by kernel_rfl)]
 go_simp
 go_wp2_with (go_at_call 175; refine (H2.out _ _ _ HR1.out).mono ?_; rintro e x2 ⟨v2, rfl, hr2, hbx2⟩)
 have HR2 := hid hr2
 have HQ2 := hid (below2 HQ1.out hbx2)
 clear hr2 hbx2
 refine hK.out _ _ HQ2.out (fun hHeld2 => ?_)
 clear hK K hHeld
 rename _ => hHeld
 refine wpAnyH_ready (rs := [10]) (by kernel_rfl) (by simp) ?_
 refine AllReadyH.cons rfl (fun K hK => ?_) AllReadyH.nil
 rw [if_pos (by kernel_rfl)]
 go_simp
 go_wp2_with (go_at_call 174; refine (H3.out _ _ _ HR2.out).mono ?_; rintro e x3 ⟨v3, rfl, hr3, hbx3⟩)
 have HR3 := hid hr3
 have HQ3 := hid (below2 HQ2.out hbx3)
 clear hr3 hbx3
 refine hK.out _ _ HQ3.out (fun hHeld2 => ?_)
 clear hK K hHeld
 rename _ => hHeld
 refine wpAnyH_ready (rs := [11]) (by kernel_rfl) (by simp) ?_
 refine AllReadyH.cons rfl (fun K hK => ?_) AllReadyH.nil
 rw [if_pos (by kernel_rfl)]
 go_simp
 go_wp2_with (go_at_call 173; refine (H4.out _ _ _ (HG2.out.kept HQ3.out) HR3.out).mono ?_; rintro e x4 ⟨v4, rfl, hr4, hbx4⟩)
 have HR4 := hid hr4
 have HQ4 := hid (below2 HQ3.out hbx4)
 clear hr4 hbx4
 refine hK.out _ _ HQ4.out (fun hHeld2 => ?_)
 clear hK K hHeld
 rename _ => hHeld
 refine wpAnyH_ready (rs := [12]) (by kernel_rfl) (by simp) ?_
 refine AllReadyH.cons rfl (fun K hK => ?_) AllReadyH.nil
 rw [if_pos (by kernel_rfl)]
 go_simp
 go_wp2_with (go_at_call 172; refine (H5.out _ _ _ (HG2.out.kept HQ4.out) (HU2.out.kept HQ4.out) (HP2.out.kept HQ4.out) HR4.out).mono ?_; rintro e x5 ⟨v5, rfl, hr5, hbx5⟩)
 have HR5 := hid hr5
 have HQ5 := hid (below2 HQ4.out hbx5)
 clear hr5 hbx5
 refine hK.out _ _ HQ5.out (fun hHeld2 => ?_)
 clear hK K hHeld
 rename _ => hHeld
 refine' wpAnyH_take (i := 13) (oi := ⟨some 6, _, _, _, _, _⟩) (v := _) rfl (by kernel_rfl) (by kernel_rfl) (by kernel_rfl) (fun _ _ _ h => h) (Or.inl ⟨by kernel_rfl, ?hy13⟩) (by assumption) ?rest13
 case hy13 => (intro w hSw; (try dsimp only at hSw); go_simp; first | done | with_reducible rfl)
 (try simp only [Act.put, List.setIfInBounds_toArray, List.set_cons_zero, List.set_cons_succ])
 refine wpAnyH_done (by kernel_rfl) ?_ _
 have HB5 := hid (below2 HB2.out HQ5.out)
 clear HQ0 HQ1 HQ2 HQ3 HQ4 HQ5 hHeld HRu HRp
 go_wp2
 go_ret
 exact ⟨v5, by first | rfl | simp, HR5.out, HB5.out⟩
theorem index_one_none9 (l : List UInt8) (c : UInt8) (h : c ∉ l) : Lib.index l [c] = -1 := by
 induction l with
 | nil => rfl
 | cons a l ih =>
  have ha : a ≠ c := fun e => h (by simp [e])
  have hl : c ∉ l := fun e => h (by simp [e])
  unfold Lib.index
  rw [ih hl]
  have : [c].isPrefixOf (a :: l) = false := by simp [List.isPrefixOf]; exact fun e => ha e.symm
  rw [this]; rfl
theorem index_one_some9 (a r : List UInt8) (c : UInt8) (h : c ∉ a) : Lib.index (a ++ c :: r) [c] = a.length := by
 induction a with
 | nil => unfold Lib.index; simp [List.isPrefixOf]
 | cons x a ih =>
  have hx : x ≠ c := fun e => h (by simp [e])
  have ha : c ∉ a := fun e => h (by simp [e])
  rw [List.cons_append]
  unfold Lib.index
  rw [ih ha]
  have : [c].isPrefixOf (x :: (a ++ c :: r)) = false := by simp [List.isPrefixOf]; exact fun e => hx e.symm
  rw [this]
  have h1 : ((a.length : Int) == -1) = false := by rw [beq_eq_false_iff_ne]; omega
  simp [h1]
theorem cut_none9 (l : List UInt8) (c : UInt8) (h : c ∉ l) : Lib.cut l [c] = (l, [], false) := by
 unfold Lib.cut
 rw [index_one_none9 l c h]; rfl
theorem cut_some9 (a r : List UInt8) (c : UInt8) (h : c ∉ a) : Lib.cut (a ++ c :: r) [c] = (a, r, true) := by
 unfold Lib.cut
 rw [index_one_some9 a r c h]
 simp
theorem first_split9 (c : UInt8) : ∀ l : List UInt8, c ∉ l ∨ ∃ a r, c ∉ a /\ l = a ++ c :: r
 | [] => .inl (by simp)
 | x :: l => by
  by_cases hx : x = c
  ·exact .inr ⟨[], l, by simp, by simp [hx]⟩
  ·rcases first_split9 c l with h | ⟨a, r, ha, rfl⟩
   ·exact .inl (by simp [h]; exact fun e => hx e.symm)
   ·exact .inr ⟨x :: a, r, by simp [ha]; exact fun e => hx e.symm, rfl⟩
def part9 (c : UInt8) : List UInt8 -> List UInt8 × List UInt8 × Bool
 | [] => ([], [], false)
 | x :: l => if x = c then ([], l, true) else (x :: (part9 c l).1, (part9 c l).2.1, (part9 c l).2.2)
theorem part_none9 (c : UInt8) : ∀ l : List UInt8, c ∉ l -> part9 c l = (l, [], false)
 | [], _ => rfl
 | x :: l, h => by
  have hx : x ≠ c := fun e => h (by simp [e])
  have hl : c ∉ l := fun e => h (by simp [e])
  rw [part9, if_neg hx, part_none9 c l hl]
theorem part_some9 (c : UInt8) : ∀ (a r : List UInt8), c ∉ a -> part9 c (a ++ c :: r) = (a, r, true)
 | [], r, _ => by rw [List.nil_append, part9, if_pos rfl]
 | x :: a, r, h => by
  have hx : x ≠ c := fun e => h (by simp [e])
  have hl : c ∉ a := fun e => h (by simp [e])
  rw [List.cons_append, part9, if_neg hx, part_some9 c a r hl]
theorem cut_part9 (c : UInt8) (l : List UInt8) : Lib.cut l [c] = part9 c l := by
 rcases first_split9 c l with h | ⟨a, r, h, rfl⟩
 ·rw [cut_none9 l c h, part_none9 c l h]
 ·rw [cut_some9 a r c h, part_some9 c a r h]
theorem cut_le9 (l sep : List UInt8) : (Lib.cut l sep).1.length <= l.length /\ (Lib.cut l sep).2.1.length <= l.length := by
 unfold Lib.cut
 split
 ·simp
  omega
 ·simp
theorem part_le9 (c : UInt8) (l : List UInt8) : (part9 c l).1.length <= l.length /\ (part9 c l).2.1.length <= l.length := by
 rw [<- cut_part9]; exact cut_le9 l [c]
theorem o9get_bang (s : ByteArray) (i : Nat) (h : i < s.size) : s.get! i = s[i] := by
 show s.data[i]! = s.data[i]
 exact getElem!_pos s.data i h
theorem o9decode_skip (s : ByteArray) (i : Nat) (h : i < s.size) (ha : 128 <= (s[i]'h).toNat) : ∃ r n, Utf8.decode s i = (r, n) /\ 128 <= r /\ r <= 1114111 /\ 1 <= n /\ i + n <= s.size /\ ∀ j, i <= j -> j < i + n -> 128 <= (s.get! j).toNat := by
 have h0 : 128 <= (s.get! i).toNat := by rw [o9get_bang s i h]; exact ha
 rw [Lib.decode_at]
 unfold Lib.decodeN
 rw [if_neg (by omega)]
 have one : ∀ j, i <= j -> j < i + 1 -> 128 <= (s.get! j).toNat := fun j h1 h2 => by
  have : j = i := by omega
  rw [this]; exact h0
 split
 ·split
  ·refine ⟨_, _, rfl, by omega, by omega, by omega, by omega, fun j h1 h2 => ?_⟩
   have : j = i ∨ j = i + 1 := by omega
   rcases this with rfl | rfl
   ·exact h0
   ·omega
  ·exact ⟨_, _, rfl, by omega, by omega, by omega, by omega, one⟩
 ·split
  ·split
   ·refine ⟨_, _, rfl, by omega, by omega, by omega, by omega, fun j h1 h2 => ?_⟩
    have : j = i ∨ j = i + 1 ∨ j = i + 2 := by omega
    rcases this with rfl | rfl | rfl
    ·exact h0
    ·omega
    ·omega
   ·exact ⟨_, _, rfl, by omega, by omega, by omega, by omega, one⟩
  ·split
   ·split
    ·refine ⟨_, _, rfl, by omega, by omega, by omega, by omega, fun j h1 h2 => ?_⟩
     have : j = i ∨ j = i + 1 ∨ j = i + 2 ∨ j = i + 3 := by omega
     rcases this with rfl | rfl | rfl | rfl
     ·exact h0
     ·omega
     ·omega
     ·omega
    ·exact ⟨_, _, rfl, by omega, by omega, by omega, by omega, one⟩
   ·exact ⟨_, _, rfl, by omega, by omega, by omega, by omega, one⟩
def p9 (r : Nat) : Bool := r == 9 || r == 10 || r == 12 || r == 13 || r == 32
def bl9 (c : UInt8) : Bool := p9 c.toNat
def wdsF : List UInt8 -> List UInt8 -> List (List UInt8)
 | [], cur => if cur = [] then [] else [cur]
 | c :: r, cur => if bl9 c then (if cur = [] then wdsF r [] else cur :: wdsF r []) else wdsF r (cur ++ [c])
def words9 (l : List UInt8) : List (List UInt8) := wdsF l []
theorem wds_skip : ∀ (x r cur : List UInt8), (∀ c ∈ x, bl9 c = false) -> wdsF (x ++ r) cur = wdsF r (cur ++ x)
 | [], r, cur, _ => by simp
 | c :: x, r, cur, h => by
  rw [List.cons_append, wdsF, if_neg (by rw [h c (by simp)]; decide), wds_skip x r _ (fun d hd => h d (by simp [hd]))]
  simp
theorem p9_high (r : Nat) (h : 128 <= r) : p9 r = false := by
 unfold p9
 simp
 omega
def ext9 (s : ByteArray) (x : Nat × Nat) : List UInt8 := (s.data.toList.drop x.1).take (x.2 - x.1)
def cur9 (s : ByteArray) (pos : Nat) : Option Nat -> List UInt8
 | some a => (s.data.toList.drop a).take (pos - a)
 | none => []
theorem cur_more (s : ByteArray) (a pos n : Nat) (ha : a <= pos) : (s.data.toList.drop a).take (pos + n - a) = (s.data.toList.drop a).take (pos - a) ++ (s.data.toList.drop pos).take n := by
 rw [show pos + n - a = (pos - a) + n by omega, List.take_add, List.drop_drop, show a + (pos - a) = pos by omega]
theorem spans_end (s : ByteArray) (pos : Nat) (st : Option Nat) (acc : List (Nat × Nat)) (hp : s.size <= pos) (hpos : pos <= s.size) (hst : ∀ a, st = some a -> a < pos) :
  (Lib.closeSpans s (acc, st)).map (ext9 s) = acc.map (ext9 s) ++ wdsF (s.data.toList.drop pos) (cur9 s pos st) := by
 have hsz : s.data.toList.length = s.size := (Lib.size_eq s).symm
 rw [List.drop_eq_nil_of_le (by omega)]
 obtain rfl : pos = s.size := by omega
 cases st with
 | none => simp [Lib.closeSpans, wdsF, cur9]
 | some a =>
  have ha := hst a rfl
  have hne : (s.data.toList.drop a).take (s.size - a) ≠ [] := by
   intro h
   have := congrArg List.length h
   rw [List.length_take, List.length_drop, hsz] at this
   simp at this
   omega
  simp only [Lib.closeSpans, List.map_append, List.map_cons, List.map_nil]
  unfold wdsF cur9
  rw [if_neg hne]
  rfl
theorem spans_words (s : ByteArray) : ∀ (f pos : Nat) (st : Option Nat) (acc : List (Nat × Nat)), s.size - pos <= f -> pos <= s.size -> (∀ a, st = some a -> a < pos) ->
  (Lib.closeSpans s (Lib.spansFromP p9 s f pos st acc)).map (ext9 s) = acc.map (ext9 s) ++ wdsF (s.data.toList.drop pos) (cur9 s pos st)
 | 0, pos, st, acc, hf, hpos, hst => spans_end s pos st acc (by omega) hpos hst
 | f + 1, pos, st, acc, hf, hpos, hst => by
  by_cases hlt : pos < s.size
  ·have hsz : s.data.toList.length = s.size := (Lib.size_eq s).symm
   have hd : s.data.toList.drop pos = s[pos] :: s.data.toList.drop (pos + 1) := by
    rw [List.drop_eq_getElem_cons (by omega)]
    rfl
   unfold Lib.spansFromP
   rw [if_pos hlt]
   by_cases hb : s[pos].toNat < 128
   ·have hdec : Utf8.decode s pos = (s[pos].toNat, 1) := by
     rw [Lib.decode_at, o9get_bang s pos hlt]
     simp [Lib.decodeN, hb]
    rw [hdec]
    dsimp only
    by_cases hbl : p9 s[pos].toNat = true
    ·rw [if_pos hbl]
     cases st with
     | none =>
      dsimp only
      rw [spans_words s f (pos + 1) none acc (by omega) (by omega) (fun a h => by cases h), hd, wdsF, if_pos (show bl9 s[pos] = true from hbl)]
      simp [cur9]
     | some a =>
      dsimp only
      have ha := hst a rfl
      have hne : (s.data.toList.drop a).take (pos - a) ≠ [] := by
       intro h
       have := congrArg List.length h
       rw [List.length_take, List.length_drop, hsz] at this
       simp at this
       omega
      rw [spans_words s f (pos + 1) none (acc ++ [(a, pos)]) (by omega) (by omega) (fun a h => by cases h), hd, wdsF, if_pos (show bl9 s[pos] = true from hbl)]
      unfold cur9
      rw [if_neg hne, List.map_append, List.append_assoc]
      rfl
    ·rw [if_neg hbl]
     have hbf : bl9 s[pos] = false := by simpa [bl9] using hbl
     have hstep : ∀ a, a <= pos -> wdsF (s.data.toList.drop pos) ((s.data.toList.drop a).take (pos - a)) = wdsF (s.data.toList.drop (pos + 1)) ((s.data.toList.drop a).take (pos + 1 - a)) := fun a ha => by
      rw [cur_more s a pos 1 ha, hd, wdsF, if_neg (by rw [hbf]; decide)]
      rfl
     cases st with
     | none =>
      dsimp only
      rw [spans_words s f (pos + 1) (some pos) acc (by omega) (by omega) (fun a h => by cases h; omega)]
      have := hstep pos (Nat.le_refl _)
      rw [Nat.sub_self, List.take_zero] at this
      unfold cur9
      rw [this]
     | some a =>
      dsimp only
      have ha := hst a rfl
      rw [spans_words s f (pos + 1) (some a) acc (by omega) (by omega) (fun b h => by cases h; omega)]
      unfold cur9
      rw [hstep a (by omega)]
   ·obtain ⟨r, n, hdec, hr, _, hn1, hn2, hj⟩ := o9decode_skip s pos hlt (by omega)
    rw [hdec]
    dsimp only
    rw [if_neg (by rw [p9_high r hr]; decide)]
    have hx : ∀ c ∈ (s.data.toList.drop pos).take n, bl9 c = false := by
     intro c hc
     obtain ⟨k, hk, rfl⟩ := List.getElem_of_mem hc
     rw [List.length_take, List.length_drop, hsz] at hk
     have h1 := hj (pos + k) (by omega) (by omega)
     rw [o9get_bang s (pos + k) (by omega)] at h1
     unfold bl9
     rw [List.getElem_take, List.getElem_drop]
     exact p9_high _ h1
    have hstep : ∀ a, a <= pos -> wdsF (s.data.toList.drop pos) ((s.data.toList.drop a).take (pos - a)) = wdsF (s.data.toList.drop (pos + n)) ((s.data.toList.drop a).take (pos + n - a)) := fun a ha => by
     rw [cur_more s a pos n ha, <- wds_skip _ _ _ hx, <- List.drop_drop, List.take_append_drop]
    cases st with
    | none =>
     dsimp only
     rw [spans_words s f (pos + n) (some pos) acc (by omega) (by omega) (fun a h => by cases h; omega)]
     have := hstep pos (Nat.le_refl _)
     rw [Nat.sub_self, List.take_zero] at this
     unfold cur9
     rw [this]
    | some a =>
     dsimp only
     have ha := hst a rfl
     rw [spans_words s f (pos + n) (some a) acc (by omega) (by omega) (fun b h => by cases h; omega)]
     unfold cur9
     rw [hstep a (by omega)]
  ·rw [Lib.spansFromP_end p9 s (f + 1) pos st acc hlt]
   exact spans_end s pos st acc (by omega) hpos hst
theorem fields_words (s : ByteArray) : Lib.goFieldsP p9 s = (words9 s.data.toList).map fun x => ⟨x.toArray⟩ := by
 have h := spans_words s s.size 0 none [] (by omega) (by omega) (fun a h => by cases h)
 rw [List.drop_zero] at h
 have h2 : words9 s.data.toList = (Lib.spansOfP p9 s).map (ext9 s) := by
  rw [Lib.spansOfP, h]; rfl
 rw [h2, List.map_map]
 unfold Lib.goFieldsP
 apply List.map_congr_left
 intro x _
 show s.extract x.1 x.2 = ⟨(ext9 s x).toArray⟩
 rw [<- Lib.mk_data (s.extract x.1 x.2)]
 congr 2
 rw [<- ByteArray.toList_eq, Lib.extract_toList]
 rfl
theorem wds_len : ∀ (l cur : List UInt8), (wdsF l cur).length <= l.length + 1 /\ ∀ x ∈ wdsF l cur, x.length <= cur.length + l.length
 | [], cur => by
  unfold wdsF
  split
  ·simp
  ·simp
 | c :: r, cur => by
  unfold wdsF
  split
  ·split
   ·have := wds_len r []
    refine ⟨by have := this.1; simp only [List.length_cons]; omega, fun x hx => ?_⟩
    have := this.2 x hx
    simp only [List.length_cons, List.length_nil] at this ⊢
    omega
   ·have := wds_len r []
    refine ⟨by have := this.1; simp only [List.length_cons]; omega, fun x hx => ?_⟩
    rcases List.mem_cons.1 hx with rfl | hx
    ·simp only [List.length_cons]; omega
    ·have := this.2 x hx
     simp only [List.length_cons, List.length_nil] at this ⊢
     omega
  ·have := wds_len r (cur ++ [c])
   refine ⟨by have := this.1; simp only [List.length_cons]; omega, fun x hx => ?_⟩
   have := this.2 x hx
   simp only [List.length_append, List.length_cons, List.length_nil] at this ⊢
   omega
structure It where
 bits : Int
 want : List UInt8
 opt : List UInt8
def sha2 : List UInt8 := [115, 104, 97, 50, 53, 54]
def sha3 : List UInt8 := [115, 104, 97, 51, 56, 52]
def sha5 : List UInt8 := [115, 104, 97, 53, 49, 50]
def bitsV (n : List UInt8) : Int := if low n = sha2 then 256 else if low n = sha3 then 384 else if low n = sha5 then 512 else 0
def nameV9 (x : List UInt8) : List UInt8 := (part9 45 (part9 63 x).1).1
def wantV9 (x : List UInt8) : List UInt8 := (part9 45 (part9 63 x).1).2.1
def optV9 (x : List UInt8) : List UInt8 := (part9 63 x).2.1
def okV9 (x : List UInt8) : Bool := (part9 45 (part9 63 x).1).2.2 && bitsV (nameV9 x) != 0
def itemV (x : List UInt8) : Option It := if okV9 x then some ⟨bitsV (nameV9 x), wantV9 x, optV9 x⟩ else none
def parse9 (l : List UInt8) : List It := (words9 l).filterMap itemV
theorem bits_cases (n : List UInt8) : bitsV n = 256 ∨ bitsV n = 384 ∨ bitsV n = 512 ∨ bitsV n = 0 := by
 unfold bitsV
 split
 ·exact .inl rfl
 ·split
  ·exact .inr (.inl rfl)
  ·split
   ·exact .inr (.inr (.inl rfl))
   ·exact .inr (.inr (.inr rfl))
theorem parse_bits (l : List UInt8) : ∀ x ∈ parse9 l, x.bits = 256 ∨ x.bits = 384 ∨ x.bits = 512 := by
 intro x hx
 obtain ⟨y, _, hy⟩ := List.mem_filterMap.1 hx
 unfold itemV at hy
 split at hy
 ·rename_i h
  obtain rfl := Option.some.inj hy
  dsimp only
  unfold okV9 at h
  rw [Bool.and_eq_true, bne_iff_ne] at h
  rcases bits_cases (nameV9 y) with h' | h' | h' | h'
  ·exact .inl h'
  ·exact .inr (.inl h')
  ·exact .inr (.inr h')
  ·exact absurd h' h.2
 ·cases hy
theorem kept_cell {w w' : World} {a : Addr} {v : Value} (h : w.cell? a = some v) (hb : Below w.heap.size w w') : w'.cell? a = some v := (hb.cell (World.block_lt_of_cell? w _ h)).trans h
def itC (x : It) : List Value := [.int .i64 x.bits, .string ⟨x.want.toArray⟩, .string ⟨x.opt.toArray⟩]
def cellsI9 (L : List It) : List Value := L.flatMap itC
theorem cellsI_app9 (a b : List It) : cellsI9 (a ++ b) = cellsI9 a ++ cellsI9 b := by simp [cellsI9]
theorem cellsI_at (L : List It) : ∀ j (h : j < L.length), (cellsI9 L)[j * 3]? = some (.int .i64 L[j].bits) /\ (cellsI9 L)[j * 3 + 1]? = some (.string ⟨L[j].want.toArray⟩) /\ (cellsI9 L)[j * 3 + 2]? = some (.string ⟨L[j].opt.toArray⟩) := by
 induction L with
 | nil => intro j h; simp at h
 | cons a L ih =>
  intro j h
  have e : cellsI9 (a :: L) = .int .i64 a.bits :: .string ⟨a.want.toArray⟩ :: .string ⟨a.opt.toArray⟩ :: cellsI9 L := rfl
  cases j with
  | zero => rw [e]; exact ⟨rfl, rfl, rfl⟩
  | succ j =>
   have := ih j (by simpa using h)
   rw [e, show (j + 1) * 3 = j * 3 + 1 + 1 + 1 by omega]
   simpa using this
def ItAt (w : World) (v : Value) (L : List It) : Prop :=
 ∃ a cap, v = .slice a L.length cap /\ L.length <= cap /\ cap <= maxLen /\ ∀ j (hj : j < L.length), ∃ b off, a = some ⟨b, off, none⟩ /\ w.cell? ⟨b, off + j * 3, none⟩ = some (.int .i64 L[j].bits) /\ w.cell? ⟨b, off + j * 3 + 1, none⟩ = some (.string ⟨L[j].want.toArray⟩) /\ w.cell? ⟨b, off + j * 3 + 2, none⟩ = some (.string ⟨L[j].opt.toArray⟩)
theorem ItAt.view {w : World} {v : Value} {L : List It} (h : ItAt w v L) : ∃ a cap, v = .slice a L.length cap /\ L.length <= cap /\ cap <= maxLen /\ ∀ j (hj : j < L.length), ∃ b off, a = some ⟨b, off, none⟩ /\ w.cell? ⟨b, off + j * 3, none⟩ = some (.int .i64 L[j].bits) /\ w.cell? ⟨b, off + j * 3 + 1, none⟩ = some (.string ⟨L[j].want.toArray⟩) /\ w.cell? ⟨b, off + j * 3 + 2, none⟩ = some (.string ⟨L[j].opt.toArray⟩) := h
theorem it_nil (w : World) : ItAt w (.slice none 0 0) [] := ⟨none, 0, rfl, Nat.le_refl _, by decide, fun j hj => by simp at hj⟩
theorem own_it {w : World} {B : Nat} {e : TypeId} {v : Value} {L : List It} (h : w.ownsRow B e 3 v L.length (cellsI9 L)) : ItAt w v L := by
 have h2 := h.2
 rcases h2 with ⟨hv, hn⟩ | ⟨g, cap, cur, rfl, hg, hrow, hnc, hcm, hcs, htake⟩
 ·obtain rfl := List.eq_nil_of_length_eq_zero hn
  rw [hv]; exact it_nil w
 ·refine ⟨_, cap, rfl, hnc, hcm, fun j hj => ⟨g, 0, rfl, ?_⟩⟩
  rw [Nat.zero_add, h.cellAt _ (by omega), h.cellAt _ (by omega), h.cellAt _ (by omega)]
  exact cellsI_at L j hj
def Gm (w : World) : Prop := ∃ m, w.cell? ⟨0, 0, none⟩ = some (.int .i64 m)
theorem Gm.kept {w w' : World} (h : Gm w) (hb : Below w.heap.size w w') : Gm w' := by
 obtain ⟨m, hm⟩ := h
 exact ⟨m, kept_cell hm hb⟩
theorem beq_no9 (a : ByteArray) (l : List UInt8) (h : a.data.toList ≠ l) : (a.toList == l) = false := by
 rw [Lib.toList_data, beq_eq_false_iff_ne]; exact h
theorem beq_yes9 (a : ByteArray) (l : List UInt8) (h : a.data.toList = l) : (a.toList == l) = true := by
 rw [Lib.toList_data, h]; exact beq_self_eq_true _
theorem cut9 (s : ByteArray) (c : UInt8) (w : World) (hg : Gm w) (hs : s.size <= 4000000000) :
  Calls Tryz.prog 32 #[.string s, .string ⟨#[c]⟩] w fun e w' => e = .returned (.tuple #[.string ⟨(part9 c s.data.toList).1.toArray⟩, .string ⟨(part9 c s.data.toList).2.1.toArray⟩, .bool (part9 c s.data.toList).2.2]) /\ Below w.heap.size w w' := by
 obtain ⟨m, hm⟩ := hg
 have h := Tryz.strings_Cut s ⟨#[c]⟩ m w (by omega) hm
 rw [show (⟨#[c]⟩ : ByteArray).data.toList = [c] from rfl, cut_part9] at h
 refine h.mono ?_
 rintro e w' ⟨rfl, n, rfl⟩
 exact ⟨rfl, Go.below_drewN (Below.refl _ _) n⟩
theorem blank9_any (x : Nat) (w : World) : Calls Tryz.prog 211 #[.int .i32 (x : Int)] w fun e w' => e = .returned (.bool (p9 x)) /\ w = w' := by
  by_cases h : p9 x = true
  · have h' : x = 9 ∨ x = 10 ∨ x = 12 ∨ x = 13 ∨ x = 32 := by unfold p9 at h; simp at h; omega
    clear h
    rcases h' with rfl | rfl | rfl | rfl | rfl <;>
      (go_enter Tryz.func211, Tryz.ntmps211
       go_wp2
       go_ret
       exact ⟨rfl, rfl⟩)
  · have HP := hid (show p9 x = false by simpa using h)
    have h' : x ≠ 9 /\ x ≠ 10 /\ x ≠ 12 /\ x ≠ 13 /\ x ≠ 32 := by unfold p9 at h; simp at h; omega
    have e1 : ((x : Int) == 9) = false := by rw [beq_eq_false_iff_ne]; omega
    have e2 : ((x : Int) == 10) = false := by rw [beq_eq_false_iff_ne]; omega
    have e3 : ((x : Int) == 12) = false := by rw [beq_eq_false_iff_ne]; omega
    have e4 : ((x : Int) == 13) = false := by rw [beq_eq_false_iff_ne]; omega
    have e5 : ((x : Int) == 32) = false := by rw [beq_eq_false_iff_ne]; omega
    clear h h'
    go_enter Tryz.func211, Tryz.ntmps211
    go_wp2
    go_ret
    rw [HP.out]
    exact ⟨rfl, rfl⟩
theorem ret_nb9 {a b : Int} {x y : Bool} (h : a = b) (g : x = y) : Ending.returned (.tuple #[.int .i64 a, .bool x]) = .returned (.tuple #[.int .i64 b, .bool y]) := by rw [h, g]
theorem size9_any (s : ByteArray) (w : World) (hs : s.size <= 4000000000) :
  Calls Tryz.prog 240 #[.string s] w fun e w' => e = .returned (.tuple #[.int .i64 (bitsV s.data.toList), .bool (bitsV s.data.toList != 0)]) /\ Below w.heap.size w w' := by
 obtain ⟨L, hL⟩ : ∃ L : ByteArray, L = ⟨(low s.data.toList).toArray⟩ := ⟨_, rfl⟩
 have HLw := hid (show Calls Tryz.prog 49 #[.string s] w fun e w' => e = .returned (.string L) /\ Below w.heap.size w w' by rw [hL]; exact lower_any s w (by omega))
 have hLl : L.data.toList = low s.data.toList := by rw [hL]
 by_cases h1 : low s.data.toList = sha2
 ·have HN := hid (show bitsV s.data.toList = 256 by unfold bitsV; rw [if_pos h1])
  have e1 := beq_yes9 L [115, 104, 97, 50, 53, 54] (hLl.trans h1)
  clear h1 hL hLl
  go_enter Tryz.func240, Tryz.ntmps240
  go_wp2_with fail
  refine HLw.out.mono ?_
  rintro e w1 ⟨rfl, hb⟩
  have HB := hid hb
  go_wp2_with fail
  go_ret2
  exact ⟨ret_nb9 HN.out.symm (by rw [HN.out]; rfl), HB.out⟩
 ·have e1 := beq_no9 L [115, 104, 97, 50, 53, 54] (fun h => h1 (hLl.symm.trans h))
  by_cases h2 : low s.data.toList = sha3
  ·have HN := hid (show bitsV s.data.toList = 384 by unfold bitsV; rw [if_neg h1, if_pos h2])
   have e2 := beq_yes9 L [115, 104, 97, 51, 56, 52] (hLl.trans h2)
   clear h1 h2 hL hLl
   go_enter Tryz.func240, Tryz.ntmps240
   go_wp2_with fail
   refine HLw.out.mono ?_
   rintro e w1 ⟨rfl, hb⟩
   have HB := hid hb
   go_wp2_with fail
   go_ret2
   exact ⟨ret_nb9 HN.out.symm (by rw [HN.out]; rfl), HB.out⟩
  ·have e2 := beq_no9 L [115, 104, 97, 51, 56, 52] (fun h => h2 (hLl.symm.trans h))
   by_cases h3 : low s.data.toList = sha5
   ·have HN := hid (show bitsV s.data.toList = 512 by unfold bitsV; rw [if_neg h1, if_neg h2, if_pos h3])
    have e3 := beq_yes9 L [115, 104, 97, 53, 49, 50] (hLl.trans h3)
    clear h1 h2 h3 hL hLl
    go_enter Tryz.func240, Tryz.ntmps240
    go_wp2_with fail
    refine HLw.out.mono ?_
    rintro e w1 ⟨rfl, hb⟩
    have HB := hid hb
    go_wp2_with fail
    go_ret2
    exact ⟨ret_nb9 HN.out.symm (by rw [HN.out]; rfl), HB.out⟩
   ·have HN := hid (show bitsV s.data.toList = 0 by unfold bitsV; rw [if_neg h1, if_neg h2, if_neg h3])
    have e3 := beq_no9 L [115, 104, 97, 53, 49, 50] (fun h => h3 (hLl.symm.trans h))
    clear h1 h2 h3 hL hLl
    go_enter Tryz.func240, Tryz.ntmps240
    go_wp2_with fail
    refine HLw.out.mono ?_
    rintro e w1 ⟨rfl, hb⟩
    have HB := hid hb
    go_wp2_with fail
    go_ret2
    exact ⟨ret_nb9 HN.out.symm (by rw [HN.out]; rfl), HB.out⟩
def itVal (x : It) : Value := .agg (itC x).toArray
def ItmPost (l : List UInt8) (w : World) (e : Ending) (w' : World) : Prop :=
 e = .returned (.tuple #[(match itemV l with | some x => itVal x | none => .agg #[.int .i64 0, .string ⟨#[]⟩, .string ⟨#[]⟩]), .bool (itemV l).isSome]) /\ Below w.heap.size w w'
def TriI (w : World) (b : Nat) (n : Int) (v o : ByteArray) : Prop := w.heap[b]? = some (.cells #[.int .i64 n, .string v, .string o] 206 (0, 0))
theorem TriI.range {w : World} {b : Nat} {n : Int} {v o : ByteArray} (h : TriI w b n v o) : w.rangeAt b 0 [.int .i64 n, .string v, .string o] := fun j u hu => by
 rw [Nat.zero_add, Lib.cell_of_heap h]
 match j, hu with
 | 0, hu => simpa using hu
 | 1, hu => simpa using hu
 | 2, hu => simpa using hu
 | j + 3, hu => simp at hu
theorem TriI.cells {w : World} {b : Nat} {n : Int} {v o : ByteArray} (h : TriI w b n v o) : w.cell? ⟨b, 0, none⟩ = some (.int .i64 n) /\ w.cell? ⟨b, 1, none⟩ = some (.string v) /\ w.cell? ⟨b, 2, none⟩ = some (.string o) /\ w.frozen? ⟨b, 0, none⟩ = false /\ w.frozen? ⟨b, 1, none⟩ = false /\ w.frozen? ⟨b, 2, none⟩ = false :=
 ⟨by rw [Lib.cell_of_heap h]; rfl, by rw [Lib.cell_of_heap h]; rfl, by rw [Lib.cell_of_heap h]; rfl, Lib.frozen_of_heap h 0, Lib.frozen_of_heap h 1, Lib.frozen_of_heap h 2⟩
theorem TriI.set {w : World} {b : Nat} {n n' : Int} {v v' o o' : ByteArray} (h : TriI w b n v o) : TriI (((w.setCell ⟨b, 0, none⟩ (.int .i64 n')).setCell ⟨b, 1, none⟩ (.string v')).setCell ⟨b, 2, none⟩ (.string o')) b n' v' o' := by
 have h1 := Lib.heap_setCell_same h (i := 0) (.int .i64 n')
 have h2 := Lib.heap_setCell_same h1 (i := 1) (.string v')
 have h3 := Lib.heap_setCell_same h2 (i := 2) (.string o')
 unfold TriI
 rw [h3]
 rfl
theorem below_set3 {B : Nat} {w0 w : World} {b : Nat} {x y z : Value} (h : Below B w0 w) (hb : B <= b) : Below B w0 (((w.setCell ⟨b, 0, none⟩ x).setCell ⟨b, 1, none⟩ y).setCell ⟨b, 2, none⟩ z) :=
 ((h.setCell (p := ⟨b, 0, none⟩) hb x).setCell (p := ⟨b, 1, none⟩) hb y).setCell (p := ⟨b, 2, none⟩) hb z
theorem results_i2 {fn : Func} {p q : Tmp} (h : fn.results = #[.cell p 206, .tmp q]) (tmps : Array Value) (w : World) (b : Nat) (n : Int) (v o : ByteArray) (hp : tmps.getD p undef = .pointer (some ⟨b, 0, none⟩)) (hc : w.rangeAt b 0 [.int .i64 n, .string v, .string o]) : (results fn tmps).run Tryz.prog w = .ok (.tuple #[.agg #[.int .i64 n, .string v, .string o], tmps.getD q undef]) w := by
 rw [Array.getD_eq_getD_getElem?] at hp
 simp only [results, h]
 simp [Sem.run_bind, Result.andThen, hp, asAddr, run_loadVar_mid w b 0 206 [.int .i64 n, .string v, .string o] _ hc Tryz.underlying206 rfl (by kernel_rfl)]
theorem item9_any (s : ByteArray) (w : World) (hg : Gm w) (hs : s.size <= 4000000000) :
  Calls Tryz.prog 212 #[.string s] w (ItmPost s.data.toList w) := by
 have hp1 := part_le9 63 s.data.toList
 have hp2 := part_le9 45 (part9 63 s.data.toList).1
 obtain ⟨A, hA⟩ : ∃ A : ByteArray, A = ⟨(part9 63 s.data.toList).1.toArray⟩ := ⟨_, rfl⟩
 obtain ⟨O, hO⟩ : ∃ A : ByteArray, A = ⟨(part9 63 s.data.toList).2.1.toArray⟩ := ⟨_, rfl⟩
 have hAl : A.data.toList = (part9 63 s.data.toList).1 := by rw [hA]
 obtain ⟨N, hN⟩ : ∃ A' : ByteArray, A' = ⟨(part9 45 A.data.toList).1.toArray⟩ := ⟨_, rfl⟩
 obtain ⟨V, hV⟩ : ∃ A' : ByteArray, A' = ⟨(part9 45 A.data.toList).2.1.toArray⟩ := ⟨_, rfl⟩
 obtain ⟨d, hd⟩ : ∃ d, d = (part9 45 A.data.toList).2.2 := ⟨_, rfl⟩
 have hNl : N.data.toList = nameV9 s.data.toList := by rw [hN]; show (part9 45 A.data.toList).1 = _; rw [hAl]; rfl
 have hAs : A.size <= 4000000000 := by rw [Lib.size_eq, hAl]; rw [Lib.size_eq] at hs; omega
 have hNs : N.size <= 4000000000 := by rw [Lib.size_eq, hN]; show (part9 45 A.data.toList).1.length <= _; rw [hAl]; rw [Lib.size_eq] at hs; omega
 obtain ⟨q, hq⟩ : ∃ q, q = (part9 63 s.data.toList).2.2 := ⟨_, rfl⟩
 have HC1 := hid (show ∀ X, Below w.heap.size w X -> Calls Tryz.prog 32 #[.string s, .string ⟨#[63]⟩] X fun e w' => e = .returned (.tuple #[.string A, .string O, .bool q]) /\ Below X.heap.size X w' from fun X hX => by rw [hA, hO, hq]; exact cut9 s 63 X (hg.kept hX) hs)
 have HC2 := hid (show ∀ X, Below w.heap.size w X -> Calls Tryz.prog 32 #[.string A, .string ⟨#[45]⟩] X fun e w' => e = .returned (.tuple #[.string N, .string V, .bool d]) /\ Below X.heap.size X w' from fun X hX => by rw [hN, hV, hd]; exact cut9 A 45 X (hg.kept hX) hAs)
 obtain ⟨b, hb⟩ : ∃ b, b = bitsV N.data.toList := ⟨_, rfl⟩
 obtain ⟨k, hk⟩ : ∃ k, k = (bitsV N.data.toList != 0) := ⟨_, rfl⟩
 have HSZ := hid (show ∀ X, Calls Tryz.prog 240 #[.string N] X fun e w' => e = .returned (.tuple #[.int .i64 b, .bool k]) /\ Below X.heap.size X w' from fun X => by rw [hb, hk]; exact size9_any N X hNs)
 have HOK := hid (show okV9 s.data.toList = (d && k) by unfold okV9; rw [hd, hk, hNl, hAl])
 have HIT := hid (show (⟨bitsV (nameV9 s.data.toList), wantV9 s.data.toList, optV9 s.data.toList⟩ : It) = ⟨b, V.data.toList, O.data.toList⟩ by
  rw [hb, hNl, hV, hO, hAl]; rfl)
 clear hp1 hp2 hA hO hAl hN hV hd hNl hAs hNs hq hb hk hg
 have hfin : (d && k) = true ∨ (d && k) = false := by cases (d && k) <;> simp
 rcases hfin with hf | hf
 ·have HI := hid (show itemV s.data.toList = some ⟨b, V.data.toList, O.data.toList⟩ by unfold itemV; rw [HOK.out, hf, if_pos rfl, HIT.out])
  obtain ⟨rfl, rfl⟩ : d = true /\ k = true := by simpa using hf
  clear hf HOK HIT
  go_enter Tryz.func212, Tryz.ntmps212
  go_wp2_with fail
  refine (HC1.out _ ((Below.refl _ w).alloc (Nat.le_refl _) _)).mono ?_
  rintro e w1 ⟨rfl, hb1⟩
  have HB1 := hid (below2 ((Below.refl _ w).alloc (Nat.le_refl _) _) hb1)
  have HR1 := hid (row_kept (heap_alloc_new w _) hb1)
  clear hb1
  go_wp2_with fail
  refine (HC2.out _ HB1.out).mono ?_
  rintro e w2 ⟨rfl, hb2⟩
  have HB2 := hid (below2 HB1.out hb2)
  have HR2 := hid (row_kept HR1.out hb2)
  clear hb2 HR1
  go_wp2_with fail
  refine (HSZ.out _).mono ?_
  rintro e w3 ⟨rfl, hb3⟩
  have HB3 := hid (below2 HB2.out hb3)
  have HR3 := hid (row_kept HR2.out hb3)
  clear hb3 HR2
  obtain ⟨c0, c1, c2, z0, z1, z2⟩ := TriI.cells HR3.out
  go_wp2_with fail
  refine bodyPost_ret (results_i2 rfl _ _ w.heap.size b V O rfl (TriI.set HR3.out).range) rfl ⟨?_, below_set3 HB3.out (Nat.le_refl _)⟩
  rw [HI.out]
  show _ = Ending.returned (.tuple #[.agg #[.int .i64 b, .string ⟨V.data.toList.toArray⟩, .string ⟨O.data.toList.toArray⟩], .bool true])
  rw [Lib.mk_data, Lib.mk_data]
  rfl
 ·have HI := hid (show itemV s.data.toList = none by unfold itemV; rw [HOK.out, hf]; rfl)
  clear HOK HIT
  cases d with
  | false =>
   clear hf
   go_enter Tryz.func212, Tryz.ntmps212
   go_wp2_with fail
   refine (HC1.out _ ((Below.refl _ w).alloc (Nat.le_refl _) _)).mono ?_
   rintro e w1 ⟨rfl, hb1⟩
   have HB1 := hid (below2 ((Below.refl _ w).alloc (Nat.le_refl _) _) hb1)
   have HR1 := hid (row_kept (heap_alloc_new w _) hb1)
   clear hb1
   go_wp2_with fail
   refine (HC2.out _ HB1.out).mono ?_
   rintro e w2 ⟨rfl, hb2⟩
   have HB2 := hid (below2 HB1.out hb2)
   have HR2 := hid (row_kept HR1.out hb2)
   clear hb2 HR1
   go_wp2_with fail
   refine (HSZ.out _).mono ?_
   rintro e w3 ⟨rfl, hb3⟩
   have HB3 := hid (below2 HB2.out hb3)
   have HR3 := hid (row_kept HR2.out hb3)
   clear hb3 HR2
   obtain ⟨c0, c1, c2, z0, z1, z2⟩ := TriI.cells HR3.out
   go_wp2_with fail
   refine bodyPost_ret (results_i2 rfl _ _ w.heap.size 0 ⟨#[]⟩ ⟨#[]⟩ rfl (TriI.set HR3.out).range) rfl ⟨?_, below_set3 HB3.out (Nat.le_refl _)⟩
   rw [HI.out]
   rfl
  | true =>
   obtain rfl : k = false := by simpa using hf
   clear hf
   go_enter Tryz.func212, Tryz.ntmps212
   go_wp2_with fail
   refine (HC1.out _ ((Below.refl _ w).alloc (Nat.le_refl _) _)).mono ?_
   rintro e w1 ⟨rfl, hb1⟩
   have HB1 := hid (below2 ((Below.refl _ w).alloc (Nat.le_refl _) _) hb1)
   have HR1 := hid (row_kept (heap_alloc_new w _) hb1)
   clear hb1
   go_wp2_with fail
   refine (HC2.out _ HB1.out).mono ?_
   rintro e w2 ⟨rfl, hb2⟩
   have HB2 := hid (below2 HB1.out hb2)
   have HR2 := hid (row_kept HR1.out hb2)
   clear hb2 HR1
   go_wp2_with fail
   refine (HSZ.out _).mono ?_
   rintro e w3 ⟨rfl, hb3⟩
   have HB3 := hid (below2 HB2.out hb3)
   have HR3 := hid (row_kept HR2.out hb3)
   clear hb3 HR2
   obtain ⟨c0, c1, c2, z0, z1, z2⟩ := TriI.cells HR3.out
   go_wp2_with fail
   refine bodyPost_ret (results_i2 rfl _ _ w.heap.size 0 ⟨#[]⟩ ⟨#[]⟩ rfl (TriI.set HR3.out).range) rfl ⟨?_, below_set3 HB3.out (Nat.le_refl _)⟩
   rw [HI.out]
   rfl
end Go.Proofs.YtooihpkoplgmbaaGreatDoor
