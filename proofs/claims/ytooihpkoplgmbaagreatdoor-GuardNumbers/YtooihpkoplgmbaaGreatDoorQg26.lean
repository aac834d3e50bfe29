/- Walks and plain facts. -/
import Derived.Test.YtooihpkoplgmbaaGreatDoorQg25
set_option linter.unusedSimpArgs false
set_option linter.unusedVariables false
set_option maxHeartbeats 16000000
set_option maxRecDepth 100000

namespace Go.Proofs.YtooihpkoplgmbaaGreatDoor
open Go.RowKit
theorem same4_any (a b : Org) (w : World) :
  Calls Tryz.prog 89 #[orgVal a, orgVal b] w fun e w' => e = .returned (.bool (sameO a b)) /\ Below w.heap.size w w' := by
 obtain ⟨sa, ah, ap, ao⟩ := a
 obtain ⟨bs, bh, bp, bo⟩ := b
 obtain ⟨AS, rfl⟩ : ∃ X : ByteArray, sa = X.data.toList := ⟨⟨sa.toArray⟩, rfl⟩
 obtain ⟨AH, rfl⟩ : ∃ X : ByteArray, ah = X.data.toList := ⟨⟨ah.toArray⟩, rfl⟩
 obtain ⟨BS, rfl⟩ : ∃ X : ByteArray, bs = X.data.toList := ⟨⟨bs.toArray⟩, rfl⟩
 obtain ⟨BH, rfl⟩ : ∃ X : ByteArray, bh = X.data.toList := ⟨⟨bh.toArray⟩, rfl⟩
 have hv : ∀ (s h : ByteArray) (p : Int) (o : Bool), orgVal ⟨s.data.toList, h.data.toList, p, o⟩ = .agg #[.string s, .string h, .int .i64 p, .bool o] := fun _ _ _ _ => rfl
 rw [hv, hv]
 have HBx := hid (show Below w.heap.size w ((w.alloc (.cells #[.string AS, .string AH, .int .i64 ap, .bool ao] 128)).alloc (.cells #[.string BS, .string BH, .int .i64 bp, .bool bo] 128)) from ((Below.refl _ w).alloc (Nat.le_refl _) _).alloc (by simp) _)
 clear hv
 cases ao with
 | true =>
  go_enter Tryz.func89, Tryz.ntmps89
  go_wp2
  go_ret
  exact ⟨rfl, HBx.out⟩
 | false =>
  clear HBx
  go_enter Tryz.func89, Tryz.ntmps89
  go_wp2
  all_goals
   go_ret
   refine ⟨ret_bool ?_, ((Below.refl _ w).alloc (Nat.le_refl _) _).alloc (by simp) _⟩
   simp only [Lib.toList_data] at *
   simp_all [sameO]
def UrlAt (w : World) (u : Adr) (pv : Value) : Prop := PathAt w pv u.path /\ u.path.length <= 1000000 /\ u.path.flatten.length <= 100000
theorem UrlAt.kept {w w' : World} {u : Adr} {pv : Value} (h : UrlAt w u pv) (hb : Below w.heap.size w w') : UrlAt w' u pv := ⟨h.1.kept hb, h.2⟩
theorem UrlAt.sl {w : World} {u : Adr} {pv : Value} (h : UrlAt w u pv) : IsSl pv := by
 rcases h.1 with ⟨rfl, _⟩ | ⟨b, cap, rfl, _⟩
 ·exact ⟨_, _, _, rfl⟩
 ·exact ⟨_, _, _, rfl⟩
theorem self_any (u p : Adr) (uv pv : Value) (w : World) (hg : Gd w) (hu : UrlAt w u uv) (hp : UrlAt w p pv) :
  Calls Tryz.prog 194 #[adrVal u uv, adrVal p pv] w fun e w' => e = .returned (.bool (selfM u p)) /\ Below w.heap.size w w' := by
 obtain ⟨ua, un, uc, rfl⟩ := hu.sl
 obtain ⟨pa, pn, pc, rfl⟩ := hp.sl
 have HU := hid (fun (w : World) (hg : Gd w) (h : UrlAt w u (.slice ua un uc)) => of_any u (.slice ua un uc) w hg h.1 h.2.1 h.2.2)
 have HP := hid (fun (w : World) (hg : Gd w) (h : UrlAt w p (.slice pa pn pc)) => of_any p (.slice pa pn pc) w hg h.1 h.2.1 h.2.2)
 have HSm := hid (fun w => same4_any (orgV u) (orgV p) w)
 obtain ⟨OU, hOU⟩ : ∃ v, orgVal (orgV u) = v := ⟨_, rfl⟩
 obtain ⟨OP, hOP⟩ : ∃ v, orgVal (orgV p) = v := ⟨_, rfl⟩
 unfold OfPost at HU HP
 rw [hOU] at HU HSm
 rw [hOP] at HP HSm
 obtain ⟨sm, hsm⟩ : ∃ b, sameO (orgV u) (orgV p) = b := ⟨_, rfl⟩
 rw [hsm] at HSm
 obtain ⟨u0, u1, u2, u3, u4, u5, u6, u8, u9, u10, u11, hx, hx0, hx3, hx5, hx6⟩ := adr_named u ua un uc
 obtain ⟨p0, p1, p2, p3, p4, p5, p6, p8, p9, p10, p11, hy, hy0, hy3, hy5, hy6⟩ := adr_named p pa pn pc
 have hva : adrVal u (.slice ua un uc) = .agg #[.string u0, .string u1, .string u2, .string u3, .bool u4, .int .i64 u5, .bool u6, .slice ua un uc, .string u8, .string u9, .bool u10, .bool u11] := by unfold adrVal; rw [hx]
 have hvb : adrVal p (.slice pa pn pc) = .agg #[.string p0, .string p1, .string p2, .string p3, .bool p4, .int .i64 p5, .bool p6, .slice pa pn pc, .string p8, .string p9, .bool p10, .bool p11] := by unfold adrVal; rw [hy]
 rw [hva] at HU ⊢
 rw [hvb] at HP ⊢
 have HV := hid (show selfM u p = (sm || ((u3.toList == p3.toList) && (schM p0.data.toList u0.data.toList && ((u5 == -1) && (p5 == -1))))) by
  unfold selfM
  rw [hsm, hx3.symm, hy3.symm, hx0.symm, hy0.symm, hx5.symm, hy5.symm, Lib.toList_data, Lib.toList_data])
 have HSc := hid (fun w => scheme11_any p0 u0 w)
 obtain ⟨ms, hms⟩ : ∃ b, schM p0.data.toList u0.data.toList = b := ⟨_, rfl⟩
 obtain ⟨eh, heh⟩ : ∃ b, (u3.toList == p3.toList) = b := ⟨_, rfl⟩
 obtain ⟨e5, he5⟩ : ∃ b, (u5 == -1) = b := ⟨_, rfl⟩
 obtain ⟨e6, he6⟩ : ∃ b, (p5 == -1) = b := ⟨_, rfl⟩
 rw [hms] at HSc
 rw [hms, heh, he5, he6] at HV
 clear hx0 hx3 hx5 hx6 hy0 hy3 hy5 hy6 hva hvb hms hsm hOU hOP
 obtain ⟨W1, hW1⟩ : ∃ W1, (w.alloc (.cells #[.string u0, .string u1, .string u2, .string u3, .bool u4, .int .i64 u5, .bool u6, .slice ua un uc, .string u8, .string u9, .bool u10, .bool u11] 31)) = W1 := ⟨_, rfl⟩
 have hb1 : Below w.heap.size w W1 := by rw [<- hW1]; exact (Below.refl _ w).alloc (Nat.le_refl _) _
 have hs1 : W1.heap.size = w.heap.size + 1 := by rw [<- hW1]; simp
 have hA1 : AdrIn W1 w.heap.size u (.slice ua un uc) := by
  unfold AdrIn
  rw [hx, <- hW1]
  exact heap_alloc_new w _
 obtain ⟨W2, hW2⟩ : ∃ W2, (W1.alloc (.cells #[.string p0, .string p1, .string p2, .string p3, .bool p4, .int .i64 p5, .bool p6, .slice pa pn pc, .string p8, .string p9, .bool p10, .bool p11] 31)) = W2 := ⟨_, rfl⟩
 have hb2 : Below W1.heap.size W1 W2 := by rw [<- hW2]; exact (Below.refl _ W1).alloc (Nat.le_refl _) _
 have hA2 := hA1.kept hb2
 have hP2 : AdrIn W2 (w.heap.size + 1) p (.slice pa pn pc) := by
  unfold AdrIn
  rw [hy, <- hW2, <- hs1]
  exact heap_alloc_new W1 _
 have hB2 := below2 hb1 hb2
 have HG2 := hid (hg.kept hB2)
 have HU2 := hid (hu.kept hB2)
 have HP2 := hid (hp.kept hB2)
 have HB2 := hid hB2
 have HRu := hid (show ∀ Z, Below W2.heap.size W2 Z -> Z.rangeAt w.heap.size 0 [.string u0, .string u1, .string u2, .string u3, .bool u4, .int .i64 u5, .bool u6, .slice ua un uc, .string u8, .string u9, .bool u10, .bool u11] from fun Z hZ => by
  have := range_row (show Z.heap[w.heap.size]? = some (.cells (adrCells u (.slice ua un uc)).toArray 31 (0, 0)) from hA2.kept hZ)
  rw [hx] at this
  exact this)
 have HRp := hid (show ∀ Z, Below W2.heap.size W2 Z -> Z.rangeAt (w.heap.size + 1) 0 [.string p0, .string p1, .string p2, .string p3, .bool p4, .int .i64 p5, .bool p6, .slice pa pn pc, .string p8, .string p9, .bool p10, .bool p11] from fun Z hZ => by
  have := range_row (show Z.heap[w.heap.size + 1]? = some (.cells (adrCells p (.slice pa pn pc)).toArray 31 (0, 0)) from hP2.kept hZ)
  rw [hy] at this
  exact this)
 have HKf := hid (show ∀ Z, Below W2.heap.size W2 Z -> Z.cell? ⟨w.heap.size, 0, none⟩ = some (.string u0) /\ Z.cell? ⟨w.heap.size, 3, none⟩ = some (.string u3) /\ Z.cell? ⟨w.heap.size, 5, none⟩ = some (.int .i64 u5) /\ Z.cell? ⟨w.heap.size + 1, 0, none⟩ = some (.string p0) /\ Z.cell? ⟨w.heap.size + 1, 3, none⟩ = some (.string p3) /\ Z.cell? ⟨w.heap.size + 1, 5, none⟩ = some (.int .i64 p5) from fun Z hZ => by
  have h1 : ∀ j v, (adrCells u (.slice ua un uc))[j]? = some v -> Z.cell? ⟨w.heap.size, j, none⟩ = some v := fun j v h => (hA2.kept hZ).cell j v h
  have h2 : ∀ j v, (adrCells p (.slice pa pn pc))[j]? = some v -> Z.cell? ⟨w.heap.size + 1, j, none⟩ = some v := fun j v h => (hP2.kept hZ).cell j v h
  rw [hx] at h1
  rw [hy] at h2
  exact ⟨h1 0 _ rfl, h1 3 _ rfl, h1 5 _ rfl, h2 0 _ rfl, h2 3 _ rfl, h2 5 _ rfl⟩)
 have HU3 := hid (fun (X : World) (hX : Below W2.heap.size W2 X) => HU.out X (HG2.out.kept hX) (HU2.out.kept hX))
 have HP3 := hid (fun (X : World) (hX : Below W2.heap.size W2 X) => HP.out X (HG2.out.kept hX) (HP2.out.kept hX))
 clear hb1 hb2 hA1 hA2 hP2 hB2 hg hu hp hx hy HU HP
 go_enter Tryz.func194, Tryz.ntmps194
 go_wp2_with fail
 have HQ0 := hid ((Below.refl W2.heap.size W2).drew)
 refine wp_region_held_drew (S := (fun wx => Below W2.heap.size W2 wx)) (by kernel_rfl) HQ0.out (fun hHeld => ?_)
 refine wpAnyH_take (i := 0) rfl (by kernel_rfl) (by kernel_rfl) (by kernel_rfl) (fun _ _ _ h => h) (yieldsIf_load_mid (by kernel_rfl) 31 (.tmp 2) rfl w.heap.size 0 rfl [.string u0, .string u1, .string u2, .string u3, .bool u4, .int .i64 u5, .bool u6, .slice ua un uc, .string u8, .string u9, .bool u10, .bool u11] _ HRu.out Tryz.underlying31 rfl sizeU) (by assumption) ?_
 (try simp only [Act.put, List.setIfInBounds_toArray, List.set_cons_zero, List.set_cons_succ])
 refine wpAnyH_take (i := 2) rfl (by kernel_rfl) (by kernel_rfl) (by kernel_rfl) (fun _ _ _ h => h) (yieldsIf_load_mid (by kernel_rfl) 31 (.tmp 3) rfl (w.heap.size + 1) 0 rfl [.string p0, .string p1, .string p2, .string p3, .bool p4, .int .i64 p5, .bool p6, .slice pa pn pc, .string p8, .string p9, .bool p10, .bool p11] _ HRp.out Tryz.underlying31 rfl sizeU) (by assumption) ?_
 (try simp only [Act.put, List.setIfInBounds_toArray, List.set_cons_zero, List.set_cons_succ])
 refine wpAnyH_ready (rs := [1]) (by kernel_rfl) (by simp) ?_
 refine AllReadyH.cons rfl (fun K hK => ?_) AllReadyH.nil
 rw [if_pos (by kernel_rfl)]
 go_simp
 go_wp2_with (go_at_call 88; refine (HU3.out _ HQ0.out).mono ?_; rintro e wa ⟨rfl, hba⟩)
 have HQ1 := hid (below2 HQ0.out hba)
 clear hba
 refine hK.out _ _ HQ1.out (fun hHeld2 => ?_)
 clear hK K hHeld
 rename _ => hHeld
 refine wpAnyH_ready (rs := [3]) (by kernel_rfl) (by simp) ?_
 refine AllReadyH.cons rfl (fun K hK => ?_) AllReadyH.nil
 rw [if_pos (by kernel_rfl)]
 go_simp
 go_wp2_with (go_at_call 88; refine (HP3.out _ HQ1.out).mono ?_; rintro e wb ⟨rfl, hbb⟩)
 have HQ2 := hid (below2 HQ1.out hbb)
 clear hbb
 refine hK.out _ _ HQ2.out (fun hHeld2 => ?_)
 clear hK K hHeld
 rename _ => hHeld
 refine wpAnyH_ready (rs := [4]) (by kernel_rfl) (by simp) ?_
 refine AllReadyH.cons rfl (fun K hK => ?_) AllReadyH.nil
 rw [if_pos (by kernel_rfl)]
 go_simp
 go_wp2_with (go_at_call 89; refine (HSm.out _).mono ?_; rintro e wc ⟨rfl, hbc⟩)
 have HQ3 := hid (below2 HQ2.out hbc)
 clear hbc
 refine hK.out _ _ HQ3.out (fun hHeld2 => ?_)
 clear hK K hHeld
 rename _ => hHeld
 refine wpAnyH_done (by kernel_rfl) ?_ _
 obtain ⟨c0, c3, c5, d0, d3, d5⟩ := HKf.out wc HQ3.out
 have HB3 := hid (below2 HB2.out HQ3.out)
 clear HQ0 HQ1 HQ2 HQ3 hHeld HRu HRp HKf HU3 HP3
 cases sm with
 | true =>
  go_wp2
  go_ret
  exact ⟨ret_bool (by rw [HV.out]; rfl), HB3.out⟩
 | false =>
  cases eh <;> cases ms <;> cases e5 <;>
  ·go_wp2_with (go_at_call 198; refine (HSc.out _).mono ?_; rintro e wz ⟨rfl, hwz⟩; rw [<- hwz]; clear hwz)
   go_ret
   exact ⟨ret_bool (by rw [HV.out]; rfl), HB3.out⟩
theorem hostM_empty {n h : List UInt8} (e : h = []) : hostM n h = false := by unfold hostM; rw [if_pos (.inl e), e]; rfl
theorem hostM_any {n h : List UInt8} (e : h ≠ []) (e2 : n = [42]) : hostM n h = true := by unfold hostM; rw [if_pos (.inr e2)]; simp [e]
theorem hostM_below {n h : List UInt8} (e : h ≠ []) (e2 : n ≠ [42]) (e3 : Lib.hasPrefix n [42, 46] = true) (e4 : n ≠ [42, 46]) : hostM n h = (Lib.hasSuffix h (n.drop 1) && decide ((n.drop 1).length < h.length)) := by
 unfold hostM
 rw [if_neg (by simp [e, e2]), e3]
 simp [e4]
theorem hostM_same {n h : List UInt8} (e : h ≠ []) (e2 : n ≠ [42]) (e3 : Lib.hasPrefix n [42, 46] = false ∨ n = [42, 46]) : hostM n h = (n == h) := by
 unfold hostM
 rw [if_neg (by simp [e, e2]), if_neg]
 rcases e3 with e3 | e3
 ·rw [e3]; simp
 ·rw [e3]; decide
theorem hostMeans_any (n h : ByteArray) (w : World) (hn : n.size <= 4000000000) (hh : h.size <= 4000000000) :
  Calls Tryz.prog 201 #[.string n, .string h] w fun e w' => e = .returned (.bool (hostM n.data.toList h.data.toList)) /\ w = w' := by
 have HP : Hid (∀ w : World, Calls Tryz.prog 195 #[.string n, .string ⟨#[42, 46]⟩] w fun e w' => e = .returned (.bool (Lib.hasPrefix n.data.toList [42, 46])) /\ w' = w) := fun w => Tryz.strings_HasPrefix n ⟨#[42, 46]⟩ w
 by_cases h0 : h.data.toList = []
 ·have HN := hid (hostM_empty (n := n.data.toList) h0)
  have he := empty_yes h h0
  clear h0
  go_enter Tryz.func201, Tryz.ntmps201
  go_wp2
  go_ret
  rw [HN.out]; exact ⟨rfl, rfl⟩
 ·have he := empty_no h h0
  by_cases h1 : n.data.toList = [42]
  ·have HN := hid (hostM_any h0 h1)
   have e1 := beq_yes n [42] h1
   clear h0 h1
   go_enter Tryz.func201, Tryz.ntmps201
   go_wp2
   go_ret
   rw [HN.out]; exact ⟨rfl, rfl⟩
  ·have e1 := beq_no n [42] h1
   by_cases h2 : n.data.toList = [42, 46]
   ·have HN := hid (hostM_same h0 h1 (.inr h2))
    have e2 := beq_yes n [42, 46] h2
    have HPt := hid (show Lib.hasPrefix n.data.toList [42, 46] = true by rw [h2]; rfl)
    obtain ⟨q, hq⟩ : ∃ q, (n.toList == h.toList) = q := ⟨_, rfl⟩
    have HQ := hid (show (n.data.toList == h.data.toList) = q by rw [<- hq, Lib.toList_data, Lib.toList_data])
    clear h0 h1 h2
    go_enter Tryz.func201, Tryz.ntmps201
    go_wp2_with (go_at_call 195; refine (HP.out _).mono ?_; rintro e w1 ⟨rfl, hw⟩; rw [hw, HPt.out]; clear hw)
    go_ret
    rw [HN.out, HQ.out]; exact ⟨rfl, rfl⟩
   ·have e2 := beq_no n [42, 46] h2
    cases hp : Lib.hasPrefix n.data.toList [42, 46] with
    | false =>
     have HN := hid (hostM_same h0 h1 (.inl hp))
     have HPt := hid hp
     obtain ⟨q, hq⟩ : ∃ q, (n.toList == h.toList) = q := ⟨_, rfl⟩
     have HQ := hid (show (n.data.toList == h.data.toList) = q by rw [<- hq, Lib.toList_data, Lib.toList_data])
     clear h0 h1 h2 hp
     go_enter Tryz.func201, Tryz.ntmps201
     go_wp2_with (go_at_call 195; refine (HP.out _).mono ?_; rintro e w1 ⟨rfl, hw⟩; rw [hw, HPt.out]; clear hw)
     go_ret
     rw [HN.out, HQ.out]; exact ⟨rfl, rfl⟩
    | true =>
     have HN := hid (hostM_below h0 h1 hp h2)
     have HPt := hid hp
     have hn1 : 1 <= n.size := by
      rw [Lib.size_eq]
      cases hx : n.data.toList with
      | nil => rw [hx] at hp; exact absurd hp (by decide)
      | cons c r => simp
     have hn1' : (1 : Int) <= (n.size : Int) := by omega
     obtain ⟨E, hE⟩ : ∃ E : ByteArray, n.extract 1 n.size = E := ⟨_, rfl⟩
     have hEl : E.data.toList = n.data.toList.drop 1 := by rw [<- hE, extract_drop]
     have HS := hid (fun w => Tryz.strings_HasSuffix h E w (by omega))
     obtain ⟨q, hq⟩ : ∃ q, Lib.hasSuffix h.data.toList E.data.toList = q := ⟨_, rfl⟩
     rw [hq] at HS
     obtain ⟨d, hd⟩ : ∃ d, decide (E.size < h.size) = d := ⟨_, rfl⟩
     have HV := hid (show hostM n.data.toList h.data.toList = (q && d) by
      rw [HN.out, <- hEl, hq, <- hd]
      rfl)
     clear h0 h1 h2 hp HN hEl hq
     cases q with
     | false =>
      go_enter Tryz.func201, Tryz.ntmps201
      go_wp2_with (first | (go_at_call 195; refine (HP.out _).mono ?_; rintro e w1 ⟨rfl, hw⟩; rw [hw, HPt.out]; clear hw) | (go_at_call 207; refine (HS.out _).mono ?_; rintro e w1 ⟨rfl, hw⟩; rw [hw]; clear hw))
      go_ret
      rw [HV.out]; exact ⟨rfl, rfl⟩
     | true =>
      go_enter Tryz.func201, Tryz.ntmps201
      go_wp2_with (first | (go_at_call 195; refine (HP.out _).mono ?_; rintro e w1 ⟨rfl, hw⟩; rw [hw, HPt.out]; clear hw) | (go_at_call 207; refine (HS.out _).mono ?_; rintro e w1 ⟨rfl, hw⟩; rw [hw]; clear hw))
      go_ret
      rw [HV.out]; exact ⟨rfl, rfl⟩
theorem scutScheme_any (s : ByteArray) (w : World) (hg : Gd w) (hs : s.size <= 4000000000) :
  Calls Tryz.prog 197 #[.string s] w fun e w' => e = .returned (.tuple #[.string ⟨((schemeV s.data.toList).getD ([], [])).1.toArray⟩, .string ⟨((schemeV s.data.toList).getD ([], [])).2.toArray⟩, .bool (schemeV s.data.toList).isSome]) /\ Below w.heap.size w w' := by
 have HG := hid hg
 clear hg
 have hl := part_le 58 s.data.toList
 obtain ⟨A, hA⟩ : ∃ A : ByteArray, A = ⟨(part 58 s.data.toList).1.toArray⟩ := ⟨_, rfl⟩
 obtain ⟨R, hR⟩ : ∃ R : ByteArray, R = ⟨(part 58 s.data.toList).2.1.toArray⟩ := ⟨_, rfl⟩
 obtain ⟨ok, hok⟩ : ∃ ok, ok = (part 58 s.data.toList).2.2 := ⟨_, rfl⟩
 have hAl : A.data.toList = (part 58 s.data.toList).1 := by rw [hA]
 have hRl : R.data.toList = (part 58 s.data.toList).2.1 := by rw [hR]
 have hAs : A.size <= 4000000000 := by rw [hA]; exact size_le hl.1 hs
 have HCut : Hid (∀ w : World, Gd w -> Calls Tryz.prog 32 #[.string s, .string ⟨#[58]⟩] w fun e w' => e = .returned (.tuple #[.string A, .string R, .bool ok]) /\ Below w.heap.size w w') := fun w hg => by
  have := cut_any s ⟨#[58]⟩ w hg hs
  rw [show (⟨#[58]⟩ : ByteArray).data.toList = [58] from rfl, cut_part, <- hA, <- hR, <- hok] at this
  exact this
 have HNo : Hid ((ok && schOk A.data.toList) = false -> schemeV s.data.toList = none) := fun h => by unfold schemeV; rw [<- hAl, <- hok, h]; rfl
 have HYes : Hid ((ok && schOk A.data.toList) = true -> schemeV s.data.toList = some (low A.data.toList, R.data.toList)) := fun h => by
  unfold schemeV; rw [<- hAl, <- hok, h, <- hRl]; rfl
 clear hA hR hok hl hAl hRl
 have HLo := hid (fun w => lower_any A w (by omega))
 cases hok2 : ok with
 | false =>
  subst hok2
  have HN := hid (HNo.out rfl)
  go_enter Tryz.func197, Tryz.ntmps197
  go_wp2_with (go_at_call 32; refine (HCut.out _ HG.out).mono ?_; rintro e w1 ⟨rfl, hb1⟩)
  go_ret3
  rw [HN.out]; exact ⟨rfl, hb1⟩
 | true =>
  subst hok2
  by_cases h0 : A.data.toList = []
  ·have HN := hid (HNo.out (by rw [h0]; rfl))
   have he := empty_yes A h0
   clear h0
   go_enter Tryz.func197, Tryz.ntmps197
   go_wp2_with (go_at_call 32; refine (HCut.out _ HG.out).mono ?_; rintro e w1 ⟨rfl, hb1⟩)
   go_ret3
   rw [HN.out]; exact ⟨rfl, hb1⟩
  ·have he := empty_no A h0
   have hA0 : 0 < A.size := by
    rw [Lib.size_eq]; exact List.length_pos_iff.2 h0
   have hA0' : (0 : Int) < (A.size : Int) := by omega
   clear h0
   by_cases h1 : letterI A[0].toNat = true
   ·have H1 := hid h1
    go_enter Tryz.func197, Tryz.ntmps197
    go_wp2_with (first | (go_at_call 32; refine (HCut.out _ HG.out).mono ?_; rintro e w1 ⟨rfl, hb1⟩) | (go_at_call 234; refine (sletter_any _ _).mono ?_; rintro e w' ⟨rfl, rfl⟩; rw [H1.out]))
    have HB1 := hid hb1
    clear h1 hb1
    go_loop [29] (fun i => ∃ k : Nat, k <= A.size /\ i = .int .i64 k /\ (A.data.toList.take k).all schC = true) (fun i => A.size - (intOf i).toNat)
    case atStart => exact ⟨0, Nat.zero_le _, rfl, rfl⟩
    case round =>
     obtain ⟨k, hk, rfl, hall⟩ := hrel
     have HA := hid hall
     clear hall
     by_cases hlt : k < A.size
     ·have HT := hid (take_snoc A k hlt)
      cases hb : schC A[k] with
      | true =>
       have HB := hid hb
       have HSB := hid (show schI (A[k].toNat : Int) = true by rw [schI_C]; exact hb)
       clear hb
       go_wp2_with (go_at_call 235; refine (schemeByte_any _ _).mono ?_; rintro e w' ⟨rfl, rfl⟩; rw [HSB.out])
       go_round
       case rel => exact ⟨k + 1, by omega, by go_num, by rw [HT.out, List.all_append, HA.out]; simp [HB.out]⟩
       case measure => simp [intOf]; omega
      | false =>
       have HN := hid (HNo.out (by rw [schOk_bad A k hlt hb, Bool.and_false]))
       have HSB := hid (show schI (A[k].toNat : Int) = false by rw [schI_C]; exact hb)
       clear hb
       go_wp2_with (go_at_call 235; refine (schemeByte_any _ _).mono ?_; rintro e w' ⟨rfl, rfl⟩; rw [HSB.out])
       go_ret3
       rw [HN.out]; exact ⟨rfl, HB1.out⟩
     ·have HY := hid (HYes.out (by
       have := HA.out
       rw [take_all A k hlt] at this
       rw [schOk_all A hA0 H1.out this]; rfl))
      go_wp2_with (go_at_call 49; refine (HLo.out _).mono ?_; rintro e w' ⟨rfl, hb2⟩)
      go_ret3
      rw [HY.out]
      exact ⟨rfl, by first | exact below2 HB1.out hb2 | (subst hb2; exact HB1.out) | exact HB1.out⟩
   ·have h1' : letterI A[0].toNat = false := by simpa using h1
    have HN := hid (HNo.out (by rw [schOk_head A hA0 h1', Bool.and_false]))
    have H1 := hid h1'
    clear h1 h1'
    go_enter Tryz.func197, Tryz.ntmps197
    go_wp2_with (first | (go_at_call 32; refine (HCut.out _ HG.out).mono ?_; rintro e w1 ⟨rfl, hb1⟩) | (go_at_call 234; refine (sletter_any _ _).mono ?_; rintro e w' ⟨rfl, rfl⟩; rw [H1.out]))
    go_ret3
    rw [HN.out]; exact ⟨rfl, hb1⟩
theorem portM_empty {t : List UInt8} {u : Adr} (h : t = []) : portM t u = (u.port == -1) := by unfold portM; rw [if_pos h]
theorem portM_star {t : List UInt8} {u : Adr} (h : t = [58, 42]) : portM t u = true := by unfold portM; rw [if_neg (by rw [h]; simp), if_pos h]
theorem portM_num {t : List UInt8} {u : Adr} {P n : Int} {ok c4 sH sW e1 e2 : Bool} (h0 : t ≠ []) (h1 : t ≠ [58, 42]) (hP : hasP u = P) (hok : intOk (t.drop 1) = ok) (hn : intV (t.drop 1) = n) (h4 : (P == 443) = c4) (hH : (u.scheme == sHttps) = sH) (hW : (u.scheme == sWss) = sW) (he1 : (n == P) = e1) (he2 : (n == 80) = e2) :
  portM t u = (ok && (e1 || (e2 && (c4 && (sH || sW))))) := by
 unfold portM saferM
 rw [if_neg h0, if_neg h1, hP, hok, hn, h4, hH, hW, he1, he2]
theorem portMeans_any (t : ByteArray) (u : Adr) (pv : Value) (w : World) (ht : t.size <= 4000000000) (hsl : IsSl pv) :
  Calls Tryz.prog 203 #[.string t, adrVal u pv] w fun e w' => e = .returned (.bool (portM t.data.toList u)) /\ Below w.heap.size w w' := by
 have HBx := hid (show Below w.heap.size w (w.alloc (.cells (adrCells u pv).toArray 31)) from (Below.refl _ w).alloc (Nat.le_refl _) _)
 obtain ⟨a0, n0, c0, rfl⟩ := hsl
 obtain ⟨PO, hPO⟩ : ∃ p, u.port = p := ⟨_, rfl⟩
 obtain ⟨SC, hSC⟩ : ∃ X : ByteArray, X = ⟨u.scheme.toArray⟩ := ⟨_, rfl⟩
 have hSl : SC.data.toList = u.scheme := by rw [hSC]
 obtain ⟨s1, s2, s3, b4, b6, s8, s9, b10, b11, hx⟩ : ∃ s1 s2 s3 b4 b6 s8 s9 b10 b11, adrCells u (.slice a0 n0 c0) = [.string SC, .string s1, .string s2, .string s3, .bool b4, .int .i64 PO, .bool b6, .slice a0 n0 c0, .string s8, .string s9, .bool b10, .bool b11] := ⟨_, _, _, _, _, _, _, _, _, by rw [hSC, <- hPO]; rfl⟩
 unfold adrVal
 rw [hx] at HBx ⊢
 clear hx hSC
 by_cases h0 : t.data.toList = []
 ·have HN := hid (portM_empty (u := u) h0)
  have he := empty_yes t h0
  rw [hPO] at HN
  clear h0 hPO hSl
  go_enter Tryz.func203, Tryz.ntmps203
  go_wp2
  go_ret
  rw [HN.out]; exact ⟨rfl, HBx.out⟩
 ·have he := empty_no t h0
  by_cases h1 : t.data.toList = [58, 42]
  ·have HN := hid (portM_star (u := u) h1)
   have e1 := beq_yes t [58, 42] h1
   clear h0 h1 hPO hSl
   go_enter Tryz.func203, Tryz.ntmps203
   go_wp2
   go_ret
   rw [HN.out]; exact ⟨rfl, HBx.out⟩
  ·have e1 := beq_no t [58, 42] h1
   have hn1 : 1 <= t.size := by
    rw [Lib.size_eq]
    exact List.length_pos_iff.2 h0
   have hn1' : (1 : Int) <= (t.size : Int) := by omega
   obtain ⟨E, hE⟩ : ∃ E : ByteArray, t.extract 1 t.size = E := ⟨_, rfl⟩
   have hEl : E.data.toList = t.data.toList.drop 1 := by rw [<- hE, extract_drop]
   have hEs : E.size <= 4000000000 := by rw [Lib.size_eq, hEl, List.length_drop, <- Lib.size_eq]; omega
   have HI := hid (fun w => int_any E w (by omega))
   obtain ⟨ok, hok⟩ : ∃ b, intOk E.data.toList = b := ⟨_, rfl⟩
   obtain ⟨n, hn⟩ : ∃ b, intV E.data.toList = b := ⟨_, rfl⟩
   rw [hok, hn] at HI
   rw [hEl] at hok hn
   obtain ⟨P, hP⟩ : ∃ p, hasP u = p := ⟨_, rfl⟩
   obtain ⟨c4, h4⟩ : ∃ b, (P == 443) = b := ⟨_, rfl⟩
   obtain ⟨sH, hH⟩ : ∃ b, (SC.toList == [104, 116, 116, 112, 115]) = b := ⟨_, rfl⟩
   obtain ⟨sW, hW⟩ : ∃ b, (SC.toList == [119, 115, 115]) = b := ⟨_, rfl⟩
   obtain ⟨q1, hq1⟩ : ∃ b, (n == P) = b := ⟨_, rfl⟩
   obtain ⟨q2, hq2⟩ : ∃ b, (n == 80) = b := ⟨_, rfl⟩
   have HN := hid (portM_num h0 h1 hP hok hn h4 (sH := sH) (sW := sW) (by rw [<- hH, <- hSl, Lib.toList_data]; rfl) (by rw [<- hW, <- hSl, Lib.toList_data]; rfl) hq1 hq2)
   have HO := hid (fun w => own_any SC w)
   have hPc : (PO = -1 /\ ownV SC.data.toList = P) ∨ (PO ≠ -1 /\ PO = P) := by
    unfold hasP at hP
    rw [hPO] at hP
    by_cases h : PO = -1
    ·rw [if_pos h] at hP; exact .inl ⟨h, by rw [hSl]; exact hP⟩
    ·rw [if_neg h] at hP; exact .inr ⟨h, hP⟩
   clear h0 h1 hPO hSl hP hEl hok hn
   rcases hPc with ⟨rfl, how⟩ | ⟨hne, rfl⟩
   ·rw [how] at HO
    clear how
    cases ok <;> cases q1 <;> cases q2 <;> cases c4 <;> cases sH <;>
    ·go_enter Tryz.func203, Tryz.ntmps203
     go_wp2_with (first | (go_at_call 43; refine (HI.out _).mono ?_; rintro e w1 ⟨rfl, hw⟩; rw [<- hw]; clear hw) | (go_at_call 137; refine (HO.out _).mono ?_; rintro e w1 ⟨rfl, hw⟩; rw [<- hw]; clear hw))
     go_ret
     rw [HN.out]; exact ⟨ret_bool (by simp), HBx.out⟩
   ·have hnb : (PO == -1) = false := beq_eq_false_iff_ne.2 hne
    clear hne
    cases ok <;> cases q1 <;> cases q2 <;> cases c4 <;> cases sH <;>
    ·go_enter Tryz.func203, Tryz.ntmps203
     go_wp2_with (first | (go_at_call 43; refine (HI.out _).mono ?_; rintro e w1 ⟨rfl, hw⟩; rw [<- hw]; clear hw) | (go_at_call 137; refine (HO.out _).mono ?_; rintro e w1 ⟨rfl, hw⟩; rw [<- hw]; clear hw))
     go_ret
     rw [HN.out]; exact ⟨ret_bool (by simp), HBx.out⟩
def Rdr11 (w : World) (v : Value) (q : List UInt8 -> Bool) : Prop :=
 ∃ (f : Nat) (lb : Array Value), v = .func (.func f) #[] lb /\ (∀ args w, (callFunc f args).run Tryz.prog w = .ok (.enter f args) w) /\ ∀ (X : World) (s : ByteArray), Below w.heap.size w X -> s.size <= 4000000000 -> Calls Tryz.prog f (#[.string s] ++ lb) X fun e w' => e = .returned (.bool (q s.data.toList)) /\ Below X.heap.size X w'
theorem Rdr11.kept {w w' : World} {v : Value} {q : List UInt8 -> Bool} (h : Rdr11 w v q) (hb : Below w.heap.size w w') : Rdr11 w' v q := by
 obtain ⟨f, lb, h1, h2, h3⟩ := h
 exact ⟨f, lb, h1, h2, fun X s hX hs => h3 X s (below2 hb hX) hs⟩
theorem keptC {w w' : World} {a : Addr} {v : Value} (h : w.cell? a = some v) (hb : Below w.heap.size w w') : w'.cell? a = some v := (hb.cell (World.block_lt_of_cell? w _ h)).trans h
theorem portC_any (u : Adr) (pv : Value) (hsl : IsSl pv) (cu cn : Nat) (nv : Value) (q : List UInt8 -> Bool) (s : ByteArray) (w : World) (hA : AdrIn w cu u pv) (hn : w.cell? ⟨cn, 0, none⟩ = some nv) (hr : Rdr11 w nv q) (hs : s.size <= 4000000000) :
  Calls Tryz.prog 202 #[.string s, .pointer (some ⟨cu, 0, none⟩), .pointer (some ⟨cn, 0, none⟩)] w fun e w' => e = .returned (.bool (portR u q s.data.toList)) /\ Below w.heap.size w w' := by
 obtain ⟨f, lb, rfl, eg, hc⟩ := hr
 obtain ⟨A, hAe⟩ : ∃ A : ByteArray, A = ⟨(aheadV [47] s.data.toList).1.toArray⟩ := ⟨_, rfl⟩
 obtain ⟨R, hRe⟩ : ∃ A : ByteArray, A = ⟨(aheadV [47] s.data.toList).2.toArray⟩ := ⟨_, rfl⟩
 have hle := ahead_le [47] s.data.toList
 have hAl : A.data.toList = (aheadV [47] s.data.toList).1 := by rw [hAe]
 have hRl : R.data.toList = (aheadV [47] s.data.toList).2 := by rw [hRe]
 have hAs : A.size <= 4000000000 := by rw [hAe]; exact size_le hle.1 hs
 have hRs : R.size <= 4000000000 := by rw [hRe]; exact size_le hle.2 hs
 have HCut := hid (fun w => scut1_any s w hs)
 rw [<- hAe, <- hRe] at HCut
 have HPo := hid (fun w => portMeans_any A u pv w hAs hsl)
 have HV := hid (show portR u q s.data.toList = (portM A.data.toList u && q R.data.toList) by unfold portR; rw [hAl, hRl])
 obtain ⟨p, hpq⟩ : ∃ p, portM A.data.toList u = p := ⟨_, rfl⟩
 rw [hpq] at HV HPo
 have HN := hid hn
 have HA := hid hA
 have HC := hid (fun (X : World) (hX : Below w.heap.size w X) => hc X R hX hRs)
 obtain ⟨a0, n0, c0, rfl⟩ := hsl
 obtain ⟨u0, u1, u2, u3, u4, u5, u6, u8, u9, u10, u11, hx⟩ : ∃ u0 u1 u2 u3 u4 u5 u6 u8 u9 u10 u11, adrCells u (.slice a0 n0 c0) = [.string u0, .string u1, .string u2, .string u3, .bool u4, .int .i64 u5, .bool u6, .slice a0 n0 c0, .string u8, .string u9, .bool u10, .bool u11] := ⟨_, _, _, _, _, _, _, _, _, _, _, rfl⟩
 have hva : adrVal u (.slice a0 n0 c0) = .agg #[.string u0, .string u1, .string u2, .string u3, .bool u4, .int .i64 u5, .bool u6, .slice a0 n0 c0, .string u8, .string u9, .bool u10, .bool u11] := by unfold adrVal; rw [hx]
 rw [hva] at HPo
 have HX := hid hx
 clear hn hA hc hle hAe hRe hAl hRl hAs hpq hva hx
 go_enter Tryz.func202, Tryz.ntmps202
 go_wp2_with fail
 refine (HCut.out _).mono ?_
 rintro e w1 ⟨rfl, hb1⟩
 have hfl : ∀ j v, (adrCells u (.slice a0 n0 c0))[j]? = some v -> w1.cell? ⟨cu, j, none⟩ = some v := fun j v h => (HA.out.kept hb1).cell j v h
 rw [HX.out] at hfl
 have y0 := hfl 0 _ rfl
 have y1 := hfl 1 _ rfl
 have y2 := hfl 2 _ rfl
 have y3 := hfl 3 _ rfl
 have y4 := hfl 4 _ rfl
 have y5 := hfl 5 _ rfl
 have y6 := hfl 6 _ rfl
 have y7 := hfl 7 _ rfl
 have y8 := hfl 8 _ rfl
 have y9 := hfl 9 _ rfl
 have y10 := hfl 10 _ rfl
 have y11 := hfl 11 _ rfl
 have HB1 := hid hb1
 clear hb1 hfl
 cases p with
 | false =>
  go_wp2_with (go_at_call 203; refine (HPo.out _).mono ?_; rintro e w2 ⟨rfl, hb2⟩)
  go_ret
  exact ⟨ret_bool (by rw [HV.out]; rfl), below2 HB1.out hb2⟩
 | true =>
  have hcf := fun (w2 : World) (hb2 : Below w1.heap.size w1 w2) => keptC HN.out (below2 HB1.out hb2)
  have HCF := hid hcf
  clear hcf
  go_wp2_with (go_at_call 203; refine (HPo.out _).mono ?_; rintro e w2 ⟨rfl, hb2⟩; have hcell := HCF.out _ hb2; have HB2 := hid hb2; clear hb2)
  refine (HC.out _ (below2 HB1.out HB2.out)).mono ?_
  rintro e w3 ⟨rfl, hb3⟩
  go_wp2
  go_ret
  exact ⟨ret_bool (by rw [HV.out]; rfl), below2 (below2 HB1.out HB2.out) hb3⟩
theorem enters_port : ∀ args w, (callFunc 202 args).run Tryz.prog w = .ok (.enter 202 args) w := enters_of Tryz.func202 (by kernel_rfl) rfl
theorem readPort11_mk (u : Adr) (pv : Value) (hsl : IsSl pv) (f : Nat) (lb : Array Value) (w : World) :
  Calls Tryz.prog 175 #[adrVal u pv, .func (.func f) #[] lb] w fun e w' => e = .returned (.func (.func 202) #[] #[.pointer (some ⟨w.heap.size, 0, none⟩), .pointer (some ⟨w.heap.size + 1, 0, none⟩)]) /\ w' = (w.alloc (.cells (adrCells u pv).toArray 31)).alloc (.cells #[.func (.func f) #[] lb] 178) := by
 have hmf : ∀ (fn : Fn) (first cap : Array Value) (w : World), (Instr.makeFunc fn first cap).run Tryz.prog w = .ok (.func fn first cap) w := fun _ _ _ _ => rfl
 obtain ⟨a0, n0, c0, rfl⟩ := hsl
 unfold adrVal adrCells
 go_enter Tryz.func175, Tryz.ntmps175
 go_wp2
 go_ret
 exact ⟨rfl, rfl⟩
def MkPost11 (q : List UInt8 -> Bool) (w : World) (e : Ending) (w' : World) : Prop := ∃ v, e = .returned v /\ Rdr11 w' v q /\ Below w.heap.size w w'
theorem readPort11_any (u : Adr) (pv : Value) (hsl : IsSl pv) (nv : Value) (q : List UInt8 -> Bool) (w : World) (hr : Rdr11 w nv q) :
  Calls Tryz.prog 175 #[adrVal u pv, nv] w (MkPost11 (portR u q) w) := by
 have hr0 := hr
 obtain ⟨f, lb, rfl, eg, hc⟩ := hr0
 refine (readPort11_mk u pv hsl f lb w).mono ?_
 rintro e w' ⟨rfl, hw⟩
 have h1 : AdrIn (w.alloc (.cells (adrCells u pv).toArray 31)) w.heap.size u pv := heap_alloc_new _ _
 have hb1 : Below w.heap.size w (w.alloc (.cells (adrCells u pv).toArray 31)) := (Below.refl _ w).alloc (Nat.le_refl _) _
 have hz : (w.alloc (.cells (adrCells u pv).toArray 31)).heap.size = w.heap.size + 1 := by simp
 have hb2 : Below (w.alloc (.cells (adrCells u pv).toArray 31)).heap.size (w.alloc (.cells (adrCells u pv).toArray 31)) w' := by rw [hw]; exact (Below.refl _ _).alloc (Nat.le_refl _) _
 have h2 : w'.heap[w.heap.size + 1]? = some (.cells #[.func (.func f) #[] lb] 178 (0, 0)) := by
  rw [hw, <- hz]; exact heap_alloc_new _ _
 have hA := h1.kept hb2
 have hB := below2 hb1 hb2
 have hcell : w'.cell? ⟨w.heap.size + 1, 0, none⟩ = some (.func (.func f) #[] lb) := by rw [Lib.cell_of_heap h2]; rfl
 refine ⟨_, rfl, ⟨_, _, rfl, enters_port, fun X s hX hs => ?_⟩, hB⟩
 exact portC_any u pv hsl w.heap.size (w.heap.size + 1) _ q s X (hA.kept hX) (keptC hcell hX) (hr.kept (below2 hB hX)) hs
def textO (o : Org) : List UInt8 := if o.opq then [110, 117, 108, 108] else o.scheme ++ [58, 47, 47] ++ o.host ++ (if o.port = ownV o.scheme then [] else [58] ++ portT o.port)
theorem textO_any (o : Org) (w : World) (hg : Gd w) (hs : o.scheme.length <= 1000000) (hh : o.host.length <= 1000000) (hp : o.opq = false -> 0 <= o.port /\ o.port <= 65535) :
  Calls Tryz.prog 91 #[orgVal o] w fun e w' => e = .returned (.string ⟨(textO o).toArray⟩) /\ Below w.heap.size w w' := by
 obtain ⟨sa, ah, ap, ao⟩ := o
 obtain ⟨AS, rfl⟩ : ∃ X : ByteArray, sa = X.data.toList := ⟨⟨sa.toArray⟩, rfl⟩
 obtain ⟨AH, rfl⟩ : ∃ X : ByteArray, ah = X.data.toList := ⟨⟨ah.toArray⟩, rfl⟩
 rw [show orgVal ⟨AS.data.toList, AH.data.toList, ap, ao⟩ = .agg #[.string AS, .string AH, .int .i64 ap, .bool ao] from rfl]
 have hss : AS.size <= 1000000 := by rw [Lib.size_eq]; exact hs
 have hhs : AH.size <= 1000000 := by rw [Lib.size_eq]; exact hh
 obtain ⟨T1, hT1⟩ : ∃ Z : ByteArray, AS ++ (⟨#[58, 47, 47]⟩ : ByteArray) = Z := ⟨_, rfl⟩
 have hT1l : T1.data.toList = AS.data.toList ++ [58, 47, 47] := by rw [<- hT1, ByteArray.data_append, Array.toList_append]
 have hT1s : T1.size <= 1000003 := by rw [Lib.size_eq, hT1l, List.length_append, <- Lib.size_eq]; simp; omega
 obtain ⟨T2, hT2⟩ : ∃ Z : ByteArray, T1 ++ AH = Z := ⟨_, rfl⟩
 have hT2l : T2.data.toList = AS.data.toList ++ [58, 47, 47] ++ AH.data.toList := by rw [<- hT2, ByteArray.data_append, Array.toList_append, hT1l]
 have hT2s : T2.size <= 2000003 := by rw [Lib.size_eq, <- hT2, ByteArray.data_append, Array.toList_append, List.length_append, <- Lib.size_eq, <- Lib.size_eq]; omega
 obtain ⟨PT, hPT⟩ : ∃ X : ByteArray, X = ⟨(portT ap).toArray⟩ := ⟨_, rfl⟩
 have hPl : PT.data.toList = portT ap := by rw [hPT]
 have hPs : PT.size <= 100 := by rw [hPT]; exact portT_le ap
 obtain ⟨T3, hT3⟩ : ∃ Z : ByteArray, (⟨#[58]⟩ : ByteArray) ++ PT = Z := ⟨_, rfl⟩
 have hT3l : T3.data.toList = [58] ++ portT ap := by rw [<- hT3, ByteArray.data_append, Array.toList_append, hPl]
 have hT3s : T3.size <= 101 := by rw [Lib.size_eq, hT3l, <- hPl, List.length_append, <- Lib.size_eq]; simp; omega
 obtain ⟨T4, hT4⟩ : ∃ Z : ByteArray, T2 ++ T3 = Z := ⟨_, rfl⟩
 have HT4 := hid (show T4.data.toList = AS.data.toList ++ [58, 47, 47] ++ AH.data.toList ++ ([58] ++ portT ap) by rw [<- hT4, ByteArray.data_append, Array.toList_append, hT2l, hT3l])
 have HT2 := hid hT2l
 obtain ⟨W, hW⟩ : ∃ W, (w.alloc (.cells #[.string AS, .string AH, .int .i64 ap, .bool ao] 128)) = W := ⟨_, rfl⟩
 have hbW : Below w.heap.size w W := by rw [<- hW]; exact (Below.refl _ w).alloc (Nat.le_refl _) _
 have hrow : W.heap[w.heap.size]? = some (.cells #[.string AS, .string AH, .int .i64 ap, .bool ao] 128 (0, 0)) := by rw [<- hW]; exact heap_alloc_new w _
 have h0 : W.cell? ⟨w.heap.size, 0, none⟩ = some (.string AS) := by rw [Lib.cell_of_heap hrow]; rfl
 have h1 : W.cell? ⟨w.heap.size, 1, none⟩ = some (.string AH) := by rw [Lib.cell_of_heap hrow]; rfl
 have h2 : W.cell? ⟨w.heap.size, 2, none⟩ = some (.int .i64 ap) := by rw [Lib.cell_of_heap hrow]; rfl
 have h3 : W.cell? ⟨w.heap.size, 3, none⟩ = some (.bool ao) := by rw [Lib.cell_of_heap hrow]; rfl
 have HKF := hid (show ∀ Z, Below W.heap.size W Z -> Z.cell? ⟨w.heap.size, 0, none⟩ = some (.string AS) /\ Z.cell? ⟨w.heap.size, 1, none⟩ = some (.string AH) /\ Z.cell? ⟨w.heap.size, 2, none⟩ = some (.int .i64 ap) /\ Z.cell? ⟨w.heap.size, 3, none⟩ = some (.bool ao) from fun Z hZ => ⟨keptC h0 hZ, keptC h1 hZ, keptC h2 hZ, keptC h3 hZ⟩)
 have HGW := hid (fun (X : World) (hX : Below W.heap.size W X) => (hg.kept hbW).kept hX)
 have HBW := hid hbW
 have HOw := hid (fun w => own_any AS w)
 obtain ⟨ow, how⟩ : ∃ z, ownV AS.data.toList = z := ⟨_, rfl⟩
 rw [how] at HOw
 have HOwE := hid how
 have HPT := hid hPT
 clear hg hs hh hT1l hT2l hPT hPl hT3l hbW hrow how
 cases ao with
 | true =>
  clear hp
  go_enter Tryz.func91, Tryz.ntmps91
  go_wp2
  go_ret
  exact ⟨rfl, HBW.out⟩
 | false =>
  have HP := hid (hp rfl)
  have HIt : Hid (∀ (X : World), Below W.heap.size W X -> Calls Tryz.prog 140 #[.int .i64 ap] X fun e w' => e = .returned (.string PT) /\ Below X.heap.size X w') := fun X hX => by rw [HPT.out]; exact itoaP_any ap X (HGW.out _ hX) HP.out.1 HP.out.2
  clear hp
  go_enter Tryz.func91, Tryz.ntmps91
  go_wp2_with fail
  have HQ0 := hid ((Below.refl W.heap.size W).drew)
  refine wp_region_held_drew (S := (fun wx => Below W.heap.size W wx)) (by kernel_rfl) HQ0.out (fun hHeld => ?_)
  refine' wpAnyH_take (i := 0) (oi := ⟨some 12, _, _, _, _, _⟩) (v := _) rfl (by kernel_rfl) (by kernel_rfl) (by kernel_rfl) (fun _ _ _ h => h) (Or.inl ⟨by kernel_rfl, ?hy1⟩) (by assumption) ?rest1
  case hy1 => (intro wx hSw; (try dsimp only at hSw); obtain ⟨k0, k1, k2, k3⟩ := HKF.out _ hSw; go_simp; first | done | with_reducible rfl | (rw [if_neg (by omega)]; with_reducible rfl))
  (try simp only [Act.put, List.setIfInBounds_toArray, List.set_cons_zero, List.set_cons_succ])
  refine' wpAnyH_take (i := 1) (oi := ⟨some 13, _, _, _, _, _⟩) (v := _) rfl (by kernel_rfl) (by kernel_rfl) (by kernel_rfl) (fun _ _ _ h => h) (Or.inl ⟨by kernel_rfl, ?hy2⟩) (by assumption) ?rest2
  case hy2 => (intro wx hSw; (try dsimp only at hSw); obtain ⟨k0, k1, k2, k3⟩ := HKF.out _ hSw; go_simp; first | done | with_reducible rfl | (rw [if_neg (by omega)]; with_reducible rfl))
  (try simp only [Act.put, List.setIfInBounds_toArray, List.set_cons_zero, List.set_cons_succ])
  refine' wpAnyH_take (i := 2) (oi := ⟨some 14, _, _, _, _, _⟩) (v := _) rfl (by kernel_rfl) (by kernel_rfl) (by kernel_rfl) (fun _ _ _ h => h) (Or.inl ⟨by kernel_rfl, ?hy3⟩) (by assumption) ?rest3
  case hy3 => (intro wx hSw; (try dsimp only at hSw); obtain ⟨k0, k1, k2, k3⟩ := HKF.out _ hSw; go_simp; first | done | with_reducible rfl | (rw [if_neg (by omega)]; with_reducible rfl))
  (try simp only [Act.put, List.setIfInBounds_toArray, List.set_cons_zero, List.set_cons_succ])
  refine' wpAnyH_take (i := 3) (oi := ⟨some 15, _, _, _, _, _⟩) (v := _) rfl (by kernel_rfl) (by kernel_rfl) (by kernel_rfl) (fun _ _ _ h => h) (Or.inl ⟨by kernel_rfl, ?hy4⟩) (by assumption) ?rest4
  case hy4 => (intro wx hSw; (try dsimp only at hSw); obtain ⟨k0, k1, k2, k3⟩ := HKF.out _ hSw; go_simp; first | done | with_reducible rfl | (rw [if_neg (by omega)]; with_reducible rfl))
  (try simp only [Act.put, List.setIfInBounds_toArray, List.set_cons_zero, List.set_cons_succ])
  refine wpAnyH_ready (rs := [4]) (by kernel_rfl) (by simp) ?_
  refine AllReadyH.cons rfl (fun K hK => ?_) AllReadyH.nil
  rw [if_pos (by kernel_rfl)]
  go_simp
  go_wp2_with (go_at_call 137; refine (HOw.out _).mono ?_; rintro e wz ⟨rfl, hwz⟩; rw [<- hwz]; clear hwz)
  refine hK.out _ _ HQ0.out (fun hHeld2 => ?_)
  clear hK K hHeld
  rename _ => hHeld
  by_cases hpo : ap = ow
  ·have hpo' : (ap != ow) = false := by rw [hpo]; exact bne_self_eq_false ow
   have HZ := hid (show textO ⟨AS.data.toList, AH.data.toList, ap, false⟩ = AS.data.toList ++ [58, 47, 47] ++ AH.data.toList by unfold textO; simp [hpo, HOwE.out])
   clear hpo
   refine' wpAnyH_take (i := 5) (oi := ⟨some 17, _, _, _, _, _⟩) (v := _) rfl (by kernel_rfl) (by kernel_rfl) (by kernel_rfl) (fun _ _ _ h => h) (Or.inl ⟨by kernel_rfl, ?hy5⟩) (by assumption) ?rest5
   case hy5 => (intro wx hSw; (try dsimp only at hSw); obtain ⟨k0, k1, k2, k3⟩ := HKF.out _ hSw; go_simp; first | done | with_reducible rfl | (rw [if_neg (by omega)]; with_reducible rfl))
   (try simp only [Act.put, List.setIfInBounds_toArray, List.set_cons_zero, List.set_cons_succ])
   refine wpAnyH_done (by kernel_rfl) ?_ _
   go_wp2
   go_ret
   exact ⟨ret_str' (by refine ba_ext ?_; rw [HT2.out, HZ.out]), below2 HBW.out HQ0.out⟩
  ·have hpo' : (ap != ow) = true := bne_iff_ne.2 hpo
   have HZ := hid (show textO ⟨AS.data.toList, AH.data.toList, ap, false⟩ = AS.data.toList ++ [58, 47, 47] ++ AH.data.toList ++ ([58] ++ portT ap) by unfold textO; simp [hpo, HOwE.out])
   clear hpo
   refine' wpAnyH_take (i := 5) (oi := ⟨some 17, _, _, _, _, _⟩) (v := _) rfl (by kernel_rfl) (by kernel_rfl) (by kernel_rfl) (fun _ _ _ h => h) (Or.inl ⟨by kernel_rfl, ?hy6⟩) (by assumption) ?rest6
   case hy6 => (intro wx hSw; (try dsimp only at hSw); obtain ⟨k0, k1, k2, k3⟩ := HKF.out _ hSw; go_simp; first | done | with_reducible rfl | (rw [if_neg (by omega)]; with_reducible rfl))
   (try simp only [Act.put, List.setIfInBounds_toArray, List.set_cons_zero, List.set_cons_succ])
   refine wpAnyH_done (by kernel_rfl) ?_ _
   obtain ⟨k0, k1, k2, k3⟩ := HKF.out _ HQ0.out
   go_wp2_with fail
   refine (HIt.out _ HQ0.out).mono ?_
   rintro e w5 ⟨rfl, hb5⟩
   go_wp2
   go_ret
   exact ⟨ret_str' (by refine ba_ext ?_; rw [HT4.out, HZ.out]), below2 HBW.out (below2 HQ0.out hb5)⟩
def cellsT (L : List (List UInt8)) : List Value := L.map fun x => Value.string ⟨x.toArray⟩
theorem cellsT_len (a : List (List UInt8)) : (cellsT a).length = a.length := by simp [cellsT]
def TxL (w : World) (b off : Nat) (L : List (List UInt8)) : Prop := ∀ j (h : j < L.length), w.cell? ⟨b, off + j, none⟩ = some (.string ⟨L[j].toArray⟩)
def TxAt (w : World) (v : Value) (L : List (List UInt8)) : Prop :=
 ∃ a cap, v = .slice a L.length cap /\ L.length <= cap /\ cap <= maxLen /\ ∀ j (hj : j < L.length), ∃ b off, a = some ⟨b, off, none⟩ /\ w.cell? ⟨b, off + j, none⟩ = some (.string ⟨L[j].toArray⟩)
theorem TxAt.view {w : World} {v : Value} {L : List (List UInt8)} (h : TxAt w v L) : ∃ a cap, v = .slice a L.length cap /\ L.length <= cap /\ cap <= maxLen /\ ∀ j (hj : j < L.length), ∃ b off, a = some ⟨b, off, none⟩ /\ w.cell? ⟨b, off + j, none⟩ = some (.string ⟨L[j].toArray⟩) := h
theorem tx_of {w : World} {b off cap : Nat} {L : List (List UInt8)} (h1 : L.length <= cap) (h2 : cap <= maxLen) (h : TxL w b off L) : TxAt w (.slice (some ⟨b, off, none⟩) L.length cap) L :=
 ⟨_, cap, rfl, h1, h2, fun j hj => ⟨b, off, rfl, h j hj⟩⟩
theorem tx_nil (w : World) : TxAt w (.slice none 0 0) [] := ⟨none, 0, rfl, Nat.le_refl _, by decide, fun j hj => by simp at hj⟩
theorem TxAt.kept {w w' : World} {v : Value} {L : List (List UInt8)} (h : TxAt w v L) (hb : Below w.heap.size w w') : TxAt w' v L := by
 obtain ⟨a, cap, h1, h2, h3, h4⟩ := h
 refine ⟨a, cap, h1, h2, h3, fun j hj => ?_⟩
 obtain ⟨b, off, e, c1⟩ := h4 j hj
 exact ⟨b, off, e, (hb.cell (World.block_lt_of_cell? w _ c1)).trans c1⟩
theorem own_txt' {w : World} {B : Nat} {e : TypeId} {v : Value} {L : List (List UInt8)} (h : w.ownsRow B e 1 v L.length (cellsT L)) : TxAt w v L := by
 have h2 := h.2
 rcases h2 with ⟨hv, hn⟩ | ⟨g, cap, cur, rfl, hg, hrow, hnc, hcm, hcs, htake⟩
 ·obtain rfl := List.eq_nil_of_length_eq_zero hn
  rw [hv]; exact tx_nil w
 ·refine tx_of hnc hcm fun j hj => ?_
  rw [Nat.zero_add, h.cellAt j (by omega)]
  simp [cellsT, hj]
theorem xba {a b : ByteArray} (h : a.data.toList = b.data.toList) : a = b := by
 cases a; cases b; simp at h; simp [h]
def Wrd (x : List UInt8) : Prop := x ≠ [] /\ x.all (fun c => decide (97 <= c.toNat) && decide (c.toNat <= 122)) = true
theorem wrd_mem {x : List UInt8} (h : Wrd x) {c : UInt8} (hc : c ∈ x) : 97 <= c.toNat /\ c.toNat <= 122 := by
 have := List.all_eq_true.1 h.2 c hc
 simpa using this
theorem xext {a : ByteArray} {l : List UInt8} (h : a.data.toList = l) : a = ⟨l.toArray⟩ := xba h
theorem info3 {i : Option TypeInfo} {z : Value} {a b : Nat} (h : i.map (fun i => (i.zero, i.size, i.bytes)) = some (some z, a, b)) : ∃ j, i = some j /\ j.zero = some z /\ j.size = a /\ j.bytes = b := by
 cases i with
 | none => cases h
 | some j =>
  simp at h
  exact ⟨j, rfl, h.1, h.2.1, h.2.2⟩
def G5 (w : World) : Prop := ∃ m, w.cell? ⟨0, 0, none⟩ = some (.int .i64 m)
theorem wpAnyH_to {P : Program} {md : Region.Mode} {ops : Array Oper} {Q : Exit -> Act -> World -> Prop} {S : World -> Prop} {fuel fuel' : Nat} {listed listed' : Array Bool} {a : Act} {w : World} (hf : fuel = fuel') (hl : listed = listed') (h : wpAnyH P md ops Q S fuel' listed' a w) : wpAnyH P md ops Q S fuel listed a w := by
 subst hf; subst hl; exact h
theorem path_sl {w : World} {v : Value} {L : List (List UInt8)} (h : PathAt w v L) : IsSl v := by
 rcases h with ⟨rfl, _⟩ | ⟨b, cap, rfl, _⟩
 ·exact ⟨_, _, _, rfl⟩
 ·exact ⟨_, _, _, rfl⟩
theorem adr_cells (A : Adr) (a : Option Addr) (n c : Nat) : ∃ s0 s1 s2 s3 b4 i5 b6 s8 s9 b10 b11, adrCells A (.slice a n c) = [.string s0, .string s1, .string s2, .string s3, .bool b4, .int .i64 i5, .bool b6, .slice a n c, .string s8, .string s9, .bool b10, .bool b11] := ⟨_, _, _, _, _, _, _, _, _, _, _, rfl⟩
end Go.Proofs.YtooihpkoplgmbaaGreatDoor
