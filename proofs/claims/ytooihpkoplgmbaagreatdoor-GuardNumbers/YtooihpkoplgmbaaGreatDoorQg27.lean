/- Walks and plain facts. -/
import Derived.Test.YtooihpkoplgmbaaGreatDoorQg26
set_option linter.unusedSimpArgs false
set_option linter.unusedVariables false
set_option maxHeartbeats 16000000
set_option maxRecDepth 100000

namespace Go.Proofs.YtooihpkoplgmbaaGreatDoor
open Go.RowKit
theorem adr_twelve {W : World} {b : Nat} {A : Adr} {ua : Option Addr} {un uc : Nat} {u0 u1 u2 u3 : ByteArray} {u4 : Bool} {u5 : Int} {u6 : Bool} {u8 u9 : ByteArray} {u10 u11 : Bool} (hx : adrCells A (.slice ua un uc) = [.string u0, .string u1, .string u2, .string u3, .bool u4, .int .i64 u5, .bool u6, .slice ua un uc, .string u8, .string u9, .bool u10, .bool u11]) (h : AdrIn W b A (.slice ua un uc)) :
  W.cell? ⟨b, 0, none⟩ = some (.string u0) /\ W.cell? ⟨b, 1, none⟩ = some (.string u1) /\ W.cell? ⟨b, 2, none⟩ = some (.string u2) /\ W.cell? ⟨b, 3, none⟩ = some (.string u3) /\ W.cell? ⟨b, 4, none⟩ = some (.bool u4) /\ W.cell? ⟨b, 5, none⟩ = some (.int .i64 u5) /\ W.cell? ⟨b, 6, none⟩ = some (.bool u6) /\ W.cell? ⟨b, 7, none⟩ = some (.slice ua un uc) /\ W.cell? ⟨b, 8, none⟩ = some (.string u8) /\ W.cell? ⟨b, 9, none⟩ = some (.string u9) /\ W.cell? ⟨b, 10, none⟩ = some (.bool u10) /\ W.cell? ⟨b, 11, none⟩ = some (.bool u11) := by
 have f : ∀ j v, [.string u0, .string u1, .string u2, .string u3, .bool u4, .int .i64 u5, .bool u6, .slice ua un uc, .string u8, .string u9, .bool u10, .bool u11][j]? = some v -> W.cell? ⟨b, j, none⟩ = some v := fun j v hj => h.cell j v (by rw [hx]; exact hj)
 exact ⟨f 0 _ rfl, f 1 _ rfl, f 2 _ rfl, f 3 _ rfl, f 4 _ rfl, f 5 _ rfl, f 6 _ rfl, f 7 _ rfl, f 8 _ rfl, f 9 _ rfl, f 10 _ rfl, f 11 _ rfl⟩
def TrOk (u : Adr) : Prop := u.path.length <= 1000000 /\ u.path.flatten.length <= 100000 /\ u.host.length <= 1000000
theorem slim_tr {u : Adr} (h : Slim 20000 u) : TrOk u := by
 obtain ⟨h1, h2, h3, h4, h5, h6, h7, h8⟩ := h
 have a := slL_len u.path
 have b := slL_flat u.path
 exact ⟨by omega, by omega, by omega⟩
theorem org_named12 (o : Org) : ∃ (s h : ByteArray) (p : Int) (q : Bool), orgVal o = .agg #[.string s, .string h, .int .i64 p, .bool q] /\ orgCells o = [.string s, .string h, .int .i64 p, .bool q] /\ q = o.opq := ⟨_, _, _, _, rfl, rfl, rfl⟩
theorem org_four12 {W : World} {b : Nat} {o : Org} {s h : ByteArray} {p : Int} {q : Bool} (hx : orgCells o = [.string s, .string h, .int .i64 p, .bool q]) (H : OrgIn W b o) :
  W.cell? ⟨b, 0, none⟩ = some (.string s) /\ W.cell? ⟨b, 1, none⟩ = some (.string h) /\ W.cell? ⟨b, 2, none⟩ = some (.int .i64 p) /\ W.cell? ⟨b, 3, none⟩ = some (.bool q) :=
 ⟨H.cell 0 _ (by rw [hx]; rfl), H.cell 1 _ (by rw [hx]; rfl), H.cell 2 _ (by rw [hx]; rfl), H.cell 3 _ (by rw [hx]; rfl)⟩
def bareU (u : Adr) : Adr := { u with user := [], pass := [] }
def toldV12 (u p : Adr) : List UInt8 := if sameO (orgV u) (orgV p) then bareV (bareU u) else if (orgV u).opq then u.scheme else textO (orgV u)
structure TlOk (u : Adr) : Prop where
 tr : TrOk u
 fine : Fine (bareU u)
 sch : (orgV u).scheme.length <= 1000000
 hst : (orgV u).host.length <= 1000000
 prt : (orgV u).opq = false -> 0 <= (orgV u).port /\ (orgV u).port <= 65535
theorem told12_any (u p : Adr) (uv pv : Value) (w : World) (hg : Gd w) (hu : PathAt w uv u.path) (hp : PathAt w pv p.path) (ho : TlOk u) (ht : TrOk p) :
  Calls Tryz.prog 64 #[adrVal u uv, adrVal p pv] w fun e w' => e = .returned (.string ⟨(toldV12 u p).toArray⟩) /\ Below w.heap.size w w' := by
 obtain ⟨da, dn, dc, rfl⟩ := path_sl hu
 obtain ⟨pa, pn, pc, rfl⟩ := path_sl hp
 obtain ⟨d0, d1, d2, d3, d4, d5, d6, d8, d9, d10, d11, hxd, hd0, -, -, -⟩ := adr_named u da dn dc
 have hvd : adrVal u (.slice da dn dc) = .agg #[.string d0, .string d1, .string d2, .string d3, .bool d4, .int .i64 d5, .bool d6, .slice da dn dc, .string d8, .string d9, .bool d10, .bool d11] := by unfold adrVal; rw [hxd]
 obtain ⟨p0, p1, p2, p3, p4, p5, p6, p8, p9, p10, p11, hxp⟩ := adr_cells p pa pn pc
 have hvp : adrVal p (.slice pa pn pc) = .agg #[.string p0, .string p1, .string p2, .string p3, .bool p4, .int .i64 p5, .bool p6, .slice pa pn pc, .string p8, .string p9, .bool p10, .bool p11] := by unfold adrVal; rw [hxp]
 have hxu : adrCells (bareU u) (.slice da dn dc) = [.string d0, .string ⟨#[]⟩, .string ⟨#[]⟩, .string d3, .bool d4, .int .i64 d5, .bool d6, .slice da dn dc, .string d8, .string d9, .bool d10, .bool d11] := by
  have : adrCells (bareU u) (.slice da dn dc) = ((adrCells u (.slice da dn dc)).set 1 (.string ⟨#[]⟩)).set 2 (.string ⟨#[]⟩) := rfl
  rw [this, hxd]; rfl
 have hvu : adrVal (bareU u) (.slice da dn dc) = .agg #[.string d0, .string ⟨#[]⟩, .string ⟨#[]⟩, .string d3, .bool d4, .int .i64 d5, .bool d6, .slice da dn dc, .string d8, .string d9, .bool d10, .bool d11] := by unfold adrVal; rw [hxu]
 rw [hvd, hvp]
 obtain ⟨W1, hW1⟩ : ∃ X, (w.alloc (.cells #[.string d0, .string d1, .string d2, .string d3, .bool d4, .int .i64 d5, .bool d6, .slice da dn dc, .string d8, .string d9, .bool d10, .bool d11] 31)) = X := ⟨_, rfl⟩
 have hbW1 : Below w.heap.size w W1 := by rw [<- hW1]; exact (Below.refl _ w).alloc (Nat.le_refl _) _
 have hsW1 : W1.heap.size = w.heap.size + 1 := by rw [<- hW1]; simp
 have hAW1 : AdrIn W1 w.heap.size u (.slice da dn dc) := by
  unfold AdrIn
  rw [hxd, <- hW1]
  exact heap_alloc_new w _
 obtain ⟨W2, hW2⟩ : ∃ X, (W1.alloc (.cells #[.string p0, .string p1, .string p2, .string p3, .bool p4, .int .i64 p5, .bool p6, .slice pa pn pc, .string p8, .string p9, .bool p10, .bool p11] 31)) = X := ⟨_, rfl⟩
 have hbW2 : Below W1.heap.size W1 W2 := by rw [<- hW2]; exact (Below.refl _ W1).alloc (Nat.le_refl _) _
 have hsW2 : W2.heap.size = W1.heap.size + 1 := by rw [<- hW2]; simp
 have hAW2 : AdrIn W2 W1.heap.size p (.slice pa pn pc) := by
  unfold AdrIn
  rw [hxp, <- hW2]
  exact heap_alloc_new W1 _
 have hb2 := below2 hbW1 hbW2
 have HB2 := hid hb2
 have HG2 := hid (hg.kept hb2)
 have HPu := hid (hu.kept hb2)
 have HPp := hid (hp.kept hb2)
 have HAu := hid (hAW1.kept hbW2)
 have HAp := hid hAW2
 have HXd := hid hxd
 have HXp := hid hxp
 have HXu := hid hxu
 have HD0 := hid hd0
 have HOk := hid ho
 have HOf := hid (of_any u (.slice da dn dc) W2 HG2.out HPu.out ho.tr.1 ho.tr.2.1)
 have HOp := hid (fun (Z : World) (hZ : Below W2.heap.size W2 Z) => of_any p (.slice pa pn pc) Z (HG2.out.kept hZ) (HPp.out.kept hZ) ht.1 ht.2.1)
 have HTx := hid (fun (Z : World) (hZ : Below W2.heap.size W2 Z) => textO_any (orgV u) Z (HG2.out.kept hZ) ho.sch ho.hst ho.prt)
 have HBa := hid (fun (Z : World) (hZ : Below w.heap.size w Z) => bare_any (bareU u) (.slice da dn dc) Z (hg.kept hZ) (hu.kept hZ) ho.fine)
 unfold OfPost at HOf HOp
 rw [hvd] at HOf
 rw [hvp] at HOp
 rw [hvu] at HBa
 have HV := hid (show toldV12 u p = if sameO (orgV u) (orgV p) then bareV (bareU u) else if (orgV u).opq then u.scheme else textO (orgV u) from rfl)
 obtain ⟨TV, hTV⟩ : ∃ T, toldV12 u p = T := ⟨_, rfl⟩
 rw [hTV] at HV ⊢
 obtain ⟨OA, hOA⟩ : ∃ O, orgV u = O := ⟨_, rfl⟩
 obtain ⟨OB, hOB⟩ : ∃ O, orgV p = O := ⟨_, rfl⟩
 rw [hOA] at HOf HTx HV
 rw [hOB] at HOp HV
 obtain ⟨aS, aH, aP, aQ, hva, hxa, hqa⟩ := org_named12 OA
 obtain ⟨bS, bH, bP, bQ, hvb, hxb, -⟩ := org_named12 OB
 have HSm := hid (fun (Z : World) (hZ : Below W2.heap.size W2 Z) => same4_any OA OB Z)
 rw [hva] at HOf HTx HSm
 rw [hvb] at HOp HSm
 rw [<- hqa] at HV
 generalize sameO OA OB = sm at HSm HV
 have HXa := hid hxa
 obtain ⟨y0, y1, y2, y3, y4, y5, y6, y7, y8, y9, y10, y11⟩ := adr_twelve hxd HAu.out
 clear hg hu hp ho ht hxd hvd hxp hvp hxu hvu hbW1 hsW1 hAW1 hbW2 hsW2 hAW2 hb2 hd0 hTV hOA hOB hva hxa hqa hvb hxb
 go_enter Tryz.func64, Tryz.ntmps64
 go_wp2_with fail
 refine HOf.out.mono ?_
 rintro e w3 ⟨rfl, hb3⟩
 obtain ⟨W4, hW4⟩ : ∃ X, (w3.alloc (.cells #[.string aS, .string aH, .int .i64 aP, .bool aQ] 128)) = X := ⟨_, rfl⟩
 have hbW4 : Below w3.heap.size w3 W4 := by rw [<- hW4]; exact (Below.refl _ w3).alloc (Nat.le_refl _) _
 have hsW4 : W4.heap.size = w3.heap.size + 1 := by rw [<- hW4]; simp
 have hOW4 : OrgIn W4 w3.heap.size (OA) := by
  unfold OrgIn
  rw [HXa.out, <- hW4]
  exact heap_alloc_new w3 _
 have hb4 := below2 hb3 hbW4
 have HB4 := hid hb4
 have HO4 := hid hOW4
 have HQ0 := hid ((Below.refl W4.heap.size W4).drew)
 have HRo := hid (show ∀ Z, Below W4.heap.size W4 Z -> Z.rangeAt (w3.heap.size) 0 [.string aS, .string aH, .int .i64 aP, .bool aQ] from fun Z hZ => by
  have := range_row (show Z.heap[w3.heap.size]? = some (.cells (orgCells (OA)).toArray 128 (0, 0)) from HO4.out.kept hZ)
  rw [HXa.out] at this
  exact this)
 have HRp := hid (show ∀ Z, Below W4.heap.size W4 Z -> Z.rangeAt (W1.heap.size) 0 [.string p0, .string p1, .string p2, .string p3, .bool p4, .int .i64 p5, .bool p6, .slice pa pn pc, .string p8, .string p9, .bool p10, .bool p11] from fun Z hZ => by
  have := range_row (show Z.heap[W1.heap.size]? = some (.cells (adrCells p (.slice pa pn pc)).toArray 31 (0, 0)) from (HAp.out.kept HB4.out).kept hZ)
  rw [HXp.out] at this
  exact this)
 have HOp4 := hid (fun (Z : World) (hZ : Below W4.heap.size W4 Z) => HOp.out Z (below2 HB4.out hZ))
 have HSm4 := hid (fun (Z : World) (hZ : Below W4.heap.size W4 Z) => HSm.out Z (below2 HB4.out hZ))
 clear hb3 hbW4 hsW4 hOW4 hb4 y0 y1 y2 y3 y4 y5 y6 y7 y8 y9 y10 y11
 go_upto_region 2 with fail
 refine wp_region_held_drew (S := (fun wx => Below W4.heap.size W4 wx)) (by kernel_rfl) HQ0.out (fun hHeld => ?_)
 refine wpAnyH_to (fuel' := 5) (listed' := #[false, false, false, false, false]) rfl rfl ?_
 refine wpAnyH_take (i := 0) (oi := ⟨some 9, _, _, _, _, _⟩) rfl (by kernel_rfl) (by kernel_rfl) (by kernel_rfl) (fun _ _ _ h => h) (yieldsIf_load_mid (by kernel_rfl) 128 (.tmp 5) rfl (w3.heap.size) 0 rfl [.string aS, .string aH, .int .i64 aP, .bool aQ] _ HRo.out Tryz.underlying128 rfl sizeO) (by assumption) ?_
 (try simp only [Act.put, List.setIfInBounds_toArray, List.set_cons_zero, List.set_cons_succ])
 refine wpAnyH_take (i := 1) (oi := ⟨some 10, _, _, _, _, _⟩) rfl (by kernel_rfl) (by kernel_rfl) (by kernel_rfl) (fun _ _ _ h => h) (yieldsIf_load_mid (by kernel_rfl) 31 (.tmp 3) rfl (W1.heap.size) 0 rfl [.string p0, .string p1, .string p2, .string p3, .bool p4, .int .i64 p5, .bool p6, .slice pa pn pc, .string p8, .string p9, .bool p10, .bool p11] _ HRp.out Tryz.underlying31 rfl sizeU) (by assumption) ?_
 (try simp only [Act.put, List.setIfInBounds_toArray, List.set_cons_zero, List.set_cons_succ])
 refine wpAnyH_ready (rs := [2]) (by kernel_rfl) (by simp) ?_
 refine AllReadyH.cons rfl (fun K9 hK => ?_) AllReadyH.nil
 rw [if_pos (by kernel_rfl)]
 go_simp
 go_wp2_with (go_at_call 88; refine (HOp4.out _ HQ0.out).mono ?_; rintro e w5 ⟨rfl, hba⟩)
 have HQ5 := hid (below2 HQ0.out hba)
 clear hba
 refine hK.out _ _ HQ5.out (fun hHeld2 => ?_)
 clear hK K9 hHeld
 rename _ => hHeld
 refine wpAnyH_ready (rs := [3]) (by kernel_rfl) (by simp) ?_
 refine AllReadyH.cons rfl (fun K9 hK => ?_) AllReadyH.nil
 rw [if_pos (by kernel_rfl)]
 go_simp
 go_wp2_with (go_at_call 89; refine (HSm4.out _ HQ5.out).mono ?_; rintro e w6 ⟨rfl, hba⟩)
 have HQ6 := hid (below2 HQ5.out hba)
 clear hba
 refine hK.out _ _ HQ6.out (fun hHeld2 => ?_)
 clear hK K9 hHeld
 rename _ => hHeld
 refine' wpAnyH_take (i := 4) (oi := ⟨some 8, _, _, _, _, _⟩) (v := _) rfl (by kernel_rfl) (by kernel_rfl) (by kernel_rfl) (fun _ _ _ h => h) (Or.inl ⟨by kernel_rfl, ?hyt1⟩) (by assumption) ?restt1
 case hyt1 => (intro wx hSw; (try dsimp only at hSw); go_simp; first | done | with_reducible rfl)
 (try simp only [Act.put, List.setIfInBounds_toArray, List.set_cons_zero, List.set_cons_succ])
 refine wpAnyH_done (by kernel_rfl) ?_ _
 have HB6 := hid (below2 HB4.out HQ6.out)
 have HA6 := hid (HAu.out.kept HB6.out)
 have HO6 := hid (HO4.out.kept HQ6.out)
 cases sm with
 | true =>
  have HE := hid (show TV = bareV (bareU u) by rw [HV.out]; rfl)
  have HA7 := hid (show AdrIn ((w6.setCell ⟨w.heap.size, 1, none⟩ (.string ⟨#[]⟩)).setCell ⟨w.heap.size, 2, none⟩ (.string ⟨#[]⟩)) w.heap.size (bareU u) (.slice da dn dc) from
   (HA6.out.set (v := { u with user := [] }) 1 _ rfl).set (v := bareU u) 2 _ rfl)
  have HB7 := hid (show Below w.heap.size w ((w6.setCell ⟨w.heap.size, 1, none⟩ (.string ⟨#[]⟩)).setCell ⟨w.heap.size, 2, none⟩ (.string ⟨#[]⟩)) from
   ((below2 HB2.out HB6.out).setCell (p := ⟨w.heap.size, 1, none⟩) (Nat.le_refl _) _).setCell (p := ⟨w.heap.size, 2, none⟩) (Nat.le_refl _) _)
  obtain ⟨y0, y1, y2, y3, y4, y5, y6, y7, y8, y9, y10, y11⟩ := adr_twelve HXd.out HA6.out
  have z1 := HA6.out.frozen 1
  have z2 := HA6.out.frozen 2
  obtain ⟨W7, hW7⟩ : ∃ X, ((w6.setCell ⟨w.heap.size, 1, none⟩ (.string ⟨#[]⟩)).setCell ⟨w.heap.size, 2, none⟩ (.string ⟨#[]⟩)) = X := ⟨_, rfl⟩
  rw [hW7] at HA7 HB7
  obtain ⟨c0, c1, c2, c3, c4, c5, c6, c7, c8, c9, c10, c11⟩ := adr_twelve HXu.out HA7.out
  clear y0 y3 y4 y5 y6 y7 y8 y9 y10 y11
  go_wp2_with fail
  refine (HBa.out _ HB7.out).mono ?_
  rintro e w8 ⟨rfl, hb8⟩
  go_wp2
  go_ret
  exact ⟨ret_str' (by rw [HE.out]), below2 HB7.out hb8⟩
 | false =>
  obtain ⟨q0, q1, q2, q3⟩ := org_four12 HXa.out HO6.out
  cases aQ with
  | true =>
   have HE := hid (show TV = u.scheme by rw [HV.out]; rfl)
   obtain ⟨y0, y1, y2, y3, y4, y5, y6, y7, y8, y9, y10, y11⟩ := adr_twelve HXd.out HA6.out
   go_wp2_with fail
   go_ret
   exact ⟨ret_str' (by rw [HE.out, <- HD0.out]), below2 HB2.out HB6.out⟩
  | false =>
   have HE := hid (show TV = textO OA by rw [HV.out]; rfl)
   go_wp2_with fail
   refine (HTx.out _ HB6.out).mono ?_
   rintro e w8 ⟨rfl, hb8⟩
   go_wp2
   go_ret
   exact ⟨ret_str' (by rw [HE.out]), below2 HB2.out (below2 HB6.out hb8)⟩
structure AskR where
 page : Adr
 pv : Value
 url : Adr
 uv : Value
 dest : Int
 hops : Int
 nonce : ByteArray
 data : ByteArray
def askCells (a : AskR) : List Value := adrCells a.page a.pv ++ (adrCells a.url a.uv ++ [.int .i64 a.dest, .int .i64 a.hops, .string a.nonce, .string a.data])
def askVal (a : AskR) : Value := .agg (askCells a).toArray
theorem askCells_one (a : AskR) (h1 : IsSl a.pv) (h2 : IsSl a.uv) : ∀ v ∈ askCells a, v.oneCell' = true := by
 intro v hv
 unfold askCells at hv
 rcases List.mem_append.1 hv with hv | hv
 ·exact adrCells_one _ _ h1 v hv
 ·rcases List.mem_append.1 hv with hv | hv
  ·exact adrCells_one _ _ h2 v hv
  ·simp at hv
   rcases hv with rfl | rfl | rfl | rfl <;> rfl
theorem sizeA : (Tryz.prog.info? 33).map (·.size) = some 28 := by kernel_rfl
def AskAt (w : World) (a : AskR) : Prop := PathAt w a.pv a.page.path /\ PathAt w a.uv a.url.path
def countA (a : AskR) : AskR := if a.dest = 2 ∨ a.dest = 3 then a else { a with nonce := ⟨#[]⟩, data := ⟨#[]⟩ }
theorem results_ask {fn : Func} {p : Tmp} (h : fn.results = #[.cell p 33]) (tmps : Array Value) (w : World) (b : Nat) (a : AskR) (hp : tmps.getD p undef = .pointer (some ⟨b, 0, none⟩)) (hc : w.rangeAt b 0 (askCells a)) : (results fn tmps).run Tryz.prog w = .ok (askVal a) w := by
 rw [Array.getD_eq_getD_getElem?] at hp
 simp only [results, h]
 simp [Sem.run_bind, Result.andThen, hp, asAddr, run_loadVar_mid w b 0 33 (askCells a) _ hc Tryz.underlying33 rfl sizeA, askVal]
theorem counted12_any (a : AskR) (w : World) (ha : AskAt w a) :
  Calls Tryz.prog 63 #[askVal a] w fun e w' => e = .returned (askVal (countA a)) /\ Below w.heap.size w w' := by
 obtain ⟨page, pv, url, uv, dt, hp, nn, mm⟩ := a
 obtain ⟨hp1, hp2⟩ := ha
 dsimp only at hp1 hp2
 obtain ⟨pa, pn, pc, rfl⟩ := path_sl hp1
 obtain ⟨ua, un, uc, rfl⟩ := path_sl hp2
 obtain ⟨p0, p1, p2, p3, p4, p5, p6, p8, p9, p10, p11, hxp⟩ := adr_cells page pa pn pc
 obtain ⟨u0, u1, u2, u3, u4, u5, u6, u8, u9, u10, u11, hxu⟩ := adr_cells url ua un uc
 have hxa : ∀ n m : ByteArray, askCells ⟨page, .slice pa pn pc, url, .slice ua un uc, dt, hp, n, m⟩ = [.string p0, .string p1, .string p2, .string p3, .bool p4, .int .i64 p5, .bool p6, .slice pa pn pc, .string p8, .string p9, .bool p10, .bool p11, .string u0, .string u1, .string u2, .string u3, .bool u4, .int .i64 u5, .bool u6, .slice ua un uc, .string u8, .string u9, .bool u10, .bool u11, .int .i64 dt, .int .i64 hp, .string n, .string m] := fun n m => by
  unfold askCells; dsimp only; rw [hxp, hxu]; rfl
 have hva : askVal ⟨page, .slice pa pn pc, url, .slice ua un uc, dt, hp, nn, mm⟩ = .agg #[.string p0, .string p1, .string p2, .string p3, .bool p4, .int .i64 p5, .bool p6, .slice pa pn pc, .string p8, .string p9, .bool p10, .bool p11, .string u0, .string u1, .string u2, .string u3, .bool u4, .int .i64 u5, .bool u6, .slice ua un uc, .string u8, .string u9, .bool u10, .bool u11, .int .i64 dt, .int .i64 hp, .string nn, .string mm] := by unfold askVal; rw [hxa]
 rw [hva]
 obtain ⟨W1, hW1⟩ : ∃ X, (w.alloc (.cells #[.string p0, .string p1, .string p2, .string p3, .bool p4, .int .i64 p5, .bool p6, .slice pa pn pc, .string p8, .string p9, .bool p10, .bool p11, .string u0, .string u1, .string u2, .string u3, .bool u4, .int .i64 u5, .bool u6, .slice ua un uc, .string u8, .string u9, .bool u10, .bool u11, .int .i64 dt, .int .i64 hp, .string nn, .string mm] 33)) = X := ⟨_, rfl⟩
 have hb1 : Below w.heap.size w W1 := by rw [<- hW1]; exact (Below.refl _ w).alloc (Nat.le_refl _) _
 have hs1 : W1.heap.size = w.heap.size + 1 := by rw [<- hW1]; simp
 have hr1 : W1.heap[w.heap.size]? = some (.cells #[.string p0, .string p1, .string p2, .string p3, .bool p4, .int .i64 p5, .bool p6, .slice pa pn pc, .string p8, .string p9, .bool p10, .bool p11, .string u0, .string u1, .string u2, .string u3, .bool u4, .int .i64 u5, .bool u6, .slice ua un uc, .string u8, .string u9, .bool u10, .bool u11, .int .i64 dt, .int .i64 hp, .string nn, .string mm] 33 (0, 0)) := by rw [<- hW1]; exact heap_alloc_new w _
 obtain ⟨W2, hW2⟩ : ∃ X, (W1.alloc (.cells #[.string ⟨#[]⟩, .string ⟨#[]⟩, .string ⟨#[]⟩, .string ⟨#[]⟩, .bool false, .int .i64 0, .bool false, .slice none 0 0, .string ⟨#[]⟩, .string ⟨#[]⟩, .bool false, .bool false, .string ⟨#[]⟩, .string ⟨#[]⟩, .string ⟨#[]⟩, .string ⟨#[]⟩, .bool false, .int .i64 0, .bool false, .slice none 0 0, .string ⟨#[]⟩, .string ⟨#[]⟩, .bool false, .bool false, .int .i64 0, .int .i64 0, .string ⟨#[]⟩, .string ⟨#[]⟩] 33)) = X := ⟨_, rfl⟩
 have hb2 : Below W1.heap.size W1 W2 := by rw [<- hW2]; exact (Below.refl _ W1).alloc (Nat.le_refl _) _
 have hz2 : W2.heap[W1.heap.size]? = some (.cells #[.string ⟨#[]⟩, .string ⟨#[]⟩, .string ⟨#[]⟩, .string ⟨#[]⟩, .bool false, .int .i64 0, .bool false, .slice none 0 0, .string ⟨#[]⟩, .string ⟨#[]⟩, .bool false, .bool false, .string ⟨#[]⟩, .string ⟨#[]⟩, .string ⟨#[]⟩, .string ⟨#[]⟩, .bool false, .int .i64 0, .bool false, .slice none 0 0, .string ⟨#[]⟩, .string ⟨#[]⟩, .bool false, .bool false, .int .i64 0, .int .i64 0, .string ⟨#[]⟩, .string ⟨#[]⟩] 33 (0, 0)) := by rw [<- hW2]; exact heap_alloc_new W1 _
 have hr2 : W2.heap[w.heap.size]? = some (.cells #[.string p0, .string p1, .string p2, .string p3, .bool p4, .int .i64 p5, .bool p6, .slice pa pn pc, .string p8, .string p9, .bool p10, .bool p11, .string u0, .string u1, .string u2, .string u3, .bool u4, .int .i64 u5, .bool u6, .slice ua un uc, .string u8, .string u9, .bool u10, .bool u11, .int .i64 dt, .int .i64 hp, .string nn, .string mm] 33 (0, 0)) := by rw [hb2.block _ (by omega)]; exact hr1
 have HB2 := hid (below2 hb1 hb2)
 have k24 : W2.cell? ⟨w.heap.size, 24, none⟩ = some (.int .i64 dt) := by rw [Lib.cell_of_heap hr2]; rfl
 have HR2 := hid hr2
 have HZ2 := hid hz2
 have HXa := hid hxa
 have HS1 := hid hs1
 clear hp1 hp2 hxp hxu hxa hva hb1 hs1 hr1 hb2 hz2 hr2
 by_cases h2 : dt = 2
 ·subst h2
  have HCo := hid (show countA ⟨page, .slice pa pn pc, url, .slice ua un uc, 2, hp, nn, mm⟩ = ⟨page, .slice pa pn pc, url, .slice ua un uc, 2, hp, nn, mm⟩ by unfold countA; rw [if_pos (Or.inl rfl)])
  go_enter Tryz.func63, Tryz.ntmps63
  have HRa := hid (range_row (cs := [.string p0, .string p1, .string p2, .string p3, .bool p4, .int .i64 p5, .bool p6, .slice pa pn pc, .string p8, .string p9, .bool p10, .bool p11, .string u0, .string u1, .string u2, .string u3, .bool u4, .int .i64 u5, .bool u6, .slice ua un uc, .string u8, .string u9, .bool u10, .bool u11, .int .i64 2, .int .i64 hp, .string nn, .string mm]) HR2.out)
  have HOne := hid (show (#[.string p0, .string p1, .string p2, .string p3, .bool p4, .int .i64 p5, .bool p6, .slice pa pn pc, .string p8, .string p9, .bool p10, .bool p11, .string u0, .string u1, .string u2, .string u3, .bool u4, .int .i64 u5, .bool u6, .slice ua un uc, .string u8, .string u9, .bool u10, .bool u11, .int .i64 2, .int .i64 hp, .string nn, .string mm] : Array Value).all (·.oneCell') = true by
   have := all_oneCell_toArray (askCells_one ⟨page, .slice pa pn pc, url, .slice ua un uc, 2, hp, nn, mm⟩ ⟨_, _, _, rfl⟩ ⟨_, _, _, rfl⟩)
   rw [HXa.out] at this
   exact this)
  have HTh := hid (show W2.there W1.heap.size 0 28 from fun j hj => ⟨by rw [Nat.zero_add, Lib.cell_of_heap HZ2.out]; simp; omega, Lib.frozen_of_heap HZ2.out _⟩)
  go_wp2_with (first | (refine wpList_load_mid rfl 33 (.tmp 1) rfl w.heap.size 0 rfl [.string p0, .string p1, .string p2, .string p3, .bool p4, .int .i64 p5, .bool p6, .slice pa pn pc, .string p8, .string p9, .bool p10, .bool p11, .string u0, .string u1, .string u2, .string u3, .bool u4, .int .i64 u5, .bool u6, .slice ua un uc, .string u8, .string u9, .bool u10, .bool u11, .int .i64 2, .int .i64 hp, .string nn, .string mm] _ HRa.out Tryz.underlying33 rfl sizeA ?_) | (refine wpList_store_mid rfl 33 (.tmp 2) (.tmp 13) rfl W1.heap.size 0 #[.string p0, .string p1, .string p2, .string p3, .bool p4, .int .i64 p5, .bool p6, .slice pa pn pc, .string p8, .string p9, .bool p10, .bool p11, .string u0, .string u1, .string u2, .string u3, .bool u4, .int .i64 u5, .bool u6, .slice ua un uc, .string u8, .string u9, .bool u10, .bool u11, .int .i64 2, .int .i64 hp, .string nn, .string mm] rfl rfl HTh.out sizeA HOne.out ?_))
  have hrg := World.rangeAt_setCells_same W2 W1.heap.size 0 [.string p0, .string p1, .string p2, .string p3, .bool p4, .int .i64 p5, .bool p6, .slice pa pn pc, .string p8, .string p9, .bool p10, .bool p11, .string u0, .string u1, .string u2, .string u3, .bool u4, .int .i64 u5, .bool u6, .slice ua un uc, .string u8, .string u9, .bool u10, .bool u11, .int .i64 2, .int .i64 hp, .string nn, .string mm] HTh.out
  have hbl := below_setCells (B := w.heap.size) (b := W1.heap.size) (by have := HS1.out; omega) [.string p0, .string p1, .string p2, .string p3, .bool p4, .int .i64 p5, .bool p6, .slice pa pn pc, .string p8, .string p9, .bool p10, .bool p11, .string u0, .string u1, .string u2, .string u3, .bool u4, .int .i64 u5, .bool u6, .slice ua un uc, .string u8, .string u9, .bool u10, .bool u11, .int .i64 2, .int .i64 hp, .string nn, .string mm] 0 _ HB2.out
  refine bodyPost_ret (results_ask rfl _ _ W1.heap.size ⟨page, .slice pa pn pc, url, .slice ua un uc, 2, hp, nn, mm⟩ rfl ?_) rfl ⟨?_, ?_⟩
  ·rw [HXa.out]; exact hrg
  ·rw [HCo.out]
  ·exact hbl
 ·have b2 : (dt != 2) = true := by rw [bne_iff_ne]; exact h2
  by_cases h3 : dt = 3
  ·subst h3
   have HCo := hid (show countA ⟨page, .slice pa pn pc, url, .slice ua un uc, 3, hp, nn, mm⟩ = ⟨page, .slice pa pn pc, url, .slice ua un uc, 3, hp, nn, mm⟩ by unfold countA; rw [if_pos (Or.inr rfl)])
   go_enter Tryz.func63, Tryz.ntmps63
   have HRa := hid (range_row (cs := [.string p0, .string p1, .string p2, .string p3, .bool p4, .int .i64 p5, .bool p6, .slice pa pn pc, .string p8, .string p9, .bool p10, .bool p11, .string u0, .string u1, .string u2, .string u3, .bool u4, .int .i64 u5, .bool u6, .slice ua un uc, .string u8, .string u9, .bool u10, .bool u11, .int .i64 3, .int .i64 hp, .string nn, .string mm]) HR2.out)
   have HOne := hid (show (#[.string p0, .string p1, .string p2, .string p3, .bool p4, .int .i64 p5, .bool p6, .slice pa pn pc, .string p8, .string p9, .bool p10, .bool p11, .string u0, .string u1, .string u2, .string u3, .bool u4, .int .i64 u5, .bool u6, .slice ua un uc, .string u8, .string u9, .bool u10, .bool u11, .int .i64 3, .int .i64 hp, .string nn, .string mm] : Array Value).all (·.oneCell') = true by
    have := all_oneCell_toArray (askCells_one ⟨page, .slice pa pn pc, url, .slice ua un uc, 3, hp, nn, mm⟩ ⟨_, _, _, rfl⟩ ⟨_, _, _, rfl⟩)
    rw [HXa.out] at this
    exact this)
   have HTh := hid (show W2.there W1.heap.size 0 28 from fun j hj => ⟨by rw [Nat.zero_add, Lib.cell_of_heap HZ2.out]; simp; omega, Lib.frozen_of_heap HZ2.out _⟩)
   go_wp2_with (first | (refine wpList_load_mid rfl 33 (.tmp 1) rfl w.heap.size 0 rfl [.string p0, .string p1, .string p2, .string p3, .bool p4, .int .i64 p5, .bool p6, .slice pa pn pc, .string p8, .string p9, .bool p10, .bool p11, .string u0, .string u1, .string u2, .string u3, .bool u4, .int .i64 u5, .bool u6, .slice ua un uc, .string u8, .string u9, .bool u10, .bool u11, .int .i64 3, .int .i64 hp, .string nn, .string mm] _ HRa.out Tryz.underlying33 rfl sizeA ?_) | (refine wpList_store_mid rfl 33 (.tmp 2) (.tmp 13) rfl W1.heap.size 0 #[.string p0, .string p1, .string p2, .string p3, .bool p4, .int .i64 p5, .bool p6, .slice pa pn pc, .string p8, .string p9, .bool p10, .bool p11, .string u0, .string u1, .string u2, .string u3, .bool u4, .int .i64 u5, .bool u6, .slice ua un uc, .string u8, .string u9, .bool u10, .bool u11, .int .i64 3, .int .i64 hp, .string nn, .string mm] rfl rfl HTh.out sizeA HOne.out ?_))
   have hrg := World.rangeAt_setCells_same W2 W1.heap.size 0 [.string p0, .string p1, .string p2, .string p3, .bool p4, .int .i64 p5, .bool p6, .slice pa pn pc, .string p8, .string p9, .bool p10, .bool p11, .string u0, .string u1, .string u2, .string u3, .bool u4, .int .i64 u5, .bool u6, .slice ua un uc, .string u8, .string u9, .bool u10, .bool u11, .int .i64 3, .int .i64 hp, .string nn, .string mm] HTh.out
   have hbl := below_setCells (B := w.heap.size) (b := W1.heap.size) (by have := HS1.out; omega) [.string p0, .string p1, .string p2, .string p3, .bool p4, .int .i64 p5, .bool p6, .slice pa pn pc, .string p8, .string p9, .bool p10, .bool p11, .string u0, .string u1, .string u2, .string u3, .bool u4, .int .i64 u5, .bool u6, .slice ua un uc, .string u8, .string u9, .bool u10, .bool u11, .int .i64 3, .int .i64 hp, .string nn, .string mm] 0 _ HB2.out
   refine bodyPost_ret (results_ask rfl _ _ W1.heap.size ⟨page, .slice pa pn pc, url, .slice ua un uc, 3, hp, nn, mm⟩ rfl ?_) rfl ⟨?_, ?_⟩
   ·rw [HXa.out]; exact hrg
   ·rw [HCo.out]
   ·exact hbl
  ·have b3 : (dt != 3) = true := by rw [bne_iff_ne]; exact h3
   have HCo := hid (show countA ⟨page, .slice pa pn pc, url, .slice ua un uc, dt, hp, nn, mm⟩ = ⟨page, .slice pa pn pc, url, .slice ua un uc, dt, hp, ⟨#[]⟩, ⟨#[]⟩⟩ by unfold countA; rw [if_neg (fun h => h.elim h2 h3)])
   have k26 : W2.cell? ⟨w.heap.size, 26, none⟩ = some (.string nn) := by rw [Lib.cell_of_heap HR2.out]; rfl
   have k27 : W2.cell? ⟨w.heap.size, 27, none⟩ = some (.string mm) := by rw [Lib.cell_of_heap HR2.out]; rfl
   have f26 : W2.frozen? ⟨w.heap.size, 26, none⟩ = false := Lib.frozen_of_heap HR2.out _
   have f27 : W2.frozen? ⟨w.heap.size, 27, none⟩ = false := Lib.frozen_of_heap HR2.out _
   obtain ⟨W3, hW3⟩ : ∃ X, ((W2.setCell ⟨w.heap.size, 26, none⟩ (.string ⟨#[]⟩)).setCell ⟨w.heap.size, 27, none⟩ (.string ⟨#[]⟩)) = X := ⟨_, rfl⟩
   have HR3 := hid (show W3.heap[w.heap.size]? = some (.cells #[.string p0, .string p1, .string p2, .string p3, .bool p4, .int .i64 p5, .bool p6, .slice pa pn pc, .string p8, .string p9, .bool p10, .bool p11, .string u0, .string u1, .string u2, .string u3, .bool u4, .int .i64 u5, .bool u6, .slice ua un uc, .string u8, .string u9, .bool u10, .bool u11, .int .i64 dt, .int .i64 hp, .string ⟨#[]⟩, .string ⟨#[]⟩] 33 (0, 0)) by
    rw [<- hW3]
    exact Lib.heap_setCell_same (Lib.heap_setCell_same HR2.out (i := 26) (.string ⟨#[]⟩)) (i := 27) (.string ⟨#[]⟩))
   have HZ3 := hid (show W3.heap[W1.heap.size]? = some (.cells #[.string ⟨#[]⟩, .string ⟨#[]⟩, .string ⟨#[]⟩, .string ⟨#[]⟩, .bool false, .int .i64 0, .bool false, .slice none 0 0, .string ⟨#[]⟩, .string ⟨#[]⟩, .bool false, .bool false, .string ⟨#[]⟩, .string ⟨#[]⟩, .string ⟨#[]⟩, .string ⟨#[]⟩, .bool false, .int .i64 0, .bool false, .slice none 0 0, .string ⟨#[]⟩, .string ⟨#[]⟩, .bool false, .bool false, .int .i64 0, .int .i64 0, .string ⟨#[]⟩, .string ⟨#[]⟩] 33 (0, 0)) by
    rw [<- hW3, heap_setCell_other _ _ _ _ (fun e => by have := HS1.out; simp at e; omega), heap_setCell_other _ _ _ _ (fun e => by have := HS1.out; simp at e; omega)]
    exact HZ2.out)
   have HB3 := hid (show Below w.heap.size w W3 by
    rw [<- hW3]
    exact (HB2.out.setCell (p := ⟨w.heap.size, 26, none⟩) (Nat.le_refl _) _).setCell (p := ⟨w.heap.size, 27, none⟩) (Nat.le_refl _) _)
   go_enter Tryz.func63, Tryz.ntmps63
   go_upto_region 3 with fail
   have HRa := hid (range_row (cs := [.string p0, .string p1, .string p2, .string p3, .bool p4, .int .i64 p5, .bool p6, .slice pa pn pc, .string p8, .string p9, .bool p10, .bool p11, .string u0, .string u1, .string u2, .string u3, .bool u4, .int .i64 u5, .bool u6, .slice ua un uc, .string u8, .string u9, .bool u10, .bool u11, .int .i64 dt, .int .i64 hp, .string ⟨#[]⟩, .string ⟨#[]⟩]) HR3.out)
   have HOne := hid (show (#[.string p0, .string p1, .string p2, .string p3, .bool p4, .int .i64 p5, .bool p6, .slice pa pn pc, .string p8, .string p9, .bool p10, .bool p11, .string u0, .string u1, .string u2, .string u3, .bool u4, .int .i64 u5, .bool u6, .slice ua un uc, .string u8, .string u9, .bool u10, .bool u11, .int .i64 dt, .int .i64 hp, .string ⟨#[]⟩, .string ⟨#[]⟩] : Array Value).all (·.oneCell') = true by
    have := all_oneCell_toArray (askCells_one ⟨page, .slice pa pn pc, url, .slice ua un uc, dt, hp, ⟨#[]⟩, ⟨#[]⟩⟩ ⟨_, _, _, rfl⟩ ⟨_, _, _, rfl⟩)
    rw [HXa.out] at this
    exact this)
   have HTh := hid (show W3.there W1.heap.size 0 28 from fun j hj => ⟨by rw [Nat.zero_add, Lib.cell_of_heap HZ3.out]; simp; omega, Lib.frozen_of_heap HZ3.out _⟩)
   go_wp2_with (first | (refine wpList_load_mid rfl 33 (.tmp 1) rfl w.heap.size 0 rfl [.string p0, .string p1, .string p2, .string p3, .bool p4, .int .i64 p5, .bool p6, .slice pa pn pc, .string p8, .string p9, .bool p10, .bool p11, .string u0, .string u1, .string u2, .string u3, .bool u4, .int .i64 u5, .bool u6, .slice ua un uc, .string u8, .string u9, .bool u10, .bool u11, .int .i64 dt, .int .i64 hp, .string ⟨#[]⟩, .string ⟨#[]⟩] _ HRa.out Tryz.underlying33 rfl sizeA ?_) | (refine wpList_store_mid rfl 33 (.tmp 2) (.tmp 13) rfl W1.heap.size 0 #[.string p0, .string p1, .string p2, .string p3, .bool p4, .int .i64 p5, .bool p6, .slice pa pn pc, .string p8, .string p9, .bool p10, .bool p11, .string u0, .string u1, .string u2, .string u3, .bool u4, .int .i64 u5, .bool u6, .slice ua un uc, .string u8, .string u9, .bool u10, .bool u11, .int .i64 dt, .int .i64 hp, .string ⟨#[]⟩, .string ⟨#[]⟩] rfl rfl HTh.out sizeA HOne.out ?_))
   have hrg := World.rangeAt_setCells_same W3 W1.heap.size 0 [.string p0, .string p1, .string p2, .string p3, .bool p4, .int .i64 p5, .bool p6, .slice pa pn pc, .string p8, .string p9, .bool p10, .bool p11, .string u0, .string u1, .string u2, .string u3, .bool u4, .int .i64 u5, .bool u6, .slice ua un uc, .string u8, .string u9, .bool u10, .bool u11, .int .i64 dt, .int .i64 hp, .string ⟨#[]⟩, .string ⟨#[]⟩] HTh.out
   have hbl := below_setCells (B := w.heap.size) (b := W1.heap.size) (by have := HS1.out; omega) [.string p0, .string p1, .string p2, .string p3, .bool p4, .int .i64 p5, .bool p6, .slice pa pn pc, .string p8, .string p9, .bool p10, .bool p11, .string u0, .string u1, .string u2, .string u3, .bool u4, .int .i64 u5, .bool u6, .slice ua un uc, .string u8, .string u9, .bool u10, .bool u11, .int .i64 dt, .int .i64 hp, .string ⟨#[]⟩, .string ⟨#[]⟩] 0 _ HB3.out
   refine bodyPost_ret (results_ask rfl _ _ W1.heap.size ⟨page, .slice pa pn pc, url, .slice ua un uc, dt, hp, ⟨#[]⟩, ⟨#[]⟩⟩ rfl ?_) rfl ⟨?_, ?_⟩
   ·rw [HXa.out]; exact hrg
   ·rw [HCo.out]
   ·exact hbl
theorem splitK_cut (c : UInt8) : ∀ l : List UInt8, Lib.splitK [c] 0 (Lib.count l [c]) l = cutL c l := by
 refine cutL_ind c (fun l h => ?_) (fun a r h ih => ?_)
 ·have hm := index_one_none l c h
  rw [cutL_none c l h, Lib.count_miss hm]
  rfl
 ·have hi := index_one_some a r c h
  have hd : (a ++ c :: r).drop (a.length + 1) = r := by
   rw [show a ++ c :: r = (a ++ [c]) ++ r by simp, show a.length + 1 = (a ++ [c]).length by simp, List.drop_left]
  rw [cutL_some c a r h, Lib.count_hit (by simp) hi, show ([c] : List UInt8).length = 1 from rfl, hd, Nat.add_comm, Lib.splitK, hi]
  rw [if_neg (by simp), show ((a.length : Int)).toNat = a.length by simp, show ([c] : List UInt8).length = 1 from rfl, hd, ih]
  simp
theorem split_pieces (c : UInt8) (s : ByteArray) : (Lib.splitB ⟨#[c]⟩ 0 (Lib.countB s ⟨#[c]⟩) s).map Value.string = cellsS (cutL c s.data.toList) := by
 have h := Lib.splitB_data ⟨#[c]⟩ 0 (Lib.countB s ⟨#[c]⟩) s
 have e : Lib.countB s ⟨#[c]⟩ = Lib.count s.data.toList [c] := rfl
 rw [e, show (⟨#[c]⟩ : ByteArray).data.toList = [c] from rfl, splitK_cut] at h
 rw [<- h, cellsS, List.map_map]
 rfl
theorem split_count (c : UInt8) (s : ByteArray) : Lib.countB s ⟨#[c]⟩ + 1 = (cutL c s.data.toList).length := by
 show Lib.count s.data.toList [c] + 1 = _
 have key : ∀ l : List UInt8, Lib.count l [c] + 1 = (cutL c l).length := by
  refine cutL_ind c (fun l h => ?_) (fun a r h ih => ?_)
  ·rw [cutL_none c l h, Lib.count_miss (index_one_none l c h)]; rfl
  ·have hd : (a ++ c :: r).drop (a.length + 1) = r := by
    rw [show a ++ c :: r = (a ++ [c]) ++ r by simp, show a.length + 1 = (a ++ [c]).length by simp, List.drop_left]
   rw [cutL_some c a r h, Lib.count_hit (by simp) (index_one_some a r c h), show ([c] : List UInt8).length = 1 from rfl, hd, List.length_cons, <- ih]
   omega
 exact key _
theorem cutL_len11 (c : UInt8) (l : List UInt8) : (cutL c l).length <= l.length + 1 := by
 revert l
 refine cutL_ind c (fun l h => ?_) (fun a r h ih => ?_)
 ·rw [cutL_none c l h]; simp
 ·rw [cutL_some c a r h]; simp; omega
def TxPost (L : List (List UInt8)) (w : World) (e : Ending) (w' : World) : Prop :=
 ∃ g cap, e = .returned (.slice (some ⟨g, 0, none⟩) L.length cap) /\ w'.ownsRow w.heap.size 9 1 (.slice (some ⟨g, 0, none⟩) L.length cap) L.length (cellsS L) /\ Below w.heap.size w w'
theorem split_any (s : ByteArray) (c : UInt8) (w : World) (hg : Gd w) (hs : s.size <= 4000000000) :
  Calls Tryz.prog 206 #[.string s, .string ⟨#[c]⟩] w (TxPost (cutL c s.data.toList) w) := by
 obtain ⟨m, hm⟩ := hg.1
 refine (Tryz.strings_Split s ⟨#[c]⟩ m w (by omega) hm (show 1 <= 1 from Nat.le_refl 1)).mono ?_
 rintro e w' ⟨rfl, rfl⟩
 have hl := cutL_len11 c s.data.toList
 rw [<- Lib.size_eq] at hl
 rw [split_count, split_pieces]
 refine ⟨w.heap.size, (cutL c s.data.toList).length, rfl, ?_, (Below.refl _ w).alloc (Nat.le_refl _) _⟩
 refine ⟨by simp [cellsS_len], .inr ⟨w.heap.size, (cutL c s.data.toList).length, _, rfl, Nat.le_refl _, heap_alloc_new w _, Nat.le_refl _, by unfold maxLen; omega, by simp [cellsS_len], ?_⟩⟩
 rw [List.take_of_length_le (by simp [cellsS_len])]
def StrT (w : World) (g : Nat) (L : List (List UInt8)) (k : Nat) : Prop :=
 ∃ cur : Array Value, w.heap[g]? = some (.cells cur 9 (0, 0)) /\ cur.size = L.length /\ ∀ j (h : j < L.length), j < k -> cur[j]? = some (.string ⟨L[j].toArray⟩)
theorem StrT.kept {w w' : World} {g : Nat} {L : List (List UInt8)} {k : Nat} (h : StrT w g L k) (hb : Below w.heap.size w w') : StrT w' g L k := by
 obtain ⟨cur, hg, h2⟩ := h
 exact ⟨cur, row_kept hg hb, h2⟩
theorem StrT.cell {w : World} {g : Nat} {L : List (List UInt8)} {k : Nat} (h : StrT w g L k) (j : Nat) (hj : j < L.length) : ∃ v, w.cell? ⟨g, j, none⟩ = some v := by
 obtain ⟨cur, hg, hs, _⟩ := h
 rw [cell_of_row w g j cur _ _ hg]
 exact ⟨cur[j], by simp [hs, hj]⟩
theorem StrT.frozen {w : World} {g : Nat} {L : List (List UInt8)} {k : Nat} (h : StrT w g L k) (j : Nat) : w.frozen? ⟨g, j, none⟩ = false := by
 obtain ⟨cur, hg, _⟩ := h
 simp [World.frozen?, hg]
theorem StrT.set {w : World} {g : Nat} {L : List (List UInt8)} {k : Nat} (h : StrT w g L k) (hk : k < L.length) : StrT (w.setCell ⟨g, k, none⟩ (.string ⟨L[k].toArray⟩)) g L (k + 1) := by
 obtain ⟨cur, hg, hs, hc⟩ := h
 refine ⟨_, Lib.heap_setCell_same hg _, by simpa using hs, ?_⟩
 intro j hj hj2
 by_cases e : k = j
 ·subst e
  have : k < cur.size := by omega
  simp [this]
 ·simp [Array.getElem?_setIfInBounds, e]
  exact hc j hj (by omega)
theorem StrT.own {w : World} {B g : Nat} {L : List (List UInt8)} (h : StrT w g L L.length) (hB : B <= g) (hl : L.length <= maxLen) : w.ownsRow B 9 1 (.slice (some ⟨g, 0, none⟩) L.length L.length) L.length (cellsS L) := by
 obtain ⟨cur, hg, hs, hc⟩ := h
 refine ⟨by simp [cellsS_len], .inr ⟨g, L.length, cur, rfl, hB, hg, Nat.le_refl _, hl, by simpa using hs, ?_⟩⟩
 apply List.ext_getElem?
 intro j
 by_cases hj : j < L.length
 ·have := hc j hj hj
  rw [Nat.mul_one, List.getElem?_take, if_pos hj]
  simp only [cellsS, List.getElem?_map, List.getElem?_eq_getElem hj, Option.map_some]
  simpa using this
 ·rw [List.getElem?_eq_none (by simp; omega), List.getElem?_eq_none (by simp [cellsS]; omega)]
theorem path_view {w : World} {v : Value} {L : List (List UInt8)} (h : PathAt w v L) : ∃ a cap, v = .slice a L.length cap /\ ∀ j (hj : j < L.length), ∃ b, a = some ⟨b, 0, none⟩ /\ w.cell? ⟨b, j, none⟩ = some (.string ⟨L[j].toArray⟩) := by
 rcases h with ⟨rfl, rfl⟩ | ⟨b, cap, rfl, h2, h3, h4, h5⟩
 ·exact ⟨none, 0, rfl, fun j hj => by simp at hj⟩
 ·exact ⟨_, _, rfl, fun j hj => ⟨b, rfl, h5 j hj⟩⟩
theorem unpercented_any (v : Value) (L : List (List UInt8)) (w : World) (hv : PathAt w v L) (hl : L.length <= 5000000000) (hs : ∀ x ∈ L, x.length <= 140737488351232) :
  Calls Tryz.prog 204 #[v] w (TxPost (L.map unpct) w) := by
 obtain ⟨i0, hi, hz0, hz1, hz2⟩ := info_parts infoStr
 obtain ⟨a, cap, rfl, hview⟩ := path_view hv
 have HV := hid hview
 have HSz := hid hs
 obtain ⟨n, hn⟩ : ∃ n, n = L.length := ⟨_, rfl⟩
 have HN := hid hn
 rw [<- hn] at hl ⊢
 have HNM := hid (show (L.map unpct).length = n by rw [List.length_map, hn])
 clear hv hview hs hn
 go_enter Tryz.func204, Tryz.ntmps204
 go_wp2_with (at_make; refine wpList_make_full _ rfl _ _ 29 rfl w.heap.size 9 i0 (.string ByteArray.empty) 1 Tryz.underlying29 hi hz0 hz1 .i64 .i64 _ _ n rfl rfl rfl rfl (by rw [hz2]; omega) (by unfold maxLen; omega) (Nat.le_refl _) ?_)
 intro w0 hown0 hgrow0
 have hb0 : Below w.heap.size w w0 := (Below.refl _ w).grown hgrow0 (Nat.le_refl _) (fun k hk => by simp at hk)
 have hst : StrT w0 w.heap.size (L.map unpct) 0 := by
  rcases hown0.2 with ⟨hv, _⟩ | ⟨g, cap', cur, hv, _, hcur, _, _, hsz, _⟩
  ·cases hv
  ·cases hv
   exact ⟨cur, hcur, by rw [HNM.out]; simpa using hsz, fun j _ h => absurd h (Nat.not_lt_zero _)⟩
 clear hown0 hgrow0
 have HS0 := hid hst
 have HB0 := hid hb0
 clear hst hb0
 go_wp2
 go_loopg [11] n (fun g iv wr => ∃ k : Nat, k + g = n /\ iv = .int .i64 k /\ Hid (StrT wr w.heap.size (L.map unpct) k /\ Below w.heap.size w wr))
 case atStart => exact ⟨0, by omega, rfl, HS0.out, HB0.out⟩
 case round =>
  obtain ⟨k, hkg, rfl, HR⟩ := hrel
  cases gk with
  | zero =>
   have hkx : ¬ ((k : Int) < (n : Int)) := by omega
   obtain rfl : k = n := by omega
   go_wp2
   go_ret
   refine ⟨w.heap.size, (L.map unpct).length, by rw [HNM.out]; rfl, ?_, HR.out.2⟩
   have h := HR.out.1
   rw [<- HNM.out] at h
   exact h.own (Nat.le_refl _) (by rw [HNM.out]; unfold maxLen; omega)
  | succ g =>
   have hk : k < L.length := by have := HN.out; omega
   have hk' : (k : Int) < (n : Int) := by omega
   obtain ⟨b, rfl, hc0⟩ := HV.out k hk
   have hcell := keptC hc0 HR.out.2
   obtain ⟨X, hX⟩ : ∃ X : ByteArray, X = ⟨L[k].toArray⟩ := ⟨_, rfl⟩
   have hXl : X.data.toList = L[k] := by rw [hX]
   have hXs : X.size <= 140737488351232 := by rw [Lib.size_eq, hXl]; exact HSz.out _ (List.getElem_mem hk)
   rw [<- hX] at hcell
   have HUn := hid (fun w => unpercent_any X w hXs)
   obtain ⟨Y, hY⟩ : ∃ Y : ByteArray, Y = ⟨(unpct X.data.toList).toArray⟩ := ⟨_, rfl⟩
   rw [<- hY] at HUn
   have hkm : k < (L.map unpct).length := by rw [List.length_map]; exact hk
   have HY := hid (show Y = ⟨((L.map unpct)[k]'hkm).toArray⟩ by rw [hY, hXl]; simp)
   clear hX hXl hXs hY hc0
   go_wp2_with fail
   refine (HUn.out _).mono ?_
   rintro e w1 ⟨rfl, hb1⟩
   have hb1' : Below wr.heap.size wr w1 := by first | exact hb1 | (subst hb1; exact Below.refl _ _)
   have HS1 := hid (HR.out.1.kept hb1')
   obtain ⟨v0, hc0⟩ := HS1.out.cell k hkm
   have hfz := HS1.out.frozen k
   have HS2 := hid (show StrT (w1.setCell ⟨w.heap.size, k, none⟩ (.string Y)) w.heap.size (L.map unpct) (k + 1) by
    rw [HY.out]; exact HS1.out.set hkm)
   have HB := hid ((below2 HR.out.2 hb1').setCell (p := ⟨w.heap.size, k, none⟩) (Nat.le_refl _) (.string Y))
   clear hb1 hb1' hcell
   go_wp2
   go_roundg g
   case measure => omega
   case rel => exact ⟨k + 1, by omega, by go_num, HS2.out, HB.out⟩
theorem range_kept {w w' : World} {g o : Nat} {cs : List Value} (h : w.rangeAt g o cs) (hb : Below w.heap.size w w') : w'.rangeAt g o cs := fun j v hv => by
 have h1 := h j v hv
 exact (hb.cell (World.block_lt_of_cell? w _ h1)).trans h1
end Go.Proofs.YtooihpkoplgmbaaGreatDoor
