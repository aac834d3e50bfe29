/- Walks and plain facts. -/
import Derived.Test.YtooihpkoplgmbaaGreatDoorQg34
set_option linter.unusedSimpArgs false
set_option linter.unusedVariables false
set_option maxHeartbeats 16000000
set_option maxRecDepth 100000

namespace Go.Proofs.YtooihpkoplgmbaaGreatDoor
open Go.RowKit
theorem infoVi : (Tryz.prog.info? 36).map (fun i => (i.zero, i.size, i.bytes)) = some (some (.agg #[.int .i64 0, .string ByteArray.empty, .string ByteArray.empty, .bool false]), 4, 48) := by kernel_rfl
theorem step_append_own12 {P : Program} {ops : Array Oper} {o : Oper} {a : Act} {w : World} {K : Act -> World -> Prop} {Q : Exit -> Act -> World -> Prop} {E : Prop} (hgd : o.guard = none) (s x : Operand) (t : TypeId)
  (ho : o.op = .call { callee := .builtin .append, args := #[s, x], argTypes := #[t, t] })
  (base : Nat) (e : TypeId) (i : TypeInfo) (z : Value) (size bytes : Nat) (ht : P.underlying t = some (.slice e)) (hi : P.info? e = some i) (hz : i.zero = some z)
  (hsize : i.size = size) (hby : i.bytes = bytes) (hzs : z.cells.size = size) (hsz : 0 < size)
  (v : Value) (n : Nat) (xs : List Value) (hs : a.eval s = v) (hown : w.ownsRow base e size v n xs)
  (ad : Addr) (m c : Nat) (news : List Value) (hx : a.eval x = .slice (some ad) m c) (hl : news.length = m * size) (hnews : ∀ j u, news[j]? = some u -> w.cell? (ad.add j) = some u) (h1 : ∀ u ∈ news, u.oneCell' = true)
  (h63 : n + m <= maxLen) (hbytes : (n + m) * bytes <= 140737488355328) (hbase : base <= w.heap.size)
  (h : ∀ v' w', w'.ownsRow base e size v' (n + m) (xs ++ news) -> w.grownBy w' v.ownBlock -> (v' = .slice none 0 0 ↔ v = .slice none 0 0 /\ m = 0) -> K (a.put o.dst v') w') :
  if Region.wanted o (yielded ops a.tmps) = true then Oper.wp P o a w K Q else E := by
 rw [if_pos (by simp [Region.wanted, hgd])]
 exact wp_append_own w s x t ho base e i z size bytes ht hi hz hsize hby hzs hsz v n xs hs hown ad m c news hx hl hnews h1 h63 hbytes hbase h
def GvI (w : World) (p : Nat) (L : List Vio) : Prop := ∃ a c, w.heap[p]? = some (.cells #[.slice a L.length c] 71 (0, 0)) /\ w.ownsRow (p + 1) 36 4 (.slice a L.length c) L.length (cellsV L)
def GvK (p : Nat) (w w' : World) : Prop := Below p w w' /\ ∀ k cur U fz, w.heap[k]? = some (Obj.cells cur U fz) -> U ≠ 36 -> k ≠ p -> w'.heap[k]? = w.heap[k]?
theorem add12_any (p : Nat) (L : List Vio) (x : Vio) (w : World) (hI : GvI w p L) (hl : L.length <= 1000000) :
  Calls Tryz.prog 36 #[.pointer (some ⟨p, 0, none⟩), vioVal x] w fun e w' => e = .returned (.tuple #[]) /\ GvI w' p (L ++ [x]) /\ GvK p w w' := by
 obtain ⟨i0, hi, hz0, hz1, hz2⟩ := info3 infoVi
 obtain ⟨a, c, hrow, hown⟩ := hI
 obtain ⟨n, hn⟩ : ∃ n, n = L.length := ⟨_, rfl⟩
 rw [<- hn] at hrow hown hl
 have HN := hid hn
 have HOwn0 := hid hown
 obtain ⟨P, X', Y', r⟩ := x
 obtain ⟨X, hX⟩ : ∃ V : ByteArray, (⟨X'.toArray⟩ : ByteArray) = V := ⟨_, rfl⟩
 obtain ⟨Y, hY⟩ : ∃ V : ByteArray, (⟨Y'.toArray⟩ : ByteArray) = V := ⟨_, rfl⟩
 have hcs : vioCells ⟨P, X', Y', r⟩ = [.int .i64 P, .string X, .string Y, .bool r] := by unfold vioCells; rw [<- hX, <- hY]
 have hvv : vioVal ⟨P, X', Y', r⟩ = .agg #[.int .i64 P, .string X, .string Y, .bool r] := by unfold vioVal; rw [hcs]
 rw [hvv]
 have HCs := hid hcs
 have hpl : p < w.heap.size := (Array.getElem?_eq_some_iff.1 hrow).1
 obtain ⟨W1, hW1⟩ : ∃ Z, (w.alloc (.cells #[.int .i64 P, .string X, .string Y, .bool r] 36)) = Z := ⟨_, rfl⟩
 have hb1 : Below w.heap.size w W1 := by rw [<- hW1]; exact (Below.refl _ w).alloc (Nat.le_refl _) _
 have hr1 : W1.heap[w.heap.size]? = some (.cells #[.int .i64 P, .string X, .string Y, .bool r] 36 (0, 0)) := by rw [<- hW1]; exact heap_alloc_new w _
 have hs1 : W1.heap.size = w.heap.size + 1 := by rw [<- hW1]; simp
 have hrow1 : W1.heap[p]? = some (.cells #[.slice a n c] 71 (0, 0)) := by rw [hb1.block p hpl]; exact hrow
 have HRow := hid (fun (Z : World) (hZ : Below W1.heap.size W1 Z) => (show Z.heap[p]? = some (.cells #[.slice a n c] 71 (0, 0)) by rw [hZ.block p (by omega)]; exact hrow1))
 have HOwn := hid (fun (Z : World) (hZ : Below W1.heap.size W1 Z) => own_kept (own_kept hown hb1) hZ)
 have HSK := hid (show ∀ Z, Below W1.heap.size W1 Z -> (fun wx : World => wx.cell? ⟨p, 0, none⟩ = some (.slice a n c) /\ wx.cell? ⟨w.heap.size, 0, none⟩ = some (.int .i64 P) /\ wx.cell? ⟨w.heap.size, 1, none⟩ = some (.string X) /\ wx.cell? ⟨w.heap.size, 2, none⟩ = some (.string Y) /\ wx.cell? ⟨w.heap.size, 3, none⟩ = some (.bool r)) Z from fun Z hZ => by
  have h1 := HRow.out Z hZ
  have h2 : Z.heap[w.heap.size]? = _ := (hZ.block w.heap.size (by omega)).trans hr1
  exact ⟨by rw [Lib.cell_of_heap h1]; rfl, by rw [Lib.cell_of_heap h2]; rfl, by rw [Lib.cell_of_heap h2]; rfl, by rw [Lib.cell_of_heap h2]; rfl, by rw [Lib.cell_of_heap h2]; rfl⟩)
 have HB1 := hid hb1
 have HS1 := hid hs1
 have HPl := hid hpl
 have HQ0 := hid ((Below.refl W1.heap.size W1).drew)
 have HS := hid (HSK.out W1.drew HQ0.out)
 clear hrow hown hn hX hY hcs hvv hpl hb1 hr1 hs1 hrow1
 go_enter Tryz.func36, Tryz.ntmps36
 go_wp2_with fail
 refine AnyBut.start (n := 8) (S := (fun wx : World => wx.cell? ⟨p, 0, none⟩ = some (.slice a n c) /\ wx.cell? ⟨w.heap.size, 0, none⟩ = some (.int .i64 P) /\ wx.cell? ⟨w.heap.size, 1, none⟩ = some (.string X) /\ wx.cell? ⟨w.heap.size, 2, none⟩ = some (.string Y) /\ wx.cell? ⟨w.heap.size, 3, none⟩ = some (.bool r))) (by kernel_rfl) ?_
 refine' AnyBut.take (i := 0) (oi := ⟨some 4, _, _, _, _, _⟩) (v := _) rfl (by kernel_rfl) (by kernel_rfl) (fun _ _ _ h => h) _ _ _ _ (by kernel_rfl) (by kernel_rfl) (Or.inl ⟨by kernel_rfl, ?hy0⟩) HS.out ?rest0
 case hy0 => (intro wx hSw; (try dsimp only at hSw); obtain ⟨s0, b0, b1, b2, b3⟩ := hSw; go_simp; first | done | with_reducible rfl)
 (try simp only [Act.put, List.setIfInBounds_toArray, List.set_cons_zero, List.set_cons_succ])
 refine' AnyBut.take (i := 1) (oi := ⟨some 5, _, _, _, _, _⟩) (v := _) rfl (by kernel_rfl) (by kernel_rfl) (fun _ _ _ h => h) _ _ _ _ (by kernel_rfl) (by kernel_rfl) (Or.inl ⟨by kernel_rfl, ?hy1⟩) HS.out ?rest1
 case hy1 => (intro wx hSw; (try dsimp only at hSw); obtain ⟨s0, b0, b1, b2, b3⟩ := hSw; go_simp; first | done | with_reducible rfl)
 (try simp only [Act.put, List.setIfInBounds_toArray, List.set_cons_zero, List.set_cons_succ])
 refine' AnyBut.take (i := 2) (oi := ⟨some 6, _, _, _, _, _⟩) (v := _) rfl (by kernel_rfl) (by kernel_rfl) (fun _ _ _ h => h) _ _ _ _ (by kernel_rfl) (by kernel_rfl) (Or.inl ⟨by kernel_rfl, ?hy2⟩) HS.out ?rest2
 case hy2 => (intro wx hSw; (try dsimp only at hSw); obtain ⟨s0, b0, b1, b2, b3⟩ := hSw; go_simp; first | done | with_reducible rfl)
 (try simp only [Act.put, List.setIfInBounds_toArray, List.set_cons_zero, List.set_cons_succ])
 refine' AnyBut.take (i := 3) (oi := ⟨some 7, _, _, _, _, _⟩) (v := _) rfl (by kernel_rfl) (by kernel_rfl) (fun _ _ _ h => h) _ _ _ _ (by kernel_rfl) (by kernel_rfl) (Or.inl ⟨by kernel_rfl, ?hy3⟩) HS.out ?rest3
 case hy3 => (intro wx hSw; (try dsimp only at hSw); obtain ⟨s0, b0, b1, b2, b3⟩ := hSw; go_simp; first | done | with_reducible rfl)
 (try simp only [Act.put, List.setIfInBounds_toArray, List.set_cons_zero, List.set_cons_succ])
 refine' AnyBut.take (i := 4) (oi := ⟨some 8, _, _, _, _, _⟩) (v := _) rfl (by kernel_rfl) (by kernel_rfl) (fun _ _ _ h => h) _ _ _ _ (by kernel_rfl) (by kernel_rfl) (Or.inl ⟨by kernel_rfl, ?hy4⟩) HS.out ?rest4
 case hy4 => (intro wx hSw; (try dsimp only at hSw); obtain ⟨s0, b0, b1, b2, b3⟩ := hSw; go_simp; first | done | with_reducible rfl)
 (try simp only [Act.put, List.setIfInBounds_toArray, List.set_cons_zero, List.set_cons_succ])
 refine AnyBut.one (i := 5) (by kernel_rfl) rfl (fun K' hK => ?_)
 rw [if_pos (by kernel_rfl)]
 go_simp
 have HQ2 := hid (show Below W1.heap.size W1 (W1.alloc (.cells #[.int .i64 P, .string X, .string Y, .bool r] 36)).drew from ((Below.refl W1.heap.size W1).alloc (Nat.le_refl _) _).drew)
 clear HS
 have HS := hid (HSK.out _ HQ2.out)
 refine hK.out _ _ HS.out ?_
 clear hK K'
 have HOw3 := hid (HOwn.out _ HQ2.out)
 have HRow3 := hid (HRow.out _ HQ2.out)
 have hsz3 : (W1.alloc (.cells #[.int .i64 P, .string X, .string Y, .bool r] 36)).drew.heap.size = W1.heap.size + 1 := by
  show (W1.alloc _).heap.size = _
  simp
 have HSz3 := hid hsz3
 clear hsz3
 refine AnyBut.one (i := 6) (by kernel_rfl) rfl (fun K' hK => ?_)
 refine step_append_own12 rfl (.tmp 7) (.tmp 9) 71 rfl (p + 1) 36 i0 _ 4 48 Tryz.underlying71 hi hz0 hz1 hz2 rfl (by decide) (.slice a n c) n (cellsV L) rfl HOw3.out ⟨W1.heap.size, 0, none⟩ 1 1 [.int .i64 P, .string X, .string Y, .bool r] rfl rfl ?c1 ?c2 (by unfold maxLen; omega) (by omega) (by have := HSz3.out; have := HPl.out; have := HS1.out; omega) ?_
 case c1 =>
  intro q u hq
  rw [Addr.add_mid]
  exact range_row (heap_alloc_new W1 _) q u hq
 case c2 => intro u hu; simp at hu; rcases hu with rfl | rfl | rfl | rfl <;> rfl
 intro v4 w4 hown4 hgrow4 hnil4
 have hform : ∃ g4 c4, v4 = .slice (some ⟨g4, 0, none⟩) (n + 1) c4 := by
  rcases hown4.2 with ⟨_, h0⟩ | ⟨g, cap, cur, hv, _⟩
  ·omega
  ·exact ⟨g, cap, hv⟩
 obtain ⟨g4, c4, rfl⟩ := hform
 have hblk : w4.heap[p]? = some (.cells #[.slice a n c] 71 (0, 0)) := by
  have h1 := (Array.getElem?_eq_some_iff.1 HRow3.out).1
  rw [hgrow4.block _ h1 (fun e => by have := (HOw3.out.lt p e.symm).1; omega)]
  exact HRow3.out
 have HGI := hid (show GvI (w4.setCell ⟨p, 0, none⟩ (.slice (some ⟨g4, 0, none⟩) (n + 1) c4)) p (L ++ [⟨P, X', Y', r⟩]) by
  have hlen : (L ++ [(⟨P, X', Y', r⟩ : Vio)]).length = n + 1 := by rw [List.length_append, <- HN.out]; rfl
  refine ⟨some ⟨g4, 0, none⟩, c4, ?_, ?_⟩
  ·rw [hlen]; exact Lib.heap_setCell_same hblk (i := 0) _
  ·rw [hlen, cellsV_app, cellsV_one, HCs.out]
   refine ownsRow_same hown4 fun g hg => ?_
   have := (hown4.lt g hg).1
   exact heap_setCell_other _ _ _ _ (fun e => by have e2 : g = p := e; omega))
 have HGK := hid (show GvK p w (w4.setCell ⟨p, 0, none⟩ (.slice (some ⟨g4, 0, none⟩) (n + 1) c4)) by
  have hpl := HPl.out
  have hb3 : Below p w (W1.alloc (.cells #[.int .i64 P, .string X, .string Y, .bool r] 36)).drew := (below2 HB1.out HQ2.out).mono (by omega)
  refine ⟨(hb3.grown hgrow4 (by have := HSz3.out; have := HS1.out; omega) (fun k hk => by have := (HOw3.out.lt k hk).1; omega)).setCell (p := ⟨p, 0, none⟩) (Nat.le_refl _) _, fun k cur U fz hk hU hne => ?_⟩
  have hkl : k < w.heap.size := (Array.getElem?_eq_some_iff.1 hk).1
  have e1 : (W1.alloc (.cells #[.int .i64 P, .string X, .string Y, .bool r] 36)).drew.heap[k]? = w.heap[k]? := (below2 HB1.out HQ2.out).block k hkl
  rw [heap_setCell_other _ _ _ _ (fun e => hne (by simpa using e)), hgrow4.block k (by have := HSz3.out; have := HS1.out; omega) (fun e => ?_), e1]
  obtain ⟨c2, hc2⟩ := ownsRow_kind HOw3.out k e.symm
  rw [e1, hk] at hc2
  injection hc2 with hc2
  injection hc2 with _ hc2 _
  exact hU hc2)
 have HC4 := hid (show ((fun wx : World => wx.cell? ⟨p, 0, none⟩ = some (.slice a n c) /\ wx.cell? ⟨w.heap.size, 0, none⟩ = some (.int .i64 P) /\ wx.cell? ⟨w.heap.size, 1, none⟩ = some (.string X) /\ wx.cell? ⟨w.heap.size, 2, none⟩ = some (.string Y) /\ wx.cell? ⟨w.heap.size, 3, none⟩ = some (.bool r))) w4 by
  have hb : w4.heap[w.heap.size]? = (W1.alloc (.cells #[.int .i64 P, .string X, .string Y, .bool r] 36)).drew.heap[w.heap.size]? := hgrow4.block _ (by have := HSz3.out; have := HS1.out; omega) (fun e => by
   obtain ⟨cur, hcur⟩ := ownsRow_kind HOwn0.out w.heap.size e.symm
   have := (Array.getElem?_eq_some_iff.1 hcur).1
   omega)
  have h2 := HS.out
  obtain ⟨_, q0, q1, q2, q3⟩ := h2
  refine ⟨by rw [Lib.cell_of_heap hblk]; rfl, ?_, ?_, ?_, ?_⟩
  ·exact (World.cell?_of_block (a := ⟨w.heap.size, 0, none⟩) hb).trans q0
  ·exact (World.cell?_of_block (a := ⟨w.heap.size, 1, none⟩) hb).trans q1
  ·exact (World.cell?_of_block (a := ⟨w.heap.size, 2, none⟩) hb).trans q2
  ·exact (World.cell?_of_block (a := ⟨w.heap.size, 3, none⟩) hb).trans q3)
 have HF4 := hid (show w4.frozen? ⟨p, 0, none⟩ = false by simp [World.frozen?, hblk])
 clear hown4 hgrow4 hnil4 hblk
 refine hK.out _ _ HC4.out ?_
 clear hK K' HS
 have HS := hid HC4.out
 refine' AnyBut.take (i := 7) (oi := ⟨some 11, _, _, _, _, _⟩) (v := _) rfl (by kernel_rfl) (by kernel_rfl) (fun _ _ _ h => h) _ _ _ _ (by kernel_rfl) (by kernel_rfl) (Or.inl ⟨by kernel_rfl, ?hy7⟩) HS.out ?rest7
 case hy7 => (intro wx hSw; (try dsimp only at hSw); obtain ⟨s0, b0, b1, b2, b3⟩ := hSw; go_simp; first | done | with_reducible rfl)
 (try simp only [Act.put, List.setIfInBounds_toArray, List.set_cons_zero, List.set_cons_succ])
 have d0 := HC4.out.1
 have z0 := HF4.out
 refine AnyBut.last (by kernel_rfl) (by kernel_rfl) rfl (fun K' hK => ?_)
 rw [if_pos (by kernel_rfl)]
 go_simp
 go_wp2_with fail
 refine hK.out _ _ ?_
 clear hK K'
 go_wp2_with fail
 go_end0
 exact ⟨rfl, HGI.out, HGK.out⟩
theorem setCells_far {b c : Nat} (hne : b ≠ c) : ∀ (vs : List Value) (j : Nat) (w : World), (w.setCells c j vs).heap[b]? = w.heap[b]?
 | [], _, _ => rfl
 | v :: r, j, w => by
  rw [World.setCells, setCells_far hne r (j + 1) _, heap_setCell_other _ _ _ _ (fun e => hne (by simpa using e))]
def pageP : Adr := adrOf (urlV [104, 116, 116, 112, 115, 58, 47, 47, 112, 46, 99, 111, 109, 47])
def askOf (u : Adr) (pv uv : Value) (dt : Int) : AskR := ⟨pageP, pv, u, uv, dt, 0, ⟨#[]⟩, ⟨#[]⟩⟩
def AkPost (u : Adr) (dt : Int) (w : World) (e : Ending) (w' : World) : Prop := ∃ pv uv, e = .returned (askVal (askOf u pv uv dt)) /\ AskAt w' (askOf u pv uv dt) /\ Below w.heap.size w w'
theorem ask12_any (S : ByteArray) (dt : Int) (w : World) (hs : S.size <= 9223372036854775807) :
  Calls Tryz.prog 9 #[.string S, .int .i64 dt] w (AkPost (adrOf (urlV S.data.toList)) dt w) := by
 have HU := hid (fun w => url_k S w hs)
 have HV := hid (fun w => url_k (⟨#[104, 116, 116, 112, 115, 58, 47, 47, 112, 46, 99, 111, 109, 47]⟩ : ByteArray) w (by decide))
 unfold UPost at HU HV
 have HPg := hid (show adrOf (urlV (⟨#[104, 116, 116, 112, 115, 58, 47, 47, 112, 46, 99, 111, 109, 47]⟩ : ByteArray).data.toList) = pageP from rfl)
 generalize isOk (urlV S.data.toList) = ok1 at HU
 generalize isOk (urlV (⟨#[104, 116, 116, 112, 115, 58, 47, 47, 112, 46, 99, 111, 109, 47]⟩ : ByteArray).data.toList) = ok2 at HV
 rw [HPg.out] at HV
 generalize adrOf (urlV S.data.toList) = A at HU ⊢
 obtain ⟨B, hB⟩ : ∃ B, pageP = B := ⟨_, rfl⟩
 rw [hB] at HV
 have HPB := hid hB
 obtain ⟨W0, hW0⟩ : ∃ X, (w.alloc (.cells #[.string ⟨#[]⟩, .string ⟨#[]⟩, .string ⟨#[]⟩, .string ⟨#[]⟩, .bool false, .int .i64 0, .bool false, .slice none 0 0, .string ⟨#[]⟩, .string ⟨#[]⟩, .bool false, .bool false, .string ⟨#[]⟩, .string ⟨#[]⟩, .string ⟨#[]⟩, .string ⟨#[]⟩, .bool false, .int .i64 0, .bool false, .slice none 0 0, .string ⟨#[]⟩, .string ⟨#[]⟩, .bool false, .bool false, .int .i64 0, .int .i64 0, .string ⟨#[]⟩, .string ⟨#[]⟩] 33)) = X := ⟨_, rfl⟩
 have hb0 : Below w.heap.size w W0 := by rw [<- hW0]; exact (Below.refl _ w).alloc (Nat.le_refl _) _
 have HZ0 := hid (show W0.heap[w.heap.size]? = some (.cells #[.string ⟨#[]⟩, .string ⟨#[]⟩, .string ⟨#[]⟩, .string ⟨#[]⟩, .bool false, .int .i64 0, .bool false, .slice none 0 0, .string ⟨#[]⟩, .string ⟨#[]⟩, .bool false, .bool false, .string ⟨#[]⟩, .string ⟨#[]⟩, .string ⟨#[]⟩, .string ⟨#[]⟩, .bool false, .int .i64 0, .bool false, .slice none 0 0, .string ⟨#[]⟩, .string ⟨#[]⟩, .bool false, .bool false, .int .i64 0, .int .i64 0, .string ⟨#[]⟩, .string ⟨#[]⟩] 33 (0, 0)) by rw [<- hW0]; exact heap_alloc_new w _)
 have HB0 := hid hb0
 clear hb0 hB HPg
 go_enter Tryz.func9, Tryz.ntmps9
 go_wp2_with fail
 refine (HU.out _).mono ?_
 rintro e w1 ⟨uv, rfl, hown, hb1⟩
 obtain ⟨da, dn, dc, rfl⟩ := own_sl hown
 obtain ⟨d0, d1, d2, d3, d4, d5, d6, d8, d9, d10, d11, hxd⟩ := adr_cells A da dn dc
 have hvd : adrVal A (.slice da dn dc) = .agg #[.string d0, .string d1, .string d2, .string d3, .bool d4, .int .i64 d5, .bool d6, .slice da dn dc, .string d8, .string d9, .bool d10, .bool d11] := by unfold adrVal; rw [hxd]
 rw [hvd]
 obtain ⟨W2, hW2⟩ : ∃ X, (w1.alloc (.cells #[.string d0, .string d1, .string d2, .string d3, .bool d4, .int .i64 d5, .bool d6, .slice da dn dc, .string d8, .string d9, .bool d10, .bool d11] 31)) = X := ⟨_, rfl⟩
 have hbW2 : Below w1.heap.size w1 W2 := by rw [<- hW2]; exact (Below.refl _ w1).alloc (Nat.le_refl _) _
 have hsW2 : W2.heap.size = w1.heap.size + 1 := by rw [<- hW2]; simp
 have hAW2 : AdrIn W2 w1.heap.size A (.slice da dn dc) := by
  unfold AdrIn
  rw [hxd, <- hW2]
  exact heap_alloc_new w1 _
 have HB2 := hid (below2 hb1 hbW2)
 have HP2 := hid (own_kept hown hbW2)
 have HA2 := hid hAW2
 have HXd := hid hxd
 clear hown hb1 hbW2 hAW2 hxd hvd hsW2
 go_wp2_with fail
 refine (HV.out _).mono ?_
 rintro e w3 ⟨pv, rfl, hown, hb3⟩
 obtain ⟨pa, pn, pc, rfl⟩ := own_sl hown
 obtain ⟨p0, p1, p2, p3, p4, p5, p6, p8, p9, p10, p11, hxp⟩ := adr_cells B pa pn pc
 have hvp : adrVal B (.slice pa pn pc) = .agg #[.string p0, .string p1, .string p2, .string p3, .bool p4, .int .i64 p5, .bool p6, .slice pa pn pc, .string p8, .string p9, .bool p10, .bool p11] := by unfold adrVal; rw [hxp]
 rw [hvp]
 obtain ⟨W4, hW4⟩ : ∃ X, (w3.alloc (.cells #[.string p0, .string p1, .string p2, .string p3, .bool p4, .int .i64 p5, .bool p6, .slice pa pn pc, .string p8, .string p9, .bool p10, .bool p11] 31)) = X := ⟨_, rfl⟩
 have hbW4 : Below w3.heap.size w3 W4 := by rw [<- hW4]; exact (Below.refl _ w3).alloc (Nat.le_refl _) _
 have hsW4 : W4.heap.size = w3.heap.size + 1 := by rw [<- hW4]; simp
 have hAW4 : AdrIn W4 w3.heap.size B (.slice pa pn pc) := by
  unfold AdrIn
  rw [hxp, <- hW4]
  exact heap_alloc_new w3 _
 have hb34 := below2 hb3 hbW4
 have HB4 := hid (below2 HB2.out hb34)
 have HPu := hid (own_kept HP2.out hb34)
 have HPp := hid (own_kept hown hbW4)
 have HZ4 := hid (row_kept HZ0.out HB4.out)
 have HBw := hid (below2 HB0.out HB4.out)
 have HRu := hid (show W4.rangeAt w1.heap.size 0 [.string d0, .string d1, .string d2, .string d3, .bool d4, .int .i64 d5, .bool d6, .slice da dn dc, .string d8, .string d9, .bool d10, .bool d11] by
  have := range_row (HA2.out.kept hb34)
  rw [HXd.out] at this
  exact this)
 have HRp := hid (show W4.rangeAt w3.heap.size 0 [.string p0, .string p1, .string p2, .string p3, .bool p4, .int .i64 p5, .bool p6, .slice pa pn pc, .string p8, .string p9, .bool p10, .bool p11] by
  have := range_row hAW4
  rw [hxp] at this
  exact this)
 have HXp := hid hxp
 have HXa := hid (show askCells (askOf A (.slice pa pn pc) (.slice da dn dc) dt) = [.string p0, .string p1, .string p2, .string p3, .bool p4, .int .i64 p5, .bool p6, .slice pa pn pc, .string p8, .string p9, .bool p10, .bool p11, .string d0, .string d1, .string d2, .string d3, .bool d4, .int .i64 d5, .bool d6, .slice da dn dc, .string d8, .string d9, .bool d10, .bool d11, .int .i64 dt, .int .i64 0, .string ⟨#[]⟩, .string ⟨#[]⟩] by
  unfold askOf
  rw [HPB.out]
  unfold askCells; dsimp only; rw [HXp.out, HXd.out]; rfl)
 have HTh := hid (show W4.there w.heap.size 0 28 from fun j hj => ⟨by rw [Nat.zero_add, Lib.cell_of_heap HZ4.out]; simp; omega, Lib.frozen_of_heap HZ4.out _⟩)
 have HOne := hid (show (#[.string p0, .string p1, .string p2, .string p3, .bool p4, .int .i64 p5, .bool p6, .slice pa pn pc, .string p8, .string p9, .bool p10, .bool p11, .string d0, .string d1, .string d2, .string d3, .bool d4, .int .i64 d5, .bool d6, .slice da dn dc, .string d8, .string d9, .bool d10, .bool d11, .int .i64 dt, .int .i64 0, .string ⟨#[]⟩, .string ⟨#[]⟩] : Array Value).all (·.oneCell') = true by
  have := all_oneCell_toArray (askCells_one (askOf A (.slice pa pn pc) (.slice da dn dc) dt) ⟨_, _, _, rfl⟩ ⟨_, _, _, rfl⟩)
  rw [HXa.out] at this
  exact this)
 have HSz0 := hid (show w.heap.size < W4.heap.size from (Array.getElem?_eq_some_iff.1 HZ4.out).1)
 have HW0 := hid (show w.heap.size < W0.heap.size from (Array.getElem?_eq_some_iff.1 HZ0.out).1)
 have HW2 := hid (show W0.heap.size <= W2.heap.size from HB2.out.size)
 clear hown hb3 hbW4 hAW4 hxp hvp hb34 hsW4
 go_wp2_with (first | (refine wpList_load_mid rfl 31 (.tmp 7) rfl w3.heap.size 0 rfl [.string p0, .string p1, .string p2, .string p3, .bool p4, .int .i64 p5, .bool p6, .slice pa pn pc, .string p8, .string p9, .bool p10, .bool p11] _ HRp.out Tryz.underlying31 rfl sizeU ?_) | (refine wpList_load_mid rfl 31 (.tmp 5) rfl w1.heap.size 0 rfl [.string d0, .string d1, .string d2, .string d3, .bool d4, .int .i64 d5, .bool d6, .slice da dn dc, .string d8, .string d9, .bool d10, .bool d11] _ HRu.out Tryz.underlying31 rfl sizeU ?_) | (refine wpList_store_mid rfl 33 (.tmp 4) (.tmp 21) rfl w.heap.size 0 #[.string p0, .string p1, .string p2, .string p3, .bool p4, .int .i64 p5, .bool p6, .slice pa pn pc, .string p8, .string p9, .bool p10, .bool p11, .string d0, .string d1, .string d2, .string d3, .bool d4, .int .i64 d5, .bool d6, .slice da dn dc, .string d8, .string d9, .bool d10, .bool d11, .int .i64 dt, .int .i64 0, .string ⟨#[]⟩, .string ⟨#[]⟩] rfl rfl HTh.out sizeA HOne.out ?_))
 have hrg := World.rangeAt_setCells_same W4 w.heap.size 0 [.string p0, .string p1, .string p2, .string p3, .bool p4, .int .i64 p5, .bool p6, .slice pa pn pc, .string p8, .string p9, .bool p10, .bool p11, .string d0, .string d1, .string d2, .string d3, .bool d4, .int .i64 d5, .bool d6, .slice da dn dc, .string d8, .string d9, .bool d10, .bool d11, .int .i64 dt, .int .i64 0, .string ⟨#[]⟩, .string ⟨#[]⟩] HTh.out
 have hbl := below_setCells (B := w.heap.size) (b := w.heap.size) (Nat.le_refl _) [.string p0, .string p1, .string p2, .string p3, .bool p4, .int .i64 p5, .bool p6, .slice pa pn pc, .string p8, .string p9, .bool p10, .bool p11, .string d0, .string d1, .string d2, .string d3, .bool d4, .int .i64 d5, .bool d6, .slice da dn dc, .string d8, .string d9, .bool d10, .bool d11, .int .i64 dt, .int .i64 0, .string ⟨#[]⟩, .string ⟨#[]⟩] 0 _ HBw.out
 refine bodyPost_ret (results_ask rfl _ _ w.heap.size (askOf A (.slice pa pn pc) (.slice da dn dc) dt) rfl ?_) rfl ⟨_, _, rfl, ⟨?_, ?_⟩, ?_⟩
 ·rw [HXa.out]; exact hrg
 ·show PathAt _ (.slice pa pn pc) pageP.path
  rw [HPB.out]
  exact own_path (ownsRow_same HPp.out fun g hg => setCells_far (by have := (HPp.out.lt g hg).1; have := HW0.out; have := HW2.out; omega) _ _ _)
 ·exact own_path (ownsRow_same HPu.out fun g hg => setCells_far (by have := (HPu.out.lt g hg).1; have := HW0.out; omega) _ _ _)
 ·exact hbl
def szOf (v : Value) : Nat := match v with | .string s => s.size | _ => 0
def boOf (v : Value) : Nat := match v with | .bool true => 1 | _ => 0
theorem ruleV_nil {l : List UInt8} (h : words9 l = []) : ruleV l = none := by unfold ruleV; rw [h]
theorem ruleV_cons {l x : List UInt8} {t : List (List UInt8)} (h : words9 l = x :: t) : ruleV l = some ⟨low x, t⟩ := by unfold ruleV; rw [h]
theorem parse10 (s : ByteArray) (rp : Bool) (w : World) (hs : s.size <= 1000000000) :
  Calls Tryz.prog 7 #[.string s, .bool rp] w (ParsePost10 s.data.toList rp w) := by
 obtain ⟨i0, hi, hz0, hz1, hz2⟩ := info_parts infoRu
 obtain ⟨l, hl⟩ : ∃ l, l = s.data.toList := ⟨_, rfl⟩
 have HL := hid hl
 have HSZ := hid (show l.length <= 1000000000 by rw [hl, <- Lib.size_eq]; exact hs)
 have HJ0 := hid (show PJ l true s [] from ⟨by rw [hl]; rfl, by simp, by rw [hl, Lib.size_eq]; exact Nat.le_refl _⟩)
 have HI0 := hid (show PI w ((w.alloc (.cells #[.slice none 0 0, .bool false] 24)).alloc (.cells #[.slice none 0 0, .bool rp] 24)) rp (.slice none 0 0) [] [] from
  ⟨(Lib.alloc_old _ _ _ (by simp)).trans (heap_alloc_new w _), by have := heap_alloc_new (w.alloc (.cells #[.slice none 0 0, .bool false] 24)) (.cells #[.slice none 0 0, .bool rp] 24); simpa using this, World.ownsRow_nil _ _ _ _, RdO.nil _ _, ((Below.refl _ w).alloc (Nat.le_refl _) _).alloc (by simp) _⟩)
 rw [<- hl]
 clear hl hs
 go_enter Tryz.func7, Tryz.ntmps7
 go_wp2_with fail
 go_loopw [0, 6] (fun v0 v6 wr => ∃ (S : ByteArray) (mo : Bool) (a : Option Addr) (n c : Nat) (Q : List (ByteArray × Value)) (L : List Ru), v0 = .string S /\ v6 = .bool mo /\ n <= 32 /\ Hid (n = L.length /\ PJ l mo S L /\ PI w wr rp (.slice a n c) Q L)) (fun v0 v6 _ => szOf v0 + boOf v6)
 case atStart => exact ⟨s, true, none, 0, 0, [], [], rfl, rfl, by decide, rfl, HJ0.out, HI0.out⟩
 case round =>
  clear HJ0 HI0
  obtain ⟨S, mo, a, n, c, Q, L, rfl, rfl, hn32, HR⟩ := hrel
  obtain ⟨c0, c1, z0⟩ := HR.out.2.2.cells
  have c4a : wr.cell? ⟨w.heap.size, 0, none⟩ = some (.slice none 0 0) := by rw [Lib.cell_of_heap HR.out.2.2.1]; rfl
  have c4b : wr.cell? ⟨w.heap.size, 1, none⟩ = some (.bool false) := by rw [Lib.cell_of_heap HR.out.2.2.1]; rfl
  have z4a : wr.frozen? ⟨w.heap.size, 0, none⟩ = false := Lib.frozen_of_heap HR.out.2.2.1 0
  have z4b : wr.frozen? ⟨w.heap.size, 1, none⟩ = false := Lib.frozen_of_heap HR.out.2.2.1 1
  cases mo with
  | false =>
   have HO := hid (HR.out.2.2.out (l := l) (by have := HR.out.2.1.1; exact this))
   go_wp2_with fail
   exact bodyPost_ret (results_p1 rfl _ _ w.heap.size a n c rp rfl HO.out.1) rfl HO.out.2
  | true =>
   by_cases hful : n = 32
   ·have HO := hid (HR.out.2.2.out (l := l) (by
     have h1 := HR.out.2.1.1
     rw [polF_full _ _ (by have := HR.out.1; omega)] at h1
     exact h1))
    have hng : ¬ ((n : Int) < 32) := by omega
    clear hful
    go_wp2_with fail
    exact bodyPost_ret (results_p1 rfl _ _ w.heap.size a n c rp rfl HO.out.1) rfl HO.out.2
   ·have hin : (n : Int) < 32 := by omega
    have hnl : n < 32 := by omega
    obtain ⟨P, hP⟩ : ∃ P : ByteArray, P = ⟨(part9 59 S.data.toList).1.toArray⟩ := ⟨_, rfl⟩
    obtain ⟨R, hR⟩ : ∃ P : ByteArray, P = ⟨(part9 59 S.data.toList).2.1.toArray⟩ := ⟨_, rfl⟩
    obtain ⟨m2, hm2⟩ : ∃ m, m = (part9 59 S.data.toList).2.2 := ⟨_, rfl⟩
    have HC := hid (cut10 S 59 wr (by have := HR.out.2.1.2.2; have := HSZ.out; omega))
    rw [<- hP, <- hR, <- hm2] at HC
    have hPl : P.data.toList = (part9 59 S.data.toList).1 := by rw [hP]
    have hPs : P.size <= 1000000000 := by
     rw [Lib.size_eq, hPl]
     have h1 := (part_le9 59 S.data.toList).1
     rw [<- Lib.size_eq] at h1
     have := HR.out.2.1.2.2; have := HSZ.out; omega
    have HRD := hid (fun X => read10 P X hPs)
    unfold RdPost10 at HRD
    have HJ2 := hid (show PJ l m2 R (addR L P.data.toList) from by
     have h := HR.out.2.1
     refine ⟨?_, ?_, ?_⟩
     ·rw [<- h.1, pol_step _ _ (by have := HR.out.1; omega), hPl, hm2, hR]
     ·have := addR_len L P.data.toList; have := HR.out.1; omega
     ·rw [Lib.size_eq, hR]
      have h1 := (part_le9 59 S.data.toList).2
      rw [<- Lib.size_eq] at h1
      show (part9 59 S.data.toList).2.1.length <= _
      have := h.2.2; omega)
    have HMS := hid (show szOf (.string R) + boOf (.bool m2) < szOf (.string S) + boOf (.bool true) from by
     have h1 := part_rest10 59 S.data.toList
     rw [<- Lib.size_eq, <- hm2] at h1
     have h2 : R.size = (part9 59 S.data.toList).2.1.length := by rw [Lib.size_eq, hR]
     show R.size + boOf (.bool m2) < S.size + 1
     rw [h2]
     cases m2
     ·simp [boOf] at h1 ⊢; omega
     ·simp [boOf] at h1 ⊢; omega)
    clear hP hR hm2 hPl hPs hful c4a c4b z4a z4b
    go_wp2_with fail
    refine HC.out.mono ?_
    rintro e w1 ⟨rfl, hb1⟩
    have HI1 := hid (HR.out.2.2.kept hb1)
    clear hb1 c0 c1 z0
    go_wp2_with fail
    refine (HRD.out w1).mono ?_
    cases hw : words9 P.data.toList with
    | nil =>
     rintro e w2 ⟨rfl, hb2⟩
     have HI2 := hid ((HI1.out.kept hb2).kept ((Below.refl _ w2).alloc (Nat.le_refl _) (.cells #[.string ⟨#[]⟩, .slice none 0 0] 67)))
     have HAD := hid (show addR L P.data.toList = L by unfold addR; rw [ruleV_nil hw])
     clear hb2 hw HRD
     go_wp2_with fail
     go_roundw
     case rel =>
      have h3 := HJ2.out
      rw [HAD.out] at h3
      first
       | exact ⟨R, m2, a, n, c, Q, L, rfl, rfl, hn32, HR.out.1, h3, HI2.out⟩
       | ((repeat apply Exists.intro); refine ⟨?_, rfl⟩; exact ⟨R, m2, a, n, c, Q, L, rfl, rfl, hn32, HR.out.1, h3, HI2.out⟩)
       | ((repeat apply Exists.intro); exact ⟨⟨R, m2, a, n, c, Q, L, rfl, rfl, hn32, HR.out.1, h3, HI2.out⟩, rfl⟩)
     case measure => exact HMS.out
    | cons x t =>
     rintro e w2 ⟨va, vn, vc, rfl, hsl, hb2⟩
     obtain ⟨N, hN⟩ : ∃ N : ByteArray, N = ⟨(low x).toArray⟩ := ⟨_, rfl⟩
     have HNL := hid (show N.data.toList = low x by rw [hN])
     have HRV := hid (ruleV_cons hw)
     rw [<- hN]
     have hb3 := (Below.refl _ w2).alloc (Nat.le_refl _) (.cells #[.string N, .slice va vn vc] 67)
     have HI3 := hid ((HI1.out.kept hb2).kept hb3)
     have HSL := hid (show SlV (w2.alloc (.cells #[.string N, .slice va vn vc] 67)) w1.heap.size 9 (.slice va vn vc) (cellsT t) from hsl.same fun k hk => hb3.block k (hsl.lt k hk).2)
     have HB13 := hid (show Below w1.heap.size w1 (w2.alloc (.cells #[.string N, .slice va vn vc] 67)) from below2 hb2 hb3)
     obtain ⟨d0, d1, _⟩ := HI3.out.cells
     have HTW := hid (show TwR (w2.alloc (.cells #[.string N, .slice va vn vc] 67)) w2.heap.size N (.slice va vn vc) from heap_alloc_new w2 _)
     have HPL := hid (fun X (hX : Below (w2.alloc (.cells #[.string N, .slice va vn vc] 67)).heap.size (w2.alloc (.cells #[.string N, .slice va vn vc] 67)) X) => place10 (.slice a n c) rp L N X ((own_po (by have h := HI3.out.2.2.1; exact h) HI3.out.2.2.2.1).kept hX) (by have := HR.out.1; omega))
     obtain ⟨ix, hix⟩ : ∃ ix, ix = idxR L N.data.toList := ⟨_, rfl⟩
     rw [<- hix] at HPL
     have HIX := hid (show decide (ix < 0) = !hasR L (low x) by rw [hix, HNL.out, <- HNL.out]; rw [HNL.out]; exact idx_has L (low x))
     clear hb2 hb3 hsl hw HRD hN hix
     go_wp2_with fail
     refine (HPL.out _ (Below.refl _ _)).mono ?_
     rintro e w4 ⟨rfl, hb4⟩
     have HI4 := hid (HI3.out.kept hb4)
     have HB14 := hid (below2 HB13.out hb4)
     have HSL4 := hid (HSL.out.same fun k hk => hb4.block k (HSL.out.lt k hk).2)
     have HTW4 := hid (row_kept HTW.out hb4)
     clear HPL HI3 HB13 HSL d0 d1
     by_cases hhas : hasR L (low x) = true
     ·have hlt0 : ¬ (ix < 0) := by have := HIX.out; rw [hhas] at this; simpa using this
      have HAD := hid (show addR L P.data.toList = L by unfold addR; rw [HRV.out]; simp [hhas])
      clear hhas hb4
      go_wp2_with fail
      go_roundw
      case rel =>
       have h3 := HJ2.out
       rw [HAD.out] at h3
       first
        | exact ⟨R, m2, a, n, c, Q, L, rfl, rfl, hn32, HR.out.1, h3, HI4.out⟩
        | ((repeat apply Exists.intro); refine ⟨?_, rfl⟩; exact ⟨R, m2, a, n, c, Q, L, rfl, rfl, hn32, HR.out.1, h3, HI4.out⟩)
        | ((repeat apply Exists.intro); exact ⟨⟨R, m2, a, n, c, Q, L, rfl, rfl, hn32, HR.out.1, h3, HI4.out⟩, rfl⟩)
      case measure => exact HMS.out
     ·have hlt0 : ix < 0 := by have := HIX.out; rw [show hasR L (low x) = false by simpa using hhas] at this; simpa using this
      have HAD := hid (show addR L P.data.toList = L ++ [⟨low x, t⟩] by unfold addR; rw [HRV.out]; simp [hhas])
      obtain ⟨d0, d1, y0⟩ := HI4.out.cells
      obtain ⟨r0, r1, _, _⟩ := TwR.cells HTW4.out
      have HO4 := hid (show w4.ownsRow (w.heap.size + 2) 67 2 (.slice a n c) n (cellsR Q) from by have h := HI4.out.2.2.1; rw [<- HR.out.1] at h; exact h)
      have hw4 : w.heap.size + 2 <= w4.heap.size := HI4.out.lt
      clear hhas hb4
      go_wp2_with (at_builtin; refine wpList_append_own _ rfl _ _ 22 rfl (w.heap.size + 2) 67 i0 _ 2 40 Tryz.underlying22 hi hz0 hz1 hz2 rfl (by decide) _ _ _ rfl (HO4.out.alloc _) ⟨w4.heap.size, 0, none⟩ 1 1 [.string N, .slice va vn vc] rfl rfl ?c1 ?c2 (by unfold maxLen; omega) (by omega) (by simp; omega) ?_)
      case c1 =>
       intro q u hq
       match q, hq with
       | 0, hq => simp at hq; subst hq; simp [Addr.add]
       | 1, hq => simp at hq; subst hq; simp [Addr.add]
      case c2 => intro u hu; simp at hu; rcases hu with rfl | rfl <;> rfl
      intro v5 w5 hown hgrow hnil
      obtain ⟨a5, c5, rfl, hc5, hm5⟩ := own_form10 hown
      have hP4 : (w4.alloc (.cells #[.string N, .slice va vn vc] 67)).heap[w.heap.size + 1]? = some (.cells #[.slice a n c, .bool rp] 24 (0, 0)) := (Lib.alloc_old w4 _ _ (by omega)).trans HI4.out.2.1
      have hP5 : w5.heap[w.heap.size + 1]? = some (.cells #[.slice a n c, .bool rp] 24 (0, 0)) := (hgrow.block _ (by simp; omega) (fun e => by
       obtain ⟨cur, hc⟩ := ownsRow_kind (HO4.out.alloc (.cells #[.string N, .slice va vn vc] 67)) _ e.symm
       exact kind_nf hc hP4 (by decide) rfl)).trans hP4
      have e0 : w5.cell? ⟨w.heap.size + 1, 0, none⟩ = some (.slice a n c) := by rw [Lib.cell_of_heap hP5]; rfl
      have y5 : w5.frozen? ⟨w.heap.size + 1, 0, none⟩ = false := Lib.frozen_of_heap hP5 0
      have HI6 := hid (show PI w (w5.setCell ⟨w.heap.size + 1, 0, none⟩ (.slice a5 (n + 1) c5)) rp (.slice a5 (n + 1) c5) (Q ++ [(⟨(low x).toArray⟩, .slice va vn vc)]) (L ++ [⟨low x, t⟩]) from by
       refine PI.snoc (r := ⟨low x, t⟩) (w2 := w4.alloc (.cells #[.string N, .slice va vn vc] 67)) (B := w1.heap.size) HI1.out (below2 HB14.out ((Below.refl _ w4).alloc (Nat.le_refl _) _)) (HSL4.out.alloc0 _) (Nat.le_refl _) ?_ hgrow
       rw [<- HR.out.1, show (⟨(low x).toArray⟩ : ByteArray) = N by rw [<- HNL.out, Lib.mk_data]]
       exact hown)
      have HLN := hid (show n + 1 = (L ++ [(⟨low x, t⟩ : Ru)]).length by rw [List.length_append, <- HR.out.1]; rfl)
      clear hown hgrow hnil hP4 hP5 d0 d1 y0 r0 r1 hc5 hm5 HO4
      go_wp2_with fail
      go_roundw
      case rel =>
       have h3 := HJ2.out
       rw [HAD.out] at h3
       first
        | exact ⟨R, m2, a5, n + 1, c5, _, _, rfl, rfl, by omega, HLN.out, h3, HI6.out⟩
        | ((repeat apply Exists.intro); refine ⟨?_, rfl⟩; exact ⟨R, m2, a5, n + 1, c5, _, _, rfl, rfl, by omega, HLN.out, h3, HI6.out⟩)
        | ((repeat apply Exists.intro); exact ⟨⟨R, m2, a5, n + 1, c5, _, _, rfl, rfl, by omega, HLN.out, h3, HI6.out⟩, rfl⟩)
      case measure => exact HMS.out
theorem parseP (s : ByteArray) (rp : Bool) (L : List Ru) (w : World) (hs : s.size <= 1000000000) (hL : polV s.data.toList = L) :
  Calls Tryz.prog 7 #[.string s, .bool rp] w fun e w' => ∃ a c, e = .returned (.agg #[.slice a L.length c, .bool rp]) /\ (L.length <= c /\ c <= maxLen /\ PoAt w' (.slice a L.length c) L) /\ Below w.heap.size w w' := by
 subst hL
 refine (parse10 s rp w hs).mono ?_
 rintro e w' ⟨v, Q, rfl, hown, hrd, hb⟩
 obtain ⟨a, c, rfl, h1, h2⟩ := own_form10 hown
 exact ⟨a, c, rfl, ⟨h1, h2, own_po hown hrd⟩, hb⟩
def cellsP (P : List (Value × Bool)) : List Value := P.flatMap fun q => [q.1, .bool q.2]
theorem cellsP_at (L : List (Value × Bool)) : ∀ j (h : j < L.length), (cellsP L)[j * 2]? = some L[j].1 /\ (cellsP L)[j * 2 + 1]? = some (.bool L[j].2) := by
 induction L with
 | nil => intro j h; simp at h
 | cons a L ih =>
  intro j h
  have e : cellsP (a :: L) = a.1 :: .bool a.2 :: cellsP L := rfl
  cases j with
  | zero => rw [e]; exact ⟨rfl, rfl⟩
  | succ j =>
   have := ih j (by simpa using h)
   rw [e, show (j + 1) * 2 = j * 2 + 1 + 1 by omega]
   simpa using this
def OnR (w : World) (B : Nat) (v : Value) (L : List Ru) : Prop := ∃ Q, w.ownsRow B 67 2 v L.length (cellsR Q) /\ RdO w B Q L
theorem OnR.keptB {w w' : World} {B : Nat} {v : Value} {L : List Ru} (h : OnR w B v L) (hk : ∀ (k : Nat) (cur : Array Value) (T : TypeId) (fz : Nat × Nat), w.heap[k]? = some (Obj.cells cur T fz) -> (T = 67 ∨ T = 9) -> w'.heap[k]? = w.heap[k]?) : OnR w' B v L := by
 obtain ⟨Q, h1, h2⟩ := h
 refine ⟨Q, ownsRow_same h1 fun g hg => ?_, h2.keptB ?_⟩
 ·obtain ⟨cur, hc⟩ := ownsRow_kind h1 g hg
  exact hk _ _ _ _ hc (.inl rfl)
 ·rintro k ⟨cur, fz, hc⟩
  exact hk _ _ _ _ hc (.inr rfl)
theorem OnR.low {w : World} {B B' : Nat} {v : Value} {L : List Ru} (h : OnR w B v L) (hb : B' <= B) : OnR w B' v L := by
 obtain ⟨Q, h1, h2⟩ := h
 exact ⟨Q, own_low10 h1 hb, h2.low hb⟩
theorem OnR.po {w : World} {B : Nat} {v : Value} {L : List Ru} (h : OnR w B v L) : PoAt w v L := by
 obtain ⟨Q, h1, h2⟩ := h
 exact own_po h1 h2
def RdP (w : World) (B : Nat) (P : List (Value × Bool)) (Ps : List (List Ru × Bool)) : Prop :=
 P.length = Ps.length /\ ∀ j (h1 : j < P.length) (h2 : j < Ps.length), P[j].2 = Ps[j].2 /\ OnR w B P[j].1 Ps[j].1
theorem RdP.keptB {w w' : World} {B : Nat} {P : List (Value × Bool)} {Ps : List (List Ru × Bool)} (h : RdP w B P Ps) (hk : ∀ (k : Nat) (cur : Array Value) (T : TypeId) (fz : Nat × Nat), w.heap[k]? = some (Obj.cells cur T fz) -> (T = 67 ∨ T = 9) -> w'.heap[k]? = w.heap[k]?) : RdP w' B P Ps :=
 ⟨h.1, fun j a b => ⟨(h.2 j a b).1, (h.2 j a b).2.keptB hk⟩⟩
theorem RdP.low {w : World} {B B' : Nat} {P : List (Value × Bool)} {Ps : List (List Ru × Bool)} (h : RdP w B P Ps) (hb : B' <= B) : RdP w B' P Ps :=
 ⟨h.1, fun j a b => ⟨(h.2 j a b).1, (h.2 j a b).2.low hb⟩⟩
theorem RdP.one {w : World} {B : Nat} {v : Value} {L : List Ru} {b : Bool} (h : OnR w B v L) : RdP w B [(v, b)] [(L, b)] := by
 refine ⟨rfl, fun j h1 h2 => ?_⟩
 obtain rfl : j = 0 := by simp at h1; omega
 exact ⟨rfl, h⟩
def PlAt (w : World) (v : Value) (Ps : List (List Ru × Bool)) : Prop :=
 ∃ a cap, v = .slice a Ps.length cap /\ Ps.length <= cap /\ cap <= maxLen /\ ∀ j (hj : j < Ps.length), ∃ b off ua uc, a = some ⟨b, off, none⟩ /\ w.cell? ⟨b, off + j * 2, none⟩ = some (.slice ua Ps[j].1.length uc) /\ w.cell? ⟨b, off + j * 2 + 1, none⟩ = some (.bool Ps[j].2) /\ PoAt w (.slice ua Ps[j].1.length uc) Ps[j].1
theorem PlAt.kept {w w' : World} {v : Value} {Ps : List (List Ru × Bool)} (h : PlAt w v Ps) (hb : Below w.heap.size w w') : PlAt w' v Ps := by
 obtain ⟨a, cap, h1, h2, h3, h4⟩ := h
 refine ⟨a, cap, h1, h2, h3, fun j hj => ?_⟩
 obtain ⟨b, off, ua, uc, e, c1, c2, c3⟩ := h4 j hj
 exact ⟨b, off, ua, uc, e, kept_cell c1 hb, kept_cell c2 hb, c3.kept hb⟩
theorem own_pl {w : World} {B B' : Nat} {v : Value} {P : List (Value × Bool)} {Ps : List (List Ru × Bool)} (h : w.ownsRow B 24 2 v Ps.length (cellsP P)) (hr : RdP w B' P Ps) : PlAt w v Ps := by
 rcases h.2 with ⟨hv, hn⟩ | ⟨g, cap, cur, rfl, hg, hrow, hnc, hcm, hcs, htake⟩
 ·obtain rfl := List.eq_nil_of_length_eq_zero hn
  exact ⟨none, 0, hv, Nat.le_refl _, by decide, fun j hj => by simp at hj⟩
 ·refine ⟨_, cap, rfl, hnc, hcm, fun j hj => ?_⟩
  have hjP : j < P.length := by rw [hr.1]; exact hj
  obtain ⟨e1, hon⟩ := hr.2 j hjP hj
  have hpo := hon.po
  obtain ⟨Q, hq, _⟩ := hon
  obtain ⟨ua, uc, hu, _, _⟩ := own_form10 hq
  refine ⟨g, 0, ua, uc, rfl, ?_, ?_, ?_⟩
  ·rw [Nat.zero_add, h.cellAt _ (by omega), (cellsP_at P j hjP).1, hu]
  ·rw [Nat.zero_add, h.cellAt _ (by omega), (cellsP_at P j hjP).2, e1]
  ·rw [<- hu]; exact hpo
end Go.Proofs.YtooihpkoplgmbaaGreatDoor
