/- Walks and plain facts. -/
import Derived.Test.YtooihpkoplgmbaaGreatDoorQg31
import Derived.Test.YtooihpkoplgmbaaGreatDoorQg33
set_option linter.unusedSimpArgs false
set_option linter.unusedVariables false
set_option maxHeartbeats 16000000
set_option maxRecDepth 100000

namespace Go.Proofs.YtooihpkoplgmbaaGreatDoor
open Go.RowKit
theorem clone10 (v : Value) (L : List (List UInt8)) (w : World) (h : TxAt w v L) (hl : L.length <= 1000000) :
  Calls Tryz.prog 142 #[v] w (OwnT L w) := by
 obtain ⟨a, cap, rfl, h1, h2, h3⟩ := h.view
 cases L with
 | nil =>
  cases a with
  | none =>
   refine (Tryz.slices_Clone_string_nil 0 cap w).mono ?_
   rintro e w' ⟨rfl, rfl⟩
   exact ⟨_, rfl, World.ownsRow_nil _ _ _ _, Below.refl _ _⟩
  | some a =>
   refine (Tryz.slices_Clone_string_zero a cap w).mono ?_
   rintro e w' ⟨v', rfl, hown, _, hb⟩
   exact ⟨v', rfl, hown, hb⟩
 | cons x t =>
  obtain ⟨b, off, rfl, _⟩ := h3 0 (by simp)
  refine (Tryz.slices_Clone_string b off (x :: t).length cap ((x :: t).map fun y => (⟨y.toArray⟩ : ByteArray)) w (by simp) (by omega) ?_).mono ?_
  ·intro j hj
   have hj' : j < (x :: t).length := by simpa using hj
   obtain ⟨b', off', e, hc⟩ := h3 j hj'
   injection e with e
   injection e with e1 e2
   subst e1 e2
   rw [hc]
   simp only [List.getD_eq_getElem?_getD, List.getElem?_map, List.getElem?_eq_getElem hj']
   rfl
  ·rintro e w' ⟨v', rfl, hown, _, hb⟩
   refine ⟨v', rfl, ?_, hb⟩
   have e : (((x :: t).map fun y => (⟨y.toArray⟩ : ByteArray)).take (x :: t).length).map Value.string = cellsT (x :: t) := by
    rw [List.take_of_length_le (by simp), List.map_map]; rfl
   rw [e] at hown
   exact hown
theorem idx_some (L : List Ru) (n : List UInt8) (h : ¬ (idxR L n < 0)) : ∃ (k : Nat) (hk : k < L.length), idxR L n = (k : Int) /\ L[k].name = n /\ findR L n = some L[k].vals := by
 unfold idxR at h ⊢
 cases hf : L.findIdx? fun r => decide (r.name = n) with
 | none => rw [hf] at h; exact absurd (by decide) h
 | some k =>
  rw [List.findIdx?_eq_some_iff_getElem] at hf
  obtain ⟨hk, h1, h2⟩ := hf
  refine ⟨k, hk, rfl, by simpa using h1, ?_⟩
  unfold findR
  have : L.find? (fun r => decide (r.name = n)) = some L[k] := by
   rw [List.find?_eq_some_iff_getElem]
   exact ⟨h1, k, hk, rfl, fun j hj => by simpa using h2 j hj⟩
  rw [this]
  rfl
theorem idx_none (L : List Ru) (n : List UInt8) (h : idxR L n < 0) : findR L n = none := by
 have h1 := idx_has L n
 rw [decide_eq_true h] at h1
 have h2 : hasR L n = false := by cases hh : hasR L n <;> simp [hh] at h1 ⊢
 unfold findR
 rw [List.find?_eq_none.2 ?_]
 ·rfl
 ·intro r hr
  unfold hasR at h2
  rw [List.any_eq_false] at h2
  exact h2 r hr
def ValPost (o : Option (List (List UInt8) × List UInt8)) (w : World) (e : Ending) (w' : World) : Prop :=
 match o with
 | none => e = .returned (.tuple #[.slice none 0 0, .string ⟨#[]⟩, .bool false]) /\ Below w.heap.size w w'
 | some x => ∃ u, e = .returned (.tuple #[u, .string ⟨x.2.toArray⟩, .bool true]) /\ w'.ownsRow w.heap.size 9 1 u x.1.length (cellsT x.1) /\ Below w.heap.size w w'
theorem ask_drop {L : List Ru} {C : List (List UInt8)} {k : Nat} (hk : k < C.length) : askV L (C.drop k) = match findR L C[k] with | some v => some (v, C[k]) | none => askV L (C.drop (k + 1)) := by
 rw [List.drop_eq_getElem_cons hk]; rfl
theorem ite_len10 {c : Prop} [Decidable c] {a b : List (List UInt8)} (h1 : a.length <= 4) (h2 : b.length <= 4) : (if c then a else b).length <= 4 := by
 split
 ·exact h1
 ·exact h2
theorem chainV_len (n : List UInt8) : (chainV n).length <= 4 := by
 unfold chainV
 repeat (refine ite_len10 (by decide) ?_)
 decide
theorem values10 (v : Value) (rp : Bool) (L : List Ru) (s : ByteArray) (w : World) (hv : PoAt w v L) (hl : L.length <= 1000) (hz : ∀ r ∈ L, r.vals.length <= 1000000) :
  Calls Tryz.prog 92 #[.agg #[v, .bool rp], .string s] w (ValPost (valsV L s.data.toList) w) := by
 obtain ⟨a1, c1, rfl, hc1, hm1, _⟩ := hv.view
 obtain ⟨n, hn⟩ : ∃ n, n = L.length := ⟨_, rfl⟩
 have HN := hid hn
 have HV := hid hv
 have HZ := hid hz
 obtain ⟨C, hC⟩ : ∃ C, C = chainV s.data.toList := ⟨_, rfl⟩
 have hC4 : C.length <= 4 := by rw [hC]; exact chainV_len _
 have HC := hid (fun X => chain10 s X)
 unfold OwnT at HC
 rw [<- hC] at HC
 have HGoal := hid (show valsV L s.data.toList = askV L (C.drop 0) by rw [hC]; rfl)
 obtain ⟨m, hm⟩ : ∃ m, m = C.length := ⟨_, rfl⟩
 have HM := hid hm
 rw [<- hm] at HC hC4
 rw [<- hn] at hl hc1 HV ⊢
 have hb0 := (Below.refl _ w).alloc (Nat.le_refl _) (.cells #[.slice a1 n c1, .bool rp] 24)
 have HB0 := hid hb0
 have hp0 := heap_alloc_new w (.cells #[.slice a1 n c1, .bool rp] 24)
 have HP0 := hid hp0
 clear hn hv hz hC hm hb0 hp0
 go_enter Tryz.func92, Tryz.ntmps92
 go_wp2_with fail
 refine (HC.out _).mono ?_
 rintro e w1 ⟨vc, rfl, hown, hb1⟩
 obtain ⟨ac, cc, rfl, hcc, hcm⟩ := own_form10 hown
 have HCA := hid (own_txt' (L := C) (by rw [<- HM.out]; exact hown))
 have HB1 := hid (below2 HB0.out hb1)
 have HP1 := hid (row_kept HP0.out hb1)
 clear hown hb1 HC HP0 HB0
 go_wp2_with fail
 go_loopw [13] (fun v13 wr => ∃ k : Nat, k <= m /\ v13 = .int .i64 k /\ Hid (valsV L s.data.toList = askV L (C.drop k) /\ Below w1.heap.size w1 wr)) (fun v13 _ => m - (intOf v13).toNat)
 case atStart => exact ⟨0, Nat.zero_le _, rfl, HGoal.out, Below.refl _ _⟩
 case round =>
  clear HGoal
  obtain ⟨k, hk, rfl, HR⟩ := hrel
  have HBR := hid (below2 HB1.out HR.out.2)
  have HPR := hid (row_kept HP1.out HR.out.2)
  have p0 : wr.cell? ⟨w.heap.size, 0, none⟩ = some (.slice a1 n c1) := by rw [Lib.cell_of_heap HPR.out]; rfl
  have p1 : wr.cell? ⟨w.heap.size, 1, none⟩ = some (.bool rp) := by rw [Lib.cell_of_heap HPR.out]; rfl
  by_cases hlt : k < m
  ·have hkC : k < C.length := by have := HM.out; omega
   obtain ⟨ac', cc', eac, q1, q2, hcell⟩ := HCA.out.view
   injection eac with eac1 eac2 eac3
   clear eac2 eac3
   subst eac1
   obtain ⟨bc, oc, rfl, hcl⟩ := hcell k hkC
   obtain ⟨A, hA⟩ : ∃ A : ByteArray, A = ⟨C[k].toArray⟩ := ⟨_, rfl⟩
   rw [<- hA] at hcl
   have HAL := hid (show ∃ h : k < C.length, A.data.toList = C[k] from ⟨hkC, by rw [hA]⟩)
   have q0 := kept_cell hcl HR.out.2
   have HPL := hid (place10 (.slice a1 n c1) rp L A wr (HV.out.kept HBR.out) (by have := HN.out; omega))
   obtain ⟨ix, hix⟩ : ∃ ix, ix = idxR L A.data.toList := ⟨_, rfl⟩
   have HIX := hid hix
   rw [<- hix] at HPL
   have hin : (k : Int) < (m : Int) := by omega
   clear hcl hcell hkC hA hix q1 q2
   go_wp2_with fail
   refine HPL.out.mono ?_
   rintro e w4 ⟨rfl, hb4⟩
   have HB4 := hid hb4
   clear hb4 HPL
   by_cases hneg : ix < 0
   ·have HS := hid (show valsV L s.data.toList = askV L (C.drop (k + 1)) /\ Below w1.heap.size w1 w4 by
     refine ⟨?_, below2 HR.out.2 HB4.out⟩
     obtain ⟨h, ha⟩ := HAL.out
     rw [HR.out.1, ask_drop h, <- ha, idx_none L _ (by rw [<- HIX.out]; exact hneg)])
    have hng : ¬ (0 <= ix) := by omega
    clear p0 p1 q0
    go_wp2_with fail
    go_roundw
    case rel =>
     first
      | exact ⟨k + 1, by omega, by go_num, HS.out⟩
      | ((repeat apply Exists.intro); refine ⟨?_, rfl⟩; exact ⟨k + 1, by omega, by go_num, HS.out⟩)
      | ((repeat apply Exists.intro); exact ⟨⟨k + 1, by omega, by go_num, HS.out⟩, rfl⟩)
    case measure => simp [intOf]; omega
   ·obtain ⟨j, hj, hje, hjn, hjf⟩ := idx_some L A.data.toList (by rw [<- HIX.out]; exact hneg)
    have hixj : ix = (j : Int) := by rw [HIX.out]; exact hje
    have hjn2 : j < n := by have := HN.out; omega
    have HVL := hid (show valsV L s.data.toList = some (L[j].vals, A.data.toList) by
     obtain ⟨h, ha⟩ := HAL.out
     rw [HR.out.1, ask_drop h, <- ha, hjf])
    obtain ⟨a', c', ea, q3, q4, hvw⟩ := HV.out.view
    injection ea with ea1 ea2 ea3
    clear ea2 ea3
    subst ea1
    obtain ⟨b, off, u, rfl, q6, hu, htx⟩ := hvw j hj
    clear q6
    have HTX := hid htx
    obtain ⟨ua, uc, rfl, q5⟩ := htx
    clear q3 q4 q5
    obtain ⟨un, hun⟩ : ∃ un, un = L[j].vals.length := ⟨_, rfl⟩
    rw [<- hun] at hu HTX
    have HB4W := hid (below2 HBR.out HB4.out)
    have u0 := kept_cell hu HB4W.out
    have g0 := kept_cell p0 HB4.out
    have HCL := hid (clone10 (.slice ua un uc) L[j].vals w4 (HTX.out.kept HB4W.out) (HZ.out _ (List.getElem_mem hj)))
    unfold OwnT at HCL
    obtain ⟨Lv, hLv⟩ : ∃ Lv, Lv = L[j].vals := ⟨_, rfl⟩
    rw [<- hLv] at HCL HVL
    have hge : (0 : Int) <= ix := by omega
    have hjI : (j : Int) < (n : Int) := by omega
    subst hixj
    clear hneg hje hjn hjf hvw hu hun hLv p0 p1 q0 HTX hj hge
    go_wp2_with fail
    refine HCL.out.mono ?_
    rintro e w5 ⟨u5, rfl, hown5, hb5⟩
    have HF := hid (show w5.ownsRow w.heap.size 9 1 u5 Lv.length (cellsT Lv) /\ Below w.heap.size w w5 from ⟨own_low10 hown5 HB4W.out.size, below2 HB4W.out hb5⟩)
    clear hown5 hb5 HCL
    go_wp2_with fail
    go_ret3
    rw [HVL.out]
    refine ⟨u5, ?_, HF.out.1, HF.out.2⟩
    show _ = Ending.returned (.tuple #[u5, .string ⟨A.data.toList.toArray⟩, .bool true])
    rw [Lib.mk_data]
    rfl
  ·obtain rfl : k = m := by omega
   have HVL := hid (show valsV L s.data.toList = none by
    rw [HR.out.1, List.drop_eq_nil_of_le (by have := HM.out; omega)]; rfl)
   clear hk hlt p0 p1
   go_wp2_with fail
   go_ret3
   rw [HVL.out]
   exact ⟨rfl, HBR.out⟩
def StOk (u : Adr) : Prop := Fine u /\ TrOk u
theorem slim_st {u : Adr} (h : Slim 20000 u) : StOk u := ⟨h.fine (by omega), slim_tr h⟩
theorem st_zero : StOk Adr.zero := ⟨⟨.inr ⟨by decide, by decide⟩, ⟨by decide, by decide, by decide, by decide⟩, ⟨by decide, by decide, by decide⟩, by decide, by decide⟩, by decide, by decide, by decide⟩
theorem st_read (s : List UInt8) : StOk (adrOf (readV s none)) := by
 cases hr : readV s none with
 | ok v => exact slim_st (parse_slim hr)
 | error e => exact st_zero
structure GuU (u : Adr) : Prop where
 tl : TlOk u
 sz : Sized11 u
theorem inn_fine (u : Adr) : Fine (innV u) := by
 unfold innV
 split
 ·exact (st_read _).1
 ·exact st_zero.1
theorem own_port12 (s : List UInt8) (h : specV s = true) : 0 <= ownV s /\ ownV s <= 65535 := by
 have h1 : 0 <= ownV s := by unfold specV at h; simpa using h
 refine ⟨h1, ?_⟩
 unfold ownV
 repeat' split
 all_goals omega
theorem fine_tl {u : Adr} (h : Fine u) (ht : TrOk u) : TlOk u := by
 have ha : Fine (orgA u) := by
  unfold orgA
  split
  ·exact inn_fine u
  ·exact h
 refine ⟨ht, ⟨h.1, ⟨h.2.1.1, by simp [bareU], by simp [bareU], h.2.1.2.2.2⟩, h.2.2.1, h.2.2.2.1, h.2.2.2.2⟩, ?_, ?_, ?_⟩
 ·unfold orgV
  split
  ·exact ha.2.1.1
  ·decide
 ·unfold orgV
  split
  ·exact ha.2.1.2.2.2
  ·decide
 ·unfold orgV
  split
  ·rename_i hs
   intro _
   show 0 <= hasP (orgA u) /\ hasP (orgA u) <= 65535
   have := own_port12 _ hs
   unfold hasP
   split
   ·exact this
   ·rcases ha.1 with h1 | h1
    ·rename_i hn; exact absurd h1 hn
    ·exact h1
  ·intro h; cases h
theorem slim_gu {u : Adr} (h : Slim 20000 u) : GuU u := by
 refine ⟨fine_tl (slim_st h).1 (slim_st h).2, ?_⟩
 obtain ⟨h1, h2, h3, h4, h5, h6, h7, h8⟩ := h
 have a1 := slL_len u.path
 have a2 := slL_flat u.path
 refine ⟨by omega, fun x hx => ?_⟩
 have : x.length <= u.path.flatten.length := by
  obtain ⟨a, b, e⟩ := List.append_of_mem hx
  rw [e]; simp; omega
 omega
theorem gu_zero : GuU Adr.zero := ⟨fine_tl st_zero.1 st_zero.2, by decide, fun x hx => by cases hx⟩
theorem gu_read (s : List UInt8) : GuU (adrOf (readV s none)) := by
 cases hr : readV s none with
 | ok v => exact slim_gu (parse_slim hr)
 | error e => exact gu_zero
theorem GuU.at {w : World} {u : Adr} {pv : Value} (h : GuU u) (hp : PathAt w pv u.path) : UrlAt w u pv := ⟨hp, h.tl.tr.1, h.tl.tr.2.1⟩
def SzL (L : List Ru) : Prop := L.length <= 1000 /\ ∀ r ∈ L, r.vals.length <= 1000000 /\ ∀ x ∈ r.vals, x.length <= 1000000
theorem SzL.asked {L : List Ru} (h : SzL L) {C : List (List UInt8)} {x : List (List UInt8) × List UInt8} (hx : askV L C = some x) : x.1.length <= 1000000 /\ ∀ y ∈ x.1, y.length <= 1000000 := by
 induction C with
 | nil => cases hx
 | cons c C ih =>
  unfold askV at hx
  cases hf : findR L c with
  | none => rw [hf] at hx; exact ih hx
  | some v =>
   rw [hf] at hx
   injection hx with hx
   subst hx
   unfold findR at hf
   obtain ⟨r, hr, e⟩ := Option.map_eq_some_iff.1 hf
   subst e
   exact h.2 r (List.mem_of_find?_eq_some hr)
def brkO (u p : Adr) (hops : Int) (n m : List UInt8) : Option (List (List UInt8) × List UInt8) -> Option (List UInt8)
 | none => none
 | some x => if x.1.any (oneV u p hops) || namedV x.1 n m then none else some x.2
def brkV (L : List Ru) (u p : Adr) (dt hops : Int) (n m : List UInt8) : Option (List UInt8) := brkO u p hops n m (valsV L (forV dt))
theorem brkO_some (u p : Adr) (hops : Int) (n m : List UInt8) (xs : List (List UInt8)) (nm : List UInt8) (q : Bool) (h : (xs.any (oneV u p hops) || namedV xs n m) = q) : brkO u p hops n m (some (xs, nm)) = if q then none else some nm := by
 show (if (xs.any (oneV u p hops) || namedV xs n m) = true then none else some nm) = _
 rw [h]
def brkA (L : List Ru) (a : AskR) : Option (List UInt8) := brkV L a.url a.page a.dest a.hops a.nonce.data.toList a.data.data.toList
def BrPost (o : Option (List UInt8)) (w : World) (e : Ending) (w' : World) : Prop := e = .returned (.tuple #[.string ⟨(o.getD []).toArray⟩, .bool o.isSome]) /\ Below w.heap.size w w'
structure AkOk (a : AskR) : Prop where
 gp : GuU a.page
 gu : GuU a.url
 nn : a.nonce.size <= 1000000
 mm : a.data.size <= 1000000
theorem ask_page_rg {w : World} {b : Nat} {a : AskR} (h : w.heap[b]? = some (.cells (askCells a).toArray 33 (0, 0))) : w.rangeAt b 0 (adrCells a.page a.pv) := fun j u hu => by
 refine range_row (cs := askCells a) h j u ?_
 unfold askCells
 rw [List.getElem?_append_left (List.getElem?_eq_some_iff.1 hu).1]
 exact hu
theorem ask_url_rg {w : World} {b : Nat} {a : AskR} (h : w.heap[b]? = some (.cells (askCells a).toArray 33 (0, 0))) : w.rangeAt b 12 (adrCells a.url a.uv) := fun j u hu => by
 have h2 := range_row (cs := askCells a) h (12 + j) u (by
  unfold askCells
  have e : (adrCells a.page a.pv).length = 12 := rfl
  rw [List.getElem?_append_right (by omega), e, Nat.add_sub_cancel_left, List.getElem?_append_left (List.getElem?_eq_some_iff.1 hu).1]
  exact hu)
 rw [Nat.zero_add] at h2
 exact h2
theorem ask_last {w : World} {b : Nat} {a : AskR} (h : w.heap[b]? = some (.cells (askCells a).toArray 33 (0, 0))) : w.cell? ⟨b, 24, none⟩ = some (.int .i64 a.dest) /\ w.cell? ⟨b, 25, none⟩ = some (.int .i64 a.hops) /\ w.cell? ⟨b, 26, none⟩ = some (.string a.nonce) /\ w.cell? ⟨b, 27, none⟩ = some (.string a.data) := by
 have key : ∀ j u, [(.int .i64 a.dest : Value), .int .i64 a.hops, .string a.nonce, .string a.data][j]? = some u -> w.cell? ⟨b, 24 + j, none⟩ = some u := fun j u hu => by
  have h2 := range_row (cs := askCells a) h (24 + j) u (by
   unfold askCells
   have e : (adrCells a.page a.pv).length = 12 := rfl
   have e2 : (adrCells a.url a.uv).length = 12 := rfl
   rw [List.getElem?_append_right (by omega), e, List.getElem?_append_right (by omega), e2, show 24 + j - 12 - 12 = j by omega]
   exact hu)
  rw [Nat.zero_add] at h2
  exact h2
 exact ⟨key 0 _ rfl, key 1 _ rfl, key 2 _ rfl, key 3 _ rfl⟩
theorem sizePo12 : (Tryz.prog.info? 24).map (·.size) = some 2 := by kernel_rfl
theorem load_mid_g12 {P : Program} {ops : Array Oper} {rest : List Oper} {op : Oper} {a : Act} {w : World} {Q : Exit -> Act -> World -> Prop} (hw : Region.wanted op (yielded ops a.tmps) = true) (ty : TypeId) (x : Operand) (ho : op.op = .load ty x)
  (b o : Nat) (hx : a.eval x = .pointer (some ⟨b, o, none⟩)) (cs : List Value) (d : TypeDesc) (hc : w.rangeAt b o cs)
  (hu : P.underlying ty = some d) (hd : d.isRow = true) (hi : (P.info? ty).map (·.size) = some cs.length)
  (h : wpList P ops Q rest (a.put op.dst (.agg cs.toArray)) w) : wpList P ops Q (op :: rest) a w :=
 wpList_step fun K hK => by
  rw [if_pos hw]
  exact wp_load_mid ty x ho b o hx cs d hc hu hd hi (hK _ _ h)
theorem breaks12_any (v : Value) (rp : Bool) (L : List Ru) (a : AskR) (w : World) (hg : Gd w) (hv : PoAt w v L) (hz : SzL L) (ha : AskAt w a) (hk : AkOk a) :
  Calls Tryz.prog 65 #[.agg #[v, .bool rp], askVal a] w (BrPost (brkA L a) w) := by
 obtain ⟨va, vc, rfl, _, _, _⟩ := hv.view
 obtain ⟨page, pv, url, uv, dt, hp, nn, mm⟩ := a
 obtain ⟨hp1, hp2⟩ := ha
 obtain ⟨kp, ku, kn, km⟩ := hk
 dsimp only at hp1 hp2 kp ku kn km
 obtain ⟨pa, pn, pc, rfl⟩ := path_sl hp1
 obtain ⟨ua, un, uc, rfl⟩ := path_sl hp2
 have HV := hid (fun (F : ByteArray) (Z : World) (hZ : Below w.heap.size w Z) => values10 (.slice va L.length vc) rp L F Z (hv.kept hZ) hz.1 (fun r hr => (hz.2 r hr).1))
 have HF : Hid (∀ Z : World, Calls Tryz.prog 93 #[.int .i64 dt] Z fun e w' => e = .returned (.string ⟨(forV dt).toArray⟩) /\ Below Z.heap.size Z w') := fun Z => (for10 dt Z).mono fun e w' h => ⟨h.1, by rw [<- h.2]; exact Below.refl _ _⟩
 have HAs := hid (fun (x : List (List UInt8) × List UInt8) (hx : valsV L (forV dt) = some x) => hz.asked (C := chainV (forV dt)) hx)
 have HAn := hid (fun (x : List (List UInt8) × List UInt8) (v2 : Value) (Z : World) (hZ : Below w.heap.size w Z) (h2 : TxAt Z v2 x.1) (h3 : x.1.length <= 1000000 /\ ∀ y ∈ x.1, y.length <= 1000000) => any11_any v2 x.1 url page (.slice ua un uc) (.slice pa pn pc) hp nn mm Z (hg.kept hZ) (ku.at (hp2.kept hZ)) (kp.at (hp1.kept hZ)) ku.sz h2 h3.1 h3.2 kn km)
 obtain ⟨N, hN⟩ : ∃ N, L.length = N := ⟨_, rfl⟩
 rw [hN] at HV ⊢
 obtain ⟨FB, hFB⟩ : ∃ B : ByteArray, ⟨(forV dt).toArray⟩ = B := ⟨_, rfl⟩
 have HV2 := HV.out FB
 rw [show FB.data.toList = forV dt by rw [<- hFB]] at HV2
 rw [hFB] at HF
 obtain ⟨r, hr⟩ : ∃ r, valsV L (forV dt) = r := ⟨_, rfl⟩
 rw [hr] at HV2
 have HVr := hid HV2
 have HRr := hid hr
 rw [show brkA L ⟨page, .slice pa pn pc, url, .slice ua un uc, dt, hp, nn, mm⟩ = brkO url page hp nn.data.toList mm.data.toList r by rw [<- hr]; rfl]
 obtain ⟨p0, p1, p2, p3, p4, p5, p6, p8, p9, p10, p11, hxp⟩ := adr_cells page pa pn pc
 obtain ⟨u0, u1, u2, u3, u4, u5, u6, u8, u9, u10, u11, hxu⟩ := adr_cells url ua un uc
 have hxa : askCells ⟨page, .slice pa pn pc, url, .slice ua un uc, dt, hp, nn, mm⟩ = [.string p0, .string p1, .string p2, .string p3, .bool p4, .int .i64 p5, .bool p6, .slice pa pn pc, .string p8, .string p9, .bool p10, .bool p11, .string u0, .string u1, .string u2, .string u3, .bool u4, .int .i64 u5, .bool u6, .slice ua un uc, .string u8, .string u9, .bool u10, .bool u11, .int .i64 dt, .int .i64 hp, .string nn, .string mm] := by
  unfold askCells; dsimp only; rw [hxp, hxu]; rfl
 have hva : askVal ⟨page, .slice pa pn pc, url, .slice ua un uc, dt, hp, nn, mm⟩ = .agg #[.string p0, .string p1, .string p2, .string p3, .bool p4, .int .i64 p5, .bool p6, .slice pa pn pc, .string p8, .string p9, .bool p10, .bool p11, .string u0, .string u1, .string u2, .string u3, .bool u4, .int .i64 u5, .bool u6, .slice ua un uc, .string u8, .string u9, .bool u10, .bool u11, .int .i64 dt, .int .i64 hp, .string nn, .string mm] := by unfold askVal; rw [hxa]
 have hvp : adrVal page (.slice pa pn pc) = .agg #[.string p0, .string p1, .string p2, .string p3, .bool p4, .int .i64 p5, .bool p6, .slice pa pn pc, .string p8, .string p9, .bool p10, .bool p11] := by unfold adrVal; rw [hxp]
 have hvu : adrVal url (.slice ua un uc) = .agg #[.string u0, .string u1, .string u2, .string u3, .bool u4, .int .i64 u5, .bool u6, .slice ua un uc, .string u8, .string u9, .bool u10, .bool u11] := by unfold adrVal; rw [hxu]
 rw [hva]
 obtain ⟨W1, hW1⟩ : ∃ X, (w.alloc (.cells #[.slice va N vc, .bool rp] 24)) = X := ⟨_, rfl⟩
 have hb1 : Below w.heap.size w W1 := by rw [<- hW1]; exact (Below.refl _ w).alloc (Nat.le_refl _) _
 have hs1 : W1.heap.size = w.heap.size + 1 := by rw [<- hW1]; simp
 have hr1 : W1.heap[w.heap.size]? = some (.cells ([.slice va N vc, .bool rp] : List Value).toArray 24 (0, 0)) := by rw [<- hW1]; exact heap_alloc_new w _
 obtain ⟨W2, hW2⟩ : ∃ X, (W1.alloc (.cells #[.string p0, .string p1, .string p2, .string p3, .bool p4, .int .i64 p5, .bool p6, .slice pa pn pc, .string p8, .string p9, .bool p10, .bool p11, .string u0, .string u1, .string u2, .string u3, .bool u4, .int .i64 u5, .bool u6, .slice ua un uc, .string u8, .string u9, .bool u10, .bool u11, .int .i64 dt, .int .i64 hp, .string nn, .string mm] 33)) = X := ⟨_, rfl⟩
 have hb2 : Below W1.heap.size W1 W2 := by rw [<- hW2]; exact (Below.refl _ W1).alloc (Nat.le_refl _) _
 have hr2 : W2.heap[W1.heap.size]? = some (.cells (askCells ⟨page, .slice pa pn pc, url, .slice ua un uc, dt, hp, nn, mm⟩).toArray 33 (0, 0)) := by rw [hxa, <- hW2]; exact heap_alloc_new W1 _
 have HB2 := hid (below2 hb1 hb2)
 have HRp := hid (fun (Z : World) (hZ : Below W2.heap.size W2 Z) => range_row (cs := [.slice va N vc, .bool rp]) (row_kept (row_kept hr1 hb2) hZ))
 have HKF := hid (fun (Z : World) (hZ : Below W2.heap.size W2 Z) => (ask_last (row_kept hr2 hZ)))
 have HRg := hid (show ∀ Z, Below W2.heap.size W2 Z -> Z.rangeAt W1.heap.size 0 [.string p0, .string p1, .string p2, .string p3, .bool p4, .int .i64 p5, .bool p6, .slice pa pn pc, .string p8, .string p9, .bool p10, .bool p11] from fun Z hZ => by
  have := ask_page_rg (row_kept hr2 hZ)
  dsimp only at this
  rw [hxp] at this
  exact this)
 have HRu := hid (show ∀ Z, Below W2.heap.size W2 Z -> Z.rangeAt W1.heap.size 12 [.string u0, .string u1, .string u2, .string u3, .bool u4, .int .i64 u5, .bool u6, .slice ua un uc, .string u8, .string u9, .bool u10, .bool u11] from fun Z hZ => by
  have := ask_url_rg (row_kept hr2 hZ)
  dsimp only at this
  rw [hxu] at this
  exact this)
 rw [hvu, hvp] at HAn
 have HQ0 := hid ((Below.refl W2.heap.size W2).drew)
 clear HV HV2 hr hp1 hp2 kp ku kn km hxp hxu hxa hva hvp hvu hb1 hs1 hr1 hb2 hr2 hN hFB hg hv hz
 cases r with
 | none =>
  unfold ValPost at HVr
  clear HAn HAs
  go_enter Tryz.func65, Tryz.ntmps65
  go_upto_region 1 with fail
  refine wp_region_held_drew (S := (fun wx => Below W2.heap.size W2 wx)) (by kernel_rfl) HQ0.out (fun hHeld => ?_)
  refine wpAnyH_to (fuel' := 12) (listed' := #[false, false, false, false, false, false, false, false, false, false, false, false]) rfl rfl ?_
  refine wpAnyH_take (i := 0) (oi := ⟨some 10, _, _, _, _, _⟩) rfl (by kernel_rfl) (by kernel_rfl) (by kernel_rfl) (fun _ _ _ h => h) (yieldsIf_load_mid (by kernel_rfl) 24 (.tmp 2) rfl (w.heap.size) 0 rfl [.slice va N vc, .bool rp] _ (HRp.out) Tryz.underlying24 rfl sizePo12) (by assumption) ?_
  (try simp only [Act.put, List.setIfInBounds_toArray, List.set_cons_zero, List.set_cons_succ])
  refine' wpAnyH_take (i := 1) (oi := ⟨some 11, _, _, _, _, _⟩) (v := _) rfl (by kernel_rfl) (by kernel_rfl) (by kernel_rfl) (fun _ _ _ h => h) (Or.inl ⟨by kernel_rfl, ?hyga1⟩) (by assumption) ?restga1
  case hyga1 => (intro wx hSw; (try dsimp only at hSw); obtain ⟨f1, f2, f3, f4⟩ := HKF.out _ hSw; go_simp; first | done | with_reducible rfl)
  (try simp only [Act.put, List.setIfInBounds_toArray, List.set_cons_zero, List.set_cons_succ])
  refine' wpAnyH_take (i := 2) (oi := ⟨some 12, _, _, _, _, _⟩) (v := _) rfl (by kernel_rfl) (by kernel_rfl) (by kernel_rfl) (fun _ _ _ h => h) (Or.inl ⟨by kernel_rfl, ?hyga2⟩) (by assumption) ?restga2
  case hyga2 => (intro wx hSw; (try dsimp only at hSw); obtain ⟨f1, f2, f3, f4⟩ := HKF.out _ hSw; go_simp; first | done | with_reducible rfl)
  (try simp only [Act.put, List.setIfInBounds_toArray, List.set_cons_zero, List.set_cons_succ])
  refine wpAnyH_ready (rs := [3]) (by kernel_rfl) (by simp) ?_
  refine AllReadyH.cons rfl (fun K9 hK => ?_) AllReadyH.nil
  rw [if_pos (by kernel_rfl)]
  go_simp
  go_wp2_with (go_at_call 93; refine (HF.out _).mono ?_; rintro e w3 ⟨rfl, hba⟩)
  have HQ3 := hid (below2 HQ0.out hba)
  clear hba
  refine hK.out _ _ HQ3.out (fun hHeld2 => ?_)
  clear hK K9 hHeld
  rename _ => hHeld
  refine wpAnyH_ready (rs := [4]) (by kernel_rfl) (by simp) ?_
  refine AllReadyH.cons rfl (fun K9 hK => ?_) AllReadyH.nil
  rw [if_pos (by kernel_rfl)]
  go_simp
  go_wp2_with (go_at_call 92; refine (HVr.out _ (below2 HB2.out HQ3.out)).mono ?_; rintro e w4 ⟨rfl, hba⟩)
  have HQ4 := hid (below2 HQ3.out hba)
  clear hba
  refine hK.out _ _ HQ4.out (fun hHeld2 => ?_)
  clear hK K9 hHeld
  rename _ => hHeld
  refine' wpAnyH_take (i := 5) (oi := ⟨some 9, _, _, _, _, _⟩) (v := _) rfl (by kernel_rfl) (by kernel_rfl) (by kernel_rfl) (fun _ _ _ h => h) (Or.inl ⟨by kernel_rfl, ?hyga3⟩) (by assumption) ?restga3
  case hyga3 => (intro wx hSw; (try dsimp only at hSw); obtain ⟨f1, f2, f3, f4⟩ := HKF.out _ hSw; go_simp; first | done | with_reducible rfl)
  (try simp only [Act.put, List.setIfInBounds_toArray, List.set_cons_zero, List.set_cons_succ])
  refine' wpAnyH_take (i := 6) (oi := ⟨some 15, _, _, _, _, _⟩) (v := _) rfl (by kernel_rfl) (by kernel_rfl) (by kernel_rfl) (fun _ _ _ h => h) (Or.inl ⟨by kernel_rfl, ?hyga4⟩) (by assumption) ?restga4
  case hyga4 => (intro wx hSw; (try dsimp only at hSw); obtain ⟨f1, f2, f3, f4⟩ := HKF.out _ hSw; go_simp; first | done | with_reducible rfl)
  (try simp only [Act.put, List.setIfInBounds_toArray, List.set_cons_zero, List.set_cons_succ])
  refine' wpAnyH_take (i := 7) (oi := ⟨some 16, _, _, _, _, _⟩) (v := _) rfl (by kernel_rfl) (by kernel_rfl) (by kernel_rfl) (fun _ _ _ h => h) (Or.inl ⟨by kernel_rfl, ?hyga5⟩) (by assumption) ?restga5
  case hyga5 => (intro wx hSw; (try dsimp only at hSw); obtain ⟨f1, f2, f3, f4⟩ := HKF.out _ hSw; go_simp; first | done | with_reducible rfl)
  (try simp only [Act.put, List.setIfInBounds_toArray, List.set_cons_zero, List.set_cons_succ])
  refine' wpAnyH_take (i := 8) (oi := ⟨some 17, _, _, _, _, _⟩) (v := _) rfl (by kernel_rfl) (by kernel_rfl) (by kernel_rfl) (fun _ _ _ h => h) (Or.inl ⟨by kernel_rfl, ?hyga6⟩) (by assumption) ?restga6
  case hyga6 => (intro wx hSw; (try dsimp only at hSw); obtain ⟨f1, f2, f3, f4⟩ := HKF.out _ hSw; go_simp; first | done | with_reducible rfl)
  (try simp only [Act.put, List.setIfInBounds_toArray, List.set_cons_zero, List.set_cons_succ])
  refine' wpAnyH_take (i := 9) (oi := ⟨some 6, _, _, _, _, _⟩) (v := _) rfl (by kernel_rfl) (by kernel_rfl) (by kernel_rfl) (fun _ _ _ h => h) (Or.inl ⟨by kernel_rfl, ?hyga7⟩) (by assumption) ?restga7
  case hyga7 => (intro wx hSw; (try dsimp only at hSw); obtain ⟨f1, f2, f3, f4⟩ := HKF.out _ hSw; go_simp; first | done | with_reducible rfl)
  (try simp only [Act.put, List.setIfInBounds_toArray, List.set_cons_zero, List.set_cons_succ])
  refine' wpAnyH_take (i := 10) (oi := ⟨some 7, _, _, _, _, _⟩) (v := _) rfl (by kernel_rfl) (by kernel_rfl) (by kernel_rfl) (fun _ _ _ h => h) (Or.inl ⟨by kernel_rfl, ?hyga8⟩) (by assumption) ?restga8
  case hyga8 => (intro wx hSw; (try dsimp only at hSw); obtain ⟨f1, f2, f3, f4⟩ := HKF.out _ hSw; go_simp; first | done | with_reducible rfl)
  (try simp only [Act.put, List.setIfInBounds_toArray, List.set_cons_zero, List.set_cons_succ])
  refine' wpAnyH_take (i := 11) (oi := ⟨some 8, _, _, _, _, _⟩) (v := _) rfl (by kernel_rfl) (by kernel_rfl) (by kernel_rfl) (fun _ _ _ h => h) (Or.inl ⟨by kernel_rfl, ?hyga9⟩) (by assumption) ?restga9
  case hyga9 => (intro wx hSw; (try dsimp only at hSw); obtain ⟨f1, f2, f3, f4⟩ := HKF.out _ hSw; go_simp; first | done | with_reducible rfl)
  (try simp only [Act.put, List.setIfInBounds_toArray, List.set_cons_zero, List.set_cons_succ])
  refine wpAnyH_done (by kernel_rfl) ?_ _
  go_wp2
  go_ret2
  exact ⟨rfl, below2 HB2.out HQ4.out⟩
 | some x =>
  have HA3 := hid (HAs.out x HRr.out)
  obtain ⟨xs, nm⟩ := x
  obtain ⟨NM, hNM⟩ : ∃ B : ByteArray, ⟨nm.toArray⟩ = B := ⟨_, rfl⟩
  have HNM := hid hNM
  obtain ⟨k, hk⟩ : ∃ k, xs.length = k := ⟨_, rfl⟩
  have HK := hid hk
  have HVs := hid (show ∀ (Z : World), Below w.heap.size w Z -> Calls Tryz.prog 92 #[.agg #[.slice va N vc, .bool rp], .string FB] Z fun e w' => ∃ xa xc, e = .returned (.tuple #[.slice xa k xc, .string NM, .bool true]) /\ TxAt w' (.slice xa k xc) xs /\ Below Z.heap.size Z w' from fun Z hZ => (HVr.out Z hZ).mono fun e w' h => by
   obtain ⟨u2, rfl, h2, h3⟩ := h
   dsimp only at h2
   have h4 := own_txt' h2
   obtain ⟨xa, xc, rfl, h5⟩ := h4.view
   rw [hk] at h4 ⊢
   exact ⟨xa, xc, by dsimp only; rw [hNM], h4, h3⟩)
  clear HVr
  have HVr := HVs
  clear HVs HAs hk hNM
  obtain ⟨q, hq⟩ : ∃ q, (xs.any (oneV url page hp) || namedV xs nn.data.toList mm.data.toList) = q := ⟨_, rfl⟩
  have HAx := hid (fun (v2 : Value) (Z : World) (hZ : Below w.heap.size w Z) (h2 : TxAt Z v2 xs) => HAn.out (xs, nm) v2 Z hZ h2 HA3.out)
  dsimp only at HAx
  rw [hq] at HAx
  rw [brkO_some _ _ _ _ _ _ _ q hq]
  obtain ⟨RO, hRO⟩ : ∃ O, (if q = true then none else some nm) = O := ⟨_, rfl⟩
  rw [hRO]
  have HRO := hid hRO
  clear HAn hq hRO
  go_enter Tryz.func65, Tryz.ntmps65
  go_upto_region 1 with fail
  refine wp_region_held_drew (S := (fun wx => Below W2.heap.size W2 wx)) (by kernel_rfl) HQ0.out (fun hHeld => ?_)
  refine wpAnyH_to (fuel' := 12) (listed' := #[false, false, false, false, false, false, false, false, false, false, false, false]) rfl rfl ?_
  refine wpAnyH_take (i := 0) (oi := ⟨some 10, _, _, _, _, _⟩) rfl (by kernel_rfl) (by kernel_rfl) (by kernel_rfl) (fun _ _ _ h => h) (yieldsIf_load_mid (by kernel_rfl) 24 (.tmp 2) rfl (w.heap.size) 0 rfl [.slice va N vc, .bool rp] _ (HRp.out) Tryz.underlying24 rfl sizePo12) (by assumption) ?_
  (try simp only [Act.put, List.setIfInBounds_toArray, List.set_cons_zero, List.set_cons_succ])
  refine' wpAnyH_take (i := 1) (oi := ⟨some 11, _, _, _, _, _⟩) (v := _) rfl (by kernel_rfl) (by kernel_rfl) (by kernel_rfl) (fun _ _ _ h => h) (Or.inl ⟨by kernel_rfl, ?hygb1⟩) (by assumption) ?restgb1
  case hygb1 => (intro wx hSw; (try dsimp only at hSw); obtain ⟨f1, f2, f3, f4⟩ := HKF.out _ hSw; go_simp; first | done | with_reducible rfl)
  (try simp only [Act.put, List.setIfInBounds_toArray, List.set_cons_zero, List.set_cons_succ])
  refine' wpAnyH_take (i := 2) (oi := ⟨some 12, _, _, _, _, _⟩) (v := _) rfl (by kernel_rfl) (by kernel_rfl) (by kernel_rfl) (fun _ _ _ h => h) (Or.inl ⟨by kernel_rfl, ?hygb2⟩) (by assumption) ?restgb2
  case hygb2 => (intro wx hSw; (try dsimp only at hSw); obtain ⟨f1, f2, f3, f4⟩ := HKF.out _ hSw; go_simp; first | done | with_reducible rfl)
  (try simp only [Act.put, List.setIfInBounds_toArray, List.set_cons_zero, List.set_cons_succ])
  refine wpAnyH_ready (rs := [3]) (by kernel_rfl) (by simp) ?_
  refine AllReadyH.cons rfl (fun K9 hK => ?_) AllReadyH.nil
  rw [if_pos (by kernel_rfl)]
  go_simp
  go_wp2_with (go_at_call 93; refine (HF.out _).mono ?_; rintro e w3 ⟨rfl, hba⟩)
  have HQ3 := hid (below2 HQ0.out hba)
  clear hba
  refine hK.out _ _ HQ3.out (fun hHeld2 => ?_)
  clear hK K9 hHeld
  rename _ => hHeld
  refine wpAnyH_ready (rs := [4]) (by kernel_rfl) (by simp) ?_
  refine AllReadyH.cons rfl (fun K9 hK => ?_) AllReadyH.nil
  rw [if_pos (by kernel_rfl)]
  go_simp
  go_wp2_with (go_at_call 92; refine (HVr.out _ (below2 HB2.out HQ3.out)).mono ?_; rintro e w4 ⟨xa, xc, rfl, htx, hba⟩)
  have HQ4 := hid (below2 HQ3.out hba)
  have HTx := hid htx
  clear htx
  clear hba
  refine hK.out _ _ HQ4.out (fun hHeld2 => ?_)
  clear hK K9 hHeld
  rename _ => hHeld
  refine' wpAnyH_take (i := 5) (oi := ⟨some 9, _, _, _, _, _⟩) (v := _) rfl (by kernel_rfl) (by kernel_rfl) (by kernel_rfl) (fun _ _ _ h => h) (Or.inl ⟨by kernel_rfl, ?hygb3⟩) (by assumption) ?restgb3
  case hygb3 => (intro wx hSw; (try dsimp only at hSw); obtain ⟨f1, f2, f3, f4⟩ := HKF.out _ hSw; go_simp; first | done | with_reducible rfl)
  (try simp only [Act.put, List.setIfInBounds_toArray, List.set_cons_zero, List.set_cons_succ])
  refine' wpAnyH_take (i := 6) (oi := ⟨some 15, _, _, _, _, _⟩) (v := _) rfl (by kernel_rfl) (by kernel_rfl) (by kernel_rfl) (fun _ _ _ h => h) (Or.inl ⟨by kernel_rfl, ?hygb4⟩) (by assumption) ?restgb4
  case hygb4 => (intro wx hSw; (try dsimp only at hSw); obtain ⟨f1, f2, f3, f4⟩ := HKF.out _ hSw; go_simp; first | done | with_reducible rfl)
  (try simp only [Act.put, List.setIfInBounds_toArray, List.set_cons_zero, List.set_cons_succ])
  refine' wpAnyH_take (i := 7) (oi := ⟨some 16, _, _, _, _, _⟩) (v := _) rfl (by kernel_rfl) (by kernel_rfl) (by kernel_rfl) (fun _ _ _ h => h) (Or.inl ⟨by kernel_rfl, ?hygb5⟩) (by assumption) ?restgb5
  case hygb5 => (intro wx hSw; (try dsimp only at hSw); obtain ⟨f1, f2, f3, f4⟩ := HKF.out _ hSw; go_simp; first | done | with_reducible rfl)
  (try simp only [Act.put, List.setIfInBounds_toArray, List.set_cons_zero, List.set_cons_succ])
  refine' wpAnyH_take (i := 8) (oi := ⟨some 17, _, _, _, _, _⟩) (v := _) rfl (by kernel_rfl) (by kernel_rfl) (by kernel_rfl) (fun _ _ _ h => h) (Or.inl ⟨by kernel_rfl, ?hygb6⟩) (by assumption) ?restgb6
  case hygb6 => (intro wx hSw; (try dsimp only at hSw); obtain ⟨f1, f2, f3, f4⟩ := HKF.out _ hSw; go_simp; first | done | with_reducible rfl)
  (try simp only [Act.put, List.setIfInBounds_toArray, List.set_cons_zero, List.set_cons_succ])
  refine' wpAnyH_take (i := 9) (oi := ⟨some 6, _, _, _, _, _⟩) (v := _) rfl (by kernel_rfl) (by kernel_rfl) (by kernel_rfl) (fun _ _ _ h => h) (Or.inl ⟨by kernel_rfl, ?hygb7⟩) (by assumption) ?restgb7
  case hygb7 => (intro wx hSw; (try dsimp only at hSw); obtain ⟨f1, f2, f3, f4⟩ := HKF.out _ hSw; go_simp; first | done | with_reducible rfl)
  (try simp only [Act.put, List.setIfInBounds_toArray, List.set_cons_zero, List.set_cons_succ])
  refine' wpAnyH_take (i := 10) (oi := ⟨some 7, _, _, _, _, _⟩) (v := _) rfl (by kernel_rfl) (by kernel_rfl) (by kernel_rfl) (fun _ _ _ h => h) (Or.inl ⟨by kernel_rfl, ?hygb8⟩) (by assumption) ?restgb8
  case hygb8 => (intro wx hSw; (try dsimp only at hSw); obtain ⟨f1, f2, f3, f4⟩ := HKF.out _ hSw; go_simp; first | done | with_reducible rfl)
  (try simp only [Act.put, List.setIfInBounds_toArray, List.set_cons_zero, List.set_cons_succ])
  refine' wpAnyH_take (i := 11) (oi := ⟨some 8, _, _, _, _, _⟩) (v := _) rfl (by kernel_rfl) (by kernel_rfl) (by kernel_rfl) (fun _ _ _ h => h) (Or.inl ⟨by kernel_rfl, ?hygb9⟩) (by assumption) ?restgb9
  case hygb9 => (intro wx hSw; (try dsimp only at hSw); obtain ⟨f1, f2, f3, f4⟩ := HKF.out _ hSw; go_simp; first | done | with_reducible rfl)
  (try simp only [Act.put, List.setIfInBounds_toArray, List.set_cons_zero, List.set_cons_succ])
  refine wpAnyH_done (by kernel_rfl) ?_ _
  obtain ⟨f24, f25, f26, f27⟩ := HKF.out _ HQ4.out
  have HRg2 := hid (HRg.out _ HQ4.out)
  have HRu2 := hid (HRu.out _ HQ4.out)
  go_wp2_with (first | (refine load_mid_g12 (by kernel_rfl) 31 (.tmp 22) rfl W1.heap.size 12 rfl [.string u0, .string u1, .string u2, .string u3, .bool u4, .int .i64 u5, .bool u6, .slice ua un uc, .string u8, .string u9, .bool u10, .bool u11] _ HRu2.out Tryz.underlying31 rfl sizeU ?_) | (refine load_mid_g12 (by kernel_rfl) 31 (.tmp 24) rfl W1.heap.size 0 rfl [.string p0, .string p1, .string p2, .string p3, .bool p4, .int .i64 p5, .bool p6, .slice pa pn pc, .string p8, .string p9, .bool p10, .bool p11] _ HRg2.out Tryz.underlying31 rfl sizeU ?_))
  refine (HAx.out _ _ (below2 HB2.out HQ4.out) HTx.out).mono ?_
  rintro e w5 ⟨rfl, hb5⟩
  have HB5 := hid (below2 HB2.out (below2 HQ4.out hb5))
  clear hb5
  cases q with
  | true =>
   go_wp2
   go_ret2
   exact ⟨by rw [<- HRO.out]; rfl, HB5.out⟩
  | false =>
   go_wp2
   go_ret2
   exact ⟨by rw [<- HRO.out, <- HNM.out]; rfl, HB5.out⟩
end Go.Proofs.YtooihpkoplgmbaaGreatDoor
