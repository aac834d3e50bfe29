/- Walks and plain facts. -/
import Derived.Test.YtooihpkoplgmbaaGreatDoorQg32
set_option linter.unusedSimpArgs false
set_option linter.unusedVariables false
set_option maxHeartbeats 16000000
set_option maxRecDepth 100000

namespace Go.Proofs.YtooihpkoplgmbaaGreatDoor
open Go.RowKit
theorem infoRu : (Tryz.prog.info? 67).map (fun i => (i.zero, i.size, i.bytes)) = some (some (.agg #[.string ByteArray.empty, .slice none 0 0]), 2, 40) := by kernel_rfl
theorem own_form10 {w : World} {B : Nat} {e : TypeId} {k : Nat} {v : Value} {n : Nat} {xs : List Value} (h : w.ownsRow B e k v n xs) : ∃ a cap, v = .slice a n cap /\ n <= cap /\ cap <= maxLen := by
 rcases h.2 with ⟨hv, hn⟩ | ⟨g, cap, cur, rfl, _, _, hnc, hcm, _⟩
 ·subst hn; exact ⟨none, 0, hv, Nat.le_refl _, by decide⟩
 ·exact ⟨_, cap, rfl, hnc, hcm⟩
def PI (w wr : World) (rp : Bool) (v : Value) (Q : List (ByteArray × Value)) (L : List Ru) : Prop :=
 wr.heap[w.heap.size]? = some (.cells #[.slice none 0 0, .bool false] 24 (0, 0)) /\ wr.heap[w.heap.size + 1]? = some (.cells #[v, .bool rp] 24 (0, 0)) /\
 wr.ownsRow (w.heap.size + 2) 67 2 v L.length (cellsR Q) /\ RdO wr (w.heap.size + 2) Q L /\ Below w.heap.size w wr
theorem PI.kept {w wr wr' : World} {rp : Bool} {v : Value} {Q : List (ByteArray × Value)} {L : List Ru} (h : PI w wr rp v Q L) (hb : Below wr.heap.size wr wr') : PI w wr' rp v Q L := by
 obtain ⟨h1, h2, h3, h4, h5⟩ := h
 exact ⟨row_kept h1 hb, row_kept h2 hb, own_kept h3 hb, h4.kept hb, below2 h5 hb⟩
theorem PI.lt {w wr : World} {rp : Bool} {v : Value} {Q : List (ByteArray × Value)} {L : List Ru} (h : PI w wr rp v Q L) : w.heap.size + 2 <= wr.heap.size := (Array.getElem?_eq_some_iff.1 h.2.1).1
theorem PI.cells {w wr : World} {rp : Bool} {v : Value} {Q : List (ByteArray × Value)} {L : List Ru} (h : PI w wr rp v Q L) : wr.cell? ⟨w.heap.size + 1, 0, none⟩ = some v /\ wr.cell? ⟨w.heap.size + 1, 1, none⟩ = some (.bool rp) /\ wr.frozen? ⟨w.heap.size + 1, 0, none⟩ = false :=
 ⟨by rw [Lib.cell_of_heap h.2.1]; rfl, by rw [Lib.cell_of_heap h.2.1]; rfl, Lib.frozen_of_heap h.2.1 0⟩
theorem PI.snoc {w wr w2 w4 : World} {rp : Bool} {v v' V : Value} {Q : List (ByteArray × Value)} {L : List Ru} {r : Ru} {B : Nat} (h : PI w wr rp v Q L) (hb : Below wr.heap.size wr w2) (hV : SlV w2 B 9 V (cellsT r.vals)) (hB : wr.heap.size <= B)
  (hown : w4.ownsRow (w.heap.size + 2) 67 2 v' (L.length + 1) (cellsR Q ++ [.string ⟨r.name.toArray⟩, V])) (hgrow : w2.grownBy w4 v.ownBlock) :
  PI w (w4.setCell ⟨w.heap.size + 1, 0, none⟩ v') rp v' (Q ++ [(⟨r.name.toArray⟩, V)]) (L ++ [r]) := by
 have hlt := h.lt
 have hold := h.2.2.2.1.old
 obtain ⟨h1, h2, h3, h4, h5⟩ := h.kept hb
 have hs := hb.size
 have hvk : ∀ k, v.ownBlock = some k -> ∃ cur, w2.heap[k]? = some (Obj.cells cur 67 (0, 0)) := fun k hk => ownsRow_kind h3 k hk
 have hkeep : ∀ k cur T fz, w2.heap[k]? = some (Obj.cells cur T fz) -> T ≠ 67 -> w4.heap[k]? = some (Obj.cells cur T fz) := fun k cur T fz hk hT => by
  refine (hgrow.block k (Array.getElem?_eq_some_iff.1 hk).1 (fun e => ?_)).trans hk
  obtain ⟨c2, hc2⟩ := hvk k e.symm
  rw [hk] at hc2
  injection hc2 with hc2
  injection hc2 with _ hc2 _
  exact hT hc2
 have g1 := hkeep _ _ _ _ h1 (by decide)
 have g2 := hkeep _ _ _ _ h2 (by decide)
 have hv' : ∀ k, v'.ownBlock = some k -> k ≠ w.heap.size + 1 := fun k hk => by
  have := (hown.lt k hk).1
  omega
 have hstr : ∀ k : Nat, (∃ cur fz, w2.heap[k]? = some (Obj.cells cur 9 fz)) -> (w4.setCell ⟨w.heap.size + 1, 0, none⟩ v').heap[k]? = w2.heap[k]? := by
  rintro k ⟨cur, fz, hk⟩
  have hk4 := hkeep k cur _ fz hk (by decide)
  rw [heap_setCell_other w4 ⟨w.heap.size + 1, 0, none⟩ k v' (kind_nf hk4 g2 (by decide)), hk4, hk]
 refine ⟨?_, ?_, ?_, ?_, ?_⟩
 ·rw [heap_setCell_other w4 ⟨w.heap.size + 1, 0, none⟩ w.heap.size v' (by simp)]; exact g1
 ·exact heap_setCell_same w4 (w.heap.size + 1) 0 _ _ v' g2
 ·rw [cellsR_app, cellsR_one, List.length_append]
  exact ownsRow_same hown fun k hk => heap_setCell_other w4 ⟨w.heap.size + 1, 0, none⟩ k v' (hv' k hk)
 ·have hV2 : SlV w2 (w.heap.size + 2) 9 V (cellsT r.vals) := hV.low0 (by omega)
  refine (RdO.keptB (w := w2) ?_ hstr)
  refine h4.snoc hV2 fun q hq => ?_
  by_cases hn : q.2.ownBlock = none
  ·exact .inl hn
  ·right
   intro e
   cases hk : q.2.ownBlock with
   | none => exact hn hk
   | some k =>
    have a1 := (hold q hq k hk).2
    have a2 := (hV.lt k (by rw [<- e, hk])).1
    omega
 ·have hle : w.heap.size <= w2.heap.size := h5.size
  exact (h5.grown hgrow hle (fun k hk => by have := (h3.lt k hk).1; omega)).setCell (p := ⟨w.heap.size + 1, 0, none⟩) (by simp) _
def pst (mo : Bool) (l : List UInt8) : List (List UInt8) := if mo then pcV 59 l else []
theorem pol_step (l : List UInt8) (L : List Ru) (h : L.length < 32) : polF (pst true l) L = polF (pst (part9 59 l).2.2 (part9 59 l).2.1) (addR L (part9 59 l).1) := by
 show polF (pcV 59 l) L = _
 rw [pcV_part]
 unfold pst
 cases (part9 59 l).2.2
 ·show (if 32 <= L.length then L else polF [] _) = polF [] _
  rw [if_neg (by omega)]
 ·show (if 32 <= L.length then L else polF (pcV 59 _) _) = polF (pcV 59 _) _
  rw [if_neg (by omega)]
theorem part_rest10 (c : UInt8) (l : List UInt8) : (part9 c l).2.1.length + (if (part9 c l).2.2 then 1 else 0) <= l.length := by
 rcases first_split9 c l with h1 | ⟨a, r, h1, rfl⟩
 ·rw [part_none9 c l h1]; simp
 ·rw [part_some9 c a r h1]; simp <;> omega
def PJ (l : List UInt8) (mo : Bool) (S : ByteArray) (L : List Ru) : Prop := polF (pst mo S.data.toList) L = polV l /\ L.length <= 32 /\ S.size <= l.length
def ParsePost10 (l : List UInt8) (rp : Bool) (w : World) (e : Ending) (w' : World) : Prop :=
 ∃ v Q, e = .returned (.agg #[v, .bool rp]) /\ w'.ownsRow w.heap.size 67 2 v (polV l).length (cellsR Q) /\ RdO w' w.heap.size Q (polV l) /\ Below w.heap.size w w'
theorem RdO.low {w : World} {B B' : Nat} {Q : List (ByteArray × Value)} {L : List Ru} (h : RdO w B Q L) (hb : B' <= B) : RdO w B' Q L :=
 ⟨h.1, fun j a b => ⟨(h.2.1 j a b).1, (h.2.1 j a b).2.low0 hb⟩, h.2.2⟩
theorem own_low10 {w : World} {B B' : Nat} {e : TypeId} {k : Nat} {v : Value} {n : Nat} {xs : List Value} (h : w.ownsRow B e k v n xs) (hb : B' <= B) : w.ownsRow B' e k v n xs := by
 refine ⟨h.1, ?_⟩
 rcases h.2 with h | ⟨g, cap, cur, hv, h1, h2⟩
 ·exact .inl h
 ·exact .inr ⟨g, cap, cur, hv, Nat.le_trans hb h1, h2⟩
theorem results_p1 {fn : Func} {p : Tmp} (h : fn.results = #[.cell p 24]) (tmps : Array Value) (w : World) (b : Nat) (a : Option Addr) (n c : Nat) (rp : Bool) (hp : tmps.getD p undef = .pointer (some ⟨b, 0, none⟩)) (hc : w.rangeAt b 0 [.slice a n c, .bool rp]) : (results fn tmps).run Tryz.prog w = .ok (.agg #[.slice a n c, .bool rp]) w := by
 rw [Array.getD_eq_getD_getElem?] at hp
 simp only [results, h]
 simp [Sem.run_bind, Result.andThen, hp, asAddr, run_loadVar_mid w b 0 24 [.slice a n c, .bool rp] _ hc Tryz.underlying24 rfl (by kernel_rfl)]
theorem range_p {w : World} {b : Nat} {x y : Value} (h : w.heap[b]? = some (.cells #[x, y] 24 (0, 0))) : w.rangeAt b 0 [x, y] := fun j u hu => by
 rw [Nat.zero_add, Lib.cell_of_heap h]
 match j, hu with
 | 0, hu => simpa using hu
 | 1, hu => simpa using hu
 | j + 2, hu => simp at hu
theorem PI.out {w wr : World} {rp : Bool} {a : Option Addr} {n c : Nat} {Q : List (ByteArray × Value)} {L : List Ru} (h : PI w wr rp (.slice a n c) Q L) {l : List UInt8} (hl : L = polV l) :
  ((wr.setCell ⟨w.heap.size, 0, none⟩ (.slice a n c)).setCell ⟨w.heap.size, 1, none⟩ (.bool rp)).rangeAt w.heap.size 0 [.slice a n c, .bool rp] /\
  ParsePost10 l rp w (.returned (.agg #[.slice a n c, .bool rp])) ((wr.setCell ⟨w.heap.size, 0, none⟩ (.slice a n c)).setCell ⟨w.heap.size, 1, none⟩ (.bool rp)) := by
 obtain ⟨h1, h2, h3, h4, h5⟩ := h
 have k1 := Lib.heap_setCell_same h1 (i := 0) (.slice a n c)
 have k2 := Lib.heap_setCell_same k1 (i := 1) (.bool rp)
 refine ⟨range_p k2, .slice a n c, Q, rfl, ?_, ?_, ?_⟩
 ·rw [<- hl]
  refine own_low10 (ownsRow_same h3 fun k hk => ?_) (by omega : w.heap.size <= w.heap.size + 2)
  have hne : k ≠ w.heap.size := by have := (h3.lt k hk).1; omega
  rw [heap_setCell_other _ ⟨w.heap.size, 1, none⟩ k _ hne, heap_setCell_other _ ⟨w.heap.size, 0, none⟩ k _ hne]
 ·rw [<- hl]
  refine (h4.keptB ?_).low (by omega)
  rintro k ⟨cur, fz, hk⟩
  have hne : k ≠ w.heap.size := kind_nf hk h1 (by decide)
  rw [heap_setCell_other _ ⟨w.heap.size, 1, none⟩ k _ hne, heap_setCell_other _ ⟨w.heap.size, 0, none⟩ k _ hne]
 ·exact below_set2 h5 (Nat.le_refl _)
theorem infoS10 : (Tryz.prog.info? 9).map (fun i => (i.zero, i.size, i.bytes)) = some (some (.string ByteArray.empty), 1, 16) := by kernel_rfl
def OwnT (L : List (List UInt8)) (w : World) (e : Ending) (w' : World) : Prop := ∃ v, e = .returned v /\ w'.ownsRow w.heap.size 9 1 v L.length (cellsT L) /\ Below w.heap.size w w'
theorem beq_no10 (a : ByteArray) (l : List UInt8) (h : a.data.toList ≠ l) : (a.toList == l) = false := by
 rw [Lib.toList_data, beq_eq_false_iff_ne]; exact h
theorem wider_nSe (w : World) : Calls Tryz.prog 170 #[.string ⟨#[115, 99, 114, 105, 112, 116, 45, 115, 114, 99, 45, 101, 108, 101, 109]⟩] w fun e w' => e = .returned (.string ⟨#[115, 99, 114, 105, 112, 116, 45, 115, 114, 99]⟩) /\ w = w' := by
 go_enter Tryz.func170, Tryz.ntmps170
 go_wp2
 go_ret
 exact ⟨rfl, rfl⟩
theorem wider_nYe (w : World) : Calls Tryz.prog 170 #[.string ⟨#[115, 116, 121, 108, 101, 45, 115, 114, 99, 45, 101, 108, 101, 109]⟩] w fun e w' => e = .returned (.string ⟨#[115, 116, 121, 108, 101, 45, 115, 114, 99]⟩) /\ w = w' := by
 go_enter Tryz.func170, Tryz.ntmps170
 go_wp2
 go_ret
 exact ⟨rfl, rfl⟩
theorem wider_nCh (w : World) : Calls Tryz.prog 170 #[.string ⟨#[99, 104, 105, 108, 100, 45, 115, 114, 99]⟩] w fun e w' => e = .returned (.string ⟨#[115, 99, 114, 105, 112, 116, 45, 115, 114, 99]⟩) /\ w = w' := by
 go_enter Tryz.func170, Tryz.ntmps170
 go_wp2
 go_ret
 exact ⟨rfl, rfl⟩
theorem wider_nFr (w : World) : Calls Tryz.prog 170 #[.string ⟨#[102, 114, 97, 109, 101, 45, 115, 114, 99]⟩] w fun e w' => e = .returned (.string ⟨#[99, 104, 105, 108, 100, 45, 115, 114, 99]⟩) /\ w = w' := by
 go_enter Tryz.func170, Tryz.ntmps170
 go_wp2
 go_ret
 exact ⟨rfl, rfl⟩
theorem chain_nSe (w : World) : Calls Tryz.prog 141 #[.string ⟨#[115, 99, 114, 105, 112, 116, 45, 115, 114, 99, 45, 101, 108, 101, 109]⟩] w (OwnT [nSe, nSc, nDe] w) := by
 obtain ⟨i0, hi, hz0, hz1, hz2⟩ := info_parts infoS10
 go_enter Tryz.func141, Tryz.ntmps141
 go_wp2_with (at_builtin; refine wpList_append_own _ rfl _ _ 29 rfl w.heap.size 9 i0 (.string ⟨#[]⟩) 1 16 Tryz.underlying29 hi hz0 hz1 hz2 rfl (by decide) _ 0 _ rfl (World.ownsRow_nil _ _ _ _) ⟨w.heap.size, 0, none⟩ 1 1 [.string ⟨#[115, 99, 114, 105, 112, 116, 45, 115, 114, 99, 45, 101, 108, 101, 109]⟩] rfl rfl ?c01 ?c02 (by decide) (by decide) (by simp) ?_)
 case c01 =>
  intro q u hq
  match q, hq with
  | 0, hq => simp at hq; subst hq; simp [Addr.add]
 case c02 => intro u hu; simp at hu; subst hu; rfl
 intro v1 w1 hown hgrow hnil
 have HO1 := hid hown
 have HB1 := hid (show Below w.heap.size w w1 from ((Below.refl _ w).alloc (Nat.le_refl _) _).grown hgrow (by simp) (fun k hk => by simp [Value.ownBlock] at hk))
 clear hown hgrow hnil
 go_wp2_with fail
 refine (wider_nSe _).mono ?_
 rintro e wz ⟨rfl, rfl⟩
 go_wp2_with (at_builtin; refine wpList_append_own _ rfl _ _ 29 rfl w.heap.size 9 i0 (.string ⟨#[]⟩) 1 16 Tryz.underlying29 hi hz0 hz1 hz2 rfl (by decide) _ 1 _ rfl ((HO1.out.alloc _)) ⟨w1.heap.size, 0, none⟩ 1 1 [.string ⟨#[115, 99, 114, 105, 112, 116, 45, 115, 114, 99]⟩] rfl rfl ?c11 ?c12 (by decide) (by decide) (by have := HB1.out.size; simp; omega) ?_)
 case c11 =>
  intro q u hq
  match q, hq with
  | 0, hq => simp at hq; subst hq; simp [Addr.add]
 case c12 => intro u hu; simp at hu; subst hu; rfl
 intro v2 w2 hown hgrow hnil
 have HO2 := hid hown
 have HB2 := hid (show Below w.heap.size w w2 from (HB1.out.alloc HB1.out.size _).grown hgrow (by have := HB1.out.size; simp; omega) (fun k hk => (HO1.out.lt k hk).1))
 clear hown hgrow hnil
 go_wp2_with (at_builtin; refine wpList_append_own _ rfl _ _ 29 rfl w.heap.size 9 i0 (.string ⟨#[]⟩) 1 16 Tryz.underlying29 hi hz0 hz1 hz2 rfl (by decide) _ 2 _ rfl ((HO2.out.alloc _)) ⟨w2.heap.size, 0, none⟩ 1 1 [.string ⟨#[100, 101, 102, 97, 117, 108, 116, 45, 115, 114, 99]⟩] rfl rfl ?c21 ?c22 (by decide) (by decide) (by have := HB2.out.size; simp; omega) ?_)
 case c21 =>
  intro q u hq
  match q, hq with
  | 0, hq => simp at hq; subst hq; simp [Addr.add]
 case c22 => intro u hu; simp at hu; subst hu; rfl
 intro v3 w3 hown hgrow hnil
 have HO3 := hid hown
 have HB3 := hid (show Below w.heap.size w w3 from (HB2.out.alloc HB2.out.size _).grown hgrow (by have := HB2.out.size; simp; omega) (fun k hk => (HO2.out.lt k hk).1))
 clear hown hgrow hnil
 go_wp2_with fail
 go_ret
 exact ⟨v3, rfl, HO3.out, HB3.out⟩
theorem chain_nYe (w : World) : Calls Tryz.prog 141 #[.string ⟨#[115, 116, 121, 108, 101, 45, 115, 114, 99, 45, 101, 108, 101, 109]⟩] w (OwnT [nYe, nSt, nDe] w) := by
 obtain ⟨i0, hi, hz0, hz1, hz2⟩ := info_parts infoS10
 go_enter Tryz.func141, Tryz.ntmps141
 go_wp2_with (at_builtin; refine wpList_append_own _ rfl _ _ 29 rfl w.heap.size 9 i0 (.string ⟨#[]⟩) 1 16 Tryz.underlying29 hi hz0 hz1 hz2 rfl (by decide) _ 0 _ rfl (World.ownsRow_nil _ _ _ _) ⟨w.heap.size, 0, none⟩ 1 1 [.string ⟨#[115, 116, 121, 108, 101, 45, 115, 114, 99, 45, 101, 108, 101, 109]⟩] rfl rfl ?c01 ?c02 (by decide) (by decide) (by simp) ?_)
 case c01 =>
  intro q u hq
  match q, hq with
  | 0, hq => simp at hq; subst hq; simp [Addr.add]
 case c02 => intro u hu; simp at hu; subst hu; rfl
 intro v1 w1 hown hgrow hnil
 have HO1 := hid hown
 have HB1 := hid (show Below w.heap.size w w1 from ((Below.refl _ w).alloc (Nat.le_refl _) _).grown hgrow (by simp) (fun k hk => by simp [Value.ownBlock] at hk))
 clear hown hgrow hnil
 go_wp2_with fail
 refine (wider_nYe _).mono ?_
 rintro e wz ⟨rfl, rfl⟩
 go_wp2_with (at_builtin; refine wpList_append_own _ rfl _ _ 29 rfl w.heap.size 9 i0 (.string ⟨#[]⟩) 1 16 Tryz.underlying29 hi hz0 hz1 hz2 rfl (by decide) _ 1 _ rfl ((HO1.out.alloc _)) ⟨w1.heap.size, 0, none⟩ 1 1 [.string ⟨#[115, 116, 121, 108, 101, 45, 115, 114, 99]⟩] rfl rfl ?c11 ?c12 (by decide) (by decide) (by have := HB1.out.size; simp; omega) ?_)
 case c11 =>
  intro q u hq
  match q, hq with
  | 0, hq => simp at hq; subst hq; simp [Addr.add]
 case c12 => intro u hu; simp at hu; subst hu; rfl
 intro v2 w2 hown hgrow hnil
 have HO2 := hid hown
 have HB2 := hid (show Below w.heap.size w w2 from (HB1.out.alloc HB1.out.size _).grown hgrow (by have := HB1.out.size; simp; omega) (fun k hk => (HO1.out.lt k hk).1))
 clear hown hgrow hnil
 go_wp2_with (at_builtin; refine wpList_append_own _ rfl _ _ 29 rfl w.heap.size 9 i0 (.string ⟨#[]⟩) 1 16 Tryz.underlying29 hi hz0 hz1 hz2 rfl (by decide) _ 2 _ rfl ((HO2.out.alloc _)) ⟨w2.heap.size, 0, none⟩ 1 1 [.string ⟨#[100, 101, 102, 97, 117, 108, 116, 45, 115, 114, 99]⟩] rfl rfl ?c21 ?c22 (by decide) (by decide) (by have := HB2.out.size; simp; omega) ?_)
 case c21 =>
  intro q u hq
  match q, hq with
  | 0, hq => simp at hq; subst hq; simp [Addr.add]
 case c22 => intro u hu; simp at hu; subst hu; rfl
 intro v3 w3 hown hgrow hnil
 have HO3 := hid hown
 have HB3 := hid (show Below w.heap.size w w3 from (HB2.out.alloc HB2.out.size _).grown hgrow (by have := HB2.out.size; simp; omega) (fun k hk => (HO2.out.lt k hk).1))
 clear hown hgrow hnil
 go_wp2_with fail
 go_ret
 exact ⟨v3, rfl, HO3.out, HB3.out⟩
theorem chain_nWk (w : World) : Calls Tryz.prog 141 #[.string ⟨#[119, 111, 114, 107, 101, 114, 45, 115, 114, 99]⟩] w (OwnT [nWk, nCh, nSc, nDe] w) := by
 obtain ⟨i0, hi, hz0, hz1, hz2⟩ := info_parts infoS10
 go_enter Tryz.func141, Tryz.ntmps141
 go_wp2_with (at_builtin; refine wpList_append_own _ rfl _ _ 29 rfl w.heap.size 9 i0 (.string ⟨#[]⟩) 1 16 Tryz.underlying29 hi hz0 hz1 hz2 rfl (by decide) _ 0 _ rfl (World.ownsRow_nil _ _ _ _) ⟨w.heap.size, 0, none⟩ 1 1 [.string ⟨#[119, 111, 114, 107, 101, 114, 45, 115, 114, 99]⟩] rfl rfl ?c01 ?c02 (by decide) (by decide) (by simp) ?_)
 case c01 =>
  intro q u hq
  match q, hq with
  | 0, hq => simp at hq; subst hq; simp [Addr.add]
 case c02 => intro u hu; simp at hu; subst hu; rfl
 intro v1 w1 hown hgrow hnil
 have HO1 := hid hown
 have HB1 := hid (show Below w.heap.size w w1 from ((Below.refl _ w).alloc (Nat.le_refl _) _).grown hgrow (by simp) (fun k hk => by simp [Value.ownBlock] at hk))
 clear hown hgrow hnil
 go_wp2_with (at_builtin; refine wpList_append_own _ rfl _ _ 29 rfl w.heap.size 9 i0 (.string ⟨#[]⟩) 1 16 Tryz.underlying29 hi hz0 hz1 hz2 rfl (by decide) _ 1 _ rfl ((HO1.out.alloc _)) ⟨w1.heap.size, 0, none⟩ 1 1 [.string ⟨#[99, 104, 105, 108, 100, 45, 115, 114, 99]⟩] rfl rfl ?c11 ?c12 (by decide) (by decide) (by have := HB1.out.size; simp; omega) ?_)
 case c11 =>
  intro q u hq
  match q, hq with
  | 0, hq => simp at hq; subst hq; simp [Addr.add]
 case c12 => intro u hu; simp at hu; subst hu; rfl
 intro v2 w2 hown hgrow hnil
 have HO2 := hid hown
 have HB2 := hid (show Below w.heap.size w w2 from (HB1.out.alloc HB1.out.size _).grown hgrow (by have := HB1.out.size; simp; omega) (fun k hk => (HO1.out.lt k hk).1))
 clear hown hgrow hnil
 go_wp2_with fail
 refine (wider_nCh _).mono ?_
 rintro e wz ⟨rfl, rfl⟩
 go_wp2_with (at_builtin; refine wpList_append_own _ rfl _ _ 29 rfl w.heap.size 9 i0 (.string ⟨#[]⟩) 1 16 Tryz.underlying29 hi hz0 hz1 hz2 rfl (by decide) _ 2 _ rfl ((HO2.out.alloc _)) ⟨w2.heap.size, 0, none⟩ 1 1 [.string ⟨#[115, 99, 114, 105, 112, 116, 45, 115, 114, 99]⟩] rfl rfl ?c21 ?c22 (by decide) (by decide) (by have := HB2.out.size; simp; omega) ?_)
 case c21 =>
  intro q u hq
  match q, hq with
  | 0, hq => simp at hq; subst hq; simp [Addr.add]
 case c22 => intro u hu; simp at hu; subst hu; rfl
 intro v3 w3 hown hgrow hnil
 have HO3 := hid hown
 have HB3 := hid (show Below w.heap.size w w3 from (HB2.out.alloc HB2.out.size _).grown hgrow (by have := HB2.out.size; simp; omega) (fun k hk => (HO2.out.lt k hk).1))
 clear hown hgrow hnil
 go_wp2_with (at_builtin; refine wpList_append_own _ rfl _ _ 29 rfl w.heap.size 9 i0 (.string ⟨#[]⟩) 1 16 Tryz.underlying29 hi hz0 hz1 hz2 rfl (by decide) _ 3 _ rfl ((HO3.out.alloc _)) ⟨w3.heap.size, 0, none⟩ 1 1 [.string ⟨#[100, 101, 102, 97, 117, 108, 116, 45, 115, 114, 99]⟩] rfl rfl ?c31 ?c32 (by decide) (by decide) (by have := HB3.out.size; simp; omega) ?_)
 case c31 =>
  intro q u hq
  match q, hq with
  | 0, hq => simp at hq; subst hq; simp [Addr.add]
 case c32 => intro u hu; simp at hu; subst hu; rfl
 intro v4 w4 hown hgrow hnil
 have HO4 := hid hown
 have HB4 := hid (show Below w.heap.size w w4 from (HB3.out.alloc HB3.out.size _).grown hgrow (by have := HB3.out.size; simp; omega) (fun k hk => (HO3.out.lt k hk).1))
 clear hown hgrow hnil
 go_wp2_with fail
 go_ret
 exact ⟨v4, rfl, HO4.out, HB4.out⟩
theorem chain_nFr (w : World) : Calls Tryz.prog 141 #[.string ⟨#[102, 114, 97, 109, 101, 45, 115, 114, 99]⟩] w (OwnT [nFr, nCh, nDe] w) := by
 obtain ⟨i0, hi, hz0, hz1, hz2⟩ := info_parts infoS10
 go_enter Tryz.func141, Tryz.ntmps141
 go_wp2_with (at_builtin; refine wpList_append_own _ rfl _ _ 29 rfl w.heap.size 9 i0 (.string ⟨#[]⟩) 1 16 Tryz.underlying29 hi hz0 hz1 hz2 rfl (by decide) _ 0 _ rfl (World.ownsRow_nil _ _ _ _) ⟨w.heap.size, 0, none⟩ 1 1 [.string ⟨#[102, 114, 97, 109, 101, 45, 115, 114, 99]⟩] rfl rfl ?c01 ?c02 (by decide) (by decide) (by simp) ?_)
 case c01 =>
  intro q u hq
  match q, hq with
  | 0, hq => simp at hq; subst hq; simp [Addr.add]
 case c02 => intro u hu; simp at hu; subst hu; rfl
 intro v1 w1 hown hgrow hnil
 have HO1 := hid hown
 have HB1 := hid (show Below w.heap.size w w1 from ((Below.refl _ w).alloc (Nat.le_refl _) _).grown hgrow (by simp) (fun k hk => by simp [Value.ownBlock] at hk))
 clear hown hgrow hnil
 go_wp2_with fail
 refine (wider_nFr _).mono ?_
 rintro e wz ⟨rfl, rfl⟩
 go_wp2_with (at_builtin; refine wpList_append_own _ rfl _ _ 29 rfl w.heap.size 9 i0 (.string ⟨#[]⟩) 1 16 Tryz.underlying29 hi hz0 hz1 hz2 rfl (by decide) _ 1 _ rfl ((HO1.out.alloc _)) ⟨w1.heap.size, 0, none⟩ 1 1 [.string ⟨#[99, 104, 105, 108, 100, 45, 115, 114, 99]⟩] rfl rfl ?c11 ?c12 (by decide) (by decide) (by have := HB1.out.size; simp; omega) ?_)
 case c11 =>
  intro q u hq
  match q, hq with
  | 0, hq => simp at hq; subst hq; simp [Addr.add]
 case c12 => intro u hu; simp at hu; subst hu; rfl
 intro v2 w2 hown hgrow hnil
 have HO2 := hid hown
 have HB2 := hid (show Below w.heap.size w w2 from (HB1.out.alloc HB1.out.size _).grown hgrow (by have := HB1.out.size; simp; omega) (fun k hk => (HO1.out.lt k hk).1))
 clear hown hgrow hnil
 go_wp2_with (at_builtin; refine wpList_append_own _ rfl _ _ 29 rfl w.heap.size 9 i0 (.string ⟨#[]⟩) 1 16 Tryz.underlying29 hi hz0 hz1 hz2 rfl (by decide) _ 2 _ rfl ((HO2.out.alloc _)) ⟨w2.heap.size, 0, none⟩ 1 1 [.string ⟨#[100, 101, 102, 97, 117, 108, 116, 45, 115, 114, 99]⟩] rfl rfl ?c21 ?c22 (by decide) (by decide) (by have := HB2.out.size; simp; omega) ?_)
 case c21 =>
  intro q u hq
  match q, hq with
  | 0, hq => simp at hq; subst hq; simp [Addr.add]
 case c22 => intro u hu; simp at hu; subst hu; rfl
 intro v3 w3 hown hgrow hnil
 have HO3 := hid hown
 have HB3 := hid (show Below w.heap.size w w3 from (HB2.out.alloc HB2.out.size _).grown hgrow (by have := HB2.out.size; simp; omega) (fun k hk => (HO2.out.lt k hk).1))
 clear hown hgrow hnil
 go_wp2_with fail
 go_ret
 exact ⟨v3, rfl, HO3.out, HB3.out⟩
theorem chain_nCo (w : World) : Calls Tryz.prog 141 #[.string ⟨#[99, 111, 110, 110, 101, 99, 116, 45, 115, 114, 99]⟩] w (OwnT [nCo, nDe] w) := by
 obtain ⟨i0, hi, hz0, hz1, hz2⟩ := info_parts infoS10
 go_enter Tryz.func141, Tryz.ntmps141
 go_wp2_with (at_builtin; refine wpList_append_own _ rfl _ _ 29 rfl w.heap.size 9 i0 (.string ⟨#[]⟩) 1 16 Tryz.underlying29 hi hz0 hz1 hz2 rfl (by decide) _ 0 _ rfl (World.ownsRow_nil _ _ _ _) ⟨w.heap.size, 0, none⟩ 1 1 [.string ⟨#[99, 111, 110, 110, 101, 99, 116, 45, 115, 114, 99]⟩] rfl rfl ?c01 ?c02 (by decide) (by decide) (by simp) ?_)
 case c01 =>
  intro q u hq
  match q, hq with
  | 0, hq => simp at hq; subst hq; simp [Addr.add]
 case c02 => intro u hu; simp at hu; subst hu; rfl
 intro v1 w1 hown hgrow hnil
 have HO1 := hid hown
 have HB1 := hid (show Below w.heap.size w w1 from ((Below.refl _ w).alloc (Nat.le_refl _) _).grown hgrow (by simp) (fun k hk => by simp [Value.ownBlock] at hk))
 clear hown hgrow hnil
 go_wp2_with (at_builtin; refine wpList_append_own _ rfl _ _ 29 rfl w.heap.size 9 i0 (.string ⟨#[]⟩) 1 16 Tryz.underlying29 hi hz0 hz1 hz2 rfl (by decide) _ 1 _ rfl ((HO1.out.alloc _)) ⟨w1.heap.size, 0, none⟩ 1 1 [.string ⟨#[100, 101, 102, 97, 117, 108, 116, 45, 115, 114, 99]⟩] rfl rfl ?c11 ?c12 (by decide) (by decide) (by have := HB1.out.size; simp; omega) ?_)
 case c11 =>
  intro q u hq
  match q, hq with
  | 0, hq => simp at hq; subst hq; simp [Addr.add]
 case c12 => intro u hu; simp at hu; subst hu; rfl
 intro v2 w2 hown hgrow hnil
 have HO2 := hid hown
 have HB2 := hid (show Below w.heap.size w w2 from (HB1.out.alloc HB1.out.size _).grown hgrow (by have := HB1.out.size; simp; omega) (fun k hk => (HO1.out.lt k hk).1))
 clear hown hgrow hnil
 go_wp2_with fail
 go_ret
 exact ⟨v2, rfl, HO2.out, HB2.out⟩
theorem chain_nFo (w : World) : Calls Tryz.prog 141 #[.string ⟨#[102, 111, 110, 116, 45, 115, 114, 99]⟩] w (OwnT [nFo, nDe] w) := by
 obtain ⟨i0, hi, hz0, hz1, hz2⟩ := info_parts infoS10
 go_enter Tryz.func141, Tryz.ntmps141
 go_wp2_with (at_builtin; refine wpList_append_own _ rfl _ _ 29 rfl w.heap.size 9 i0 (.string ⟨#[]⟩) 1 16 Tryz.underlying29 hi hz0 hz1 hz2 rfl (by decide) _ 0 _ rfl (World.ownsRow_nil _ _ _ _) ⟨w.heap.size, 0, none⟩ 1 1 [.string ⟨#[102, 111, 110, 116, 45, 115, 114, 99]⟩] rfl rfl ?c01 ?c02 (by decide) (by decide) (by simp) ?_)
 case c01 =>
  intro q u hq
  match q, hq with
  | 0, hq => simp at hq; subst hq; simp [Addr.add]
 case c02 => intro u hu; simp at hu; subst hu; rfl
 intro v1 w1 hown hgrow hnil
 have HO1 := hid hown
 have HB1 := hid (show Below w.heap.size w w1 from ((Below.refl _ w).alloc (Nat.le_refl _) _).grown hgrow (by simp) (fun k hk => by simp [Value.ownBlock] at hk))
 clear hown hgrow hnil
 go_wp2_with (at_builtin; refine wpList_append_own _ rfl _ _ 29 rfl w.heap.size 9 i0 (.string ⟨#[]⟩) 1 16 Tryz.underlying29 hi hz0 hz1 hz2 rfl (by decide) _ 1 _ rfl ((HO1.out.alloc _)) ⟨w1.heap.size, 0, none⟩ 1 1 [.string ⟨#[100, 101, 102, 97, 117, 108, 116, 45, 115, 114, 99]⟩] rfl rfl ?c11 ?c12 (by decide) (by decide) (by have := HB1.out.size; simp; omega) ?_)
 case c11 =>
  intro q u hq
  match q, hq with
  | 0, hq => simp at hq; subst hq; simp [Addr.add]
 case c12 => intro u hu; simp at hu; subst hu; rfl
 intro v2 w2 hown hgrow hnil
 have HO2 := hid hown
 have HB2 := hid (show Below w.heap.size w w2 from (HB1.out.alloc HB1.out.size _).grown hgrow (by have := HB1.out.size; simp; omega) (fun k hk => (HO1.out.lt k hk).1))
 clear hown hgrow hnil
 go_wp2_with fail
 go_ret
 exact ⟨v2, rfl, HO2.out, HB2.out⟩
theorem chain_nIm (w : World) : Calls Tryz.prog 141 #[.string ⟨#[105, 109, 103, 45, 115, 114, 99]⟩] w (OwnT [nIm, nDe] w) := by
 obtain ⟨i0, hi, hz0, hz1, hz2⟩ := info_parts infoS10
 go_enter Tryz.func141, Tryz.ntmps141
 go_wp2_with (at_builtin; refine wpList_append_own _ rfl _ _ 29 rfl w.heap.size 9 i0 (.string ⟨#[]⟩) 1 16 Tryz.underlying29 hi hz0 hz1 hz2 rfl (by decide) _ 0 _ rfl (World.ownsRow_nil _ _ _ _) ⟨w.heap.size, 0, none⟩ 1 1 [.string ⟨#[105, 109, 103, 45, 115, 114, 99]⟩] rfl rfl ?c01 ?c02 (by decide) (by decide) (by simp) ?_)
 case c01 =>
  intro q u hq
  match q, hq with
  | 0, hq => simp at hq; subst hq; simp [Addr.add]
 case c02 => intro u hu; simp at hu; subst hu; rfl
 intro v1 w1 hown hgrow hnil
 have HO1 := hid hown
 have HB1 := hid (show Below w.heap.size w w1 from ((Below.refl _ w).alloc (Nat.le_refl _) _).grown hgrow (by simp) (fun k hk => by simp [Value.ownBlock] at hk))
 clear hown hgrow hnil
 go_wp2_with (at_builtin; refine wpList_append_own _ rfl _ _ 29 rfl w.heap.size 9 i0 (.string ⟨#[]⟩) 1 16 Tryz.underlying29 hi hz0 hz1 hz2 rfl (by decide) _ 1 _ rfl ((HO1.out.alloc _)) ⟨w1.heap.size, 0, none⟩ 1 1 [.string ⟨#[100, 101, 102, 97, 117, 108, 116, 45, 115, 114, 99]⟩] rfl rfl ?c11 ?c12 (by decide) (by decide) (by have := HB1.out.size; simp; omega) ?_)
 case c11 =>
  intro q u hq
  match q, hq with
  | 0, hq => simp at hq; subst hq; simp [Addr.add]
 case c12 => intro u hu; simp at hu; subst hu; rfl
 intro v2 w2 hown hgrow hnil
 have HO2 := hid hown
 have HB2 := hid (show Below w.heap.size w w2 from (HB1.out.alloc HB1.out.size _).grown hgrow (by have := HB1.out.size; simp; omega) (fun k hk => (HO1.out.lt k hk).1))
 clear hown hgrow hnil
 go_wp2_with fail
 go_ret
 exact ⟨v2, rfl, HO2.out, HB2.out⟩
theorem chain_nMe (w : World) : Calls Tryz.prog 141 #[.string ⟨#[109, 101, 100, 105, 97, 45, 115, 114, 99]⟩] w (OwnT [nMe, nDe] w) := by
 obtain ⟨i0, hi, hz0, hz1, hz2⟩ := info_parts infoS10
 go_enter Tryz.func141, Tryz.ntmps141
 go_wp2_with (at_builtin; refine wpList_append_own _ rfl _ _ 29 rfl w.heap.size 9 i0 (.string ⟨#[]⟩) 1 16 Tryz.underlying29 hi hz0 hz1 hz2 rfl (by decide) _ 0 _ rfl (World.ownsRow_nil _ _ _ _) ⟨w.heap.size, 0, none⟩ 1 1 [.string ⟨#[109, 101, 100, 105, 97, 45, 115, 114, 99]⟩] rfl rfl ?c01 ?c02 (by decide) (by decide) (by simp) ?_)
 case c01 =>
  intro q u hq
  match q, hq with
  | 0, hq => simp at hq; subst hq; simp [Addr.add]
 case c02 => intro u hu; simp at hu; subst hu; rfl
 intro v1 w1 hown hgrow hnil
 have HO1 := hid hown
 have HB1 := hid (show Below w.heap.size w w1 from ((Below.refl _ w).alloc (Nat.le_refl _) _).grown hgrow (by simp) (fun k hk => by simp [Value.ownBlock] at hk))
 clear hown hgrow hnil
 go_wp2_with (at_builtin; refine wpList_append_own _ rfl _ _ 29 rfl w.heap.size 9 i0 (.string ⟨#[]⟩) 1 16 Tryz.underlying29 hi hz0 hz1 hz2 rfl (by decide) _ 1 _ rfl ((HO1.out.alloc _)) ⟨w1.heap.size, 0, none⟩ 1 1 [.string ⟨#[100, 101, 102, 97, 117, 108, 116, 45, 115, 114, 99]⟩] rfl rfl ?c11 ?c12 (by decide) (by decide) (by have := HB1.out.size; simp; omega) ?_)
 case c11 =>
  intro q u hq
  match q, hq with
  | 0, hq => simp at hq; subst hq; simp [Addr.add]
 case c12 => intro u hu; simp at hu; subst hu; rfl
 intro v2 w2 hown hgrow hnil
 have HO2 := hid hown
 have HB2 := hid (show Below w.heap.size w w2 from (HB1.out.alloc HB1.out.size _).grown hgrow (by have := HB1.out.size; simp; omega) (fun k hk => (HO1.out.lt k hk).1))
 clear hown hgrow hnil
 go_wp2_with fail
 go_ret
 exact ⟨v2, rfl, HO2.out, HB2.out⟩
theorem chain_nSc (w : World) : Calls Tryz.prog 141 #[.string ⟨#[115, 99, 114, 105, 112, 116, 45, 115, 114, 99]⟩] w (OwnT [nSc, nDe] w) := by
 obtain ⟨i0, hi, hz0, hz1, hz2⟩ := info_parts infoS10
 go_enter Tryz.func141, Tryz.ntmps141
 go_wp2_with (at_builtin; refine wpList_append_own _ rfl _ _ 29 rfl w.heap.size 9 i0 (.string ⟨#[]⟩) 1 16 Tryz.underlying29 hi hz0 hz1 hz2 rfl (by decide) _ 0 _ rfl (World.ownsRow_nil _ _ _ _) ⟨w.heap.size, 0, none⟩ 1 1 [.string ⟨#[115, 99, 114, 105, 112, 116, 45, 115, 114, 99]⟩] rfl rfl ?c01 ?c02 (by decide) (by decide) (by simp) ?_)
 case c01 =>
  intro q u hq
  match q, hq with
  | 0, hq => simp at hq; subst hq; simp [Addr.add]
 case c02 => intro u hu; simp at hu; subst hu; rfl
 intro v1 w1 hown hgrow hnil
 have HO1 := hid hown
 have HB1 := hid (show Below w.heap.size w w1 from ((Below.refl _ w).alloc (Nat.le_refl _) _).grown hgrow (by simp) (fun k hk => by simp [Value.ownBlock] at hk))
 clear hown hgrow hnil
 go_wp2_with (at_builtin; refine wpList_append_own _ rfl _ _ 29 rfl w.heap.size 9 i0 (.string ⟨#[]⟩) 1 16 Tryz.underlying29 hi hz0 hz1 hz2 rfl (by decide) _ 1 _ rfl ((HO1.out.alloc _)) ⟨w1.heap.size, 0, none⟩ 1 1 [.string ⟨#[100, 101, 102, 97, 117, 108, 116, 45, 115, 114, 99]⟩] rfl rfl ?c11 ?c12 (by decide) (by decide) (by have := HB1.out.size; simp; omega) ?_)
 case c11 =>
  intro q u hq
  match q, hq with
  | 0, hq => simp at hq; subst hq; simp [Addr.add]
 case c12 => intro u hu; simp at hu; subst hu; rfl
 intro v2 w2 hown hgrow hnil
 have HO2 := hid hown
 have HB2 := hid (show Below w.heap.size w w2 from (HB1.out.alloc HB1.out.size _).grown hgrow (by have := HB1.out.size; simp; omega) (fun k hk => (HO1.out.lt k hk).1))
 clear hown hgrow hnil
 go_wp2_with fail
 go_ret
 exact ⟨v2, rfl, HO2.out, HB2.out⟩
theorem chain_nSt (w : World) : Calls Tryz.prog 141 #[.string ⟨#[115, 116, 121, 108, 101, 45, 115, 114, 99]⟩] w (OwnT [nSt, nDe] w) := by
 obtain ⟨i0, hi, hz0, hz1, hz2⟩ := info_parts infoS10
 go_enter Tryz.func141, Tryz.ntmps141
 go_wp2_with (at_builtin; refine wpList_append_own _ rfl _ _ 29 rfl w.heap.size 9 i0 (.string ⟨#[]⟩) 1 16 Tryz.underlying29 hi hz0 hz1 hz2 rfl (by decide) _ 0 _ rfl (World.ownsRow_nil _ _ _ _) ⟨w.heap.size, 0, none⟩ 1 1 [.string ⟨#[115, 116, 121, 108, 101, 45, 115, 114, 99]⟩] rfl rfl ?c01 ?c02 (by decide) (by decide) (by simp) ?_)
 case c01 =>
  intro q u hq
  match q, hq with
  | 0, hq => simp at hq; subst hq; simp [Addr.add]
 case c02 => intro u hu; simp at hu; subst hu; rfl
 intro v1 w1 hown hgrow hnil
 have HO1 := hid hown
 have HB1 := hid (show Below w.heap.size w w1 from ((Below.refl _ w).alloc (Nat.le_refl _) _).grown hgrow (by simp) (fun k hk => by simp [Value.ownBlock] at hk))
 clear hown hgrow hnil
 go_wp2_with (at_builtin; refine wpList_append_own _ rfl _ _ 29 rfl w.heap.size 9 i0 (.string ⟨#[]⟩) 1 16 Tryz.underlying29 hi hz0 hz1 hz2 rfl (by decide) _ 1 _ rfl ((HO1.out.alloc _)) ⟨w1.heap.size, 0, none⟩ 1 1 [.string ⟨#[100, 101, 102, 97, 117, 108, 116, 45, 115, 114, 99]⟩] rfl rfl ?c11 ?c12 (by decide) (by decide) (by have := HB1.out.size; simp; omega) ?_)
 case c11 =>
  intro q u hq
  match q, hq with
  | 0, hq => simp at hq; subst hq; simp [Addr.add]
 case c12 => intro u hu; simp at hu; subst hu; rfl
 intro v2 w2 hown hgrow hnil
 have HO2 := hid hown
 have HB2 := hid (show Below w.heap.size w w2 from (HB1.out.alloc HB1.out.size _).grown hgrow (by have := HB1.out.size; simp; omega) (fun k hk => (HO1.out.lt k hk).1))
 clear hown hgrow hnil
 go_wp2_with fail
 go_ret
 exact ⟨v2, rfl, HO2.out, HB2.out⟩
theorem chain_nCh (w : World) : Calls Tryz.prog 141 #[.string ⟨#[99, 104, 105, 108, 100, 45, 115, 114, 99]⟩] w (OwnT [nCh, nDe] w) := by
 obtain ⟨i0, hi, hz0, hz1, hz2⟩ := info_parts infoS10
 go_enter Tryz.func141, Tryz.ntmps141
 go_wp2_with (at_builtin; refine wpList_append_own _ rfl _ _ 29 rfl w.heap.size 9 i0 (.string ⟨#[]⟩) 1 16 Tryz.underlying29 hi hz0 hz1 hz2 rfl (by decide) _ 0 _ rfl (World.ownsRow_nil _ _ _ _) ⟨w.heap.size, 0, none⟩ 1 1 [.string ⟨#[99, 104, 105, 108, 100, 45, 115, 114, 99]⟩] rfl rfl ?c01 ?c02 (by decide) (by decide) (by simp) ?_)
 case c01 =>
  intro q u hq
  match q, hq with
  | 0, hq => simp at hq; subst hq; simp [Addr.add]
 case c02 => intro u hu; simp at hu; subst hu; rfl
 intro v1 w1 hown hgrow hnil
 have HO1 := hid hown
 have HB1 := hid (show Below w.heap.size w w1 from ((Below.refl _ w).alloc (Nat.le_refl _) _).grown hgrow (by simp) (fun k hk => by simp [Value.ownBlock] at hk))
 clear hown hgrow hnil
 go_wp2_with (at_builtin; refine wpList_append_own _ rfl _ _ 29 rfl w.heap.size 9 i0 (.string ⟨#[]⟩) 1 16 Tryz.underlying29 hi hz0 hz1 hz2 rfl (by decide) _ 1 _ rfl ((HO1.out.alloc _)) ⟨w1.heap.size, 0, none⟩ 1 1 [.string ⟨#[100, 101, 102, 97, 117, 108, 116, 45, 115, 114, 99]⟩] rfl rfl ?c11 ?c12 (by decide) (by decide) (by have := HB1.out.size; simp; omega) ?_)
 case c11 =>
  intro q u hq
  match q, hq with
  | 0, hq => simp at hq; subst hq; simp [Addr.add]
 case c12 => intro u hu; simp at hu; subst hu; rfl
 intro v2 w2 hown hgrow hnil
 have HO2 := hid hown
 have HB2 := hid (show Below w.heap.size w w2 from (HB1.out.alloc HB1.out.size _).grown hgrow (by have := HB1.out.size; simp; omega) (fun k hk => (HO1.out.lt k hk).1))
 clear hown hgrow hnil
 go_wp2_with fail
 go_ret
 exact ⟨v2, rfl, HO2.out, HB2.out⟩
theorem chain_nOb (w : World) : Calls Tryz.prog 141 #[.string ⟨#[111, 98, 106, 101, 99, 116, 45, 115, 114, 99]⟩] w (OwnT [nOb, nDe] w) := by
 obtain ⟨i0, hi, hz0, hz1, hz2⟩ := info_parts infoS10
 go_enter Tryz.func141, Tryz.ntmps141
 go_wp2_with (at_builtin; refine wpList_append_own _ rfl _ _ 29 rfl w.heap.size 9 i0 (.string ⟨#[]⟩) 1 16 Tryz.underlying29 hi hz0 hz1 hz2 rfl (by decide) _ 0 _ rfl (World.ownsRow_nil _ _ _ _) ⟨w.heap.size, 0, none⟩ 1 1 [.string ⟨#[111, 98, 106, 101, 99, 116, 45, 115, 114, 99]⟩] rfl rfl ?c01 ?c02 (by decide) (by decide) (by simp) ?_)
 case c01 =>
  intro q u hq
  match q, hq with
  | 0, hq => simp at hq; subst hq; simp [Addr.add]
 case c02 => intro u hu; simp at hu; subst hu; rfl
 intro v1 w1 hown hgrow hnil
 have HO1 := hid hown
 have HB1 := hid (show Below w.heap.size w w1 from ((Below.refl _ w).alloc (Nat.le_refl _) _).grown hgrow (by simp) (fun k hk => by simp [Value.ownBlock] at hk))
 clear hown hgrow hnil
 go_wp2_with (at_builtin; refine wpList_append_own _ rfl _ _ 29 rfl w.heap.size 9 i0 (.string ⟨#[]⟩) 1 16 Tryz.underlying29 hi hz0 hz1 hz2 rfl (by decide) _ 1 _ rfl ((HO1.out.alloc _)) ⟨w1.heap.size, 0, none⟩ 1 1 [.string ⟨#[100, 101, 102, 97, 117, 108, 116, 45, 115, 114, 99]⟩] rfl rfl ?c11 ?c12 (by decide) (by decide) (by have := HB1.out.size; simp; omega) ?_)
 case c11 =>
  intro q u hq
  match q, hq with
  | 0, hq => simp at hq; subst hq; simp [Addr.add]
 case c12 => intro u hu; simp at hu; subst hu; rfl
 intro v2 w2 hown hgrow hnil
 have HO2 := hid hown
 have HB2 := hid (show Below w.heap.size w w2 from (HB1.out.alloc HB1.out.size _).grown hgrow (by have := HB1.out.size; simp; omega) (fun k hk => (HO1.out.lt k hk).1))
 clear hown hgrow hnil
 go_wp2_with fail
 go_ret
 exact ⟨v2, rfl, HO2.out, HB2.out⟩
theorem chain_nDe (w : World) : Calls Tryz.prog 141 #[.string ⟨#[100, 101, 102, 97, 117, 108, 116, 45, 115, 114, 99]⟩] w (OwnT [nDe] w) := by
 obtain ⟨i0, hi, hz0, hz1, hz2⟩ := info_parts infoS10
 go_enter Tryz.func141, Tryz.ntmps141
 go_wp2_with (at_builtin; refine wpList_append_own _ rfl _ _ 29 rfl w.heap.size 9 i0 (.string ⟨#[]⟩) 1 16 Tryz.underlying29 hi hz0 hz1 hz2 rfl (by decide) _ 0 _ rfl (World.ownsRow_nil _ _ _ _) ⟨w.heap.size, 0, none⟩ 1 1 [.string ⟨#[100, 101, 102, 97, 117, 108, 116, 45, 115, 114, 99]⟩] rfl rfl ?c01 ?c02 (by decide) (by decide) (by simp) ?_)
 case c01 =>
  intro q u hq
  match q, hq with
  | 0, hq => simp at hq; subst hq; simp [Addr.add]
 case c02 => intro u hu; simp at hu; subst hu; rfl
 intro v1 w1 hown hgrow hnil
 have HO1 := hid hown
 have HB1 := hid (show Below w.heap.size w w1 from ((Below.refl _ w).alloc (Nat.le_refl _) _).grown hgrow (by simp) (fun k hk => by simp [Value.ownBlock] at hk))
 clear hown hgrow hnil
 go_wp2_with fail
 go_ret
 exact ⟨v1, rfl, HO1.out, HB1.out⟩
theorem chain_none (s : List UInt8) (h0 : s ≠ nSe) (h1 : s ≠ nYe) (h2 : s ≠ nWk) (h3 : s ≠ nFr) (h4 : s ≠ nCo) (h5 : s ≠ nFo) (h6 : s ≠ nIm) (h7 : s ≠ nMe) (h8 : s ≠ nSc) (h9 : s ≠ nSt) (h10 : s ≠ nCh) (h11 : s ≠ nOb) (h12 : s ≠ nDe) : chainV s = [] := by
 unfold chainV
 rw [if_neg h0, if_neg h1, if_neg h2, if_neg h3, if_neg h4, if_neg h5, if_neg h6, if_neg h7, if_neg h8, if_neg h9, if_neg h10, if_neg h11, if_neg h12]
theorem chain10 (s : ByteArray) (w : World) : Calls Tryz.prog 141 #[.string s] w (OwnT (chainV s.data.toList) w) := by
 by_cases h0 : s.data.toList = nSe
 ·have hs : s = ⟨#[115, 99, 114, 105, 112, 116, 45, 115, 114, 99, 45, 101, 108, 101, 109]⟩ := by rw [<- Lib.mk_data s, h0]
  rw [show chainV s.data.toList = [nSe, nSc, nDe] by rw [h0]; decide +kernel, hs]
  exact chain_nSe w
 by_cases h1 : s.data.toList = nYe
 ·have hs : s = ⟨#[115, 116, 121, 108, 101, 45, 115, 114, 99, 45, 101, 108, 101, 109]⟩ := by rw [<- Lib.mk_data s, h1]
  rw [show chainV s.data.toList = [nYe, nSt, nDe] by rw [h1]; decide +kernel, hs]
  exact chain_nYe w
 by_cases h2 : s.data.toList = nWk
 ·have hs : s = ⟨#[119, 111, 114, 107, 101, 114, 45, 115, 114, 99]⟩ := by rw [<- Lib.mk_data s, h2]
  rw [show chainV s.data.toList = [nWk, nCh, nSc, nDe] by rw [h2]; decide +kernel, hs]
  exact chain_nWk w
 by_cases h3 : s.data.toList = nFr
 ·have hs : s = ⟨#[102, 114, 97, 109, 101, 45, 115, 114, 99]⟩ := by rw [<- Lib.mk_data s, h3]
  rw [show chainV s.data.toList = [nFr, nCh, nDe] by rw [h3]; decide +kernel, hs]
  exact chain_nFr w
 by_cases h4 : s.data.toList = nCo
 ·have hs : s = ⟨#[99, 111, 110, 110, 101, 99, 116, 45, 115, 114, 99]⟩ := by rw [<- Lib.mk_data s, h4]
  rw [show chainV s.data.toList = [nCo, nDe] by rw [h4]; decide +kernel, hs]
  exact chain_nCo w
 by_cases h5 : s.data.toList = nFo
 ·have hs : s = ⟨#[102, 111, 110, 116, 45, 115, 114, 99]⟩ := by rw [<- Lib.mk_data s, h5]
  rw [show chainV s.data.toList = [nFo, nDe] by rw [h5]; decide +kernel, hs]
  exact chain_nFo w
 by_cases h6 : s.data.toList = nIm
 ·have hs : s = ⟨#[105, 109, 103, 45, 115, 114, 99]⟩ := by rw [<- Lib.mk_data s, h6]
  rw [show chainV s.data.toList = [nIm, nDe] by rw [h6]; decide +kernel, hs]
  exact chain_nIm w
 by_cases h7 : s.data.toList = nMe
 ·have hs : s = ⟨#[109, 101, 100, 105, 97, 45, 115, 114, 99]⟩ := by rw [<- Lib.mk_data s, h7]
  rw [show chainV s.data.toList = [nMe, nDe] by rw [h7]; decide +kernel, hs]
  exact chain_nMe w
 by_cases h8 : s.data.toList = nSc
 ·have hs : s = ⟨#[115, 99, 114, 105, 112, 116, 45, 115, 114, 99]⟩ := by rw [<- Lib.mk_data s, h8]
  rw [show chainV s.data.toList = [nSc, nDe] by rw [h8]; decide +kernel, hs]
  exact chain_nSc w
 by_cases h9 : s.data.toList = nSt
 ·have hs : s = ⟨#[115, 116, 121, 108, 101, 45, 115, 114, 99]⟩ := by rw [<- Lib.mk_data s, h9]
  rw [show chainV s.data.toList = [nSt, nDe] by rw [h9]; decide +kernel, hs]
  exact chain_nSt w
 by_cases h10 : s.data.toList = nCh
 ·have hs : s = ⟨#[99, 104, 105, 108, 100, 45, 115, 114, 99]⟩ := by rw [<- Lib.mk_data s, h10]
  rw [show chainV s.data.toList = [nCh, nDe] by rw [h10]; decide +kernel, hs]
  exact chain_nCh w
 by_cases h11 : s.data.toList = nOb
 ·have hs : s = ⟨#[111, 98, 106, 101, 99, 116, 45, 115, 114, 99]⟩ := by rw [<- Lib.mk_data s, h11]
  rw [show chainV s.data.toList = [nOb, nDe] by rw [h11]; decide +kernel, hs]
  exact chain_nOb w
 by_cases h12 : s.data.toList = nDe
 ·have hs : s = ⟨#[100, 101, 102, 97, 117, 108, 116, 45, 115, 114, 99]⟩ := by rw [<- Lib.mk_data s, h12]
  rw [show chainV s.data.toList = [nDe] by rw [h12]; decide +kernel, hs]
  exact chain_nDe w
 rw [chain_none s.data.toList h0 h1 h2 h3 h4 h5 h6 h7 h8 h9 h10 h11 h12]
 have e0 := beq_no10 s nSe h0
 have e1 := beq_no10 s nYe h1
 have e2 := beq_no10 s nWk h2
 have e3 := beq_no10 s nFr h3
 have e4 := beq_no10 s nCo h4
 have e5 := beq_no10 s nFo h5
 have e6 := beq_no10 s nIm h6
 have e7 := beq_no10 s nMe h7
 have e8 := beq_no10 s nSc h8
 have e9 := beq_no10 s nSt h9
 have e10 := beq_no10 s nCh h10
 have e11 := beq_no10 s nOb h11
 have e12 := beq_no10 s nDe h12
 clear h0 h1 h2 h3 h4 h5 h6 h7 h8 h9 h10 h11 h12
 go_enter Tryz.func141, Tryz.ntmps141
 go_wp2_with fail
 go_ret
 exact ⟨_, rfl, World.ownsRow_nil _ _ _ _, Below.refl _ _⟩
theorem for10 (d : Int) (w : World) : Calls Tryz.prog 93 #[.int .i64 d] w fun e w' => e = .returned (.string ⟨(forV d).toArray⟩) /\ w = w' := by
 by_cases h1 : d = 1
 ·subst h1
  go_enter Tryz.func93, Tryz.ntmps93
  go_wp2
  go_ret
  exact ⟨rfl, rfl⟩
 by_cases h2 : d = 2
 ·subst h2
  go_enter Tryz.func93, Tryz.ntmps93
  go_wp2
  go_ret
  exact ⟨rfl, rfl⟩
 by_cases h3 : d = 3
 ·subst h3
  go_enter Tryz.func93, Tryz.ntmps93
  go_wp2
  go_ret
  exact ⟨rfl, rfl⟩
 by_cases h4 : d = 4
 ·subst h4
  go_enter Tryz.func93, Tryz.ntmps93
  go_wp2
  go_ret
  exact ⟨rfl, rfl⟩
 by_cases h5 : d = 5
 ·subst h5
  go_enter Tryz.func93, Tryz.ntmps93
  go_wp2
  go_ret
  exact ⟨rfl, rfl⟩
 by_cases h6 : d = 6
 ·subst h6
  go_enter Tryz.func93, Tryz.ntmps93
  go_wp2
  go_ret
  exact ⟨rfl, rfl⟩
 have HF := hid (show forV d = [] by unfold forV; rw [if_neg h1, if_neg h2, if_neg h3, if_neg h4, if_neg h5, if_neg h6])
 have e1 : (d == 1) = false := by rw [beq_eq_false_iff_ne]; exact h1
 have e2 : (d == 2) = false := by rw [beq_eq_false_iff_ne]; exact h2
 have e3 : (d == 3) = false := by rw [beq_eq_false_iff_ne]; exact h3
 have e4 : (d == 4) = false := by rw [beq_eq_false_iff_ne]; exact h4
 have e5 : (d == 5) = false := by rw [beq_eq_false_iff_ne]; exact h5
 have e6 : (d == 6) = false := by rw [beq_eq_false_iff_ne]; exact h6
 clear h1 h2 h3 h4 h5 h6
 go_enter Tryz.func93, Tryz.ntmps93
 go_wp2
 go_ret
 rw [HF.out]
 exact ⟨rfl, rfl⟩
end Go.Proofs.YtooihpkoplgmbaaGreatDoor
