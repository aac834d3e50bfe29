/-
  Walks and plain facts that this claim leans on, put together out of 22 texts: Xj, Xl, Xm, Xr, Xt, Wh, Xu, Xv, Xx, Za, Xq, Zc, Zd, Zh, Zj, Ba, Bb, Bd, Be, Bf, Bg, Bi.
-/
import Derived.Test.YtpopljcmkbchcaaDoorProg
import Derived.Test.YtpopljcmkbchcaaDoorQa1
import Derived.WalkKit
import Derived.Lib.Strings
import Derived.Lib.UnsafeStr
import Derived.Laws.IdiomStrings
import Derived.Laws.AppendOwn
import Derived.Laws.BitsAllLaws
import Derived.Lib.Bytealg
import Derived.Lib.BufferMore
import Derived.Shelf.Strings.Builder1
import Derived.Shelf.Strings.Builder2
import Derived.Shelf.Strings.OnBuilder
import Derived.Shelf.Small.Utf8
import Derived.Shelf.Strings.BuilderF
import Derived.Shelf.Strings.BuilderK
import Derived.Shelf.Strings.BuilderRune
import Derived.Shelf.Utf8.AppendRune
import Derived.Shelf.Utf8.AppendRunePlain
import Derived.Shelf.Strings.Builder2Cap
import Derived.Shelf.Strconv.Itoa0
import Derived.Shelf.Strconv.Itoa1
import Derived.Shelf.LaysM
import Derived.Shelf.Strconv.Itoa2
import Derived.Shelf.Strconv.Itoa3
import Derived.Shelf.Unicode.Latin
import Derived.Shelf.Unicode.Decode
import Derived.Shelf.Unicode.DecodeSlow
import Derived.Shelf.Unicode.DecodeAny
import Derived.Shelf.Unicode.CaseLookup
import Derived.Shelf.Unicode.CaseConvert
import Derived.Shelf.Unicode.CaseTo
import Derived.Shelf.Unicode.CaseLaid
import Derived.WalkSpells
import Derived.WalkLawsBesides
import Derived.Lib.SlTrimSet
import Derived.Lib.Join
import Derived.Lib.IndexMore
import Derived.Laws.OwnMore
import Derived.Below
import Derived.WalkSmall
import Derived.Lib.SmallJoins
import Derived.Deep.QuietTactic
import Derived.BigQuiet
import Derived.Deep.LoopGhost
import Derived.Deep.MidRow
import Derived.Shelf.Strings.SlTrimAscii
import Derived.Deep.CutRange
import Derived.Laws.Rows
import Derived.Laws.CopyOwn
import Derived.Laws.MakeOwn
import Derived.Laws.RangeAny
import Derived.Lib.DecodeN
import Derived.Lib.OthersKept
import Derived.RegionTactic
import Derived.Deep.RegionWith
import Derived.Laws.Runes
import Derived.Deep.WholeRow
import Derived.Deep.RegionLaw
import Derived.Deep.RegionHeldLaw
import Derived.LoopN
import Derived.Laws.AppendOwnNone
import Derived.BigRegion
import Derived.Deep.RegionHeld
set_option linter.unusedSimpArgs false
set_option linter.unusedVariables false

namespace Go.Proofs.YtpopljcmkbchcaaDoor
open Go.RowKit

def G5 (w : World) : Prop := ∃ m, w.cell? ⟨1, 0, none⟩ = some (.int .i64 m)

theorem G5.kept {w w' : World} (h : G5 w) (hb : Below w.heap.size w w') : G5 w' := by
 obtain ⟨m, hm⟩ := h
 exact ⟨m, (hb.cell (World.block_lt_of_cell? w _ hm)).trans hm⟩

theorem join5_any (v : Value) (L : List (List UInt8)) (sep : ByteArray) (w : World) (h : TxAt w v L) (hl : L.length ≤ 140737488355328) (hf : (Lib.join L sep.data.toList).length ≤ 140737488355328) :
  Calls Tryd.prog 24 #[v, .string sep] w fun e w' => e = .returned (.string ⟨(Lib.join L sep.data.toList).toArray⟩) ∧ Below w.heap.size w w' := by
 obtain ⟨a, cap, rfl, h3, h4, h5⟩ := h
 by_cases h0 : L = []
 ·subst h0
  refine (Tryd.strings_Join_none a cap sep w).mono ?_
  rintro e w' ⟨rfl, rfl⟩
  exact ⟨rfl, Below.refl _ _⟩
 ·have hl0 : 0 < L.length := List.length_pos_iff.2 h0
  obtain ⟨b, off, rfl, c0⟩ := h5 0 hl0
  have h2 : b < w.heap.size := World.block_lt_of_cell? w _ c0
  have e1 : (L.map fun x => (⟨x.toArray⟩ : ByteArray)).map (·.data.toList) = L := by
   rw [List.map_map]
   exact List.map_id L
  have hj := Tryd.strings_Join b off cap (L.map fun x => (⟨x.toArray⟩ : ByteArray)) sep w ?_ h2 (by simp; omega) (by simp; omega) ?_
  ·rw [e1, List.length_map] at hj
   exact hj
  ·intro j x hx
   rw [List.getElem?_map] at hx
   obtain ⟨y, hy, rfl⟩ := Option.map_eq_some_iff.1 hx
   obtain ⟨hj, e⟩ := List.getElem?_eq_some_iff.1 hy
   obtain ⟨b', off', e', c'⟩ := h5 j hj
   cases e'
   rw [c', e]
  ·rw [e1]; omega

def bulkV (L : List Hd) : Nat := (L.map fun h => h.value.length + 2).sum

theorem join_len (L : List (List UInt8)) (sep : List UInt8) : (Lib.join L sep).length ≤ (L.map fun x => x.length + sep.length).sum := by
 unfold Lib.join
 induction L with
 | nil => simp
 | cons x r ih =>
  cases r with
  | nil => simp [List.intercalate]
  | cons y r => simp [List.intercalate] at ih ⊢; omega

theorem selV_len (L : List Hd) (n : List UInt8) : (selV L n).length ≤ L.length := by
 unfold selV; simp [List.length_filter_le]

theorem getT_len (L : List Hd) (n : List UInt8) : (getT L n).length ≤ bulkV L := by
 refine Nat.le_trans (join_len _ _) ?_
 unfold selV bulkV
 rw [List.map_map]
 induction L with
 | nil => simp
 | cons h L ih =>
  by_cases hh : isN n h = true
  ·simp [List.filter_cons, hh] at ih ⊢; omega
  ·simp [List.filter_cons, hh] at ih ⊢; omega

def Szd (n : Nat) (L : List Hd) : Prop := ∀ h ∈ L, h.name.length ≤ n ∧ h.value.length ≤ n

theorem strNe {M N : ByteArray} (h : ¬ M = N) : (M.toList == N.toList) = false := by
 rw [Lib.toList_data, Lib.toList_data]
 rw [beq_eq_false_iff_ne]
 exact fun e => h (xba e)

theorem xret_sb {a b : ByteArray} {x y : Bool} (h : a = b) (g : x = y) : Ending.returned (.tuple #[.string a, .bool x]) = .returned (.tuple #[.string b, .bool y]) := by rw [h, g]

set_option maxHeartbeats 2000000 in
set_option maxRecDepth 100000 in
theorem get_any (v : Value) (L : List Hd) (n : ByteArray) (w : World) (h : HdAt w v L) (hs : n.size ≤ 140737488351232) (hz : Szd 140737488351232 L) (hl : L.length ≤ 1000000) (hb : bulkV L ≤ 140737488355328) :
  Calls Tryd.prog 13 #[v, .string n] w fun e w' => e = .returned (.tuple #[.string ⟨(getT L n.data.toList).toArray⟩, .bool (getB L n.data.toList)]) ∧ Below w.heap.size w w' := by
 obtain ⟨a1, c1, rfl, hc1, hm1, hv1⟩ := h.view
 have V1 := hid hv1
 clear h hv1
 obtain ⟨i0, hi, hz0, hz1, hz2⟩ := info3 infoTx
 have HZ := hid hz
 have HB := hid hb
 clear hz hb
 obtain ⟨N, hN⟩ : ∃ N : ByteArray, N = ⟨(low n.data.toList).toArray⟩ := ⟨_, rfl⟩
 have HN := hid (show N.data.toList = low n.data.toList by rw [hN])
 have HNe := hid hN
 clear hN
 go_enter Tryd.func13, Tryd.ntmps13
 go_wp2_with (go_at_call 18; refine (lower_any n _ hs).mono ?_)
 rintro e w0 ⟨rfl, hb0⟩
 rw [← HNe.out]
 go_wp2
 go_loopw [6, 8, 13] (fun vv x i wr => ∃ k : Nat, k ≤ L.length ∧ i = .int .i64 k ∧ wr.ownsRow w.heap.size 9 1 vv (selV (L.take k) n.data.toList).length (cellsT (selV (L.take k) n.data.toList)) ∧ Below w.heap.size w wr)
  (fun _ _ i _ => L.length - (intOf i).toNat)
 case atStart => exact ⟨0, Nat.zero_le _, rfl, World.ownsRow_nil _ _ _ _, hb0⟩
 case round =>
  obtain ⟨k, hk, rfl, hown, hbw⟩ := hrel
  have HO := hid hown
  have hwr := hbw.size
  clear hown
  by_cases hlt : k < L.length
  ·have hlt' : (k : Int) < (L.length : Int) := by omega
   obtain ⟨b1, o1, rfl, e1, e2⟩ := V1.out k hlt
   have f1 : wr.cell? ⟨b1, o1 + k * 2, none⟩ = some (.string ⟨L[k].name.toArray⟩) := (hbw.cell (World.block_lt_of_cell? w _ e1)).trans e1
   have f2 : wr.cell? ⟨b1, o1 + k * 2 + 1, none⟩ = some (.string ⟨L[k].value.toArray⟩) := (hbw.cell (World.block_lt_of_cell? w _ e2)).trans e2
   clear e1 e2
   obtain ⟨nm, hnm⟩ : ∃ x : ByteArray, x = ⟨L[k].name.toArray⟩ := ⟨_, rfl⟩
   obtain ⟨vl, hvl⟩ : ∃ x : ByteArray, x = ⟨L[k].value.toArray⟩ := ⟨_, rfl⟩
   rw [← hnm] at f1
   rw [← hvl] at f2
   have hsz : nm.size ≤ 140737488351232 := by rw [hnm, xsize]; exact (HZ.out _ (List.getElem_mem hlt)).1
   have HV := hid hvl
   have HM := hid hnm
   clear hnm hvl
   have HT := hid (show L.take (k + 1) = L.take k ++ [L[k]] by rw [List.take_add_one, List.getElem?_eq_getElem hlt]; rfl)
   obtain ⟨M, hM⟩ : ∃ x : ByteArray, x = ⟨(low nm.data.toList).toArray⟩ := ⟨_, rfl⟩
   have HMe := hid hM
   clear hM
   go_wp2_with fail
   refine (lower_any nm _ hsz).mono ?_
   rintro e w1 ⟨rfl, hb1⟩
   rw [← HMe.out]
   have hbw1 := (hbw.alloc hwr (.cells #[.string nm, .string vl] 35)).trans (hb1.mono (by simp; omega))
   have g2 : w1.cell? ⟨wr.heap.size, 1, none⟩ = some (.string vl) := (hb1.cell (p := ⟨wr.heap.size, 1, none⟩) (by simp)).trans (by simp [go_sem])
   have HO1 := hid (own_same (HO.out.alloc (.cells #[.string nm, .string vl] 35)) hb1)
   have hw1 := hbw1.size
   by_cases hmn : M = N
   ·subst hmn
    have HS := hid (show selV (L.take (k + 1)) n.data.toList = selV (L.take k) n.data.toList ++ [vl.data.toList] by
     rw [HT.out, selV_snoc, if_pos, HV.out]
     rw [isN, beq_iff_eq, ← HN.out, HMe.out, HM.out])
    go_wp2_with (at_builtin; go_must (refine wpList_append_own _ rfl _ _ 36 rfl w.heap.size 9 i0 (.string ByteArray.empty) 1 16 Tryd.underlying36 hi hz0 hz1 hz2 rfl (by decide) _ _ _ rfl (HO1.out.alloc _) ⟨w1.heap.size, 0, none⟩ 1 1 [.string vl] rfl rfl ?c1 ?c2 ?c3 ?c4 ?c5 ?_))
    case c1 =>
     intro q u hq
     match q, hq with
     | 0, hq => simp at hq; subst hq; simp [Addr.add]
    case c2 => intro u hu; simp at hu; subst hu; rfl
    case c3 => have := selV_len (L.take k) n.data.toList; simp at this; unfold maxLen; omega
    case c4 => have := selV_len (L.take k) n.data.toList; simp at this; omega
    case c5 => simp; omega
    intro v' w2 hown' hgrow hnil
    have HO2 := hid hown'
    have HB2 := hid (show Below w.heap.size w w2 from (hbw1.alloc hw1 _).grown hgrow (by simp; omega) (fun g hg => (HO1.out.lt g hg).1))
    clear hown' hgrow hnil
    go_wp2
    go_roundw
    case rel =>
     refine ⟨k + 1, by omega, by go_num, ?_, HB2.out⟩
     rw [HS.out, cellsT_app, cellsT_one, List.length_append]
     exact HO2.out
    case measure => simp [intOf]; omega
   ·have hne := strNe hmn
    have HS := hid (show selV (L.take (k + 1)) n.data.toList = selV (L.take k) n.data.toList by
     rw [HT.out, selV_snoc, if_neg, List.append_nil]
     rw [isN, beq_iff_eq, ← HN.out]
     intro e
     exact hmn (xba (by rw [← e, HMe.out, HM.out])))
    clear hmn
    go_wp2
    go_roundw
    case rel =>
     refine ⟨k + 1, by omega, by go_num, ?_, hbw1⟩
     rw [HS.out]
     exact HO1.out
    case measure => simp [intOf]; omega
  ·have hke : k = L.length := by omega
   subst hke
   have HT := hid (show selV (L.take L.length) n.data.toList = selV L n.data.toList by rw [List.take_length])
   have hown := HO.out
   rw [HT.out] at hown
   have hta := own_txt' hown
   obtain ⟨q, hq⟩ : ∃ q, q = selV L n.data.toList := ⟨_, rfl⟩
   have HQ := hid hq
   rw [← hq] at hown hta
   have hql : q.length ≤ L.length := by rw [hq]; exact selV_len _ _
   obtain ⟨a2, c2, rfl, _, _, _⟩ := hta.view
   have HA := hid hta
   clear hown hta hq HT HO
   have hjl : (Lib.join q [44, 32]).length ≤ 140737488355328 := by
    have h1 := getT_len L n.data.toList
    rw [getT, ← HQ.out] at h1
    exact Nat.le_trans h1 HB.out
   have HJ := hid (join5_any _ q ⟨#[44, 32]⟩ wr HA.out (by omega) hjl)
   clear hjl
   go_wp2_with fail
   refine HJ.out.mono ?_
   rintro e w3 ⟨rfl, hb3⟩
   go_wp2
   go_ret2
   refine ⟨xret_sb (xext ?_) ?_, hbw.trans (hb3.mono hwr)⟩
   ·rw [getT, ← HQ.out]
   ·rw [getB, ← HQ.out]
    cases q with
    | nil => rfl
    | cons x y => simp

end Go.Proofs.YtpopljcmkbchcaaDoor

namespace Go.Proofs.YtpopljcmkbchcaaDoor
open Go.RowKit

theorem lst_ne {M : ByteArray} {l : List UInt8} (h : ¬ M.data.toList = l) : (M.toList == l) = false := by
 rw [Lib.toList_data, beq_eq_false_iff_ne]; exact h

theorem lst_yes {M : ByteArray} {l : List UInt8} (h : M.data.toList = l) : M = ⟨l.toArray⟩ := xext h

end Go.Proofs.YtpopljcmkbchcaaDoor

namespace Go.Proofs.YtpopljcmkbchcaaDoor
open Go.RowKit

theorem belowA {w w' : World} (h : Below w.heap.size w w') (o : Obj) : Below w.heap.size w (w'.alloc o) := h.alloc h.size o

end Go.Proofs.YtpopljcmkbchcaaDoor

namespace Go.Proofs.YtpopljcmkbchcaaDoor
open Go.RowKit

theorem cellsH_cell (L : List Hd) (j : Nat) (u : Value) (h : (cellsH L)[j]? = some u) : ∃ k, ∃ hk : k < L.length, (j = k * 2 ∧ u = .string ⟨L[k].name.toArray⟩) ∨ (j = k * 2 + 1 ∧ u = .string ⟨L[k].value.toArray⟩) := by
 have hj : j < L.length * 2 := by
  rw [← cellsH_len]
  exact (List.getElem?_eq_some_iff.1 h).1
 refine ⟨j / 2, by omega, ?_⟩
 have h2 := cellsH_at L (j / 2) (by omega)
 rcases (show j = j / 2 * 2 ∨ j = j / 2 * 2 + 1 by omega) with e | e
 ·left
  refine ⟨e, ?_⟩
  rw [e, h2.1] at h
  exact (Option.some.inj h).symm
 ·right
  refine ⟨e, ?_⟩
  rw [e, h2.2] at h
  exact (Option.some.inj h).symm

theorem add_of (b off j : Nat) : (⟨b, off, none⟩ : Addr).add j = ⟨b, off + j, none⟩ := by unfold Addr.add; split <;> simp_all

theorem HdAt.cells {w : World} {a : Option Addr} {n cap : Nat} {L : List Hd} (h : HdAt w (.slice a n cap) L) : n = L.length ∧ ∀ j u, (cellsH L)[j]? = some u → ∃ x, a = some x ∧ w.cell? (x.add j) = some u := by
 obtain ⟨a', cap', e, _, _, hc⟩ := h
 cases e
 refine ⟨rfl, fun j u hu => ?_⟩
 obtain ⟨k, hk, h⟩ := cellsH_cell L j u hu
 obtain ⟨b, off, rfl, c1, c2⟩ := hc k hk
 refine ⟨_, rfl, ?_⟩
 rw [add_of]
 rcases h with ⟨rfl, rfl⟩ | ⟨rfl, rfl⟩
 ·exact c1
 ·rw [← Nat.add_assoc]; exact c2

def HdPost (L : List Hd) (w : World) (e : Ending) (w' : World) : Prop := ∃ v, e = .returned v ∧ w'.ownsRow w.heap.size 35 2 v L.length (cellsH L) ∧ Below w.heap.size w w'

end Go.Proofs.YtpopljcmkbchcaaDoor

namespace Go.Proofs.YtpopljcmkbchcaaDoor
open Go.RowKit

def valT (l : List UInt8) : List UInt8 := Lib.trimS l [9, 10, 13, 32]

end Go.Proofs.YtpopljcmkbchcaaDoor

namespace Go.Proofs.YtpopljcmkbchcaaDoor
open Go.RowKit

def tokC (c : UInt8) : Bool := tokI c.toNat

def tokL (l : List UInt8) : Bool := l.all tokC && !l.isEmpty

set_option maxHeartbeats 400000 in
theorem token_any (s : ByteArray) (w : World) (hs : s.size ≤ 140737488351232) :
  Calls Tryd.prog 17 #[.string s] w fun e w' => e = .returned (.bool (tokL s.data.toList)) ∧ w = w' := by
 go_enter Tryd.func17, Tryd.ntmps17
 go_wp2
 go_loop [6] (fun i => ∃ k : Nat, k ≤ s.size ∧ i = .int .i64 k ∧ (s.data.toList.take k).all tokC = true) (fun i => s.size - (intOf i).toNat)
 case atStart => exact ⟨0, Nat.zero_le _, rfl, rfl⟩
 case round =>
  obtain ⟨k, hk, rfl, hall⟩ := hrel
  have HA := hid hall
  clear hall
  by_cases hlt : k < s.size
  ·have HT := hid (take_snoc s k hlt)
   by_cases ht : tokI (s[k].toNat : Int) = true
   ·go_wp2_with (go_at_call 27; refine (tokenByte_any _ _).mono ?_; rintro e w' ⟨rfl, rfl⟩)
    go_round
    case rel => exact ⟨k + 1, by omega, by go_num, by rw [HT.out, List.all_append, HA.out]; simp [tokC, ht]⟩
    case measure => simp [intOf]; omega
   ·have ht' : tokI (s[k].toNat : Int) = false := by simpa using ht
    clear ht
    go_wp2_with (go_at_call 27; refine (tokenByte_any _ _).mono ?_; rintro e w' ⟨rfl, rfl⟩)
    go_ret
    refine ⟨ret_bool ?_, rfl⟩
    have : s.data.toList.all tokC = false := by
     rw [List.all_eq_false]
     refine ⟨s[k], ?_, by simp [tokC, ht']⟩
     have : s[k] = s.data.toList[k]'(by simpa using hlt) := rfl
     rw [this]; exact List.getElem_mem _
    simp [tokL, this]
  ·have ha := HA.out
   rw [take_all s k hlt] at ha
   go_wp2
   go_ret
   exact ⟨ret_bool (by rw [Lib.toList_data]; simp [tokL, ha]), rfl⟩

end Go.Proofs.YtpopljcmkbchcaaDoor

namespace Go.Proofs.YtpopljcmkbchcaaDoor
open Go.RowKit

def Two (w : World) (b : Nat) (n v : ByteArray) : Prop := w.heap[b]? = some (.cells #[.string n, .string v] 35 (0, 0))

theorem Two.range {w : World} {b : Nat} {n v : ByteArray} (h : Two w b n v) : w.rangeAt b 0 [.string n, .string v] := fun j u hu => by
 rw [Nat.zero_add, Lib.cell_of_heap h]
 match j, hu with
 | 0, hu => simpa using hu
 | 1, hu => simpa using hu
 | j + 2, hu => simp at hu

theorem Two.cells {w : World} {b : Nat} {n v : ByteArray} (h : Two w b n v) : w.cell? ⟨b, 0, none⟩ = some (.string n) ∧ w.cell? ⟨b, 1, none⟩ = some (.string v) ∧ w.frozen? ⟨b, 0, none⟩ = false ∧ w.frozen? ⟨b, 1, none⟩ = false :=
 ⟨by rw [Lib.cell_of_heap h]; rfl, by rw [Lib.cell_of_heap h]; rfl, Lib.frozen_of_heap h 0, Lib.frozen_of_heap h 1⟩

theorem Two.set {w : World} {b : Nat} {n v n' v' : ByteArray} (h : Two w b n v) : Two ((w.setCell ⟨b, 0, none⟩ (.string n')).setCell ⟨b, 1, none⟩ (.string v')) b n' v' := by
 have h1 := Lib.heap_setCell_same h (i := 0) (.string n')
 have h2 := Lib.heap_setCell_same h1 (i := 1) (.string v')
 exact h2

end Go.Proofs.YtpopljcmkbchcaaDoor

namespace Go.Proofs.YtpopljcmkbchcaaDoor
open Go.RowKit

def dropV (L : List Hd) (n : List UInt8) : List Hd := L.filter fun h => !isN n h

theorem dropV_snoc (L : List Hd) (h : Hd) (n : List UInt8) : dropV (L ++ [h]) n = dropV L n ++ (if isN n h then [] else [h]) := by
 unfold dropV
 rw [List.filter_append]
 by_cases hh : isN n h = true <;> simp [hh]

def firstV (L : List Hd) (n : List UInt8) : Option Nat := L.findIdx? (isN n)

end Go.Proofs.YtpopljcmkbchcaaDoor

namespace Go.Proofs.YtpopljcmkbchcaaDoor
open Go.RowKit

theorem xstep_append_own {P : Program} {ops : Array Oper} {o : Oper} {a : Act} {w : World} {K : Act → World → Prop} {Q : Exit → Act → World → Prop} {E : Prop} (hgd : o.guard = none) (s x : Operand) (t : TypeId)
  (ho : o.op = .call { callee := .builtin .append, args := #[s, x], argTypes := #[t, t] })
  (base : Nat) (e : TypeId) (i : TypeInfo) (z : Value) (size bytes : Nat) (ht : P.underlying t = some (.slice e)) (hi : P.info? e = some i) (hz : i.zero = some z)
  (hsize : i.size = size) (hby : i.bytes = bytes) (hzs : z.cells.size = size) (hsz : 0 < size)
  (v : Value) (n : Nat) (xs : List Value) (hs : a.eval s = v) (hown : w.ownsRow base e size v n xs)
  (ad : Addr) (m c : Nat) (news : List Value) (hx : a.eval x = .slice (some ad) m c) (hl : news.length = m * size) (hnews : ∀ j u, news[j]? = some u → w.cell? (ad.add j) = some u) (h1 : ∀ u ∈ news, u.oneCell' = true)
  (h63 : n + m ≤ maxLen) (hbytes : (n + m) * bytes ≤ 140737488355328) (hbase : base ≤ w.heap.size)
  (h : ∀ v' w', w'.ownsRow base e size v' (n + m) (xs ++ news) → w.grownBy w' v.ownBlock → (v' = .slice none 0 0 ↔ v = .slice none 0 0 ∧ m = 0) → K (a.put o.dst v') w') :
  if Region.wanted o (yielded ops a.tmps) = true then Oper.wp P o a w K Q else E := by
 rw [if_pos (by simp [Region.wanted, hgd])]
 exact wp_append_own w s x t ho base e i z size bytes ht hi hz hsize hby hzs hsz v n xs hs hown ad m c news hx hl hnews h1 h63 hbytes hbase h

def setV (L : List Hd) (n v : List UInt8) : List Hd := match firstV L n with
 | none => L ++ [⟨n, valT v⟩]
 | some k => L.take k ++ [⟨(L.getD k ⟨[], []⟩).name, valT v⟩] ++ dropV (L.drop (k + 1)) n

end Go.Proofs.YtpopljcmkbchcaaDoor

namespace Go.Proofs.YtpopljcmkbchcaaDoor
open Go.RowKit

def RowZ (w : World) (g : Nat) (l : List UInt8) : Prop := w.heap[g]? = some (.cells (l.map fun c => Value.int .u8 (c.toNat : Int)).toArray 5 (0, 0))

theorem RowZ.cell {w : World} {g : Nat} {l : List UInt8} (h : RowZ w g l) (j : Nat) (hj : j < l.length) : w.cell? ⟨g, j, none⟩ = some (.int .u8 (l[j].toNat : Int)) := by
 rw [Lib.cell_of_heap h]; simp [hj]

theorem RowZ.set {w : World} {g : Nat} {l : List UInt8} (h : RowZ w g l) (j : Nat) (c : UInt8) : RowZ (w.setCell ⟨g, j, none⟩ (.int .u8 (c.toNat : Int))) g (l.set j c) := by
 have := Lib.heap_setCell_same h (i := j) (.int .u8 (c.toNat : Int))
 unfold RowZ
 rw [this]
 simp [List.map_set]

theorem RowZ.string {w : World} {g cap : Nat} {l : List UInt8} (h : RowZ w g l) : (convert 54 9 (.slice (some ⟨g, 0, none⟩) l.length cap)).run Tryd.prog w = .ok (.string ⟨l.toArray⟩) w := by
 refine run_convert_bytes_back w 54 9 5 ⟨g, 0, none⟩ cap l Tryd.underlying54 Tryd.underlying5 Tryd.underlying9 fun j hj => ?_
 have := h.cell j hj
 rw [Addr.add_lit]
 simpa using this

end Go.Proofs.YtpopljcmkbchcaaDoor

namespace Go.Proofs.YtpopljcmkbchcaaDoor
open Go.RowKit

set_option maxHeartbeats 400000 in
theorem xfew_any (s : ByteArray) (n : Nat) (w : World) (hn : n ≤ 1000000) (hs : s.size ≤ 9223372036854775807) :
  Calls Tryd.prog 9 #[.string s, .int .i64 n] w fun e w' => e = .returned (.string ⟨(s.data.toList.take n).toArray⟩) ∧ w = w' := by
 by_cases h : n < s.size
 ·have h' : (n : Int) < (s.size : Int) := by omega
  have HE := hid (show s.extract 0 n = ⟨(s.data.toList.take n).toArray⟩ from xext (by rw [Lib.extract_data]; simp))
  go_enter Tryd.func9, Tryd.ntmps9
  go_wp2
  go_ret
  rw [← HE.out]
  exact ⟨rfl, rfl⟩
 ·have h' : ¬ ((n : Int) < (s.size : Int)) := by omega
  have HE := hid (show s = ⟨(s.data.toList.take n).toArray⟩ from xext (by rw [List.take_of_length_le (by simp; omega)]))
  go_enter Tryd.func9, Tryd.ntmps9
  go_wp2
  go_ret
  rw [← HE.out]
  exact ⟨rfl, rfl⟩

end Go.Proofs.YtpopljcmkbchcaaDoor

namespace Go.Proofs.YtpopljcmkbchcaaDoor
open Go.RowKit

def fewHd (m : Nat) (h : Hd) : Hd := ⟨h.name.take m, h.value.take m⟩

def fewH (L : List Hd) (n m : Nat) : List Hd := (L.take n).map (fewHd m)

theorem fewH_len (L : List Hd) (n m : Nat) : (fewH L n m).length ≤ n := by simp [fewH]; omega

theorem fewH_szd (L : List Hd) (n m : Nat) : Szd m (fewH L n m) := fun h hh => by
 unfold fewH at hh
 obtain ⟨a, _, rfl⟩ := List.mem_map.1 hh
 simp [fewHd]; omega

theorem Szd.mono {a b : Nat} {L : List Hd} (h : Szd a L) (hab : a ≤ b) : Szd b L := fun x hx => ⟨Nat.le_trans (h x hx).1 hab, Nat.le_trans (h x hx).2 hab⟩

theorem Szd.bulk {a : Nat} {L : List Hd} (h : Szd a L) : bulkV L ≤ (a + 2) * L.length := by
 unfold bulkV
 induction L with
 | nil => simp
 | cons x L ih =>
  have h1 := (h x (by simp)).2
  have := ih (fun y hy => h y (by simp [hy]))
  simp only [List.map_cons, List.sum_cons, List.length_cons]
  rw [Nat.mul_add]
  omega

set_option maxHeartbeats 2000000 in
set_option maxRecDepth 100000 in
theorem fewHeaders_any (v : Value) (L : List Hd) (n m : Nat) (w : World) (h : HdAt w v L) (hz : Szd maxLen L) (hn : n ≤ 1000) (hm : m ≤ 1000) :
  Calls Tryd.prog 4 #[v, .int .i64 n, .int .i64 m] w (HdPost (fewH L n m) w) := by
 obtain ⟨i0, hi, hz0, hz1, hz2⟩ := info3 infoHd
 obtain ⟨a1, c1, rfl, hc1, hm1, hv1⟩ := h.view
 have V1 := hid hv1
 have HZ := hid hz
 clear h hv1 hz
 go_enter Tryd.func4, Tryd.ntmps4
 go_wp2
 go_loopw [7, 8] (fun vv i wr => ∃ k : Nat, k ≤ L.length ∧ k ≤ n ∧ i = .int .i64 k ∧ wr.ownsRow w.heap.size 35 2 vv k (cellsH (fewH L k m)) ∧ Below w.heap.size w wr)
  (fun _ i _ => L.length - (intOf i).toNat)
 case atStart => exact ⟨0, Nat.zero_le _, Nat.zero_le _, rfl, World.ownsRow_nil _ _ _ _, Below.refl _ _⟩
 case round =>
  obtain ⟨k, hk, hkn, rfl, hown, hbw⟩ := hrel
  have HO := hid hown
  have hwr := hbw.size
  clear hown
  by_cases hlt : k < L.length
  ·have hlt' : (k : Int) < (L.length : Int) := by omega
   by_cases hltn : k < n
   ·have hltn' : (k : Int) < (n : Int) := by omega
    obtain ⟨b1, o1, rfl, e1, e2⟩ := V1.out k hlt
    have f1 : wr.cell? ⟨b1, o1 + k * 2, none⟩ = some (.string ⟨L[k].name.toArray⟩) := (hbw.cell (World.block_lt_of_cell? w _ e1)).trans e1
    have f2 : wr.cell? ⟨b1, o1 + k * 2 + 1, none⟩ = some (.string ⟨L[k].value.toArray⟩) := (hbw.cell (World.block_lt_of_cell? w _ e2)).trans e2
    obtain ⟨nm, hnm⟩ : ∃ x : ByteArray, x = ⟨L[k].name.toArray⟩ := ⟨_, rfl⟩
    obtain ⟨vl, hvl⟩ : ∃ x : ByteArray, x = ⟨L[k].value.toArray⟩ := ⟨_, rfl⟩
    rw [← hnm] at f1 e1
    rw [← hvl] at f2 e2
    have hs1 : nm.size ≤ 9223372036854775807 := by rw [hnm, xsize]; exact (HZ.out _ (List.getElem_mem hlt)).1
    have hs2 : vl.size ≤ 9223372036854775807 := by rw [hvl, xsize]; exact (HZ.out _ (List.getElem_mem hlt)).2
    obtain ⟨nm', hnm'⟩ : ∃ x : ByteArray, x = ⟨(nm.data.toList.take m).toArray⟩ := ⟨_, rfl⟩
    obtain ⟨vl', hvl'⟩ : ∃ x : ByteArray, x = ⟨(vl.data.toList.take m).toArray⟩ := ⟨_, rfl⟩
    have HF1 := hid hnm'
    have HF2 := hid hvl'
    have HS := hid (show cellsH (fewH L (k + 1) m) = cellsH (fewH L k m) ++ [.string nm', .string vl'] by
     unfold fewH
     rw [List.take_add_one, List.getElem?_eq_getElem hlt, List.map_append, cellsH_app]
     congr 1
     rw [hnm', hvl', hnm, hvl]; rfl)
    have hblk2 : b1 < w.heap.size := World.block_lt_of_cell? w _ e1
    have HK := hid (fun (X : World) (hX : Below w.heap.size w X) => (⟨hX, (hX.cell hblk2).trans e1, (hX.cell hblk2).trans e2⟩ : Below w.heap.size w X ∧ X.cell? ⟨b1, o1 + k * 2, none⟩ = some (.string nm) ∧ X.cell? ⟨b1, o1 + k * 2 + 1, none⟩ = some (.string vl)))
    have hbD : Below w.heap.size w wr.drew := hbw.drew
    clear e1 e2 hblk2
    clear hnm hvl hnm' hvl'
    go_wp2
    go_region_held_law (fun wx => Below w.heap.size w wx ∧ wx.cell? ⟨b1, o1 + k * 2, none⟩ = some (.string nm) ∧ wx.cell? ⟨b1, o1 + k * 2 + 1, none⟩ = some (.string vl))
     (first | exact HK.out _ hbD | exact HK.out _ (by assumption) | (go_split_ands; exact HK.out _ (by assumption)) | (go_split_ands; exact HK.out _ (belowA (by assumption) _)))
     (first
      | (go_at_call 9; refine (xfew_any _ m _ (by omega) (by assumption)).mono ?_; rintro e w' ⟨rfl, rfl⟩; first | rw [← HF1.out] | rw [← HF2.out])
      | (refine xstep_append_own rfl (.tmp 20) (.tmp 36) 22 rfl w.heap.size 35 i0 _ 2 32 Tryd.underlying22 hi hz0 hz1 hz2 rfl (by decide) u7 k (cellsH (fewH L k m)) rfl (by exact HO.out.alloc _) ⟨wr.heap.size, 0, none⟩ 1 1 [.string nm', .string vl'] rfl rfl (by intro j u hj; match j, hj with | 0, hj => (simp at hj; subst hj; simp [Addr.add]) | 1, hj => (simp at hj; subst hj; simp [Addr.add])) (by intro u hu; simp at hu; rcases hu with rfl | rfl <;> rfl) (by unfold maxLen; omega) (by omega) (by simp; omega) ?_; intro v6 w6 hown6 hgrow6 hnil6; have hbW6 : Below w.heap.size w w6 := (belowA hbD _).grown hgrow6 (by simp; omega) (fun g hg => (HO.out.lt g hg).1)))
    all_goals
     (try dsimp only at *)
     go_wp2
     go_roundw
     case rel =>
      refine ⟨k + 1, by omega, by omega, by go_num, ?_, hbW6⟩
      rw [HS.out]
      first | exact hown6 | simpa using hown6
     case measure => simp [intOf]; omega
   ·have hltn' : decide ((k : Int) < (n : Int)) = false := by rw [decide_eq_false_iff_not]; omega
    have hke : k = n := by omega
    subst hke
    have hlen : (fewH L k m).length = k := by simp [fewH]; omega
    have HR := hid (show wr.ownsRow w.heap.size 35 2 u7 (fewH L k m).length (cellsH (fewH L k m)) by rw [hlen]; exact HO.out)
    clear hlen
    go_wp2
    go_ret
    exact ⟨_, rfl, HR.out, hbw⟩
  ·have hke : k = L.length := by omega
   subst hke
   have hlt' : decide ((L.length : Int) < (L.length : Int)) = false := by rw [decide_eq_false_iff_not]; omega
   have hef : fewH L L.length m = fewH L n m := by
    unfold fewH
    rw [List.take_length, List.take_of_length_le hkn]
   have hlen : (fewH L n m).length = L.length := by rw [← hef]; simp [fewH]
   have HR := hid (show wr.ownsRow w.heap.size 35 2 u7 (fewH L n m).length (cellsH (fewH L n m)) by rw [hlen, ← hef]; exact HO.out)
   clear hlen hef
   go_wp2
   go_ret
   exact ⟨_, rfl, HR.out, hbw⟩

end Go.Proofs.YtpopljcmkbchcaaDoor

namespace Go.Proofs.YtpopljcmkbchcaaDoor
open Go.RowKit

theorem dropV_app (A B : List Hd) (n : List UInt8) : dropV (A ++ B) n = dropV A n ++ dropV B n := by unfold dropV; simp

theorem dropV_twice (L : List Hd) (n : List UInt8) : dropV (dropV L n) n = dropV L n := by
 unfold dropV; rw [List.filter_filter]; simp

theorem isN_other {n o : List UInt8} (h : low n ≠ low o) (x : Hd) (hx : isN n x = true) : isN o x = false := by
 unfold isN at hx ⊢
 rw [beq_iff_eq] at hx
 rw [beq_eq_false_iff_ne, hx]
 exact h

theorem selV_other (L : List Hd) (n o : List UInt8) (h : low n ≠ low o) : selV (dropV L n) o = selV L o := by
 unfold selV dropV
 rw [List.filter_filter]
 congr 1
 apply List.filter_congr
 intro x _
 cases hx : isN n x with
 | false => simp
 | true => simp [isN_other h x hx]

theorem first_ahead (L : List Hd) (n : List UInt8) (k : Nat) (h : firstV L n = some k) : ∃ hk : k < L.length, isN n L[k] = true ∧ selV (L.take k) n = [] ∧ dropV (L.take k) n = L.take k := by
 unfold firstV at h
 rw [List.findIdx?_eq_some_iff_getElem] at h
 obtain ⟨hk, h1, h2⟩ := h
 have hno : ∀ x ∈ L.take k, isN n x = false := fun x hx => by
  obtain ⟨j, hj, rfl⟩ := List.getElem_of_mem hx
  have hj' : j < k := by simp at hj; omega
  have := h2 j hj'
  simpa using this
 refine ⟨hk, h1, ?_, ?_⟩
 ·unfold selV
  rw [List.filter_eq_nil_iff.2 (fun x hx => by rw [hno x hx]; simp)]; rfl
 ·unfold dropV
  rw [List.filter_eq_self]
  intro x hx
  rw [hno x hx]; rfl

theorem isN_self (n v : List UInt8) : isN n ⟨n, v⟩ = true := by unfold isN; simp

theorem isN_name (n v : List UInt8) (x : Hd) (h : isN n x = true) : isN n ⟨x.name, v⟩ = true := h

theorem set_drop (L : List Hd) (n v : List UInt8) : dropV (setV L n v) n = dropV L n := by
 unfold setV
 cases h : firstV L n with
 | none =>
  simp only
  rw [dropV_snoc, isN_self]; simp
 | some k =>
  obtain ⟨hk, h1, h2, h3⟩ := first_ahead L n k h
  simp only
  rw [dropV_app, dropV_app, h3, dropV_twice]
  have hL : L = L.take k ++ ([L[k]] ++ L.drop (k + 1)) := by
   rw [List.singleton_append, List.getElem_cons_drop, List.take_append_drop]
  have e1 : dropV [(⟨(L.getD k ⟨[], []⟩).name, valT v⟩ : Hd)] n = [] := by
   unfold dropV
   rw [List.getD_eq_getElem?_getD, List.getElem?_eq_getElem hk, Option.getD_some, List.filter_cons_of_neg (by rw [isN_name n _ L[k] h1]; simp)]; rfl
  have e2 : dropV [L[k]] n = [] := by
   unfold dropV
   rw [List.filter_cons_of_neg (by rw [h1]; simp)]; rfl
  rw [e1]
  conv => rhs; rw [hL, dropV_app, dropV_app, e2, h3]
  simp

theorem set_other (L : List Hd) (n v o : List UInt8) (hno : low n ≠ low o) : selV (setV L n v) o = selV L o := by
 rw [← selV_other (setV L n v) n o hno, set_drop, selV_other L n o hno]

end Go.Proofs.YtpopljcmkbchcaaDoor

namespace Go.Proofs.YtpopljcmkbchcaaDoor
open Go.RowKit

def rsetV (n V : List UInt8) : Bool → List Hd → List Hd
 | _, [] => []
 | d, h :: r => if isN n h then (if d then rsetV n V d r else ⟨h.name, V⟩ :: rsetV n V true r) else h :: rsetV n V d r

def RsInv (L : List Hd) (n V : List UInt8) (k : Nat) (out : List Hd) (d : Bool) : Prop := out ++ rsetV n V d (L.drop k) = rsetV n V false L ∧ d = (L.take k).any (isN n) ∧ out.length ≤ k

theorem RsInv.place {L : List Hd} {n V : List UInt8} {k : Nat} {out : List Hd} (h : RsInv L n V k out false) (hk : k < L.length) (hn : isN n L[k] = true) : RsInv L n V (k + 1) (out ++ [⟨L[k].name, V⟩]) true := by
 obtain ⟨h1, h2, h3⟩ := h
 refine ⟨?_, ?_, by simp; omega⟩
 ·rw [← h1, ← List.getElem_cons_drop hk, rsetV, if_pos hn, if_neg (by simp)]; simp
 ·rw [List.take_add_one, List.getElem?_eq_getElem hk, List.any_append]; simp [hn]

theorem RsInv.pass {L : List Hd} {n V : List UInt8} {k : Nat} {out : List Hd} (h : RsInv L n V k out true) (hk : k < L.length) (hn : isN n L[k] = true) : RsInv L n V (k + 1) out true := by
 obtain ⟨h1, h2, h3⟩ := h
 refine ⟨?_, ?_, by omega⟩
 ·rw [← h1, ← List.getElem_cons_drop hk, rsetV, if_pos hn, if_pos rfl]
 ·rw [List.take_add_one, List.getElem?_eq_getElem hk, List.any_append]; simp [hn]

end Go.Proofs.YtpopljcmkbchcaaDoor

namespace Go.Proofs.YtpopljcmkbchcaaDoor
open Go.RowKit

def RowH (w : World) (g : Nat) (M : List Hd) : Prop := w.heap[g]? = some (.cells (cellsH M).toArray 35 (0, 0))

theorem RowH.at {w : World} {g : Nat} {M : List Hd} (h : RowH w g M) (hm : M.length ≤ maxLen) : HdAt w (.slice (some ⟨g, 0, none⟩) M.length M.length) M :=
 hd_of (Nat.le_refl _) hm fun j hj => by
  have := cellsH_at M j hj
  rw [Nat.zero_add, Lib.cell_of_heap h, Lib.cell_of_heap h]
  simpa using this

theorem cellsH_set : ∀ (M : List Hd) (i : Nat) (h : Hd), ((cellsH M).set (i * 2) (.string ⟨h.name.toArray⟩)).set (i * 2 + 1) (.string ⟨h.value.toArray⟩) = cellsH (M.set i h)
 | [], i, h => by simp [cellsH]
 | a :: M, 0, h => rfl
 | a :: M, i + 1, h => by
  have ih := cellsH_set M i h
  have e : cellsH (a :: M) = Value.string ⟨a.name.toArray⟩ :: Value.string ⟨a.value.toArray⟩ :: cellsH M := rfl
  have e2 : cellsH ((a :: M).set (i + 1) h) = Value.string ⟨a.name.toArray⟩ :: Value.string ⟨a.value.toArray⟩ :: cellsH (M.set i h) := rfl
  rw [e, e2, show (i + 1) * 2 = i * 2 + 1 + 1 by omega, List.set_cons_succ, List.set_cons_succ, List.set_cons_succ, List.set_cons_succ, ih]

theorem RowH.set {w : World} {g : Nat} {M : List Hd} (h : RowH w g M) (i : Nat) (a b : ByteArray) : RowH ((w.setCell ⟨g, i * 2, none⟩ (.string a)).setCell ⟨g, i * 2 + 1, none⟩ (.string b)) g (M.set i ⟨a.data.toList, b.data.toList⟩) := by
 have h1 := Lib.heap_setCell_same h (i := i * 2) (.string a)
 have h2 := Lib.heap_setCell_same h1 (i := i * 2 + 1) (.string b)
 unfold RowH
 rw [h2]
 have := cellsH_set M i ⟨a.data.toList, b.data.toList⟩
 rw [← xself a, ← xself b] at this
 rw [← this]
 simp

end Go.Proofs.YtpopljcmkbchcaaDoor

namespace Go.Proofs.YtpopljcmkbchcaaDoor
open Go.RowKit

def ltN (a b : List UInt8) : Bool := decide (Lib.compareBytes a b < 0)

theorem cmp_cons (x y : UInt8) (a b : List UInt8) : Lib.compareBytes (x :: a) (y :: b) = if x < y then -1 else if y < x then 1 else Lib.compareBytes a b := rfl

theorem cmp_anti : ∀ (a b : List UInt8), Lib.compareBytes a b = - Lib.compareBytes b a
 | [], [] => rfl
 | [], _ :: _ => rfl
 | _ :: _, [] => rfl
 | x :: a, y :: b => by
  rw [cmp_cons, cmp_cons]
  have := cmp_anti a b
  by_cases h1 : x < y
  ·have h2 : ¬ y < x := fun h => absurd (UInt8.lt_trans h1 h) (UInt8.lt_irrefl _)
   simp [h1, h2]
  ·by_cases h2 : y < x
   ·simp [h1, h2]
   ·simp [h1, h2, this]

theorem cmp_zero : ∀ (a b : List UInt8), Lib.compareBytes a b = 0 → a = b
 | [], [], _ => rfl
 | [], _ :: _, h => by cases h
 | _ :: _, [], h => by cases h
 | x :: a, y :: b, h => by
  rw [cmp_cons] at h
  by_cases h1 : x < y
  ·simp [h1] at h
  ·by_cases h2 : y < x
   ·simp [h1, h2] at h
   ·simp [h1, h2] at h
    have : x = y := by
     apply UInt8.toNat_inj.1
     rw [UInt8.lt_iff_toNat_lt] at h1 h2
     omega
    rw [this, cmp_zero a b h]

theorem cmp_self : ∀ a : List UInt8, Lib.compareBytes a a = 0
 | [] => rfl
 | x :: a => by rw [cmp_cons, if_neg (UInt8.lt_irrefl _), if_neg (UInt8.lt_irrefl _)]; exact cmp_self a

theorem cmp_trans : ∀ (a b c : List UInt8), Lib.compareBytes a b < 0 → Lib.compareBytes b c < 0 → Lib.compareBytes a c < 0
 | [], _, [], _, h2 => by
  rename_i b h1
  cases b with
  | nil => simp [Lib.compareBytes] at h1
  | cons y b => simp [Lib.compareBytes] at h2
 | [], _, _ :: _, _, _ => by simp [Lib.compareBytes]
 | x :: a, [], _, h1, _ => by simp [Lib.compareBytes] at h1
 | x :: a, y :: b, [], _, h2 => by simp [Lib.compareBytes] at h2
 | x :: a, y :: b, z :: c, h1, h2 => by
  rw [cmp_cons] at h1 h2 ⊢
  simp only [UInt8.lt_iff_toNat_lt] at h1 h2 ⊢
  have ih := cmp_trans a b c
  split at h1
  ·split at h2
   ·rw [if_pos (by omega)]; decide
   ·split at h2
    ·omega
    ·rw [if_pos (by omega)]; decide
  ·split at h1
   ·omega
   ·split at h2
    ·rw [if_pos (by omega)]; decide
    ·split at h2
     ·omega
     ·rw [if_neg (by omega), if_neg (by omega)]; exact ih h1 h2

theorem ltN_irrefl (a : List UInt8) : ltN a a = false := by unfold ltN; rw [cmp_self]; rfl

theorem ltN_trans {a b c : List UInt8} (h1 : ltN a b = true) (h2 : ltN b c = true) : ltN a c = true := by
 unfold ltN at *; simp at *; exact cmp_trans a b c h1 h2

theorem ltN_total (a b : List UInt8) : ltN a b = true ∨ a = b ∨ ltN b a = true := by
 have h := cmp_anti a b
 rcases Int.lt_trichotomy (Lib.compareBytes a b) 0 with h1 | h1 | h1
 ·left; unfold ltN; simpa using h1
 ·right; left; exact cmp_zero a b h1
 ·right; right; unfold ltN; simp; omega

theorem leN_trans {a b c : List UInt8} (h1 : ltN b a = false) (h2 : ltN c b = false) : ltN c a = false := by
 cases h3 : ltN c a with
 | false => rfl
 | true =>
  rcases ltN_total a b with h | h | h
  ·have := ltN_trans h3 h; rw [h2] at this; cases this
  ·subst h; rw [h3] at h2; cases h2
  ·rw [h1] at h; cases h

def nmAt (M : List Hd) (i : Nat) : List UInt8 := (M.getD i ⟨[], []⟩).name

def Srt (M : List Hd) (b : Nat) : Prop := ∀ p q, p < q → q < b → ltN (nmAt M q) (nmAt M p) = false

def Stab (M0 M : List Hd) : Prop := ∀ x : List UInt8, M.filter (fun h => h.name == x) = M0.filter (fun h => h.name == x)

theorem Stab.refl (M : List Hd) : Stab M M := fun _ => rfl

theorem Stab.trans {A B C : List Hd} (h1 : Stab A B) (h2 : Stab B C) : Stab A C := fun x => (h2 x).trans (h1 x)

def Ins (M : List Hd) (i j : Nat) : Prop := j ≤ i ∧ (∀ p q, p < q → q ≤ i → p ≠ j → q ≠ j → ltN (nmAt M q) (nmAt M p) = false) ∧ (∀ q, j < q → q ≤ i → ltN (nmAt M q) (nmAt M j) = false)

theorem Ins.start {M : List Hd} {i : Nat} (h : Srt M i) : Ins M i i := ⟨Nat.le_refl _, fun p q h1 h2 _ h4 => h p q h1 (by omega), fun q h1 h2 => by omega⟩

theorem Ins.done {M : List Hd} {i j : Nat} (h : Ins M i j) (hd : j = 0 ∨ ltN (nmAt M j) (nmAt M (j - 1)) = false) : Srt M (i + 1) := by
 obtain ⟨h1, h2, h3⟩ := h
 intro p q hpq hq
 by_cases e1 : p = j
 ·subst e1; exact h3 q hpq (by omega)
 ·by_cases e2 : q = j
  ·subst e2
   rcases hd with hd | hd
   ·omega
   ·by_cases e3 : p = q - 1
    ·subst e3; exact hd
    ·exact leN_trans (h2 p (q - 1) (by omega) (by omega) e1 (by omega)) hd
  ·exact h2 p q hpq (by omega) e1 e2

end Go.Proofs.YtpopljcmkbchcaaDoor

namespace Go.Proofs.YtpopljcmkbchcaaDoor
open Go.RowKit

theorem RowH.cells {w : World} {g : Nat} {M : List Hd} (h : RowH w g M) (i : Nat) (hi : i < M.length) : w.cell? ⟨g, i * 2, none⟩ = some (.string ⟨(M.getD i ⟨[], []⟩).name.toArray⟩) ∧ w.cell? ⟨g, i * 2 + 1, none⟩ = some (.string ⟨(M.getD i ⟨[], []⟩).value.toArray⟩) := by
 have e : M.getD i ⟨[], []⟩ = M[i] := by simp [List.getD, hi]
 have := cellsH_at M i hi
 rw [e, Lib.cell_of_heap h, Lib.cell_of_heap h]
 simpa using this

theorem RowH.kept {w w' : World} {g : Nat} {M : List Hd} (h : RowH w g M) (hb : Below w.heap.size w w') : RowH w' g M :=
 (hb.block g (Array.getElem?_eq_some_iff.1 h).1).trans h

theorem RowH.lt {w : World} {g : Nat} {M : List Hd} (h : RowH w g M) : g < w.heap.size := (Array.getElem?_eq_some_iff.1 h).1

end Go.Proofs.YtpopljcmkbchcaaDoor

namespace Go.Proofs.YtpopljcmkbchcaaDoor
open Go.RowKit

def lowHd (h : Hd) : Hd := ⟨low h.name, h.value⟩

def lowH (L : List Hd) : List Hd := L.map lowHd

end Go.Proofs.YtpopljcmkbchcaaDoor

namespace Go.Proofs.YtpopljcmkbchcaaDoor
open Go.RowKit

def scN : List UInt8 := [115, 101, 116, 45, 99, 111, 111, 107, 105, 101]

def Tog (M : List Hd) (k : Nat) : Prop := 1 ≤ k ∧ k ≤ M.length ∧ (∀ j, j < k → nmAt M j = nmAt M 0) ∧ (k = 1 ∨ nmAt M 0 ≠ scN) ∧ (k = M.length ∨ nmAt M k ≠ nmAt M 0 ∨ nmAt M 0 = scN)

end Go.Proofs.YtpopljcmkbchcaaDoor

namespace Go.Proofs.YtpopljcmkbchcaaDoor
open Go.RowKit

inductive Bld : List Hd → List Hd → Prop
 | nil : Bld [] []
 | step {R O : List Hd} (k : Nat) (h : Tog R k) (hO : Bld (R.drop k) O) : Bld R (⟨nmAt R 0, getT (R.take k) (nmAt R 0)⟩ :: O)

def SortsTo (L O : List Hd) : Prop := ∃ M, M.length = L.length ∧ Stab (lowH L) M ∧ Srt M M.length ∧ Bld M O

theorem Stab.mem {A B : List Hd} (h : Stab A B) {x : Hd} (hx : x ∈ B) : x ∈ A := by
 have : x ∈ B.filter (fun y => y.name == x.name) := List.mem_filter.2 ⟨hx, by simp⟩
 rw [h] at this
 exact (List.mem_filter.1 this).1

end Go.Proofs.YtpopljcmkbchcaaDoor

namespace Go.Proofs.YtpopljcmkbchcaaDoor
open Go.RowKit

def LeH (x y : Hd) : Prop := ltN y.name x.name = false

theorem ltN_eq {a b : List UInt8} (h1 : ltN a b = false) (h2 : ltN b a = false) : a = b := by
 rcases ltN_total a b with h | h | h
 ·rw [h1] at h; cases h
 ·exact h
 ·rw [h2] at h; cases h

theorem Srt.pair {M : List Hd} (h : Srt M M.length) : M.Pairwise LeH := by
 rw [List.pairwise_iff_getElem]
 intro i j hi hj hij
 have := h i j hij hj
 unfold nmAt at this
 rw [show M.getD j ⟨[], []⟩ = M[j] by simp [List.getD, hj], show M.getD i ⟨[], []⟩ = M[i] by simp [List.getD, hi]] at this
 exact this

theorem same_of_stab : ∀ {A B : List Hd}, A.Pairwise LeH → B.Pairwise LeH → Stab A B → A = B
 | [], B, _, _, hs => by
  cases B with
  | nil => rfl
  | cons b B => exact absurd (hs.mem List.mem_cons_self) (by simp)
 | a :: A, B, ha, hb, hs => by
  cases B with
  | nil =>
   have := hs a.name
   simp at this
  | cons b B =>
   have h1 : b ∈ a :: A := hs.mem List.mem_cons_self
   have hs' : Stab (b :: B) (a :: A) := fun x => (hs x).symm
   have h2 : a ∈ b :: B := hs'.mem List.mem_cons_self
   have e1 : ltN b.name a.name = false := by
    rcases List.mem_cons.1 h1 with e | e
    ·rw [e]; exact ltN_irrefl _
    ·exact (List.pairwise_cons.1 ha).1 b e
   have e2 : ltN a.name b.name = false := by
    rcases List.mem_cons.1 h2 with e | e
    ·rw [e]; exact ltN_irrefl _
    ·exact (List.pairwise_cons.1 hb).1 a e
   have en := ltN_eq e2 e1
   have hh := hs a.name
   rw [List.filter_cons_of_pos (by simp [en]), List.filter_cons_of_pos (by simp)] at hh
   have eab : b = a := (List.cons.inj hh).1
   subst eab
   congr 1
   refine same_of_stab (List.pairwise_cons.1 ha).2 (List.pairwise_cons.1 hb).2 fun x => ?_
   have := hs x
   by_cases hx : b.name = x
   ·rw [List.filter_cons_of_pos (by simp [hx]), List.filter_cons_of_pos (by simp [hx])] at this
    exact (List.cons.inj this).2
   ·rw [List.filter_cons_of_neg (by simp [hx]), List.filter_cons_of_neg (by simp [hx])] at this
    exact this

def LtH (x y : Hd) : Prop := ltN y.name x.name = false ∧ (x.name = y.name → x.name = scN)

structure Told (R O : List Hd) : Prop where
 ordered : O.Pairwise LtH
 named : ∀ x ∈ O, ∃ y ∈ R, y.name = x.name
 valued : ∀ x ∈ O, x.name ≠ scN → x.value = Lib.join ((R.filter (fun y => y.name == x.name)).map (·.value)) [44, 32]
 few : O.length ≤ R.length
 small : ∀ x ∈ O, x.value.length ≤ bulkV R

theorem bulkV_app (A B : List Hd) : bulkV (A ++ B) = bulkV A + bulkV B := by simp [bulkV]

theorem nmAt_get {M : List Hd} {j : Nat} (h : j < M.length) : nmAt M j = M[j].name := by simp [nmAt, List.getD, h]

theorem Bld.told : ∀ {R O : List Hd}, Bld R O → R.Pairwise LeH → Told R O := by
 intro R O h
 induction h with
 | nil => exact fun _ => ⟨.nil, by simp, by simp, Nat.le_refl _, by simp⟩
 | @step R O k h hO ih =>
  intro hp
  obtain ⟨hk1, hkl, hall, hk2, hend⟩ := h
  have hsp : R.take k ++ R.drop k = R := List.take_append_drop k R
  have hp' := hp
  rw [← hsp, List.pairwise_append] at hp'
  obtain ⟨hpt, hpd, hcr⟩ := hp'
  have T := ih hpd
  have h0 : 0 < R.length := by omega
  have hR0 : R[0] ∈ R.take k := List.mem_take_iff_getElem.2 ⟨0, by omega, rfl⟩
  have hn0 : nmAt R 0 = R[0].name := nmAt_get h0
  have hck : ∀ z ∈ R.drop k, z.name = nmAt R 0 → nmAt R 0 = scN := by
   intro z hz hzn
   rcases hend with e | e | e
   ·rw [e, List.drop_length] at hz; cases hz
   ·exfalso
    have hkR : k < R.length := by
     by_cases q : k < R.length
     ·exact q
     ·rw [List.drop_eq_nil_of_le (by omega)] at hz; cases hz
    have hd : R.drop k = R[k] :: R.drop (k + 1) := List.drop_eq_getElem_cons hkR
    have l1 : ltN R[k].name R[0].name = false := hcr R[0] hR0 R[k] (by rw [hd]; exact List.mem_cons_self)
    have l2 : ltN z.name R[k].name = false := by
     rw [hd] at hz hpd
     rcases List.mem_cons.1 hz with q | q
     ·rw [q]; exact ltN_irrefl _
     ·exact (List.pairwise_cons.1 hpd).1 z q
    rw [hzn, hn0] at l2
    apply e
    rw [nmAt_get hkR, hn0]
    exact ltN_eq l1 l2
   ·exact e
  have hta : ∀ y ∈ R.take k, y.name = nmAt R 0 := by
   intro y hy
   obtain ⟨j, hj, rfl⟩ := List.mem_take_iff_getElem.1 hy
   have := hall j (by omega)
   rw [nmAt_get (by omega)] at this
   exact this
  refine ⟨List.pairwise_cons.2 ⟨?_, T.ordered⟩, ?_, ?_, ?_, ?_⟩
  ·intro y hy
   obtain ⟨z, hz, hzn⟩ := T.named y hy
   refine ⟨?_, fun e => ?_⟩
   ·show ltN y.name (nmAt R 0) = false
    rw [← hzn, hn0]
    exact hcr R[0] hR0 z hz
   ·exact hck z hz (hzn.trans e.symm)
  ·intro x hx
   rcases List.mem_cons.1 hx with e | e
   ·subst e
    exact ⟨R[0], List.getElem_mem _, hn0.symm⟩
   ·obtain ⟨z, hz, hzn⟩ := T.named x e
    exact ⟨z, List.mem_of_mem_drop hz, hzn⟩
  ·intro x hx hne
   rcases List.mem_cons.1 hx with e | e
   ·subst e
    show getT (R.take k) (nmAt R 0) = _
    have e1 : R.filter (fun y => y.name == nmAt R 0) = R.take k := by
     conv => lhs; rw [← hsp]
     rw [List.filter_append, List.filter_eq_self.2 (fun y hy => by simp [hta y hy]), List.filter_eq_nil_iff.2, List.append_nil]
     intro z hz q
     exact hne (hck z hz (by simpa using q))
    show _ = Lib.join ((R.filter (fun y => y.name == nmAt R 0)).map (·.value)) [44, 32]
    rw [e1]
    unfold getT selV
    rw [List.filter_eq_self.2 (fun y hy => by rw [isN, hta y hy]; simp)]
   ·rw [T.valued x e hne]
    congr 2
    conv => rhs; rw [← hsp]
    have e2 : (R.take k).filter (fun y => y.name == x.name) = [] := List.filter_eq_nil_iff.2 (by
     intro y hy q
     obtain ⟨z, hz, hzn⟩ := T.named x e
     have q' : y.name = x.name := by simpa using q
     have := hck z hz (by rw [hzn, ← q', hta y hy])
     exact hne (by rw [← q', hta y hy, this]))
    rw [List.filter_append, e2, List.nil_append]
  ·have := T.few
   rw [List.length_drop] at this
   simp only [List.length_cons]
   omega
  ·intro x hx
   rw [← hsp, bulkV_app]
   rcases List.mem_cons.1 hx with e | e
   ·subst e
    have := getT_len (R.take k) (nmAt R 0)
    show (getT (R.take k) (nmAt R 0)).length ≤ _
    omega
   ·have := T.small x e
    omega

theorem join_one (x : List UInt8) (s : List UInt8) : Lib.join [x] s = x := by simp [Lib.join, List.intercalate]

theorem Bld.same : ∀ {R O : List Hd}, Bld R O → R.Pairwise LtH → O = R := by
 intro R O h
 induction h with
 | nil => exact fun _ => rfl
 | @step R O k h hO ih =>
  intro hp
  obtain ⟨hk1, hkl, hall, hk2, hend⟩ := h
  have h0 : 0 < R.length := by omega
  have hk : k = 1 := by
   rcases hk2 with e | e
   ·exact e
   ·by_cases q : k = 1
    ·exact q
    ·exfalso
     have h1 : 1 < R.length := by omega
     have := List.pairwise_iff_getElem.1 hp 0 1 h0 h1 (by omega)
     have q2 := hall 1 (by omega)
     rw [nmAt_get h1, nmAt_get h0] at q2
     exact e (by rw [nmAt_get h0]; exact this.2 q2.symm)
  subst hk
  cases R with
  | nil => simp at h0
  | cons x R =>
   have := ih (List.pairwise_cons.1 hp).2
   rw [this]
   show (⟨x.name, getT [x] x.name⟩ : Hd) :: R = x :: R
   have : getT [x] x.name = x.value := by simp [getT, selV, isN, join_one]
   rw [this]

end Go.Proofs.YtpopljcmkbchcaaDoor

namespace Go.Proofs.YtpopljcmkbchcaaDoor
open Go.RowKit

theorem Tog.le {M : List Hd} {k n : Nat} (h : Tog M k) (h' : Tog M n) : n ≤ k := by
 by_cases hl : n ≤ k
 ·exact hl
 ·exfalso
  obtain ⟨a1, a2, a3, a4, a5⟩ := h
  obtain ⟨b1, b2, b3, b4, b5⟩ := h'
  rcases a5 with e | e | e
  ·omega
  ·exact e (b3 k (by omega))
  ·rcases b4 with q | q
   ·omega
   ·exact q e

theorem Tog.one {M : List Hd} {k n : Nat} (h : Tog M k) (h' : Tog M n) : k = n := Nat.le_antisymm (h'.le h) (h.le h')

theorem Bld.one : ∀ {R O : List Hd}, Bld R O → ∀ {Q : List Hd}, Bld R Q → O = Q := by
 intro R O h
 induction h with
 | nil =>
  intro Q h'
  cases h' with
  | nil => rfl
  | step k h _ => obtain ⟨h1, h2, _⟩ := h; simp at h2; omega
 | @step R O k h hO ih =>
  intro Q h'
  cases h' with
  | nil => obtain ⟨h1, h2, _⟩ := h; simp at h2; omega
  | step n h2 hQ =>
   obtain rfl := h.one h2
   rw [ih hQ]

theorem SortsTo.one {L O Q : List Hd} (h : SortsTo L O) (h' : SortsTo L Q) : O = Q := by
 obtain ⟨M, _, hst, hsr, hb⟩ := h
 obtain ⟨M', _, hst', hsr', hb'⟩ := h'
 have : M = M' := same_of_stab hsr.pair hsr'.pair (fun x => (hst' x).trans (hst x).symm)
 subst this
 exact hb.one hb'

theorem Bld.all : ∀ {R O : List Hd}, Bld R O → ∀ y ∈ R, ∃ x ∈ O, x.name = y.name := by
 intro R O h
 induction h with
 | nil => intro y hy; cases hy
 | @step R O k h hO ih =>
  intro y hy
  obtain ⟨hk1, hkl, hall, _, _⟩ := h
  rw [← List.take_append_drop k R, List.mem_append] at hy
  rcases hy with hy | hy
  ·obtain ⟨j, hj, rfl⟩ := List.mem_take_iff_getElem.1 hy
   refine ⟨_, List.mem_cons_self, ?_⟩
   have := hall j (by omega)
   rw [nmAt_get (by omega)] at this
   exact this.symm
  ·obtain ⟨x, hx, e⟩ := ih y hy
   exact ⟨x, List.mem_cons_of_mem _ hx, e⟩

theorem Bld.cookies : ∀ {R O : List Hd}, Bld R O → O.filter (fun x => x.name == scN) = R.filter (fun x => x.name == scN) := by
 intro R O h
 induction h with
 | nil => rfl
 | @step R O k h hO ih =>
  obtain ⟨hk1, hkl, hall, hk2, _⟩ := h
  have h0 : 0 < R.length := by omega
  by_cases hs : nmAt R 0 = scN
  ·have hk : k = 1 := by
    rcases hk2 with e | e
    ·exact e
    ·exact absurd hs e
   subst hk
   cases R with
   | nil => simp at h0
   | cons x R =>
    have hx : x.name = scN := hs
    have e1 : getT [x] x.name = x.value := by simp [getT, selV, isN, join_one]
    show List.filter _ ((⟨x.name, getT [x] x.name⟩ : Hd) :: O) = _
    rw [e1, List.filter_cons_of_pos (by simp [hx]), List.filter_cons_of_pos (by simp [hx]), ih]
    rfl
  ·rw [List.filter_cons_of_neg (by simpa using hs), ih]
   conv => rhs; rw [← List.take_append_drop k R]
   have e2 : (R.take k).filter (fun x => x.name == scN) = [] := List.filter_eq_nil_iff.2 (by
    intro y hy q
    obtain ⟨j, hj, rfl⟩ := List.mem_take_iff_getElem.1 hy
    have := hall j (by omega)
    rw [nmAt_get (by omega)] at this
    exact hs (by rw [← this]; simpa using q))
   rw [List.filter_append, e2, List.nil_append]

end Go.Proofs.YtpopljcmkbchcaaDoor
