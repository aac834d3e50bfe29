/-
  Walks and plain facts that this claim leans on, put together out of 12 texts: Xj, Xk, Xl, Xm, Xr, Xt, Wh, Xu, Xv, Xx, Za, Xq.
-/
import Derived.Test.YtpopljcmkbchcaaGreatDoorProg
import Derived.Test.YtpopljcmkbchcaaGreatDoorQc1
import Derived.Test.YtpopljcmkbchcaaGreatDoorQc2
import Derived.WalkKit
import Derived.Lib.Strings
import Derived.Lib.UnsafeStr
import Derived.Laws.IdiomStrings
import Derived.Laws.AppendOwn
import Derived.Laws.BitsAllLaws
import Derived.Lib.Bytealg
import Derived.Lib.BufferMore
import Derived.Shelf.Strings.Builder1
import Derived.Shelf.Strings.Builder2
import Derived.Shelf.Strings.OnBuilder
import Derived.Shelf.Strings.Trim
import Derived.Shelf.Small.Utf8
import Derived.Shelf.Small.Bits
import Derived.Shelf.Small.Strs
import Derived.Shelf.Small.Wraps
import Derived.Shelf.Strings.BuilderF
import Derived.Shelf.Strings.BuilderK
import Derived.Shelf.Strings.BuilderRune
import Derived.Shelf.Utf8.AppendRune
import Derived.Shelf.Utf8.AppendRunePlain
import Derived.Shelf.Strings.Builder2Cap
import Derived.Shelf.Strconv.Itoa0
import Derived.Shelf.Strconv.Itoa1
import Derived.Shelf.LaysM
import Derived.Shelf.Strconv.Itoa2
import Derived.Shelf.Strconv.Itoa3
import Derived.Shelf.Strings.Search1
import Derived.Shelf.Strings.Search2
import Derived.Shelf.Strings.Cut
import Derived.Shelf.Strings.Shaped
import Derived.Shelf.Sort.Plain
import Derived.Shelf.Strings.Prefix
import Derived.Shelf.Unicode.Latin
import Derived.Shelf.Strings.Runes
import Derived.Shelf.Strings.IndexAny
import Derived.Shelf.Strings.AsciiSet
import Derived.Shelf.Strings.IndexAnyAll
import Derived.Shelf.Unicode.DecodeSlow
import Derived.Shelf.Unicode.DecodeAny
import Derived.Shelf.Unicode.DecodeLast
import Derived.Shelf.Unicode.CaseLookup
import Derived.Shelf.Unicode.CaseConvert
import Derived.Shelf.Unicode.CaseTo
import Derived.Shelf.Unicode.CaseLaid
import Derived.Shelf.Slices.CompactS
import Derived.Shelf.Slices.In.SortNone
import Derived.WalkSpells
import Derived.WalkLawsBesides
import Derived.Lib.SlTrimSet
import Derived.Lib.Join
import Derived.Lib.IndexMore
import Derived.Laws.OwnMore
import Derived.Below
import Derived.WalkSmall
import Derived.Lib.SmallJoins
import Derived.Deep.QuietTactic
import Derived.BigQuiet
import Derived.Deep.LoopGhost
import Derived.Deep.MidRow
import Derived.Shelf.Strings.SlTrimAscii
import Derived.Deep.CutRange
import Derived.Laws.Rows
import Derived.Laws.CopyOwn
import Derived.Laws.MakeOwn
import Derived.Laws.RangeAny
import Derived.Lib.DecodeN
import Derived.Lib.OthersKept
import Derived.RegionTactic
import Derived.Deep.RegionWith
import Derived.Laws.Runes
import Derived.Deep.WholeRow
import Derived.Deep.RegionLaw
import Derived.Deep.RegionHeldLaw
set_option linter.unusedSimpArgs false
set_option linter.unusedVariables false

namespace Go.Proofs.YtpopljcmkbchcaaGreatDoor
open Go.RowKit

def G5 (w : World) : Prop := ∃ m, w.cell? ⟨2, 0, none⟩ = some (.int .i64 m)

theorem G5.kept {w w' : World} (h : G5 w) (hb : Below w.heap.size w w') : G5 w' := by
 obtain ⟨m, hm⟩ := h
 exact ⟨m, (hb.cell (World.block_lt_of_cell? w _ hm)).trans hm⟩

theorem cut5_any (s sep : ByteArray) (w : World) (hg : G5 w) (hs : s.size ≤ 4000000000) :
  Calls Tryz.prog 156 #[.string s, .string sep] w fun e w' => e = .returned (.tuple #[.string ⟨(Lib.cut s.data.toList sep.data.toList).1.toArray⟩, .string ⟨(Lib.cut s.data.toList sep.data.toList).2.1.toArray⟩, .bool (Lib.cut s.data.toList sep.data.toList).2.2]) ∧ Below w.heap.size w w' := by
 obtain ⟨m, hm⟩ := hg
 refine (Tryz.strings_Cut s sep m w (by omega) hm).mono ?_
 rintro e w' ⟨rfl, n, rfl⟩
 exact ⟨rfl, Go.below_drewN (Below.refl _ _) n⟩

theorem trim5_any (s c : ByteArray) (w : World) (hs : s.size ≤ 9223372036854775807) (hc : c.size < 4294967281) (ha : c.data.toList.all (fun b => decide (b.toNat < 128)) = true) :
  Calls Tryz.prog 133 #[.string s, .string c] w fun e w' => e = .returned (.string ⟨(Lib.trimS s.data.toList c.data.toList).toArray⟩) ∧ Below w.heap.size w w' :=
 Any.strings_Trim_laid Tryz.lays160 (by kernel_rfl) s c w hs hc (ascii_of_all ha)

theorem trimB_any (s : ByteArray) (w : World) (hs : s.size ≤ 9223372036854775807) :
  Calls Tryz.prog 133 #[.string s, .string ⟨#[9, 32]⟩] w fun e w' => e = .returned (.string ⟨(trimB s.data.toList).toArray⟩) ∧ Below w.heap.size w w' :=
 trim5_any s ⟨#[9, 32]⟩ w hs (by decide) (by decide)

theorem join5_any (v : Value) (L : List (List UInt8)) (sep : ByteArray) (w : World) (h : TxAt w v L) (hl : L.length ≤ 140737488355328) (hf : (Lib.join L sep.data.toList).length ≤ 140737488355328) :
  Calls Tryz.prog 141 #[v, .string sep] w fun e w' => e = .returned (.string ⟨(Lib.join L sep.data.toList).toArray⟩) ∧ Below w.heap.size w w' := by
 obtain ⟨a, cap, rfl, h3, h4, h5⟩ := h
 by_cases h0 : L = []
 ·subst h0
  refine (Tryz.strings_Join_none a cap sep w).mono ?_
  rintro e w' ⟨rfl, rfl⟩
  exact ⟨rfl, Below.refl _ _⟩
 ·have hl0 : 0 < L.length := List.length_pos_iff.2 h0
  obtain ⟨b, off, rfl, c0⟩ := h5 0 hl0
  have h2 : b < w.heap.size := World.block_lt_of_cell? w _ c0
  have e1 : (L.map fun x => (⟨x.toArray⟩ : ByteArray)).map (·.data.toList) = L := by
   rw [List.map_map]
   exact List.map_id L
  have hj := Tryz.strings_Join b off cap (L.map fun x => (⟨x.toArray⟩ : ByteArray)) sep w ?_ h2 (by simp; omega) (by simp; omega) ?_
  ·rw [e1, List.length_map] at hj
   exact hj
  ·intro j x hx
   rw [List.getElem?_map] at hx
   obtain ⟨y, hy, rfl⟩ := Option.map_eq_some_iff.1 hx
   obtain ⟨hj, e⟩ := List.getElem?_eq_some_iff.1 hy
   obtain ⟨b', off', e', c'⟩ := h5 j hj
   cases e'
   rw [c', e]
  ·rw [e1]; omega

def bulkV (L : List Hd) : Nat := (L.map fun h => h.value.length + 2).sum

theorem join_len (L : List (List UInt8)) (sep : List UInt8) : (Lib.join L sep).length ≤ (L.map fun x => x.length + sep.length).sum := by
 unfold Lib.join
 induction L with
 | nil => simp
 | cons x r ih =>
  cases r with
  | nil => simp [List.intercalate]
  | cons y r => simp [List.intercalate] at ih ⊢; omega

theorem selV_len (L : List Hd) (n : List UInt8) : (selV L n).length ≤ L.length := by
 unfold selV; simp [List.length_filter_le]

theorem getT_len (L : List Hd) (n : List UInt8) : (getT L n).length ≤ bulkV L := by
 refine Nat.le_trans (join_len _ _) ?_
 unfold selV bulkV
 rw [List.map_map]
 induction L with
 | nil => simp
 | cons h L ih =>
  by_cases hh : isN n h = true
  ·simp [List.filter_cons, hh] at ih ⊢; omega
  ·simp [List.filter_cons, hh] at ih ⊢; omega

def Szd (n : Nat) (L : List Hd) : Prop := ∀ h ∈ L, h.name.length ≤ n ∧ h.value.length ≤ n

theorem strNe {M N : ByteArray} (h : ¬ M = N) : (M.toList == N.toList) = false := by
 rw [Lib.toList_data, Lib.toList_data]
 rw [beq_eq_false_iff_ne]
 exact fun e => h (xba e)

theorem xret_sb {a b : ByteArray} {x y : Bool} (h : a = b) (g : x = y) : Ending.returned (.tuple #[.string a, .bool x]) = .returned (.tuple #[.string b, .bool y]) := by rw [h, g]

set_option maxHeartbeats 2000000 in
set_option maxRecDepth 100000 in
theorem get_any (v : Value) (L : List Hd) (n : ByteArray) (w : World) (h : HdAt w v L) (hs : n.size ≤ 140737488351232) (hz : Szd 140737488351232 L) (hl : L.length ≤ 1000000) (hb : bulkV L ≤ 140737488355328) :
  Calls Tryz.prog 91 #[v, .string n] w fun e w' => e = .returned (.tuple #[.string ⟨(getT L n.data.toList).toArray⟩, .bool (getB L n.data.toList)]) ∧ Below w.heap.size w w' := by
 obtain ⟨a1, c1, rfl, hc1, hm1, hv1⟩ := h.view
 have V1 := hid hv1
 clear h hv1
 obtain ⟨i0, hi, hz0, hz1, hz2⟩ := info3 infoTx
 have HZ := hid hz
 have HB := hid hb
 clear hz hb
 obtain ⟨N, hN⟩ : ∃ N : ByteArray, N = ⟨(low n.data.toList).toArray⟩ := ⟨_, rfl⟩
 have HN := hid (show N.data.toList = low n.data.toList by rw [hN])
 have HNe := hid hN
 clear hN
 go_enter Tryz.func91, Tryz.ntmps91
 go_wp2_with (go_at_call 83; refine (lower_any n _ hs).mono ?_)
 rintro e w0 ⟨rfl, hb0⟩
 rw [← HNe.out]
 go_wp2
 go_loopw [6, 8, 13] (fun vv x i wr => ∃ k : Nat, k ≤ L.length ∧ i = .int .i64 k ∧ wr.ownsRow w.heap.size 9 1 vv (selV (L.take k) n.data.toList).length (cellsT (selV (L.take k) n.data.toList)) ∧ Below w.heap.size w wr)
  (fun _ _ i _ => L.length - (intOf i).toNat)
 case atStart => exact ⟨0, Nat.zero_le _, rfl, World.ownsRow_nil _ _ _ _, hb0⟩
 case round =>
  obtain ⟨k, hk, rfl, hown, hbw⟩ := hrel
  have HO := hid hown
  have hwr := hbw.size
  clear hown
  by_cases hlt : k < L.length
  ·have hlt' : (k : Int) < (L.length : Int) := by omega
   obtain ⟨b1, o1, rfl, e1, e2⟩ := V1.out k hlt
   have f1 : wr.cell? ⟨b1, o1 + k * 2, none⟩ = some (.string ⟨L[k].name.toArray⟩) := (hbw.cell (World.block_lt_of_cell? w _ e1)).trans e1
   have f2 : wr.cell? ⟨b1, o1 + k * 2 + 1, none⟩ = some (.string ⟨L[k].value.toArray⟩) := (hbw.cell (World.block_lt_of_cell? w _ e2)).trans e2
   clear e1 e2
   obtain ⟨nm, hnm⟩ : ∃ x : ByteArray, x = ⟨L[k].name.toArray⟩ := ⟨_, rfl⟩
   obtain ⟨vl, hvl⟩ : ∃ x : ByteArray, x = ⟨L[k].value.toArray⟩ := ⟨_, rfl⟩
   rw [← hnm] at f1
   rw [← hvl] at f2
   have hsz : nm.size ≤ 140737488351232 := by rw [hnm, xsize]; exact (HZ.out _ (List.getElem_mem hlt)).1
   have HV := hid hvl
   have HM := hid hnm
   clear hnm hvl
   have HT := hid (show L.take (k + 1) = L.take k ++ [L[k]] by rw [List.take_add_one, List.getElem?_eq_getElem hlt]; rfl)
   obtain ⟨M, hM⟩ : ∃ x : ByteArray, x = ⟨(low nm.data.toList).toArray⟩ := ⟨_, rfl⟩
   have HMe := hid hM
   clear hM
   go_wp2_with fail
   refine (lower_any nm _ hsz).mono ?_
   rintro e w1 ⟨rfl, hb1⟩
   rw [← HMe.out]
   have hbw1 := (hbw.alloc hwr (.cells #[.string nm, .string vl] 45)).trans (hb1.mono (by simp; omega))
   have g2 : w1.cell? ⟨wr.heap.size, 1, none⟩ = some (.string vl) := (hb1.cell (p := ⟨wr.heap.size, 1, none⟩) (by simp)).trans (by simp [go_sem])
   have HO1 := hid (own_same (HO.out.alloc (.cells #[.string nm, .string vl] 45)) hb1)
   have hw1 := hbw1.size
   by_cases hmn : M = N
   ·subst hmn
    have HS := hid (show selV (L.take (k + 1)) n.data.toList = selV (L.take k) n.data.toList ++ [vl.data.toList] by
     rw [HT.out, selV_snoc, if_pos, HV.out]
     rw [isN, beq_iff_eq, ← HN.out, HMe.out, HM.out])
    go_wp2_with (at_builtin; go_must (refine wpList_append_own _ rfl _ _ 50 rfl w.heap.size 9 i0 (.string ByteArray.empty) 1 16 Tryz.underlying50 hi hz0 hz1 hz2 rfl (by decide) _ _ _ rfl (HO1.out.alloc _) ⟨w1.heap.size, 0, none⟩ 1 1 [.string vl] rfl rfl ?c1 ?c2 ?c3 ?c4 ?c5 ?_))
    case c1 =>
     intro q u hq
     match q, hq with
     | 0, hq => simp at hq; subst hq; simp [Addr.add]
    case c2 => intro u hu; simp at hu; subst hu; rfl
    case c3 => have := selV_len (L.take k) n.data.toList; simp at this; unfold maxLen; omega
    case c4 => have := selV_len (L.take k) n.data.toList; simp at this; omega
    case c5 => simp; omega
    intro v' w2 hown' hgrow hnil
    have HO2 := hid hown'
    have HB2 := hid (show Below w.heap.size w w2 from (hbw1.alloc hw1 _).grown hgrow (by simp; omega) (fun g hg => (HO1.out.lt g hg).1))
    clear hown' hgrow hnil
    go_wp2
    go_roundw
    case rel =>
     refine ⟨k + 1, by omega, by go_num, ?_, HB2.out⟩
     rw [HS.out, cellsT_app, cellsT_one, List.length_append]
     exact HO2.out
    case measure => simp [intOf]; omega
   ·have hne := strNe hmn
    have HS := hid (show selV (L.take (k + 1)) n.data.toList = selV (L.take k) n.data.toList by
     rw [HT.out, selV_snoc, if_neg, List.append_nil]
     rw [isN, beq_iff_eq, ← HN.out]
     intro e
     exact hmn (xba (by rw [← e, HMe.out, HM.out])))
    clear hmn
    go_wp2
    go_roundw
    case rel =>
     refine ⟨k + 1, by omega, by go_num, ?_, hbw1⟩
     rw [HS.out]
     exact HO1.out
    case measure => simp [intOf]; omega
  ·have hke : k = L.length := by omega
   subst hke
   have HT := hid (show selV (L.take L.length) n.data.toList = selV L n.data.toList by rw [List.take_length])
   have hown := HO.out
   rw [HT.out] at hown
   have hta := own_txt' hown
   obtain ⟨q, hq⟩ : ∃ q, q = selV L n.data.toList := ⟨_, rfl⟩
   have HQ := hid hq
   rw [← hq] at hown hta
   have hql : q.length ≤ L.length := by rw [hq]; exact selV_len _ _
   obtain ⟨a2, c2, rfl, _, _, _⟩ := hta.view
   have HA := hid hta
   clear hown hta hq HT HO
   have hjl : (Lib.join q [44, 32]).length ≤ 140737488355328 := by
    have h1 := getT_len L n.data.toList
    rw [getT, ← HQ.out] at h1
    exact Nat.le_trans h1 HB.out
   have HJ := hid (join5_any _ q ⟨#[44, 32]⟩ wr HA.out (by omega) hjl)
   clear hjl
   go_wp2_with fail
   refine HJ.out.mono ?_
   rintro e w3 ⟨rfl, hb3⟩
   go_wp2
   go_ret2
   refine ⟨xret_sb (xext ?_) ?_, hbw.trans (hb3.mono hwr)⟩
   ·rw [getT, ← HQ.out]
   ·rw [getB, ← HQ.out]
    cases q with
    | nil => rfl
    | cons x y => simp

end Go.Proofs.YtpopljcmkbchcaaGreatDoor

namespace Go.Proofs.YtpopljcmkbchcaaGreatDoor
open Go.RowKit

def restP (out : List (List UInt8)) (r : List UInt8) (mo : Bool) : List (List UInt8) := if mo then out ++ (pcs r).map trimB else out

theorem pcs_cut (r : List UInt8) : pcs r = if cutB r then cutA r :: pcs (cutR r) else [cutA r] := by
 unfold cutA cutR cutB
 cases h : cutQ false r with
 | none => rw [pcs_none r h]; rfl
 | some k => rw [pcs_some r k h]; rfl

theorem restP_step (out : List (List UInt8)) (r : List UInt8) : restP out r true = restP (out ++ [trimB (cutA r)]) (cutR r) (cutB r) := by
 unfold restP
 rw [if_pos rfl, pcs_cut]
 cases cutB r <;> simp

theorem cutR_len (r : List UInt8) (h : cutB r = true) : (cutR r).length + 1 ≤ r.length := by
 unfold cutB at h
 unfold cutR
 cases hc : cutQ false r with
 | none => rw [hc] at h; cases h
 | some k =>
  have := cutQ_lt r.length false r k (Nat.le_refl _) hc
  simp; omega

theorem cutA_len (r : List UInt8) : (cutA r).length ≤ r.length := by
 unfold cutA; split <;> simp <;> omega

theorem cutR_le (r : List UInt8) : (cutR r).length ≤ r.length := by
 unfold cutR; split <;> simp

def SplitPost (L : List (List UInt8)) (w : World) (e : Ending) (w' : World) : Prop :=
 ∃ v, e = .returned (.tuple #[v, .bool true]) ∧ w'.ownsRow w.heap.size 9 1 v L.length (cellsT L) ∧ Below w.heap.size w w'

set_option maxHeartbeats 2000000 in
set_option maxRecDepth 100000 in
theorem hsplit_any (v : Value) (L : List Hd) (n : ByteArray) (w : World) (h : HdAt w v L) (hs : n.size ≤ 140737488351232) (hz : Szd 140737488351232 L) (hl : L.length ≤ 1000000) (hb : bulkV L ≤ 1000000000) (hh : getB L n.data.toList = true) :
  Calls Tryz.prog 85 #[v, .string n] w (SplitPost (splitV L n.data.toList) w) := by
 obtain ⟨i0, hi, hz0, hz1, hz2⟩ := info3 infoTx
 have HG := hid (get_any v L n w h hs hz hl (by omega))
 have hgl := getT_len L n.data.toList
 obtain ⟨T, hT⟩ : ∃ T : ByteArray, T = ⟨(getT L n.data.toList).toArray⟩ := ⟨_, rfl⟩
 rw [← hT, hh] at HG
 have hTs : T.size ≤ 1000000000 := by rw [hT, xsize]; omega
 have HV := hid (show splitV L n.data.toList = restP [] T.data.toList true by rw [hT]; rfl)
 clear hT hgl h hz hb hh
 go_enter Tryz.func85, Tryz.ntmps85
 go_wp2_with fail
 refine HG.out.mono ?_
 rintro e w0 ⟨rfl, hb0⟩
 go_wp2
 go_loopw [6, 7, 8, 9] (fun r m vv x wr => ∃ (R : ByteArray) (mo : Bool) (out : List (List UInt8)), r = .string R ∧ m = .bool mo ∧ out.length + R.size ≤ 1000000001 ∧ (mo = true → out.length + R.size ≤ 1000000000) ∧ R.size ≤ 1000000000 ∧ restP out R.data.toList mo = restP [] T.data.toList true ∧ wr.ownsRow w.heap.size 9 1 vv out.length (cellsT out) ∧ Below w.heap.size w wr)
  (fun r m _ _ _ => match r, m with | .string R, .bool true => R.size + 1 | _, _ => 0)
 case atStart => exact ⟨T, true, [], rfl, rfl, by simp; omega, fun _ => by simp; omega, hTs, rfl, World.ownsRow_nil _ _ _ _, hb0⟩
 case round =>
  obtain ⟨R, mo, out, rfl, rfl, hol, holm, hRs, hrest, hown, hbw⟩ := hrel
  have HO := hid hown
  have hwr := hbw.size
  have HR := hid hrest
  clear hown hrest
  cases mo with
  | false =>
   have HE := hid (show out = splitV L n.data.toList by rw [HV.out, ← HR.out]; rfl)
   go_wp2
   go_ret2
   unfold SplitPost
   rw [← HE.out]
   exact ⟨_, rfl, HO.out, hbw⟩
  | true =>
   have hol' := holm rfl
   obtain ⟨A, hA⟩ : ∃ x : ByteArray, x = ⟨(cutA R.data.toList).toArray⟩ := ⟨_, rfl⟩
   obtain ⟨B, hB⟩ : ∃ x : ByteArray, x = ⟨(cutR R.data.toList).toArray⟩ := ⟨_, rfl⟩
   obtain ⟨mo, hmo⟩ : ∃ x, x = cutB R.data.toList := ⟨_, rfl⟩
   have HCP : Hid (∀ w : World, Calls Tryz.prog 132 #[.string R] w fun e w' => e = .returned (.tuple #[.string A, .string B, .bool mo]) ∧ Below w.heap.size w w') := fun w => by
    have := cutPiece_any R w (by omega)
    rw [← hA, ← hB, ← hmo] at this
    exact this
   have hAs : A.size ≤ 1000000000 := by have := cutA_len R.data.toList; rw [hA, xsize]; simp at this; omega
   have hBs : B.size ≤ R.size := by have := cutR_le R.data.toList; rw [hB, xsize]; simpa using this
   have hBm : mo = true → B.size + 1 ≤ R.size := fun h => by have := cutR_len R.data.toList (by rw [← hmo]; exact h); rw [hB, xsize]; simpa using this
   obtain ⟨P, hP⟩ : ∃ x : ByteArray, x = ⟨(trimB A.data.toList).toArray⟩ := ⟨_, rfl⟩
   have HTr : Hid (∀ w : World, Calls Tryz.prog 133 #[.string A, .string ⟨#[9, 32]⟩] w fun e w' => e = .returned (.string P) ∧ Below w.heap.size w w') := fun w => by
    have := trimB_any A w (by omega)
    rw [← hP] at this
    exact this
   have HS := hid (show restP (out ++ [P.data.toList]) B.data.toList mo = restP [] T.data.toList true by
    rw [← HR.out, restP_step, hP, hB, hmo, hA])
   clear hA hB hmo hP holm
   go_wp2_with fail
   refine (HCP.out _).mono ?_
   rintro e w1 ⟨rfl, hb1⟩
   have hbw1 := hbw.trans (hb1.mono hwr)
   have hw1 := hbw1.size
   have HO1 := hid (own_same HO.out hb1)
   go_wp2_with fail
   refine (HTr.out _).mono ?_
   rintro e w2 ⟨rfl, hb2⟩
   have hbw2 := hbw1.trans (hb2.mono hw1)
   have hw2 := hbw2.size
   have HO2 := hid (own_same HO1.out hb2)
   go_wp2_with (at_builtin; go_must (refine wpList_append_own _ rfl _ _ 50 rfl w.heap.size 9 i0 (.string ByteArray.empty) 1 16 Tryz.underlying50 hi hz0 hz1 hz2 rfl (by decide) _ _ _ rfl (HO2.out.alloc _) ⟨w2.heap.size, 0, none⟩ 1 1 [.string P] rfl rfl ?c1 ?c2 ?c3 ?c4 ?c5 ?_))
   case c1 =>
    intro q u hq
    match q, hq with
    | 0, hq => simp at hq; subst hq; simp [Addr.add]
   case c2 => intro u hu; simp at hu; subst hu; rfl
   case c3 => unfold maxLen; omega
   case c4 => omega
   case c5 => simp; omega
   intro v' w3 hown' hgrow hnil
   have HO3 := hid hown'
   have HB3 := hid (show Below w.heap.size w w3 from (hbw2.alloc hw2 _).grown hgrow (by simp; omega) (fun g hg => (HO2.out.lt g hg).1))
   clear hown' hgrow hnil
   go_wp2
   go_roundw
   case rel =>
    refine ⟨B, mo, out ++ [P.data.toList], rfl, rfl, by simp; omega, fun h => by have := hBm h; simp; omega, by omega, HS.out, ?_, HB3.out⟩
    rw [cellsT_app, cellsT_one, List.length_append]
    exact HO3.out
   case measure =>
    cases mo with
    | false => simp
    | true => have := hBm rfl; simp; omega

end Go.Proofs.YtpopljcmkbchcaaGreatDoor

namespace Go.Proofs.YtpopljcmkbchcaaGreatDoor
open Go.RowKit

theorem ret_iib {a b c d : Int} {x y : Bool} (h : a = b) (h2 : c = d) (g : x = y) : Ending.returned (.tuple #[.int .i64 a, .int .i64 c, .bool x]) = .returned (.tuple #[.int .i64 b, .int .i64 d, .bool y]) := by rw [h, h2, g]

theorem trimP_rest (l : List UInt8) : Lib.trimPrefix l sBytes = rRest l := by
 unfold Lib.trimPrefix rRest rUnit
 rfl

theorem xcut_le (l : List UInt8) (c : UInt8) : (Lib.cut l [c]).1.length ≤ l.length ∧ (Lib.cut l [c]).2.1.length ≤ l.length := by
 unfold Lib.cut
 split
 ·simp; omega
 ·simp

theorem rRest_le (l : List UInt8) : (rRest l).length ≤ l.length := by
 unfold rRest; split <;> simp

set_option maxHeartbeats 2000000 in
set_option maxRecDepth 100000 in
theorem range_any (s : ByteArray) (w : World) (hg : G5 w) (hs : s.size ≤ 4000000000) :
  Calls Tryz.prog 140 #[.string s] w fun e w' => e = .returned (.tuple #[.int .i64 (rFrom s.data.toList), .int .i64 (rTo s.data.toList), .bool (rOk s.data.toList)]) ∧ Below w.heap.size w w' := by
 obtain ⟨U, hU⟩ : ∃ x, x = rUnit s.data.toList := ⟨_, rfl⟩
 obtain ⟨R, hR⟩ : ∃ x : ByteArray, x = ⟨(rRest s.data.toList).toArray⟩ := ⟨_, rfl⟩
 have hRl : R.data.toList = rRest s.data.toList := by rw [hR]
 have hRs : R.size ≤ 4000000000 := by have := rRest_le s.data.toList; rw [hR, xsize]; simp at this; omega
 have HCP : Hid (∀ w : World, Calls Tryz.prog 192 #[.string s, .string ⟨#[98, 121, 116, 101, 115, 61]⟩] w fun e w' => e = .returned (.tuple #[.string R, .bool U]) ∧ w = w') := fun w => by
  have := Tryz.strings_CutPrefix s ⟨#[98, 121, 116, 101, 115, 61]⟩ w
  rw [show (⟨#[98, 121, 116, 101, 115, 61]⟩ : ByteArray).data.toList = sBytes from rfl, trimP_rest, ← hR, show Lib.hasPrefix s.data.toList sBytes = U from hU.symm] at this
  exact this.mono fun e w' ⟨h, h'⟩ => ⟨h, h'.symm⟩
 obtain ⟨A, hA⟩ : ∃ x : ByteArray, x = ⟨(rL s.data.toList).toArray⟩ := ⟨_, rfl⟩
 obtain ⟨B, hB⟩ : ∃ x : ByteArray, x = ⟨(rR s.data.toList).toArray⟩ := ⟨_, rfl⟩
 obtain ⟨D, hD⟩ : ∃ x, x = (Lib.cut (rRest s.data.toList) [45]).2.2 := ⟨_, rfl⟩
 have HC : Hid (∀ w : World, G5 w → Calls Tryz.prog 156 #[.string R, .string ⟨#[45]⟩] w fun e w' => e = .returned (.tuple #[.string A, .string B, .bool D]) ∧ Below w.heap.size w w') := fun w hg => by
  have := cut5_any R ⟨#[45]⟩ w hg hRs
  rw [show (⟨#[45]⟩ : ByteArray).data.toList = [45] from rfl, hRl, ← hD, show (⟨(Lib.cut (rRest s.data.toList) [45]).1.toArray⟩ : ByteArray) = A from hA.symm, show (⟨(Lib.cut (rRest s.data.toList) [45]).2.1.toArray⟩ : ByteArray) = B from hB.symm] at this
  exact this
 have hcl := xcut_le (rRest s.data.toList) 45
 have hAs : A.size ≤ 4000000000 := by rw [hA, xsize]; have := hcl.1; rw [← hRl] at this; simp at this; unfold rL; rw [← hRl]; omega
 have hBs : B.size ≤ 4000000000 := by rw [hB, xsize]; have := hcl.2; rw [← hRl] at this; simp at this; unfold rR; rw [← hRl]; omega
 obtain ⟨p, hp⟩ : ∃ x, x = bndV (rL s.data.toList) := ⟨_, rfl⟩
 obtain ⟨q, hq⟩ : ∃ x, x = bndV (rR s.data.toList) := ⟨_, rfl⟩
 obtain ⟨po, hpo⟩ : ∃ x, x = bndOk (rL s.data.toList) := ⟨_, rfl⟩
 obtain ⟨qo, hqo⟩ : ∃ x, x = bndOk (rR s.data.toList) := ⟨_, rfl⟩
 have HBA : Hid (∀ w : World, Calls Tryz.prog 193 #[.string A] w fun e w' => e = .returned (.tuple #[.int .i64 p, .bool po]) ∧ w = w') := fun w => by
  have := bound_any A w (by omega)
  rw [show A.data.toList = rL s.data.toList by rw [hA], ← hp, ← hpo] at this
  exact this
 have HBB : Hid (∀ w : World, Calls Tryz.prog 193 #[.string B] w fun e w' => e = .returned (.tuple #[.int .i64 q, .bool qo]) ∧ w = w') := fun w => by
  have := bound_any B w (by omega)
  rw [show B.data.toList = rR s.data.toList by rw [hB], ← hq, ← hqo] at this
  exact this
 have HK := hid (show rOk s.data.toList = (U && D && po && qo && spansI p q) by unfold rOk; rw [hU, hD, hpo, hqo, hp, hq])
 have HF := hid (show rFrom s.data.toList = if rOk s.data.toList then p else 0 by unfold rFrom; rw [hp])
 have HTo := hid (show rTo s.data.toList = if rOk s.data.toList then q else 0 by unfold rTo; rw [hq])
 clear hU hR hRl hA hB hD hcl hp hq hpo hqo
 have HG := hid hg
 clear hg
 go_enter Tryz.func140, Tryz.ntmps140
 go_wp2_with fail
 refine (HCP.out _).mono ?_
 rintro e w0 ⟨rfl, rfl⟩
 go_wp2_with fail
 refine (HC.out _ HG.out).mono ?_
 rintro e w1 ⟨rfl, hb1⟩
 go_wp2_with fail
 refine (HBA.out _).mono ?_
 rintro e w2 ⟨rfl, rfl⟩
 go_wp2_with fail
 refine (HBB.out _).mono ?_
 rintro e w2 ⟨rfl, rfl⟩
 have bad : rOk s.data.toList = false → rFrom s.data.toList = 0 ∧ rTo s.data.toList = 0 := fun h => by
  rw [HF.out, HTo.out, h]; exact ⟨rfl, rfl⟩
 have HBad := hid bad
 clear bad
 cases U with
 | false =>
  have h : Hid (rOk s.data.toList = false) := by rw [HK.out]; rfl
  go_wp2
  go_ret3
  exact ⟨ret_iib (HBad.out h.out).1.symm (HBad.out h.out).2.symm h.out.symm, hb1⟩
 | true =>
  cases D with
  | false =>
   have h : Hid (rOk s.data.toList = false) := by rw [HK.out]; rfl
   go_wp2
   go_ret3
   exact ⟨ret_iib (HBad.out h.out).1.symm (HBad.out h.out).2.symm h.out.symm, hb1⟩
  | true =>
   cases po with
   | false =>
    have h : Hid (rOk s.data.toList = false) := by rw [HK.out]; rfl
    go_wp2
    go_ret3
    exact ⟨ret_iib (HBad.out h.out).1.symm (HBad.out h.out).2.symm h.out.symm, hb1⟩
   | true =>
    cases qo with
    | false =>
     have h : Hid (rOk s.data.toList = false) := by rw [HK.out]; rfl
     go_wp2
     go_ret3
     exact ⟨ret_iib (HBad.out h.out).1.symm (HBad.out h.out).2.symm h.out.symm, hb1⟩
    | true =>
     obtain ⟨sp, hsp⟩ : ∃ x, x = spansI p q := ⟨_, rfl⟩
     have HS : Hid (∀ w : World, Calls Tryz.prog 194 #[.int .i64 p, .int .i64 q] w fun e w' => e = .returned (.bool sp) ∧ w = w') := fun w => by
      have := spans_any p q w
      rw [← hsp] at this
      exact this
     have HK2 := hid (show rOk s.data.toList = sp by rw [HK.out, hsp]; rfl)
     clear hsp
     cases sp with
     | false =>
      go_wp2_with (go_at_call 194; refine (HS.out _).mono ?_; rintro e w' ⟨rfl, rfl⟩)
      go_ret3
      exact ⟨ret_iib (HBad.out HK2.out).1.symm (HBad.out HK2.out).2.symm HK2.out.symm, hb1⟩
     | true =>
      go_wp2_with (go_at_call 194; refine (HS.out _).mono ?_; rintro e w' ⟨rfl, rfl⟩)
      go_ret3
      refine ⟨ret_iib ?_ ?_ HK2.out.symm, hb1⟩
      ·rw [HF.out, HK2.out]; rfl
      ·rw [HTo.out, HK2.out]; rfl

def sForm : List UInt8 := [97, 112, 112, 108, 105, 99, 97, 116, 105, 111, 110, 47, 120, 45, 119, 119, 119, 45, 102, 111, 114, 109, 45, 117, 114, 108, 101, 110, 99, 111, 100, 101, 100]

def sMulti : List UInt8 := [109, 117, 108, 116, 105, 112, 97, 114, 116, 47, 102, 111, 114, 109, 45, 100, 97, 116, 97]

def sPlain : List UInt8 := [116, 101, 120, 116, 47, 112, 108, 97, 105, 110]

def essV (l : List UInt8) : List UInt8 := low (strip (Lib.cut l [59]).1)

def kindV (l : List UInt8) : Bool := essV l == sForm || (essV l == sMulti || essV l == sPlain)

theorem strip_le (l : List UInt8) : (strip l).length ≤ l.length := by
 unfold strip
 have h1 := (List.dropWhile_sublist (l := l) blC).length_le
 have h2 := (List.dropWhile_sublist (l := (l.dropWhile blC).reverse) blC).length_le
 simp at h2 ⊢
 omega

set_option maxHeartbeats 2000000 in
theorem formKind_any (s : ByteArray) (w : World) (hg : G5 w) (hs : s.size ≤ 4000000000) :
  Calls Tryz.prog 139 #[.string s] w fun e w' => e = .returned (.bool (kindV s.data.toList)) ∧ Below w.heap.size w w' := by
 have HG := hid hg
 clear hg
 have hcl := xcut_le s.data.toList 59
 obtain ⟨A, hA⟩ : ∃ x : ByteArray, x = ⟨(Lib.cut s.data.toList [59]).1.toArray⟩ := ⟨_, rfl⟩
 have hAs : A.size ≤ 4000000000 := by rw [hA, xsize]; have := hcl.1; simp at this; omega
 obtain ⟨B, hB⟩ : ∃ x : ByteArray, x = ⟨(strip A.data.toList).toArray⟩ := ⟨_, rfl⟩
 have hBs : B.size ≤ 4000000000 := by rw [hB, xsize]; have := strip_le A.data.toList; simp at this; omega
 obtain ⟨C, hC⟩ : ∃ x : ByteArray, x = ⟨(low B.data.toList).toArray⟩ := ⟨_, rfl⟩
 have HE := hid (show essV s.data.toList = C.data.toList by rw [hC, hB, hA]; rfl)
 have HA := hid hA
 have HB := hid hB
 have HC := hid hC
 clear hA hB hC hcl
 go_enter Tryz.func139, Tryz.ntmps139
 go_wp2_with fail
 refine (cut5_any s ⟨#[59]⟩ _ HG.out hs).mono ?_
 rintro e w1 ⟨rfl, hb1⟩
 rw [show (⟨#[59]⟩ : ByteArray).data.toList = [59] from rfl, ← HA.out]
 go_wp2_with fail
 refine (strip_any A _ (by omega)).mono ?_
 rintro e w2 ⟨rfl, rfl⟩
 rw [← HB.out]
 go_wp2_with fail
 refine (lower_any B _ (by omega)).mono ?_
 rintro e w2 ⟨rfl, hb2⟩
 rw [← HC.out]
 have HB2 := hid (belowT hb1 hb2)
 have hk : ∀ (N : ByteArray), (C.toList == N.toList) = (essV s.data.toList == N.data.toList) := fun N => by rw [HE.out, Lib.toList_data, Lib.toList_data]
 have HK := hid hk
 clear hk
 have hfin : ∀ b : Bool, (C.toList == sForm || (C.toList == sMulti || C.toList == sPlain)) = b → Ending.returned (.bool b) = .returned (.bool (kindV s.data.toList)) := fun b hb => by
  rw [← hb, kindV, HE.out, Lib.toList_data]
 have HFin := hid hfin
 clear hfin HK HE
 go_wp2
 all_goals
  go_ret
  refine ⟨HFin.out _ ?_, HB2.out⟩
  unfold sForm sMulti sPlain
  first | (simp only [*]; rfl) | (simp_all; done)

def sAccept : List UInt8 := [97, 99, 99, 101, 112, 116]

def sALang : List UInt8 := [97, 99, 99, 101, 112, 116, 45, 108, 97, 110, 103, 117, 97, 103, 101]

def sCLang : List UInt8 := [99, 111, 110, 116, 101, 110, 116, 45, 108, 97, 110, 103, 117, 97, 103, 101]

def sCType : List UInt8 := [99, 111, 110, 116, 101, 110, 116, 45, 116, 121, 112, 101]

def sRange : List UInt8 := [114, 97, 110, 103, 101]

def safeV (n v : List UInt8) : Bool :=
 if 128 < v.length then false
 else if low n = sAccept then harmV v
 else if low n = sALang ∨ low n = sCLang then langV v
 else if low n = sCType then harmV v && kindV v
 else if low n = sRange then rOk v && decide (0 ≤ rFrom v)
 else false

theorem lst_ne {M : ByteArray} {l : List UInt8} (h : ¬ M.data.toList = l) : (M.toList == l) = false := by
 rw [Lib.toList_data, beq_eq_false_iff_ne]; exact h

theorem lst_yes {M : ByteArray} {l : List UInt8} (h : M.data.toList = l) : M = ⟨l.toArray⟩ := xext h

set_option maxHeartbeats 2000000 in
set_option maxRecDepth 100000 in
theorem safe_any (n v : ByteArray) (w : World) (hg : G5 w) (hn : n.size ≤ 140737488351232) (hv : v.size ≤ 140737488351232) :
  Calls Tryz.prog 89 #[.string n, .string v] w fun e w' => e = .returned (.bool (safeV n.data.toList v.data.toList)) ∧ Below w.heap.size w w' := by
 have HG := hid hg
 clear hg
 by_cases hlong : 128 < v.size
 ·have hlong' : (128 : Int) < (v.size : Int) := by omega
  have HS := hid (show safeV n.data.toList v.data.toList = false by unfold safeV; rw [if_pos (by simpa using hlong)])
  go_enter Tryz.func89, Tryz.ntmps89
  go_wp2
  go_ret
  exact ⟨ret_bool HS.out.symm, Below.refl _ _⟩
 have hlong' : ¬ (128 : Int) < (v.size : Int) := by omega
 obtain ⟨C, hC⟩ : ∃ x : ByteArray, x = ⟨(low n.data.toList).toArray⟩ := ⟨_, rfl⟩
 have hCl : low n.data.toList = C.data.toList := by rw [hC]
 have HC := hid hC
 clear hC
 have hsv : safeV n.data.toList v.data.toList = (if C.data.toList = sAccept then harmV v.data.toList
  else if C.data.toList = sALang ∨ C.data.toList = sCLang then langV v.data.toList
  else if C.data.toList = sCType then harmV v.data.toList && kindV v.data.toList
  else if C.data.toList = sRange then rOk v.data.toList && decide (0 ≤ rFrom v.data.toList)
  else false) := by
  unfold safeV
  rw [if_neg (by simpa using hlong), hCl]
 clear hCl
 by_cases h1 : C.data.toList = sAccept
 ·have HS := hid (show safeV n.data.toList v.data.toList = harmV v.data.toList by rw [hsv, if_pos h1])
  have e1 := lst_yes h1
  unfold sAccept at e1
  have HE := hid e1
  clear hsv h1 e1
  go_enter Tryz.func89, Tryz.ntmps89
  go_wp2_with fail
  refine (lower_any n _ hn).mono ?_
  rintro e w1 ⟨rfl, hb1⟩
  rw [← HC.out, HE.out]
  go_wp2_with (go_at_call 137; refine (harmless_any v _ hv).mono ?_; rintro e w' ⟨rfl, rfl⟩)
  go_ret
  exact ⟨ret_bool HS.out.symm, hb1⟩
 rw [if_neg h1] at hsv
 have h1' := lst_ne h1
 by_cases h2 : C.data.toList = sALang
 ·have HS := hid (show safeV n.data.toList v.data.toList = langV v.data.toList by rw [hsv, if_pos (.inl h2)])
  have e1 := lst_yes h2
  unfold sALang at e1
  have HE := hid e1
  clear hsv h1 e1 h2 h1'
  go_enter Tryz.func89, Tryz.ntmps89
  go_wp2_with fail
  refine (lower_any n _ hn).mono ?_
  rintro e w1 ⟨rfl, hb1⟩
  rw [← HC.out, HE.out]
  go_wp2_with (go_at_call 138; refine (languages_any v _ hv).mono ?_; rintro e w' ⟨rfl, rfl⟩)
  go_ret
  exact ⟨ret_bool HS.out.symm, hb1⟩
 have h2' := lst_ne h2
 by_cases h3 : C.data.toList = sCLang
 ·have HS := hid (show safeV n.data.toList v.data.toList = langV v.data.toList by rw [hsv, if_pos (.inr h3)])
  have e1 := lst_yes h3
  unfold sCLang at e1
  have HE := hid e1
  clear hsv h1 e1 h2 h3 h1' h2'
  go_enter Tryz.func89, Tryz.ntmps89
  go_wp2_with fail
  refine (lower_any n _ hn).mono ?_
  rintro e w1 ⟨rfl, hb1⟩
  rw [← HC.out, HE.out]
  go_wp2_with (go_at_call 138; refine (languages_any v _ hv).mono ?_; rintro e w' ⟨rfl, rfl⟩)
  go_ret
  exact ⟨ret_bool HS.out.symm, hb1⟩
 have h3' := lst_ne h3
 rw [if_neg (by rintro (h | h); exact h2 h; exact h3 h)] at hsv
 by_cases h4 : C.data.toList = sCType
 ·rw [if_pos h4] at hsv
  have e1 := lst_yes h4
  unfold sCType at e1
  have HE := hid e1
  clear h1 e1 h2 h3 h4 h1' h2' h3'
  obtain ⟨hm, hhm⟩ : ∃ x, x = harmV v.data.toList := ⟨_, rfl⟩
  have HHm : Hid (∀ w : World, Calls Tryz.prog 137 #[.string v] w fun e w' => e = .returned (.bool hm) ∧ w = w') := fun w => by
   have := harmless_any v w hv
   rw [← hhm] at this
   exact this
  have HS := hid (show safeV n.data.toList v.data.toList = (hm && kindV v.data.toList) by rw [hsv, hhm])
  clear hsv hhm
  cases hm with
  | false =>
   go_enter Tryz.func89, Tryz.ntmps89
   go_wp2_with fail
   refine (lower_any n _ hn).mono ?_
   rintro e w1 ⟨rfl, hb1⟩
   rw [← HC.out, HE.out]
   go_wp2_with (go_at_call 137; refine (HHm.out _).mono ?_; rintro e w' ⟨rfl, rfl⟩)
   go_ret
   exact ⟨ret_bool (by rw [HS.out]; rfl), hb1⟩
  | true =>
   go_enter Tryz.func89, Tryz.ntmps89
   go_wp2_with fail
   refine (lower_any n _ hn).mono ?_
   rintro e w1 ⟨rfl, hb1⟩
   rw [← HC.out, HE.out]
   go_wp2_with (go_at_call 137; refine (HHm.out _).mono ?_; rintro e w' ⟨rfl, rfl⟩)
   refine (formKind_any v _ (HG.out.kept hb1) (by omega)).mono ?_
   rintro e w2 ⟨rfl, hb2⟩
   go_wp2
   go_ret
   exact ⟨ret_bool (by rw [HS.out]; simp), belowT hb1 hb2⟩
 have h4' := lst_ne h4
 rw [if_neg h4] at hsv
 by_cases h5 : C.data.toList = sRange
 ·rw [if_pos h5] at hsv
  have e1 := lst_yes h5
  unfold sRange at e1
  have HE := hid e1
  clear h1 e1 h2 h3 h4 h5 h1' h2' h3' h4'
  obtain ⟨ok, hok⟩ : ∃ x, x = rOk v.data.toList := ⟨_, rfl⟩
  obtain ⟨fr, hfr⟩ : ∃ x, x = rFrom v.data.toList := ⟨_, rfl⟩
  have HR : Hid (∀ w : World, G5 w → Calls Tryz.prog 140 #[.string v] w fun e w' => e = .returned (.tuple #[.int .i64 fr, .int .i64 (rTo v.data.toList), .bool ok]) ∧ Below w.heap.size w w') := fun w hg => by
   have := range_any v w hg (by omega)
   rw [← hok, ← hfr] at this
   exact this
  have HS := hid (show safeV n.data.toList v.data.toList = (ok && decide (0 ≤ fr)) by rw [hsv, hok, hfr])
  clear hsv hok hfr
  cases ok with
  | false =>
   go_enter Tryz.func89, Tryz.ntmps89
   go_wp2_with fail
   refine (lower_any n _ hn).mono ?_
   rintro e w1 ⟨rfl, hb1⟩
   rw [← HC.out, HE.out]
   go_wp2_with fail
   refine (HR.out _ (HG.out.kept hb1)).mono ?_
   rintro e w2 ⟨rfl, hb2⟩
   go_wp2
   go_ret
   exact ⟨ret_bool (by rw [HS.out]; simp), belowT hb1 hb2⟩
  | true =>
   go_enter Tryz.func89, Tryz.ntmps89
   go_wp2_with fail
   refine (lower_any n _ hn).mono ?_
   rintro e w1 ⟨rfl, hb1⟩
   rw [← HC.out, HE.out]
   go_wp2_with fail
   refine (HR.out _ (HG.out.kept hb1)).mono ?_
   rintro e w2 ⟨rfl, hb2⟩
   go_wp2
   go_ret
   exact ⟨ret_bool (by rw [HS.out]; simp), belowT hb1 hb2⟩
 have h5' := lst_ne h5
 rw [if_neg h5] at hsv
 unfold sAccept at h1'
 unfold sALang at h2'
 unfold sCLang at h3'
 unfold sCType at h4'
 unfold sRange at h5'
 have HS := hid hsv
 clear h1 h2 h3 h4 h5 hsv
 go_enter Tryz.func89, Tryz.ntmps89
 go_wp2_with fail
 refine (lower_any n _ hn).mono ?_
 rintro e w1 ⟨rfl, hb1⟩
 rw [← HC.out]
 go_wp2
 go_ret
 exact ⟨ret_bool (by rw [HS.out]), hb1⟩

end Go.Proofs.YtpopljcmkbchcaaGreatDoor

namespace Go.Proofs.YtpopljcmkbchcaaGreatDoor
open Go.RowKit

theorem belowA {w w' : World} (h : Below w.heap.size w w') (o : Obj) : Below w.heap.size w (w'.alloc o) := h.alloc h.size o

end Go.Proofs.YtpopljcmkbchcaaGreatDoor

namespace Go.Proofs.YtpopljcmkbchcaaGreatDoor
open Go.RowKit

theorem cellsH_cell (L : List Hd) (j : Nat) (u : Value) (h : (cellsH L)[j]? = some u) : ∃ k, ∃ hk : k < L.length, (j = k * 2 ∧ u = .string ⟨L[k].name.toArray⟩) ∨ (j = k * 2 + 1 ∧ u = .string ⟨L[k].value.toArray⟩) := by
 have hj : j < L.length * 2 := by
  rw [← cellsH_len]
  exact (List.getElem?_eq_some_iff.1 h).1
 refine ⟨j / 2, by omega, ?_⟩
 have h2 := cellsH_at L (j / 2) (by omega)
 rcases (show j = j / 2 * 2 ∨ j = j / 2 * 2 + 1 by omega) with e | e
 ·left
  refine ⟨e, ?_⟩
  rw [e, h2.1] at h
  exact (Option.some.inj h).symm
 ·right
  refine ⟨e, ?_⟩
  rw [e, h2.2] at h
  exact (Option.some.inj h).symm

theorem add_of (b off j : Nat) : (⟨b, off, none⟩ : Addr).add j = ⟨b, off + j, none⟩ := by unfold Addr.add; split <;> simp_all

theorem HdAt.cells {w : World} {a : Option Addr} {n cap : Nat} {L : List Hd} (h : HdAt w (.slice a n cap) L) : n = L.length ∧ ∀ j u, (cellsH L)[j]? = some u → ∃ x, a = some x ∧ w.cell? (x.add j) = some u := by
 obtain ⟨a', cap', e, _, _, hc⟩ := h
 cases e
 refine ⟨rfl, fun j u hu => ?_⟩
 obtain ⟨k, hk, h⟩ := cellsH_cell L j u hu
 obtain ⟨b, off, rfl, c1, c2⟩ := hc k hk
 refine ⟨_, rfl, ?_⟩
 rw [add_of]
 rcases h with ⟨rfl, rfl⟩ | ⟨rfl, rfl⟩
 ·exact c1
 ·rw [← Nat.add_assoc]; exact c2

def HdPost (L : List Hd) (w : World) (e : Ending) (w' : World) : Prop := ∃ v, e = .returned v ∧ w'.ownsRow w.heap.size 45 2 v L.length (cellsH L) ∧ Below w.heap.size w w'

end Go.Proofs.YtpopljcmkbchcaaGreatDoor

namespace Go.Proofs.YtpopljcmkbchcaaGreatDoor
open Go.RowKit

def valT (l : List UInt8) : List UInt8 := Lib.trimS l [9, 10, 13, 32]

end Go.Proofs.YtpopljcmkbchcaaGreatDoor

namespace Go.Proofs.YtpopljcmkbchcaaGreatDoor
open Go.RowKit

def tokC (c : UInt8) : Bool := tokI c.toNat

def tokL (l : List UInt8) : Bool := l.all tokC && !l.isEmpty

set_option maxHeartbeats 400000 in
theorem token_any (s : ByteArray) (w : World) (hs : s.size ≤ 140737488351232) :
  Calls Tryz.prog 82 #[.string s] w fun e w' => e = .returned (.bool (tokL s.data.toList)) ∧ w = w' := by
 go_enter Tryz.func82, Tryz.ntmps82
 go_wp2
 go_loop [6] (fun i => ∃ k : Nat, k ≤ s.size ∧ i = .int .i64 k ∧ (s.data.toList.take k).all tokC = true) (fun i => s.size - (intOf i).toNat)
 case atStart => exact ⟨0, Nat.zero_le _, rfl, rfl⟩
 case round =>
  obtain ⟨k, hk, rfl, hall⟩ := hrel
  have HA := hid hall
  clear hall
  by_cases hlt : k < s.size
  ·have HT := hid (take_snoc s k hlt)
   by_cases ht : tokI (s[k].toNat : Int) = true
   ·go_wp2_with (go_at_call 125; refine (tokenByte_any _ _).mono ?_; rintro e w' ⟨rfl, rfl⟩)
    go_round
    case rel => exact ⟨k + 1, by omega, by go_num, by rw [HT.out, List.all_append, HA.out]; simp [tokC, ht]⟩
    case measure => simp [intOf]; omega
   ·have ht' : tokI (s[k].toNat : Int) = false := by simpa using ht
    clear ht
    go_wp2_with (go_at_call 125; refine (tokenByte_any _ _).mono ?_; rintro e w' ⟨rfl, rfl⟩)
    go_ret
    refine ⟨ret_bool ?_, rfl⟩
    have : s.data.toList.all tokC = false := by
     rw [List.all_eq_false]
     refine ⟨s[k], ?_, by simp [tokC, ht']⟩
     have : s[k] = s.data.toList[k]'(by simpa using hlt) := rfl
     rw [this]; exact List.getElem_mem _
    simp [tokL, this]
  ·have ha := HA.out
   rw [take_all s k hlt] at ha
   go_wp2
   go_ret
   exact ⟨ret_bool (by rw [Lib.toList_data]; simp [tokL, ha]), rfl⟩

end Go.Proofs.YtpopljcmkbchcaaGreatDoor

namespace Go.Proofs.YtpopljcmkbchcaaGreatDoor
open Go.RowKit

def Two (w : World) (b : Nat) (n v : ByteArray) : Prop := w.heap[b]? = some (.cells #[.string n, .string v] 45 (0, 0))

theorem Two.range {w : World} {b : Nat} {n v : ByteArray} (h : Two w b n v) : w.rangeAt b 0 [.string n, .string v] := fun j u hu => by
 rw [Nat.zero_add, Lib.cell_of_heap h]
 match j, hu with
 | 0, hu => simpa using hu
 | 1, hu => simpa using hu
 | j + 2, hu => simp at hu

theorem Two.cells {w : World} {b : Nat} {n v : ByteArray} (h : Two w b n v) : w.cell? ⟨b, 0, none⟩ = some (.string n) ∧ w.cell? ⟨b, 1, none⟩ = some (.string v) ∧ w.frozen? ⟨b, 0, none⟩ = false ∧ w.frozen? ⟨b, 1, none⟩ = false :=
 ⟨by rw [Lib.cell_of_heap h]; rfl, by rw [Lib.cell_of_heap h]; rfl, Lib.frozen_of_heap h 0, Lib.frozen_of_heap h 1⟩

theorem Two.set {w : World} {b : Nat} {n v n' v' : ByteArray} (h : Two w b n v) : Two ((w.setCell ⟨b, 0, none⟩ (.string n')).setCell ⟨b, 1, none⟩ (.string v')) b n' v' := by
 have h1 := Lib.heap_setCell_same h (i := 0) (.string n')
 have h2 := Lib.heap_setCell_same h1 (i := 1) (.string v')
 exact h2

end Go.Proofs.YtpopljcmkbchcaaGreatDoor

namespace Go.Proofs.YtpopljcmkbchcaaGreatDoor
open Go.RowKit

def dropV (L : List Hd) (n : List UInt8) : List Hd := L.filter fun h => !isN n h

theorem dropV_snoc (L : List Hd) (h : Hd) (n : List UInt8) : dropV (L ++ [h]) n = dropV L n ++ (if isN n h then [] else [h]) := by
 unfold dropV
 rw [List.filter_append]
 by_cases hh : isN n h = true <;> simp [hh]

def firstV (L : List Hd) (n : List UInt8) : Option Nat := L.findIdx? (isN n)

end Go.Proofs.YtpopljcmkbchcaaGreatDoor

namespace Go.Proofs.YtpopljcmkbchcaaGreatDoor
open Go.RowKit

theorem xstep_append_own {P : Program} {ops : Array Oper} {o : Oper} {a : Act} {w : World} {K : Act → World → Prop} {Q : Exit → Act → World → Prop} {E : Prop} (hgd : o.guard = none) (s x : Operand) (t : TypeId)
  (ho : o.op = .call { callee := .builtin .append, args := #[s, x], argTypes := #[t, t] })
  (base : Nat) (e : TypeId) (i : TypeInfo) (z : Value) (size bytes : Nat) (ht : P.underlying t = some (.slice e)) (hi : P.info? e = some i) (hz : i.zero = some z)
  (hsize : i.size = size) (hby : i.bytes = bytes) (hzs : z.cells.size = size) (hsz : 0 < size)
  (v : Value) (n : Nat) (xs : List Value) (hs : a.eval s = v) (hown : w.ownsRow base e size v n xs)
  (ad : Addr) (m c : Nat) (news : List Value) (hx : a.eval x = .slice (some ad) m c) (hl : news.length = m * size) (hnews : ∀ j u, news[j]? = some u → w.cell? (ad.add j) = some u) (h1 : ∀ u ∈ news, u.oneCell' = true)
  (h63 : n + m ≤ maxLen) (hbytes : (n + m) * bytes ≤ 140737488355328) (hbase : base ≤ w.heap.size)
  (h : ∀ v' w', w'.ownsRow base e size v' (n + m) (xs ++ news) → w.grownBy w' v.ownBlock → (v' = .slice none 0 0 ↔ v = .slice none 0 0 ∧ m = 0) → K (a.put o.dst v') w') :
  if Region.wanted o (yielded ops a.tmps) = true then Oper.wp P o a w K Q else E := by
 rw [if_pos (by simp [Region.wanted, hgd])]
 exact wp_append_own w s x t ho base e i z size bytes ht hi hz hsize hby hzs hsz v n xs hs hown ad m c news hx hl hnews h1 h63 hbytes hbase h

def setV (L : List Hd) (n v : List UInt8) : List Hd := match firstV L n with
 | none => L ++ [⟨n, valT v⟩]
 | some k => L.take k ++ [⟨(L.getD k ⟨[], []⟩).name, valT v⟩] ++ dropV (L.drop (k + 1)) n

end Go.Proofs.YtpopljcmkbchcaaGreatDoor

namespace Go.Proofs.YtpopljcmkbchcaaGreatDoor
open Go.RowKit

def RowZ (w : World) (g : Nat) (l : List UInt8) : Prop := w.heap[g]? = some (.cells (l.map fun c => Value.int .u8 (c.toNat : Int)).toArray 5 (0, 0))

theorem RowZ.cell {w : World} {g : Nat} {l : List UInt8} (h : RowZ w g l) (j : Nat) (hj : j < l.length) : w.cell? ⟨g, j, none⟩ = some (.int .u8 (l[j].toNat : Int)) := by
 rw [Lib.cell_of_heap h]; simp [hj]

theorem RowZ.set {w : World} {g : Nat} {l : List UInt8} (h : RowZ w g l) (j : Nat) (c : UInt8) : RowZ (w.setCell ⟨g, j, none⟩ (.int .u8 (c.toNat : Int))) g (l.set j c) := by
 have := Lib.heap_setCell_same h (i := j) (.int .u8 (c.toNat : Int))
 unfold RowZ
 rw [this]
 simp [List.map_set]

theorem RowZ.string {w : World} {g cap : Nat} {l : List UInt8} (h : RowZ w g l) : (convert 28 9 (.slice (some ⟨g, 0, none⟩) l.length cap)).run Tryz.prog w = .ok (.string ⟨l.toArray⟩) w := by
 refine run_convert_bytes_back w 28 9 5 ⟨g, 0, none⟩ cap l Tryz.underlying28 Tryz.underlying5 Tryz.underlying9 fun j hj => ?_
 have := h.cell j hj
 rw [Addr.add_lit]
 simpa using this

end Go.Proofs.YtpopljcmkbchcaaGreatDoor

namespace Go.Proofs.YtpopljcmkbchcaaGreatDoor
open Go.RowKit

set_option maxHeartbeats 400000 in
theorem xfew_any (s : ByteArray) (n : Nat) (w : World) (hn : n ≤ 1000000) (hs : s.size ≤ 9223372036854775807) :
  Calls Tryz.prog 43 #[.string s, .int .i64 n] w fun e w' => e = .returned (.string ⟨(s.data.toList.take n).toArray⟩) ∧ w = w' := by
 by_cases h : n < s.size
 ·have h' : (n : Int) < (s.size : Int) := by omega
  have HE := hid (show s.extract 0 n = ⟨(s.data.toList.take n).toArray⟩ from xext (by rw [Lib.extract_data]; simp))
  go_enter Tryz.func43, Tryz.ntmps43
  go_wp2
  go_ret
  rw [← HE.out]
  exact ⟨rfl, rfl⟩
 ·have h' : ¬ ((n : Int) < (s.size : Int)) := by omega
  have HE := hid (show s = ⟨(s.data.toList.take n).toArray⟩ from xext (by rw [List.take_of_length_le (by simp; omega)]))
  go_enter Tryz.func43, Tryz.ntmps43
  go_wp2
  go_ret
  rw [← HE.out]
  exact ⟨rfl, rfl⟩

end Go.Proofs.YtpopljcmkbchcaaGreatDoor
