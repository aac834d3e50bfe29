/-
  Walks and plain facts that this claim leans on, put together out of 3 texts: Ewk, Yp, Yte.
-/
import Derived.Test.YtgoefeaopegdoaaGreatDoorProg
import Derived.Test.YtgoefeaopegdoaaGreatDoorQx1
import Derived.Test.YtgoefeaopegdoaaGreatDoorQx2
import Derived.Test.YtgoefeaopegdoaaGreatDoorQx3
import Derived.Test.YtgoefeaopegdoaaGreatDoorQx6
import Derived.Test.YtgoefeaopegdoaaGreatDoorQx7
import Derived.Test.YtgoefeaopegdoaaGreatDoorQx8
import Derived.Test.YtgoefeaopegdoaaGreatDoorQx9
import Derived.Test.YtgoefeaopegdoaaGreatDoorQx11
import Derived.Test.YtgoefeaopegdoaaGreatDoorQx12
import Derived.Test.YtgoefeaopegdoaaGreatDoorQx17
import Derived.Test.YtgoefeaopegdoaaGreatDoorQx21
import Derived.Test.YtgoefeaopegdoaaGreatDoorQx23
import Derived.Test.YtgoefeaopegdoaaGreatDoorQx24
import Derived.Test.YtgoefeaopegdoaaGreatDoorQx25
import Derived.Deep.Cut
import Derived.Deep.QuietTactic
import Derived.BigQuiet
import Derived.BigRegion
import Derived.Deep.RegionHeld
import Derived.Lib.IndexMore
import Derived.Lib.Join
import Derived.Lib.LastIndexByte
import Derived.WalkKit
import Derived.Lib.Strings
import Derived.Lib.UnsafeStr
import Derived.Laws.IdiomStrings
import Derived.Laws.AppendOwn
import Derived.Laws.BitsAllLaws
import Derived.Lib.Bytealg
import Derived.Lib.BufferMore
import Derived.Lib.BufferRead
import Derived.Lib.RuneBytes
import Derived.Laws.RangeAny
import Derived.LoopN
import Derived.RegionTactic
import Derived.Deep.RegionWith
import Derived.OwnWalk
import Derived.Deep.RegionLaw
import Derived.Laws.OwnMore
import Derived.Deep.LoopGhost
import Derived.Shelf.Strings.Builder1
import Derived.Shelf.Strings.Builder2
import Derived.Shelf.Strings.OnBuilder
import Derived.Shelf.Strings.Trim
import Derived.Shelf.Small.Utf8
import Derived.Shelf.Small.Bits
import Derived.Shelf.Small.Strs
import Derived.Shelf.Small.Wraps
import Derived.Shelf.Strings.BuilderF
import Derived.Shelf.Strings.BuilderK
import Derived.Shelf.Strings.BuilderRune
import Derived.Shelf.Utf8.AppendRune
import Derived.Shelf.Utf8.AppendRunePlain
import Derived.Shelf.Strings.Builder2Cap
import Derived.Shelf.Strconv.Itoa0
import Derived.Shelf.Strconv.Itoa1
import Derived.Shelf.LaysM
import Derived.Shelf.Strconv.Itoa2
import Derived.Shelf.Strconv.Itoa3
import Derived.Shelf.Strings.Search1
import Derived.Shelf.Strings.Search2
import Derived.Shelf.Strings.Search3
import Derived.Shelf.Strings.Cut
import Derived.Shelf.Strings.Count
import Derived.Shelf.Strings.Shaped
import Derived.Shelf.Strings.LastIndex
import Derived.Shelf.Strings.Prefix
import Derived.Shelf.Strings.Split
import Derived.Shelf.Strings.Replace
import Derived.Shelf.Strings.Runes
import Derived.Shelf.Strings.IndexAny
import Derived.Shelf.Strings.AsciiSet
import Derived.Shelf.Strings.IndexAnyAll
import Derived.Shelf.Unicode.DecodeSlow
import Derived.Ground.Names2Prog
import Derived.Shelf.Slices.Clone
import Derived.Shelf.Slices.In.SortNone
import Derived.Ground.SlgnProg
import Derived.Shelf.SlicesE.Clone
import Derived.Laws.AppendOwnNone
import Derived.Scope
import Derived.ScopeJumps
import Derived.WalkMore
import Derived.Lib.IndexAny
import Derived.Lib.Replace
import Derived.Lib.TrimByte
import Derived.Lib.ItoaNum
import Derived.Lib.DecodeN
import Derived.Lib.OthersKept
import Derived.Laws.BytesString
import Derived.Deep.WholeRow
import Derived.Lib.AppendStr
import Derived.WalkSpells
import Derived.WalkLawsBesides
import Derived.Lib.AppendIntMem
import Derived.Lib.SmallJoins
import Derived.WalkSmall
import Derived.Laws.CopyOwn
import Derived.Laws.ResultCell
import Derived.Deep.MidRow
import Derived.Lib.FrozenHead2
import Derived.Lib.Builder
import Derived.Lib.SlTrimSet
import Derived.Below
import Derived.Shelf.Strings.SlTrimAscii
import Derived.Laws.Runes
set_option linter.unusedSimpArgs false
set_option linter.unusedVariables false

namespace Go.Proofs.YtgoefeaopegdoaaGreatDoor
open Go.RowKit

theorem tr_zero4 : TrOk Adr.zero := ⟨by decide, by decide, by decide⟩

theorem tr_read (s : List UInt8) : TrOk (adrOf (readV s none)) := by
 cases hr : readV s none with
 | ok v => exact slim_tr (parse_slim hr)
 | error e => exact tr_zero4

def ofT (s : List UInt8) : Org := orgV (adrOf (urlV s))

end Go.Proofs.YtgoefeaopegdoaaGreatDoor

namespace Go.Proofs.YtgoefeaopegdoaaGreatDoor
open Go.RowKit

theorem splitK_cut (c : UInt8) : ∀ l : List UInt8, Lib.splitK [c] 0 (Lib.count l [c]) l = cutL c l := by
 refine cutL_ind c (fun l h => ?_) (fun a r h ih => ?_)
 ·have hm := index_one_none l c h
  rw [cutL_none c l h, Lib.count_miss hm]
  rfl
 ·have hi := index_one_some a r c h
  have hd : (a ++ c :: r).drop (a.length + 1) = r := by
   rw [show a ++ c :: r = (a ++ [c]) ++ r by simp, show a.length + 1 = (a ++ [c]).length by simp, List.drop_left]
  rw [cutL_some c a r h, Lib.count_hit (by simp) hi, show ([c] : List UInt8).length = 1 from rfl, hd, Nat.add_comm, Lib.splitK, hi]
  rw [if_neg (by simp), show ((a.length : Int)).toNat = a.length by simp, show ([c] : List UInt8).length = 1 from rfl, hd, ih]
  simp

theorem split_pieces (c : UInt8) (s : ByteArray) : (Lib.splitB ⟨#[c]⟩ 0 (Lib.countB s ⟨#[c]⟩) s).map Value.string = cellsS (cutL c s.data.toList) := by
 have h := Lib.splitB_data ⟨#[c]⟩ 0 (Lib.countB s ⟨#[c]⟩) s
 have e : Lib.countB s ⟨#[c]⟩ = Lib.count s.data.toList [c] := rfl
 rw [e, show (⟨#[c]⟩ : ByteArray).data.toList = [c] from rfl, splitK_cut] at h
 rw [← h, cellsS, List.map_map]
 rfl

theorem split_count (c : UInt8) (s : ByteArray) : Lib.countB s ⟨#[c]⟩ + 1 = (cutL c s.data.toList).length := by
 show Lib.count s.data.toList [c] + 1 = _
 have key : ∀ l : List UInt8, Lib.count l [c] + 1 = (cutL c l).length := by
  refine cutL_ind c (fun l h => ?_) (fun a r h ih => ?_)
  ·rw [cutL_none c l h, Lib.count_miss (index_one_none l c h)]; rfl
  ·have hd : (a ++ c :: r).drop (a.length + 1) = r := by
    rw [show a ++ c :: r = (a ++ [c]) ++ r by simp, show a.length + 1 = (a ++ [c]).length by simp, List.drop_left]
   rw [cutL_some c a r h, Lib.count_hit (by simp) (index_one_some a r c h), show ([c] : List UInt8).length = 1 from rfl, hd, List.length_cons, ← ih]
   omega
 exact key _

theorem cutL_len11 (c : UInt8) (l : List UInt8) : (cutL c l).length ≤ l.length + 1 := by
 revert l
 refine cutL_ind c (fun l h => ?_) (fun a r h ih => ?_)
 ·rw [cutL_none c l h]; simp
 ·rw [cutL_some c a r h]; simp; omega

def TxPost (L : List (List UInt8)) (w : World) (e : Ending) (w' : World) : Prop :=
 ∃ g cap, e = .returned (.slice (some ⟨g, 0, none⟩) L.length cap) ∧ w'.ownsRow w.heap.size 9 1 (.slice (some ⟨g, 0, none⟩) L.length cap) L.length (cellsS L) ∧ Below w.heap.size w w'

theorem split_any (s : ByteArray) (c : UInt8) (w : World) (hg : Gd w) (hs : s.size ≤ 4000000000) :
  Calls Tryz.prog 75 #[.string s, .string ⟨#[c]⟩] w (TxPost (cutL c s.data.toList) w) := by
 obtain ⟨m, hm⟩ := hg.1
 refine (Tryz.strings_Split s ⟨#[c]⟩ m w (by omega) hm (show 1 ≤ 1 from Nat.le_refl 1)).mono ?_
 rintro e w' ⟨rfl, rfl⟩
 have hl := cutL_len11 c s.data.toList
 rw [← Lib.size_eq] at hl
 rw [split_count, split_pieces]
 refine ⟨w.heap.size, (cutL c s.data.toList).length, rfl, ?_, (Below.refl _ w).alloc (Nat.le_refl _) _⟩
 refine ⟨by simp [cellsS_len], .inr ⟨w.heap.size, (cutL c s.data.toList).length, _, rfl, Nat.le_refl _, heap_alloc_new w _, Nat.le_refl _, by unfold maxLen; omega, by simp [cellsS_len], ?_⟩⟩
 rw [List.take_of_length_le (by simp [cellsS_len])]

def StrT (w : World) (g : Nat) (L : List (List UInt8)) (k : Nat) : Prop :=
 ∃ cur : Array Value, w.heap[g]? = some (.cells cur 9 (0, 0)) ∧ cur.size = L.length ∧ ∀ j (h : j < L.length), j < k → cur[j]? = some (.string ⟨L[j].toArray⟩)

theorem StrT.kept {w w' : World} {g : Nat} {L : List (List UInt8)} {k : Nat} (h : StrT w g L k) (hb : Below w.heap.size w w') : StrT w' g L k := by
 obtain ⟨cur, hg, h2⟩ := h
 exact ⟨cur, row_kept hg hb, h2⟩

theorem StrT.cell {w : World} {g : Nat} {L : List (List UInt8)} {k : Nat} (h : StrT w g L k) (j : Nat) (hj : j < L.length) : ∃ v, w.cell? ⟨g, j, none⟩ = some v := by
 obtain ⟨cur, hg, hs, _⟩ := h
 rw [cell_of_row w g j cur _ _ hg]
 exact ⟨cur[j], by simp [hs, hj]⟩

theorem StrT.frozen {w : World} {g : Nat} {L : List (List UInt8)} {k : Nat} (h : StrT w g L k) (j : Nat) : w.frozen? ⟨g, j, none⟩ = false := by
 obtain ⟨cur, hg, _⟩ := h
 simp [World.frozen?, hg]

theorem StrT.set {w : World} {g : Nat} {L : List (List UInt8)} {k : Nat} (h : StrT w g L k) (hk : k < L.length) : StrT (w.setCell ⟨g, k, none⟩ (.string ⟨L[k].toArray⟩)) g L (k + 1) := by
 obtain ⟨cur, hg, hs, hc⟩ := h
 refine ⟨_, Lib.heap_setCell_same hg _, by simpa using hs, ?_⟩
 intro j hj hj2
 by_cases e : k = j
 ·subst e
  have : k < cur.size := by omega
  simp [this]
 ·simp [Array.getElem?_setIfInBounds, e]
  exact hc j hj (by omega)

theorem StrT.own {w : World} {B g : Nat} {L : List (List UInt8)} (h : StrT w g L L.length) (hB : B ≤ g) (hl : L.length ≤ maxLen) : w.ownsRow B 9 1 (.slice (some ⟨g, 0, none⟩) L.length L.length) L.length (cellsS L) := by
 obtain ⟨cur, hg, hs, hc⟩ := h
 refine ⟨by simp [cellsS_len], .inr ⟨g, L.length, cur, rfl, hB, hg, Nat.le_refl _, hl, by simpa using hs, ?_⟩⟩
 apply List.ext_getElem?
 intro j
 by_cases hj : j < L.length
 ·have := hc j hj hj
  rw [Nat.mul_one, List.getElem?_take, if_pos hj]
  simp only [cellsS, List.getElem?_map, List.getElem?_eq_getElem hj, Option.map_some]
  simpa using this
 ·rw [List.getElem?_eq_none (by simp; omega), List.getElem?_eq_none (by simp [cellsS]; omega)]

end Go.Proofs.YtgoefeaopegdoaaGreatDoor

namespace Go.Proofs.YtgoefeaopegdoaaGreatDoor
open Go.RowKit

def aheadO (h : List UInt8) : Nat := (cutL 46 h).length - sufV h - 1

def siteV (o : Org) : List UInt8 := if o.opq then [] else if Lib.hasPrefix o.host [91] || numO o.host then o.host else Lib.join ((cutL 46 o.host).drop (aheadO o.host)) [46]

theorem TxAt.drop11 {w : World} {g cap n : Nat} {L : List (List UInt8)} (h : TxAt w (.slice (some ⟨g, 0, none⟩) n cap) L) (k : Nat) (hk : k ≤ L.length) : TxAt w (.slice (some ⟨g, k, none⟩) (n - k) (cap - k)) (L.drop k) := by
 obtain ⟨a, c, e, h1, h2, h3⟩ := h
 injection e with e1 e2 e3
 subst e1 e2 e3
 refine ⟨_, _, by rw [List.length_drop], by rw [List.length_drop]; omega, by omega, fun j hj => ?_⟩
 rw [List.length_drop] at hj
 obtain ⟨b, off, hb, hc⟩ := h3 (k + j) (by omega)
 injection hb with hb
 injection hb with hb1 hb2 hb3
 subst hb1 hb2
 refine ⟨g, k, rfl, ?_⟩
 rw [List.getElem_drop]
 rw [Nat.zero_add] at hc
 exact hc

set_option maxHeartbeats 4000000 in
set_option maxRecDepth 20000 in
theorem site_any (o : Org) (w : World) (hg : Gd w) (hh : o.host.length ≤ 1000000) (hj : (cutL 46 o.host).length ≤ 1000001 ∧ (Lib.join ((cutL 46 o.host).drop (aheadO o.host)) [46]).length ≤ 140737488355328) :
  Calls Tryz.prog 85 #[orgVal o] w fun e w' => e = .returned (.string ⟨(siteV o).toArray⟩) ∧ Below w.heap.size w w' := by
 obtain ⟨sa, ah, ap, ao⟩ := o
 obtain ⟨AS, rfl⟩ : ∃ X : ByteArray, sa = X.data.toList := ⟨⟨sa.toArray⟩, rfl⟩
 obtain ⟨AH, rfl⟩ : ∃ X : ByteArray, ah = X.data.toList := ⟨⟨ah.toArray⟩, rfl⟩
 rw [show orgVal ⟨AS.data.toList, AH.data.toList, ap, ao⟩ = .agg #[.string AS, .string AH, .int .i64 ap, .bool ao] from rfl]
 have hhs : AH.size ≤ 1000000 := by rw [Lib.size_eq]; exact hh
 obtain ⟨W, hW⟩ : ∃ W, (w.alloc (.cells #[.string AS, .string AH, .int .i64 ap, .bool ao] 28)) = W := ⟨_, rfl⟩
 have hbW : Below w.heap.size w W := by rw [← hW]; exact (Below.refl _ w).alloc (Nat.le_refl _) _
 have hrow : W.heap[w.heap.size]? = some (.cells #[.string AS, .string AH, .int .i64 ap, .bool ao] 28 (0, 0)) := by rw [← hW]; exact heap_alloc_new w _
 have h1 : W.cell? ⟨w.heap.size, 1, none⟩ = some (.string AH) := by rw [Lib.cell_of_heap hrow]; rfl
 have h3 : W.cell? ⟨w.heap.size, 3, none⟩ = some (.bool ao) := by rw [Lib.cell_of_heap hrow]; rfl
 have HK := hid (show ∀ Z, Below W.heap.size W Z → Z.cell? ⟨w.heap.size, 1, none⟩ = some (.string AH) from fun Z hZ => keptC h1 hZ)
 have HGW := hid (fun (X : World) (hX : Below W.heap.size W X) => (hg.kept hbW).kept hX)
 have HBW := hid hbW
 have HPr := hid (fun w => Tryz.strings_HasPrefix AH ⟨#[91]⟩ w)
 have HNu := hid (fun w => numeric_any AH w (by omega))
 have HSp := hid (fun (X : World) (hX : Below W.heap.size W X) => split_any AH 46 X ((hg.kept hbW).kept hX) (by omega))
 have HSu := hid (fun w => suffix_any AH w (by omega))
 obtain ⟨q1, e1⟩ : ∃ q, Lib.hasPrefix AH.data.toList [91] = q := ⟨_, rfl⟩
 obtain ⟨q2, e2⟩ : ∃ q, numO AH.data.toList = q := ⟨_, rfl⟩
 have HPr' : Hid (∀ w, Calls Tryz.prog 104 #[.string AH, .string ⟨#[91]⟩] w fun e w' => e = .returned (.bool q1) ∧ w' = w) := fun w => by rw [← e1]; exact HPr.out w
 rw [e2] at HNu
 have HV := hid (show siteV ⟨AS.data.toList, AH.data.toList, ap, ao⟩ = if ao then [] else if q1 || q2 then AH.data.toList else Lib.join ((cutL 46 AH.data.toList).drop (aheadO AH.data.toList)) [46] by unfold siteV; rw [← e1, ← e2])
 obtain ⟨V, hV⟩ : ∃ V, siteV ⟨AS.data.toList, AH.data.toList, ap, ao⟩ = V := ⟨_, rfl⟩
 rw [hV] at HV ⊢
 have HJ := hid hj
 obtain ⟨L, hL⟩ : ∃ L, cutL 46 AH.data.toList = L := ⟨_, rfl⟩
 have HL1 := hid (show 1 ≤ L.length by rw [← hL]; exact List.length_pos_iff.2 (cutL_ne 46 _))
 obtain ⟨s, hs⟩ : ∃ s, sufV AH.data.toList = s := ⟨_, rfl⟩
 have HA := hid (show aheadO AH.data.toList = L.length - s - 1 by unfold aheadO; rw [hL, hs])
 dsimp only at HJ
 rw [HA.out, hL] at HV HJ
 unfold TxPost at HSp
 rw [hL] at HSp
 rw [hs] at HSu
 have hs2 : 1 ≤ s ∧ s ≤ 2 := by rw [← hs]; unfold sufV; split <;> omega
 clear HPr hV hL hs e1 e2 hg hh hj hbW hrow HA
 cases ao with
 | true =>
  go_enter Tryz.func85, Tryz.ntmps85
  go_wp2
  go_ret
  exact ⟨ret_str' (by rw [HV.out]; rfl), HBW.out⟩
 | false =>
  go_enter Tryz.func85, Tryz.ntmps85
  go_wp2_with fail
  refine (HPr'.out _).mono ?_
  rintro e wz ⟨rfl, hwz⟩
  rw [hwz]
  clear hwz
  cases q1 with
  | true =>
   go_wp2
   go_ret
   exact ⟨ret_str' (by rw [HV.out]; rfl), HBW.out⟩
  | false =>
   go_wp2_with fail
   refine (HNu.out _).mono ?_
   rintro e w2 ⟨rfl, hb2⟩
   have k1 := HK.out _ hb2
   have HB2 := hid hb2
   clear hb2
   cases q2 with
   | true =>
    go_wp2
    go_ret
    exact ⟨ret_str' (by rw [HV.out]; rfl), below2 HBW.out HB2.out⟩
   | false =>
    go_wp2_with fail
    refine (HSp.out _ HB2.out).mono ?_
    rintro e w3 ⟨g, cap, rfl, hown, hb3⟩
    have HB3 := hid (below2 HB2.out hb3)
    have HT := hid (own_txt' hown)
    have k2 := HK.out _ HB3.out
    obtain ⟨a', c', he, hc1, hc2, -⟩ := HT.out.view
    injection he with he1 he2 he3
    rw [← he3] at hc1 hc2
    clear hb3 hown k1 he1 he2 he3
    obtain ⟨n, hn⟩ : ∃ n, L.length = n := ⟨_, rfl⟩
    rw [hn] at hc1 HV HJ HT ⊢
    have hn9 := HJ.out.1
    go_wp2_with fail
    refine (HSu.out _).mono ?_
    rintro e w4 ⟨rfl, hw4⟩
    rw [← hw4]
    clear hw4
    obtain ⟨k, hk⟩ : ∃ k, n - s - 1 = k := ⟨_, rfl⟩
    rw [hk] at HV HJ
    have hkn : k ≤ n := by omega
    have hmx : max ((n : Int) - (s : Int) - 1) 0 = (k : Int) := by omega
    have HD := hid (fun (h : k ≤ L.length) => HT.out.drop11 k h)
    have hn1 := HL1.out
    rw [hn] at hn1
    have hkc : k < cap := by omega
    have hkc1 : ¬ cap = k := by omega
    have hkc2 : ¬ cap - k = 0 := by omega
    have HJo := hid (join5_any _ _ ⟨#[46]⟩ w3 (HD.out (by omega)) (by rw [List.length_drop]; omega) HJ.out.2)
    clear hn1
    go_wp2_with fail
    refine HJo.out.mono ?_
    rintro e w5 ⟨rfl, hb5⟩
    go_wp2
    go_ret
    exact ⟨ret_str' (by rw [HV.out]; rfl), below2 HBW.out (below2 HB3.out hb5)⟩

end Go.Proofs.YtgoefeaopegdoaaGreatDoor
