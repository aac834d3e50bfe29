/-
  Walks and plain facts that this claim leans on, put together out of 5 texts: Efe, Eff, Efk, Xzz, Zzz.
-/
import Derived.Test.YtooihpkoplgmbaaGreatDoorProg
import Derived.Test.YtooihpkoplgmbaaGreatDoorTie
import Derived.Test.YtooihpkoplgmbaaGreatDoorQh1
import Derived.Test.YtooihpkoplgmbaaGreatDoorQh2
import Derived.Test.YtooihpkoplgmbaaGreatDoorQh3
import Derived.Test.YtooihpkoplgmbaaGreatDoorQh5
import Derived.Test.YtooihpkoplgmbaaGreatDoorQh6
import Derived.Test.YtooihpkoplgmbaaGreatDoorQh7
import Derived.Test.YtooihpkoplgmbaaGreatDoorQh8
import Derived.Test.YtooihpkoplgmbaaGreatDoorQh9
import Derived.BigRegion
import Derived.Deep.RegionHeld
import Derived.Deep.RegionHeldLaw
import Derived.Lib.IndexAny
import Derived.WalkKit
import Derived.Lib.UnsafeStr
import Derived.Lib.BufferRead
import Derived.Lib.RuneBytes
import Derived.Laws.RangeAny
import Derived.Deep.LoopGhost
import Derived.Maps.OwnSet
import Derived.Maps.OwnOps
import Derived.Maps.AppendAt
import Derived.StringKeys
import Derived.BigQuiet
import Derived.Deep.QuietTactic
import Derived.LoopN
import Derived.RegionTactic
import Derived.Deep.RegionLaw
import Derived.Deep.RegionWith
import Derived.WalkSpells
import Derived.WalkLawsBesides
import Derived.Lib.FieldsP
import Derived.Lib.DecodeN
import Derived.Lib.IndexMore
import Derived.Lib.Join
import Derived.Lib.SmallJoins
import Derived.Laws.CopyOwn
import Derived.Laws.ResultCell
import Derived.Deep.MidRow
import Derived.Laws.OwnMore
import Derived.Below
import Derived.WalkSmall
import Derived.Lib.LaidTab
import Derived.Lib.AppendIntMem
import Derived.Laws.AppendOwn
import Derived.Laws.Runes
import Derived.Lib.OthersKept
import Derived.Lib.FrozenHead2
import Derived.Lib.Builder
import Derived.Lib.AppendStr
import Derived.Lib.Replace
import Derived.Shelf.GgClosure.GivesRunes
import Derived.Laws.BitsAll
import Derived.Laws.Shifts
import Derived.Deep.DeepAppendRoom
import Derived.Laws.IdiomStrings
import Derived.Laws.BytesString
import Derived.Laws.CopyRow
import Derived.Sort.OwnSorted
import Derived.Lib.SlicesCompact
import Derived.Shelf.Slices.In.SortNone
import Derived.Shelf.Slices.CompactS
import Derived.Lib.Strings
import Derived.Laws.BitsAllLaws
import Derived.Lib.Bytealg
import Derived.Lib.BufferMore
import Derived.Shelf.Strings.Builder1
import Derived.Shelf.Strings.Builder2
import Derived.Shelf.Strings.OnBuilder
import Derived.Shelf.Strings.Trim
import Derived.Shelf.Small.Utf8
import Derived.Shelf.Small.Bits
import Derived.Shelf.Small.Strs
import Derived.Shelf.Small.Wraps
import Derived.Shelf.Strings.BuilderF
import Derived.Shelf.Strings.BuilderK
import Derived.Shelf.Utf8.RuneCount
import Derived.Shelf.Strings.Builder2Cap
import Derived.Shelf.Strconv.Itoa0
import Derived.Shelf.Strconv.Itoa1
import Derived.Shelf.LaysM
import Derived.Shelf.Strconv.Itoa2
import Derived.Shelf.Strconv.Itoa3
import Derived.Shelf.Strings.Search1
import Derived.Shelf.Strings.Search2
import Derived.Shelf.Strings.Search3
import Derived.Shelf.Strings.Cut
import Derived.Shelf.Strings.Count
import Derived.Shelf.Strings.Shaped
import Derived.Shelf.Sort.Plain
import Derived.Shelf.Strings.LastIndex
import Derived.Shelf.Strings.Prefix
import Derived.Shelf.Strings.Split
import Derived.Shelf.Strings.Replace
import Derived.Shelf.Strings.SplitShaped
import Derived.Shelf.Unicode.Decode
import Derived.Shelf.Strings.Runes
import Derived.Shelf.Strings.RuneCount
import Derived.Shelf.Strings.IndexAny
import Derived.Shelf.Strings.AsciiSet
import Derived.Shelf.Strings.IndexAnyAll
import Derived.Shelf.Strings.Explode
import Derived.Shelf.Unicode.DecodeSlow
import Derived.Shelf.Unicode.DecodeAny
import Derived.Shelf.Unicode.DecodeLast
import Derived.Shelf.Strings.FieldsFuncAny
import Derived.Shelf.Strings.FieldsFuncGrows
import Derived.Shelf.Slices.Equal
import Derived.Ground.Names2Prog
import Derived.Shelf.Slices.Clone
import Derived.Shelf.Slices.Cells
import Derived.Ground.SlgnProg
import Derived.Shelf.SlicesE.Equal
import Derived.Shelf.SlicesE.Clone
import Derived.Lib.SlTrimSet
import Derived.Shelf.Strings.SlTrimAscii
import Derived.Deep.CutRange
import Derived.Laws.Rows
import Derived.Laws.MakeOwn
import Derived.Deep.WholeRow
import Derived.Laws.AppendOwnNone
import Derived.Stop.LaidErr
import Derived.LaidMore
import Derived.Deep.SlicePairs
import Derived.SizedLaws
set_option linter.unusedSimpArgs false
set_option linter.unusedVariables false

namespace Go.Proofs.YtooihpkoplgmbaaGreatDoor
open Go.RowKit

theorem TxAt.take16 {w : World} {a : Option Addr} {n c : Nat} {L : List (List UInt8)} (h : TxAt w (.slice a n c) L) (k : Nat) (hk : k ≤ L.length) : TxAt w (.slice a k c) (L.take k) := by
 obtain ⟨a', c', e, h1, h2, h3⟩ := h.view
 injection e with e1 e2 e3
 subst e1 e3
 refine ⟨a, c, by rw [List.length_take, Nat.min_eq_left hk], by rw [List.length_take]; omega, h2, fun j hj => ?_⟩
 have hj2 : j < L.length := by rw [List.length_take] at hj; omega
 obtain ⟨b, off, e4, e5⟩ := h3 j hj2
 exact ⟨b, off, e4, by rw [List.getElem_take]; exact e5⟩

theorem cells_enc (X : List (List UInt8)) : X.map encStr = cellsT X := rfl

theorem grow_none16 (w : World) : Sort.grow w #[] = w := by
 cases w
 simp [Sort.grow]

def varV (P : List (List UInt8)) : List (List UInt8) := if vrOk P then srtN (vrS P) else []

theorem varV_yes {P X : List (List UInt8)} (h : vrOk P = true) (hX : vrS P = X) : varV P = srtN X := by unfold varV; rw [h, hX]; rfl

theorem varV_no {P : List (List UInt8)} (h : vrOk P = false) : varV P = [] := by unfold varV; rw [h]; rfl

def VyPost (P : List (List UInt8)) (w : World) (e : Ending) (w' : World) : Prop :=
 ∃ v, e = .returned (.tuple #[v, .bool (vrOk P)]) ∧ TxAt w' v (varV P) ∧ Below w.heap.size w w'

theorem srtN_len16 (X : List (List UInt8)) : (srtN X).length ≤ X.length := (srtN_facts X).2.2

set_option maxHeartbeats 8000000 in
set_option maxRecDepth 100000 in
theorem vary16_any (v : Value) (L : List Hd) (w : World) (h : HdAt w v L) (hz : Szd 140737488351232 L) (hl : L.length ≤ 1000000) (hb : bulkV L ≤ 1000000) :
  Calls Tryz.prog 22 #[v] w (VyPost (pcsV L nVy) w) := by
 obtain ⟨i0, hi, hz0, hz1, hz2⟩ := info3 infoTx
 obtain ⟨va, vcc, rfl, _, _, _⟩ := h.view
 obtain ⟨P, hP⟩ : ∃ P, pcsV L nVy = P := ⟨_, rfl⟩
 have hPl := pcsV_len16 L nVy
 rw [hP] at hPl
 have HPS := hid hPl.2
 have HBK := hid hb
 have hPn := hPl.1
 have HS := hid (split16_any _ L ⟨#[118, 97, 114, 121]⟩ w h (by decide) hz hl (by omega))
 rw [show (⟨#[118, 97, 114, 121]⟩ : ByteArray).data.toList = nVy from rfl, hP] at HS
 rw [hP]
 obtain ⟨n, hn⟩ : ∃ n, n = P.length := ⟨_, rfl⟩
 have HN := hid hn
 have hn9 : n ≤ 1000000 + 1 := by omega
 unfold SpPost at HS
 rw [← hn] at HS
 clear hP hPl hPn h hz hl hn hb
 go_enter Tryz.func22, Tryz.ntmps22
 go_wp2_with fail
 refine HS.out.mono ?_
 rintro e w1 ⟨v1, q1, rfl, hown1, hb1⟩
 obtain ⟨a1, c1, rfl⟩ := own_sl16 hown1
 have HT := hid (show TxAt w1 (.slice a1 n c1) P from by
  have h := hown1
  rw [HN.out] at h ⊢
  exact own_txt' h)
 have HB1 := hid hb1
 clear hown1 hb1 HS
 go_wp2_with fail
 go_loopw [6, 16] (fun v6 vi wr => ∃ (k : Nat) (ra : Option Addr) (rn rc : Nat), k ≤ n ∧ rn ≤ n ∧ vi = .int .i64 k ∧ v6 = .slice ra rn rc ∧ Hid (rn = (vrS (P.take k)).length ∧ wr.ownsRow w1.heap.size 9 1 (.slice ra rn rc) rn (cellsT (vrS (P.take k))) ∧ Below w1.heap.size w1 wr ∧ ∀ j (hj : j < P.length), j < k → P[j] ≠ [42])) (fun _ vi _ => n - (intOf vi).toNat)
 case atStart => exact ⟨0, none, 0, 0, Nat.zero_le _, Nat.zero_le _, rfl, rfl, rfl, World.ownsRow_nil _ _ _ _, Below.refl _ _, fun j _ hj => absurd hj (Nat.not_lt_zero _)⟩
 case round =>
  obtain ⟨k, ra, rn, rc, hk, hrn, rfl, rfl, HR⟩ := hrel
  by_cases hlt : k < n
  ·have hkP : k < P.length := by have := HN.out; omega
   have hlt' : (k : Int) < (n : Int) := by omega
   obtain ⟨a1', c1', e1, _, _, hcell⟩ := HT.out.view
   injection e1 with e1 e2 e3
   clear e2 e3
   subst e1
   obtain ⟨pb, po, rfl, hpc0⟩ := hcell k hkP
   have hpc := (HR.out.2.2.1.cell (World.block_lt_of_cell? w1 _ hpc0)).trans hpc0
   obtain ⟨X, hX⟩ : ∃ X : ByteArray, X = ⟨P[k].toArray⟩ := ⟨_, rfl⟩
   rw [← hX] at hpc
   have hXl : X.data.toList = P[k] := by rw [hX]
   have hXs : X.size ≤ 1000000000 := by
    rw [Lib.size_eq, hXl]
    have := HPS.out _ (List.getElem_mem hkP)
    have := HBK.out
    omega
   have HXL := hid hXl
   have HKP := hid hkP
   clear hcell hpc0 hX hXl
   by_cases hst : X.data.toList = [42]
   ·have HVN := hid (show vrOk P = false from vrOk_stop P k HKP.out (by rw [← HXL.out]; exact hst))
    have hNe : X = ⟨#[42]⟩ := eq_lit16 hst
    clear hst HXL
    subst hNe
    go_wp2_with fail
    go_ret2
    refine ⟨.slice none 0 0, by rw [HVN.out]; rfl, by rw [varV_no HVN.out]; exact tx_nil _, below2 HB1.out HR.out.2.2.1⟩
   ·have e42 : (X.toList == [42]) = false := beq_no16 X _ hst
    have HNS := hid (show ∀ j (hj : j < P.length), j < k + 1 → P[j] ≠ [42] from fun j hj hjk => by
     by_cases h : j = k
     ·subst h
      rw [← HXL.out]; exact hst
     ·exact HR.out.2.2.2 j hj (by omega))
    clear hst
    by_cases hem : X.data.toList = []
    ·have HD := hid (show vrS (P.take (k + 1)) = vrS (P.take k) by rw [vrS_take P k HKP.out, if_pos (by rw [← HXL.out]; exact hem)])
     have hNe : X = ⟨#[]⟩ := eq_lit16 hem
     clear hem HXL e42
     subst hNe
     go_wp2_with fail
     go_roundw
     case rel =>
      first
       | exact ⟨k + 1, ra, rn, rc, by omega, hrn, by go_num, rfl, by rw [HD.out]; exact ⟨HR.out.1, HR.out.2.1, HR.out.2.2.1, HNS.out⟩⟩
       | ((repeat apply Exists.intro); refine ⟨?_, rfl⟩; exact ⟨k + 1, ra, rn, rc, by omega, hrn, by go_num, rfl, by rw [HD.out]; exact ⟨HR.out.1, HR.out.2.1, HR.out.2.2.1, HNS.out⟩⟩)
       | ((repeat apply Exists.intro); exact ⟨⟨k + 1, ra, rn, rc, by omega, hrn, by go_num, rfl, by rw [HD.out]; exact ⟨HR.out.1, HR.out.2.1, HR.out.2.2.1, HNS.out⟩⟩, rfl⟩)
     case measure => simp [intOf]; omega
    ·have HD := hid (show vrS (P.take (k + 1)) = vrS (P.take k) ++ [low X.data.toList] by rw [vrS_take P k HKP.out, if_neg (by rw [← HXL.out]; exact hem), HXL.out])
     have e0 : (X.toList == []) = false := beq_no16 X _ hem
     have e00 : X.toList.isEmpty = false := by
      rw [Lib.toList_data]
      cases h : X.data.toList with
      | nil => exact absurd h hem
      | cons a b => rfl
     obtain ⟨M, hM⟩ : ∃ B' : ByteArray, ⟨(low X.data.toList).toArray⟩ = B' := ⟨_, rfl⟩
     have HM := hid (show M.data.toList = low X.data.toList by rw [← hM])
     have HLo : Hid (∀ Y : World, Calls Tryz.prog 49 #[.string X] Y fun e w' => e = .returned (.string M) ∧ Below Y.heap.size Y w') := fun Y => by rw [← hM]; exact lower_any X Y (by omega)
     have HRn := hid (show rn + 1 ≤ n by
      have h1 := HR.out.1
      have h2 := vrS_len (P.take k)
      rw [List.length_take] at h2
      omega)
     clear hem hM HXL
     go_wp2_with fail
     refine (HLo.out _).mono ?_
     rintro e w3 ⟨rfl, hb3⟩
     have HB3 := hid (HR.out.2.2.1.trans (hb3.mono HR.out.2.2.1.size))
     have HO3 := hid (own_same HR.out.2.1 hb3)
     have hs3 := HB3.out.size
     clear hb3 HLo
     go_wp2_with (at_builtin; go_must (refine wpList_append_own _ rfl _ _ 29 rfl w1.heap.size 9 i0 (.string ByteArray.empty) 1 16 Tryz.underlying29 hi hz0 hz1 hz2 rfl (by decide) _ _ _ rfl (HO3.out.alloc _) ⟨w3.heap.size, 0, none⟩ 1 1 [.string M] rfl rfl ?c1 ?c2 ?c3 ?c4 ?c5 ?_))
     case c1 =>
      intro q u hq
      match q, hq with
      | 0, hq => simp at hq; subst hq; simp [Addr.add]
     case c2 => intro u hu; simp at hu; subst hu; rfl
     case c3 => unfold maxLen; omega
     case c4 => omega
     case c5 => simp; omega
     intro v4 w4 hown4 hgrow4 hnil4
     obtain ⟨a4, c4, rfl⟩ := own_sl16 hown4
     have HO4 := hid (show w4.ownsRow w1.heap.size 9 1 (.slice a4 (rn + 1) c4) (rn + 1) (cellsT (vrS (P.take (k + 1)))) by
      rw [HD.out, cellsT_app, ← HM.out, cellsT_one]; exact hown4)
     have HB4 := hid (show Below w1.heap.size w1 w4 from (HB3.out.alloc hs3 _).grown hgrow4 (by simp; omega) (fun g hg => (HO3.out.lt g hg).1))
     have HN4 := hid (show rn + 1 = (vrS (P.take (k + 1))).length by rw [HD.out, List.length_append, ← HR.out.1]; rfl)
     clear hown4 hgrow4 hnil4 hs3
     go_wp2
     go_roundw
     case rel =>
      first
       | exact ⟨k + 1, a4, rn + 1, c4, by omega, HRn.out, by go_num, rfl, HN4.out, HO4.out, HB4.out, HNS.out⟩
       | ((repeat apply Exists.intro); refine ⟨?_, rfl⟩; exact ⟨k + 1, a4, rn + 1, c4, by omega, HRn.out, by go_num, rfl, HN4.out, HO4.out, HB4.out, HNS.out⟩)
       | ((repeat apply Exists.intro); exact ⟨⟨k + 1, a4, rn + 1, c4, by omega, HRn.out, by go_num, rfl, HN4.out, HO4.out, HB4.out, HNS.out⟩, rfl⟩)
     case measure => simp [intOf]; omega
  ·obtain rfl : k = n := by omega
   obtain ⟨hr1, hr2, hr3, hr4⟩ := HR.out
   have hall : P.take k = P := List.take_of_length_le (by have := HN.out; omega)
   rw [hall] at hr1 hr2
   have HOk := hid (show vrOk P = true from vrOk_all P fun j hj => hr4 j hj (by rw [HN.out]; exact hj))
   obtain ⟨X, hX⟩ : ∃ X, vrS P = X := ⟨_, rfl⟩
   rw [hX] at hr1 hr2
   have HXe := hid hX
   have HXZ := hid (show ∀ x ∈ X, x.length ≤ bulkV L from fun x hx => by rw [← hX] at hx; exact vrS_szd P _ HPS.out x hx)
   have HBw := hid (below2 HB1.out hr3)
   have HRC := hid (show rc ≤ maxLen from by
    rcases hr2.2 with ⟨hv, _⟩ | ⟨g, cap, cur, hv, _, _, _, h2, _⟩
    ·injection hv with _ _ e3; subst e3; decide
    ·injection hv with _ _ e3; subst e3; exact h2)
   clear hX hall
   by_cases h0 : rn = 0
   ·have hXn : X = [] := List.eq_nil_of_length_eq_zero (by omega)
    subst h0
    subst hXn
    clear hr1 hr2 hr3 hr4 HR hlt
    go_wp2_with (go_at_call 50; refine (Tryz.slices_Sort_string_none _ _ _).mono ?_; rintro e wz ⟨rfl, hwz⟩; rw [hwz]; clear hwz)
    go_wp2_with (go_at_call 51; refine (Tryz.slices_Compact_string_empty _ _ _).mono ?_; rintro e wz ⟨rfl, hwz⟩; rw [hwz]; clear hwz)
    go_wp2
    go_ret2
    refine ⟨.slice ra 0 rc, by rw [HOk.out]; rfl, ?_, HBw.out⟩
    rw [varV_yes HOk.out HXe.out]
    exact ⟨ra, rc, rfl, Nat.zero_le _, HRC.out, fun j hj => by simp [srtN] at hj⟩
   ·rcases hr2.2 with ⟨_, hn0⟩ | ⟨g, cap, cur, hv, hbase, hb, h1, h2, h3, h4⟩
    ·exact absurd hn0 h0
    ·injection hv with e1 e2 e3
     subst e1
     subst e3
     have hsl := srt16_len X
     have hXL : X.length = rn := hr1.symm
     have HSo := hid (Tryz.slices_Sort_string g 0 rc X wr (holds_of_block hb (by rw [cells_enc, hXL]; simpa using h4)) (Array.getElem?_eq_some_iff.1 hb).1 (by omega))
     rw [hXL] at HSo
     have HAft : Hid (∀ nn os, (Sort.grow (Sort.putRow encStr (Sort.ahead wr nn) g 0 (srt16 X).toArray) os).ownsRow w1.heap.size 9 1 (.slice (some ⟨g, 0, none⟩) rn rc) rn (cellsT (srt16 X)) ∧ Below w1.heap.size w1 (Sort.grow (Sort.putRow encStr (Sort.ahead wr nn) g 0 (srt16 X).toArray) os)) := fun nn os => by
      have o1 := ownsRow_sorted (w := wr) (n := nn) (os := os) (ts := srt16 X) (ss := X) hsl hbase hb (by omega) h2 (by simpa using h3)
      have g1 := grownBy_sorted (w := wr) (g := g) (n := nn) (os := os) (srt16 X).toArray
      rw [hXL] at o1
      exact ⟨o1, hr3.grown g1 hr3.size (fun k hk => by injection hk with hk; omega)⟩
     have HCp := hid (fun (Z : World) (hO : Z.ownsRow w1.heap.size 9 1 (.slice (some ⟨g, 0, none⟩) rn rc) rn (cellsT (srt16 X))) (hBZ : Below w1.heap.size w1 Z) => (show Calls Tryz.prog 51 #[.slice (some ⟨g, 0, none⟩) rn rc] Z fun e w' => ∃ u, e = .returned u ∧ TxAt w' u (srtN X) ∧ Below w1.heap.size w1 w' from by
      rcases hO.2 with ⟨_, hn0⟩ | ⟨g2, cap2, cur2, hv2, hbase2, hb2, k1, k2, k3, k4⟩
      ·exact absurd hn0 h0
      ·injection hv2 with e5 e6 e7
       injection e5 with e5
       injection e5 with e5 _ _
       subst e5
       subst e7
       have hsn : (srt16 X).length = rn := by rw [hsl, hXL]
       have hC := Tryz.slices_Compact_string g 0 rc (srt16 X) Z (holds_of_block hb2 (by rw [cells_enc, hsn]; simpa using k4)) (by omega) (by omega)
       rw [hsn, compact_srt] at hC
       refine hC.mono ?_
       rintro e w' ⟨rfl, q, rfl⟩
       have hcl := srtN_len16 X
       have hl2 : (srtN X ++ List.replicate (rn - (srtN X).length) []).length = (srt16 X).length := by rw [List.length_append, List.length_replicate]; omega
       have o2 := ownsRow_sorted (w := Z) (n := q) (os := #[]) (ts := srtN X ++ List.replicate (rn - (srtN X).length) []) (ss := srt16 X) hl2 hbase2 hb2 (by omega) k2 (by simpa using k3)
       have g2 := grownBy_sorted (w := Z) (g := g) (n := q) (os := #[]) (srtN X ++ List.replicate (rn - (srtN X).length) []).toArray
       rw [grow_none16] at o2 g2
       refine ⟨_, rfl, ?_, hBZ.grown g2 hBZ.size (fun k hk => by injection hk with hk; omega)⟩
       rw [← hl2, cells_enc] at o2
       have t1 := (own_txt' o2).take16 (srtN X).length (by rw [List.length_append]; omega)
       rw [List.take_left'  rfl] at t1
       exact t1))
     clear hr1 hr2 hr3 hr4 HR hlt hb h1 h2 h3 h4 hbase hsl hXL
     go_wp2_with (go_at_call 50; refine HSo.out.mono ?_; rintro e wz ⟨rfl, nn, os, hwz⟩; have HW := hid hwz; clear hwz)
     go_wp2_with (go_at_call 51; refine (HCp.out _ (by have := (HAft.out nn os).1; rw [HW.out]; exact this) (by have := (HAft.out nn os).2; rw [HW.out]; exact this)).mono ?_; rintro e w5 ⟨u5, rfl, ht5, hb5⟩)
     go_wp2
     go_ret2
     exact ⟨u5, by rw [HOk.out]; rfl, by rw [varV_yes HOk.out HXe.out]; exact ht5, below2 HB1.out hb5⟩

theorem rsplit16v_any (v : Value) (L : List Hd) (n : ByteArray) (w : World) (h : HdAt w v L) (hs : n.size ≤ 140737488351232) (hz : Szd 140737488351232 L) (hl : L.length ≤ 1000000) (hb : bulkV L ≤ 100000000) :
  Calls Tryz.prog 44 #[v, .string n] w (SpPost (pcsV L n.data.toList) w) := by
 refine (rsplit_any v L n w h hs hz hl hb).mono ?_
 rintro e w' ⟨u, rfl, ho, hb'⟩
 exact ⟨u, _, rfl, ho, hb'⟩

set_option maxHeartbeats 8000000 in
set_option maxRecDepth 100000 in
theorem rvary16_any (v : Value) (L : List Hd) (w : World) (h : HdAt w v L) (hz : Szd 140737488351232 L) (hl : L.length ≤ 1000000) (hb : bulkV L ≤ 90000) :
  Calls Tryz.prog 23 #[v] w (VyPost (pcsV L nVy) w) := by
 obtain ⟨i0, hi, hz0, hz1, hz2⟩ := info3 infoTx
 obtain ⟨va, vcc, rfl, _, _, _⟩ := h.view
 obtain ⟨P, hP⟩ : ∃ P, pcsV L nVy = P := ⟨_, rfl⟩
 have hPl := pcsV_len16 L nVy
 rw [hP] at hPl
 have HPS := hid hPl.2
 have HBK := hid hb
 have hPn := hPl.1
 have HS := hid (rsplit16v_any _ L ⟨#[118, 97, 114, 121]⟩ w h (by decide) hz hl (by omega))
 rw [show (⟨#[118, 97, 114, 121]⟩ : ByteArray).data.toList = nVy from rfl, hP] at HS
 rw [hP]
 obtain ⟨n, hn⟩ : ∃ n, n = P.length := ⟨_, rfl⟩
 have HN := hid hn
 have hn9 : n ≤ 90001 := by omega
 unfold SpPost at HS
 rw [← hn] at HS
 clear hP hPl hPn h hz hl hn hb
 go_enter Tryz.func23, Tryz.ntmps23
 go_wp2_with fail
 refine HS.out.mono ?_
 rintro e w1 ⟨v1, q1, rfl, hown1, hb1⟩
 obtain ⟨a1, c1, rfl⟩ := own_sl16 hown1
 have HT := hid (show TxAt w1 (.slice a1 n c1) P from by
  have h := hown1
  rw [HN.out] at h ⊢
  exact own_txt' h)
 have HB1 := hid hb1
 clear hown1 hb1 HS
 go_wp2_with fail
 go_loopw [6, 7] (fun v6 vi wr => ∃ (k : Nat) (ra : Option Addr) (rn rc : Nat), k ≤ n ∧ rn ≤ n ∧ vi = .int .i64 k ∧ v6 = .slice ra rn rc ∧ Hid (rn = (vrS (P.take k)).length ∧ wr.ownsRow w1.heap.size 9 1 (.slice ra rn rc) rn (cellsT (vrS (P.take k))) ∧ Below w1.heap.size w1 wr ∧ ∀ j (hj : j < P.length), j < k → P[j] ≠ [42])) (fun _ vi _ => n - (intOf vi).toNat)
 case atStart => exact ⟨0, none, 0, 0, Nat.zero_le _, Nat.zero_le _, rfl, rfl, rfl, World.ownsRow_nil _ _ _ _, Below.refl _ _, fun j _ hj => absurd hj (Nat.not_lt_zero _)⟩
 case round =>
  obtain ⟨k, ra, rn, rc, hk, hrn, rfl, rfl, HR⟩ := hrel
  by_cases hlt : k < n
  ·have hkP : k < P.length := by have := HN.out; omega
   have hlt' : (k : Int) < (n : Int) := by omega
   obtain ⟨a1', c1', e1, _, _, hcell⟩ := HT.out.view
   injection e1 with e1 e2 e3
   clear e2 e3
   subst e1
   obtain ⟨pb, po, rfl, hpc0⟩ := hcell k hkP
   have hpc := (HR.out.2.2.1.cell (World.block_lt_of_cell? w1 _ hpc0)).trans hpc0
   obtain ⟨X, hX⟩ : ∃ X : ByteArray, X = ⟨P[k].toArray⟩ := ⟨_, rfl⟩
   rw [← hX] at hpc
   have hXl : X.data.toList = P[k] := by rw [hX]
   have hXs : X.size ≤ 1000000 := by
    rw [Lib.size_eq, hXl]
    have := HPS.out _ (List.getElem_mem hkP)
    have := HBK.out
    omega
   have HXL := hid hXl
   have HKP := hid hkP
   clear hcell hpc0 hX hXl
   by_cases hst : X.data.toList = [42]
   ·have HVN := hid (show vrOk P = false from vrOk_stop P k HKP.out (by rw [← HXL.out]; exact hst))
    have hNe : X = ⟨#[42]⟩ := eq_lit16 hst
    clear hst HXL
    subst hNe
    go_wp2_with fail
    go_ret2
    refine ⟨.slice none 0 0, by rw [HVN.out]; rfl, by rw [varV_no HVN.out]; exact tx_nil _, below2 HB1.out HR.out.2.2.1⟩
   ·have e42 : (X.toList == [42]) = false := beq_no16 X _ hst
    have HNS := hid (show ∀ j (hj : j < P.length), j < k + 1 → P[j] ≠ [42] from fun j hj hjk => by
     by_cases h : j = k
     ·subst h
      rw [← HXL.out]; exact hst
     ·exact HR.out.2.2.2 j hj (by omega))
    clear hst
    by_cases hem : X.data.toList = []
    ·have HD := hid (show vrS (P.take (k + 1)) = vrS (P.take k) by rw [vrS_take P k HKP.out, if_pos (by rw [← HXL.out]; exact hem)])
     have hNe : X = ⟨#[]⟩ := eq_lit16 hem
     clear hem HXL e42
     subst hNe
     go_wp2_with fail
     go_roundw
     case rel =>
      first
       | exact ⟨k + 1, ra, rn, rc, by omega, hrn, by go_num, rfl, by rw [HD.out]; exact ⟨HR.out.1, HR.out.2.1, HR.out.2.2.1, HNS.out⟩⟩
       | ((repeat apply Exists.intro); refine ⟨?_, rfl⟩; exact ⟨k + 1, ra, rn, rc, by omega, hrn, by go_num, rfl, by rw [HD.out]; exact ⟨HR.out.1, HR.out.2.1, HR.out.2.2.1, HNS.out⟩⟩)
       | ((repeat apply Exists.intro); exact ⟨⟨k + 1, ra, rn, rc, by omega, hrn, by go_num, rfl, by rw [HD.out]; exact ⟨HR.out.1, HR.out.2.1, HR.out.2.2.1, HNS.out⟩⟩, rfl⟩)
     case measure => simp [intOf]; omega
    ·have HD := hid (show vrS (P.take (k + 1)) = vrS (P.take k) ++ [low X.data.toList] by rw [vrS_take P k HKP.out, if_neg (by rw [← HXL.out]; exact hem), HXL.out])
     have e0 : (X.toList == []) = false := beq_no16 X _ hem
     have e00 : X.toList.isEmpty = false := by
      rw [Lib.toList_data]
      cases h : X.data.toList with
      | nil => exact absurd h hem
      | cons a b => rfl
     obtain ⟨M, hM⟩ : ∃ B' : ByteArray, ⟨(low X.data.toList).toArray⟩ = B' := ⟨_, rfl⟩
     have HM := hid (show M.data.toList = low X.data.toList by rw [← hM])
     have HLo : Hid (∀ Y : World, Calls Tryz.prog 47 #[.string X] Y fun e w' => e = .returned (.string M) ∧ Below Y.heap.size Y w') := fun Y => by rw [← hM]; exact rlower_any X Y (by omega)
     have HRn := hid (show rn + 1 ≤ n by
      have h1 := HR.out.1
      have h2 := vrS_len (P.take k)
      rw [List.length_take] at h2
      omega)
     clear hem hM HXL
     go_wp2_with fail
     refine (HLo.out _).mono ?_
     rintro e w3 ⟨rfl, hb3⟩
     have HB3 := hid (HR.out.2.2.1.trans (hb3.mono HR.out.2.2.1.size))
     have HO3 := hid (own_same HR.out.2.1 hb3)
     have hs3 := HB3.out.size
     clear hb3 HLo
     go_wp2_with (at_builtin; go_must (refine wpList_append_own _ rfl _ _ 29 rfl w1.heap.size 9 i0 (.string ByteArray.empty) 1 16 Tryz.underlying29 hi hz0 hz1 hz2 rfl (by decide) _ _ _ rfl (HO3.out.alloc _) ⟨w3.heap.size, 0, none⟩ 1 1 [.string M] rfl rfl ?c1 ?c2 ?c3 ?c4 ?c5 ?_))
     case c1 =>
      intro q u hq
      match q, hq with
      | 0, hq => simp at hq; subst hq; simp [Addr.add]
     case c2 => intro u hu; simp at hu; subst hu; rfl
     case c3 => unfold maxLen; omega
     case c4 => omega
     case c5 => simp; omega
     intro v4 w4 hown4 hgrow4 hnil4
     obtain ⟨a4, c4, rfl⟩ := own_sl16 hown4
     have HO4 := hid (show w4.ownsRow w1.heap.size 9 1 (.slice a4 (rn + 1) c4) (rn + 1) (cellsT (vrS (P.take (k + 1)))) by
      rw [HD.out, cellsT_app, ← HM.out, cellsT_one]; exact hown4)
     have HB4 := hid (show Below w1.heap.size w1 w4 from (HB3.out.alloc hs3 _).grown hgrow4 (by simp; omega) (fun g hg => (HO3.out.lt g hg).1))
     have HN4 := hid (show rn + 1 = (vrS (P.take (k + 1))).length by rw [HD.out, List.length_append, ← HR.out.1]; rfl)
     clear hown4 hgrow4 hnil4 hs3
     go_wp2
     go_roundw
     case rel =>
      first
       | exact ⟨k + 1, a4, rn + 1, c4, by omega, HRn.out, by go_num, rfl, HN4.out, HO4.out, HB4.out, HNS.out⟩
       | ((repeat apply Exists.intro); refine ⟨?_, rfl⟩; exact ⟨k + 1, a4, rn + 1, c4, by omega, HRn.out, by go_num, rfl, HN4.out, HO4.out, HB4.out, HNS.out⟩)
       | ((repeat apply Exists.intro); exact ⟨⟨k + 1, a4, rn + 1, c4, by omega, HRn.out, by go_num, rfl, HN4.out, HO4.out, HB4.out, HNS.out⟩, rfl⟩)
     case measure => simp [intOf]; omega
  ·obtain rfl : k = n := by omega
   obtain ⟨hr1, hr2, hr3, hr4⟩ := HR.out
   have hall : P.take k = P := List.take_of_length_le (by have := HN.out; omega)
   rw [hall] at hr1 hr2
   have HOk := hid (show vrOk P = true from vrOk_all P fun j hj => hr4 j hj (by rw [HN.out]; exact hj))
   obtain ⟨X, hX⟩ : ∃ X, vrS P = X := ⟨_, rfl⟩
   rw [hX] at hr1 hr2
   have HXe := hid hX
   have HXZ := hid (show ∀ x ∈ X, x.length ≤ bulkV L from fun x hx => by rw [← hX] at hx; exact vrS_szd P _ HPS.out x hx)
   have HBw := hid (below2 HB1.out hr3)
   clear hX hall
   have hRS := rsorted1_any (.slice ra rn rc) X wr (own_txt' (by rw [← hr1]; exact hr2)) (by omega) (fun x hx => by have := HXZ.out x hx; have := HBK.out; omega)
   have HRS := hid hRS
   clear hr1 hr2 hr3 hr4 HR hlt hRS
   go_wp2_with fail
   refine HRS.out.mono ?_
   rintro e w5 ⟨u5, rfl, hown5, hb5⟩
   go_wp2
   go_ret2
   refine ⟨u5, by rw [HOk.out]; rfl, by rw [varV_yes HOk.out HXe.out]; exact own_txt' hown5, below2 HBw.out ?_⟩
   exact hb5

end Go.Proofs.YtooihpkoplgmbaaGreatDoor

namespace Go.Proofs.YtooihpkoplgmbaaGreatDoor
open Go.RowKit

def CCu : List UInt8 := [67, 97, 99, 104, 101, 45, 67, 111, 110, 116, 114, 111, 108]

theorem own_lit16 (w : World) (L : List Hd) (n : Nat) (hn : L.length = n) (h : n ≤ 1000) : (w.alloc (.cells (cellsH L).toArray 85)).ownsRow w.heap.size 85 2 (.slice (some ⟨w.heap.size, 0, none⟩) n n) n (cellsH L) := by
 have h1 := World.ownsRow_lit (base := w.heap.size) (e := 85) (size := 2) w (cellsH L).toArray n (Nat.le_refl _) (by unfold maxLen; omega) (by rw [List.size_toArray, cellsH_len, hn])
 exact h1

def Sml (L : List Hd) : Prop := L.length ≤ 10 ∧ ∀ x ∈ L, x.name.length ≤ 1000 ∧ x.value.length ≤ 1000

theorem Sml.szd {L : List Hd} (h : Sml L) : Szd 140737488351232 L ∧ L.length ≤ 1000000 ∧ bulkV L ≤ 90000 := by
 have h1 : Szd 1000 L := fun x hx => h.2 x hx
 refine ⟨h1.mono (by decide), by have := h.1; omega, ?_⟩
 have h2 := h1.bulk
 have h3 : (1000 + 2) * L.length ≤ 1002 * 10 := Nat.mul_le_mul_left _ h.1
 omega

theorem sml_one (a : Hd) (h1 : a.name.length ≤ 1000) (h2 : a.value.length ≤ 1000) : Sml [a] := ⟨by simp, fun x hx => by rw [List.mem_singleton.1 hx]; exact ⟨h1, h2⟩⟩

theorem parse_at16 (v : Value) (L : List Hd) (a b : Bool) (m : Int) (w : World) (hg : G5 w) (h : HdAt w v L) (hs : Sml L) (hc : ctlV L = ⟨a, b, m⟩) :
  Calls Tryz.prog 20 #[v] w fun e w' => e = .returned (.agg #[.bool a, .bool b, .int .i64 m]) ∧ Below w.heap.size w w' := by
 have := parse16_any v L w hg h hs.szd.1 hs.szd.2.1 (by have := hs.szd.2.2; omega)
 rw [hc] at this
 exact this

theorem fresh_at16 (v : Value) (L : List Hd) (s n : Int) (b : Bool) (w : World) (hg : G5 w) (h : HdAt w v L) (hs : Sml L) (h1 : -9223372036854775808 ≤ s ∧ s ≤ 9223372036854775807) (h2 : -9223372036854775808 ≤ n ∧ n ≤ 9223372036854775807) (hc : freV L s n = b) :
  Calls Tryz.prog 28 #[v, .int .i64 s, .int .i64 n] w fun e w' => e = .returned (.bool b) ∧ Below w.heap.size w w' := by
 have := fresh16_any v L s n w hg h hs.szd.1 hs.szd.2.1 (by have := hs.szd.2.2; omega) h1 h2
 rw [hc] at this
 exact this

set_option maxHeartbeats 1000000 in
theorem cc16_any (s : ByteArray) (w : World) : Calls Tryz.prog 57 #[.string s] w fun e w' => e = .returned (.slice (some ⟨w.heap.size, 0, none⟩) 1 1) ∧ w'.ownsRow w.heap.size 85 2 (.slice (some ⟨w.heap.size, 0, none⟩) 1 1) 1 (cellsH [⟨CCu, s.data.toList⟩]) ∧ Below w.heap.size w w' := by
 have e : (cellsH [⟨CCu, s.data.toList⟩]).toArray = #[.string ⟨#[67, 97, 99, 104, 101, 45, 67, 111, 110, 116, 114, 111, 108]⟩, .string s] := by
  rw [cellsH_one, ← xself s]; rfl
 have h := own_lit16 w [⟨CCu, s.data.toList⟩] 1 rfl (by decide)
 rw [e] at h
 have H := hid h
 clear h e
 go_enter Tryz.func57, Tryz.ntmps57
 go_wp2
 go_ret
 exact ⟨rfl, H.out, (Below.refl _ w).alloc (Nat.le_refl _) _⟩

theorem kn116 : ctlV [⟨CCu, [77, 97, 120, 45, 65, 103, 101, 61, 34, 53, 34, 44, 32, 110, 111, 45, 99, 97, 99, 104, 101, 61, 120]⟩] = ⟨false, true, 5⟩ := by decide +kernel

theorem kn216 : freV [⟨CCu, [109, 97, 120, 45, 97, 103, 101, 61, 53]⟩] 0 4 = true := by decide +kernel

theorem kn316 : freV [⟨CCu, [109, 97, 120, 45, 97, 103, 101, 61, 53]⟩] 0 5 = false := by decide +kernel

set_option maxHeartbeats 4000000 in
set_option maxRecDepth 100000 in
theorem known16_any (w : World) (hg : G5 w) : Calls Tryz.prog 31 #[] w fun e w' => e = .returned (.bool true) ∧ Below w.heap.size w w' := by
 have HG := hid hg
 have HB0 := hid (Below.refl w.heap.size w)
 clear hg
 go_enter Tryz.func31, Tryz.ntmps31
 go_wp2_with fail
 refine (cc16_any (⟨#[77, 97, 120, 45, 65, 103, 101, 61, 34, 53, 34, 44, 32, 110, 111, 45, 99, 97, 99, 104, 101, 61, 120]⟩ : ByteArray) _).mono ?_
 rintro e w1 ⟨rfl, how1, hbw1⟩
 have HBw1 := hid (below2 HB0.out hbw1)
 have HHw1 := hid (own_hd (L := [⟨CCu, [77, 97, 120, 45, 65, 103, 101, 61, 34, 53, 34, 44, 32, 110, 111, 45, 99, 97, 99, 104, 101, 61, 120]⟩]) how1)
 clear how1 hbw1
 go_wp2_with fail
 refine (parse_at16 _ _ false true 5 _ (HG.out.kept HBw1.out) HHw1.out (sml_one _ (by decide) (by decide)) kn116).mono ?_
 rintro e w2 ⟨rfl, hb2⟩
 have HBw2 := hid (below2 HBw1.out hb2)
 clear hb2
 go_wp2_with fail
 refine (cc16_any (⟨#[109, 97, 120, 45, 97, 103, 101, 61, 53]⟩ : ByteArray) _).mono ?_
 rintro e w3 ⟨rfl, how3, hbw3⟩
 have HBw3 := hid (below2 HBw2.out hbw3)
 have HHw3 := hid (own_hd (L := [⟨CCu, [109, 97, 120, 45, 97, 103, 101, 61, 53]⟩]) how3)
 clear how3 hbw3
 go_wp2_with fail
 refine (fresh_at16 _ _ 0 4 true _ (HG.out.kept HBw3.out) HHw3.out (sml_one _ (by decide) (by decide)) (by omega) (by omega) kn216).mono ?_
 rintro e w4 ⟨rfl, hb4⟩
 have HBw4 := hid (below2 HBw3.out hb4)
 clear hb4
 go_wp2_with fail
 refine (cc16_any (⟨#[109, 97, 120, 45, 97, 103, 101, 61, 53]⟩ : ByteArray) _).mono ?_
 rintro e w5 ⟨rfl, how5, hbw5⟩
 have HBw5 := hid (below2 HBw4.out hbw5)
 have HHw5 := hid (own_hd (L := [⟨CCu, [109, 97, 120, 45, 97, 103, 101, 61, 53]⟩]) how5)
 clear how5 hbw5
 go_wp2_with fail
 refine (fresh_at16 _ _ 0 5 false _ (HG.out.kept HBw5.out) HHw5.out (sml_one _ (by decide) (by decide)) (by omega) (by omega) kn316).mono ?_
 rintro e w6 ⟨rfl, hb6⟩
 have HBw6 := hid (below2 HBw5.out hb6)
 clear hb6
 go_wp2
 go_ret
 exact ⟨rfl, HBw6.out⟩

end Go.Proofs.YtooihpkoplgmbaaGreatDoor

namespace Go.Proofs.YtooihpkoplgmbaaGreatDoor
open Go.RowKit

set_option maxHeartbeats 16000000 in
set_option maxRecDepth 100000 in
theorem ageReckons_walk (v : Value) (L0 : List Hd) (s n a b : Int) (w : World) (hv : HdAt w v L0) (hz : Szd 140737488351232 L0) (hs : (Lit.int .i64 s).wf = true) (hn : (Lit.int .i64 n).wf = true) (ha : (Lit.int .i64 a).wf = true) (hb : (Lit.int .i64 b).wf = true) (hg : G5 w) :
  Calls Tryz.prog 6 #[v, .int .i64 s, .int .i64 n, .int .i64 a, .int .i64 b] w fun e w' => e = .returned (.bool true) ∧ Below w.heap.size w w' := by
 have HG := hid hg
 have hs2 := bounds_i64 hs
 have hn2 := bounds_i64 hn
 have ha2 := bounds_i64 ha
 have hb2 := bounds_i64 hb
 obtain ⟨L, hL⟩ : ∃ L, L = fewH L0 10 200 := ⟨_, rfl⟩
 have hll : L.length ≤ 10 := by rw [hL]; exact fewH_len L0 10 200
 have hsz : Szd 200 L := by rw [hL]; exact fewH_szd L0 10 200
 have hbk : bulkV L ≤ 90000 := by
  have h2 := hsz.bulk
  have h3 : (200 + 2) * L.length ≤ 202 * 10 := Nat.mul_le_mul_left _ hll
  omega
 have HZ := hid (show Szd 140737488351232 L from hsz.mono (by decide))
 have HFw := hid (fewHeaders_any v L0 10 200 w hv (hz.mono (by decide)) (by decide) (by decide))
 unfold HdPost at HFw
 rw [← hL] at HFw
 have HLL := hid (show L.length ≤ 1000000 by omega)
 have HBk := hid hbk
 clear hL hsz hv hz hs hn ha hb hg hll hbk
 go_enter Tryz.func6, Tryz.ntmps6
 go_wp2_with fail
 refine HFw.out.mono ?_
 rintro e w1 ⟨u, rfl, hown, hb1⟩
 have HH := hid (own_hd hown)
 have HW1 := hid hb1
 clear hown hb1 HFw
 have HPa := hid (fun (Z : World) (hZ : Below w1.heap.size w1 Z) => parse16_any u L Z (HG.out.kept (below2 HW1.out hZ)) (HH.out.kept hZ) HZ.out HLL.out (by have := HBk.out; omega))
 have HPb := hid (fun (Z : World) (hZ : Below w1.heap.size w1 Z) => rparse16_any u L Z (HH.out.kept hZ) HZ.out HLL.out (by have := HBk.out; omega))
 have HVa := hid (fun (Z : World) (hZ : Below w1.heap.size w1 Z) => vary16_any u L Z (HH.out.kept hZ) HZ.out HLL.out (by have := HBk.out; omega))
 have HVb := hid (fun (Z : World) (hZ : Below w1.heap.size w1 Z) => rvary16_any u L Z (HH.out.kept hZ) HZ.out HLL.out HBk.out)
 have HAa := hid (fun (Z : World) (hZ : Below w1.heap.size w1 Z) => age16_any u L s n Z (HH.out.kept hZ) HZ.out HLL.out (by have := HBk.out; omega) hs2 hn2)
 have HAb := hid (fun (Z : World) (hZ : Below w1.heap.size w1 Z) => rage16_any u L s n Z (HH.out.kept hZ) HZ.out HLL.out (by have := HBk.out; omega) hs2 hn2)
 have HFa := hid (fun (Z : World) (hZ : Below w1.heap.size w1 Z) => fresh16_any u L s n Z (HG.out.kept (below2 HW1.out hZ)) (HH.out.kept hZ) HZ.out HLL.out (by have := HBk.out; omega) hs2 hn2)
 have HFb := hid (fun (Z : World) (hZ : Below w1.heap.size w1 Z) => rfresh16_any u L s n Z (HH.out.kept hZ) HZ.out HLL.out (by have := HBk.out; omega) hs2 hn2)
 have HDa := hid (fun (Z : World) => add16_any a b Z ha2 hb2)
 have HDb := hid (fun (Z : World) => radd16_any a b Z ha2 hb2)
 have HKn := hid (fun (Z : World) (hZ : Below w1.heap.size w1 Z) => known16_any Z (HG.out.kept (below2 HW1.out hZ)))
 have hvl : (varV (pcsV L nVy)).length ≤ 1000000 := by
  unfold varV
  split
  ·have h1 := srtN_len16 (vrS (pcsV L nVy))
   have h2 := vrS_len (pcsV L nVy)
   have h3 := (pcsV_len16 L nVy).1
   have := HBk.out
   omega
  ·exact Nat.zero_le _
 have HSa := hid (fun (v1 v2 : Value) (Z : World) (h1 : TxAt Z v1 (varV (pcsV L nVy))) (h2 : TxAt Z v2 (varV (pcsV L nVy))) => sameT_any v1 v2 _ _ Z h1 h2 hvl hvl)
 unfold CtPost at HPa HPb
 unfold VyPost at HVa HVb
 generalize varV (pcsV L nVy) = X at *
 generalize vrOk (pcsV L nVy) = ok at *
 generalize ctlV L = c at *
 generalize ageV L s n = A at *
 generalize freV L s n = F at *
 generalize addV a b = D at *
 obtain ⟨cs, cc, cm⟩ := c
 have hdt : decide (X = X) = true := decide_eq_true rfl
 rw [hdt] at HSa
 clear hdt
 have HB0 := hid (Below.refl w1.heap.size w1)
 clear hvl
 go_wp2_with fail
 refine (HPa.out _ HB0.out).mono ?_
 rintro e w2 ⟨rfl, hbw2⟩
 have HBw2 := hid (below2 HB0.out hbw2)
 clear hbw2
 obtain ⟨W2, hW2⟩ : ∃ Z, (w2.alloc (.cells #[.bool cs, .bool cc, .int .i64 cm] 53)) = Z := ⟨_, rfl⟩
 have hbW2 : Below w2.heap.size w2 W2 := by rw [← hW2]; exact (Below.refl _ w2).alloc (Nat.le_refl _) _
 have HCW2 := hid (show CtC 53 W2 w2.heap.size ⟨cs, cc, cm⟩ by rw [← hW2]; exact heap_alloc_new w2 _)
 have HBW2 := hid (below2 HBw2.out hbW2)
 clear hbW2
 go_wp2_with fail
 refine (HPb.out _ HBW2.out).mono ?_
 rintro e w3 ⟨rfl, hbw3⟩
 have HBw3 := hid (below2 HBW2.out hbw3)
 have HC3 := hid (HCW2.out.kept hbw3)
 clear hbw3
 obtain ⟨W3, hW3⟩ : ∃ Z, (w3.alloc (.cells #[.bool cs, .bool cc, .int .i64 cm] 55)) = Z := ⟨_, rfl⟩
 have hbW3 : Below w3.heap.size w3 W3 := by rw [← hW3]; exact (Below.refl _ w3).alloc (Nat.le_refl _) _
 have HCW3 := hid (show CtC 55 W3 w3.heap.size ⟨cs, cc, cm⟩ by rw [← hW3]; exact heap_alloc_new w3 _)
 have HBW3 := hid (below2 HBw3.out hbW3)
 clear hbW3
 have HC4 := hid (HC3.out.kept (show Below w3.heap.size w3 W3 by rw [← hW3]; exact (Below.refl _ w3).alloc (Nat.le_refl _) _))
 go_wp2_with fail
 refine (HVa.out _ HBW3.out).mono ?_
 rintro e w4 ⟨x1, rfl, ht1, hb4⟩
 have HBw4 := hid (below2 HBW3.out hb4)
 have HC5 := hid (HC4.out.kept hb4)
 have HD5 := hid (HCW3.out.kept hb4)
 have HT1 := hid ht1
 clear ht1 hb4
 go_wp2_with fail
 refine (HVb.out _ HBw4.out).mono ?_
 rintro e w5 ⟨x2, rfl, ht2, hb5⟩
 have HBw5 := hid (below2 HBw4.out hb5)
 have HT2 := hid ht2
 have HT3 := hid (HT1.out.kept hb5)
 obtain ⟨c0, c1, c2, _, _, _⟩ := (HC5.out.kept hb5).cells
 obtain ⟨d0, d1, d2, _, _, _⟩ := (HD5.out.kept hb5).cells
 clear ht2 hb5 HC3 HC4 HC5 HD5 HCW2 HCW3
 go_wp2_with fail
 refine (HDa.out _).mono ?_
 rintro e w99 ⟨rfl, hw99⟩
 rw [hw99]
 clear hw99
 go_wp2_with fail
 refine (HDb.out _).mono ?_
 rintro e w99 ⟨rfl, hw99⟩
 rw [hw99]
 clear hw99
 go_wp2_with fail
 refine (HAa.out _ HBw5.out).mono ?_
 rintro e w6 ⟨rfl, hbw6⟩
 have HBw6 := hid (below2 HBw5.out hbw6)
 have HT4 := hid (HT2.out.kept hbw6)
 have HT5 := hid (HT3.out.kept hbw6)
 clear hbw6
 go_wp2_with fail
 refine (HAb.out _ HBw6.out).mono ?_
 rintro e w7 ⟨rfl, hbw7⟩
 have HBw7 := hid (below2 HBw6.out hbw7)
 have HT6 := hid (HT4.out.kept hbw7)
 have HT7 := hid (HT5.out.kept hbw7)
 clear hbw7
 go_wp2_with fail
 refine (HFa.out _ HBw7.out).mono ?_
 rintro e w8 ⟨rfl, hbw8⟩
 have HBw8 := hid (below2 HBw7.out hbw8)
 have HT8 := hid (HT6.out.kept hbw8)
 have HT9 := hid (HT7.out.kept hbw8)
 clear hbw8
 go_wp2_with fail
 refine (HFb.out _ HBw8.out).mono ?_
 rintro e w9 ⟨rfl, hbw9⟩
 have HBw9 := hid (below2 HBw8.out hbw9)
 have HT10 := hid (HT8.out.kept hbw9)
 have HT11 := hid (HT9.out.kept hbw9)
 clear hbw9
 go_wp2_with fail
 refine (HSa.out _ _ _ HT11.out HT10.out).mono ?_
 rintro e w10 ⟨rfl, hbw10⟩
 have HBw10 := hid (below2 HBw9.out hbw10)
 clear hbw10
 go_wp2_with fail
 refine (HKn.out _ HBw10.out).mono ?_
 rintro e w11 ⟨rfl, hbw11⟩
 have HBw11 := hid (below2 HBw10.out hbw11)
 clear hbw11
 go_wp2
 go_ret
 exact ⟨rfl, below2 HW1.out HBw11.out⟩

end Go.Proofs.YtooihpkoplgmbaaGreatDoor

namespace Go.Proofs.YtooihpkoplgmbaaGreatDoor
open Go.RowKit

def laid5 : List (String × DataW Unit) := [("unicode/utf8.acceptRanges", Rows.laid_unicode_utf8_acceptRanges), ("unicode/utf8.first", Rows.laid_unicode_utf8_first)]

theorem g5_of_shaped {W : World} (hsh : W.ShapedOpen Tryz.prog) : G5 W := Tryz.laysM145.s1_3 W hsh

theorem ownK : ownKnob Tryz.prog.godebug = none := by kernel_rfl

noncomputable def startW (os : Os) : World :=
 { World.doorLaid Tryz.prog 24 os with heap := (World.doorLaid Tryz.prog 24 os).heap.setIfInBounds 1 (.cells (Pinned.utf8FirstZ.map fun (n : Nat) => Value.int .u8 (n : Int)).toArray 234 (0, 0)) }

theorem door_met (os : Os) (args : Array Value) : laidMetH Tryz.prog laid5 ((startW os).forCall (fun _ _ => 0) ⟨#[], args, []⟩).memory :=
 laidMetH_of_parts3 (fuel := 8) (laidMet_of_run' 8 (by kernel_rfl) (by kernel_rfl)) (by kernel_rfl) (by kernel_rfl)

theorem spot_none {w : World} {x : Addr} {v : Value} (h : w.cell? x = some v) : x.spot = none := by
 unfold World.cell? at h
 cases hs : x.spot with
 | none => rfl
 | some y =>
  rw [hs] at h
  split at h
  ·simp at h
  ·cases h

theorem tx_arg {w : World} {x : Addr} {len cap : Nat} {ss : List ByteArray} (hl : len ≤ cap) (hm : cap ≤ maxLen) (hz : ss.length = cap) (hcell : ∀ i, i < ss.length → w.cell? (x.add i) = some (.string (ss.getD i ByteArray.empty))) (hws : ∀ s ∈ ss, s.size ≤ maxLen) :
  ∃ L, TxAt w (.slice (some x) len cap) L ∧ ∀ y ∈ L, y.length ≤ maxLen := by
 have hL : ((ss.take len).map (·.data.toList)).length = len := by simp; omega
 refine ⟨(ss.take len).map (·.data.toList), ⟨some x, cap, by rw [hL], by omega, hm, fun j hj => ?_⟩, fun y hy => ?_⟩
 ·rw [hL] at hj
  have h0 := hcell 0 (by omega)
  have hsp : x.spot = none := spot_none (by simpa [Addr.add] using h0)
  refine ⟨x.block, x.off, by rw [← hsp], ?_⟩
  have hc := hcell j (by omega)
  have e : x.add j = ⟨x.block, x.off + j, none⟩ := by
   unfold Addr.add
   split
   ·subst_vars; rw [← hsp]; rfl
   ·rfl
  rw [e] at hc
  rw [hc]
  have hjs : j < ss.length := by omega
  simp [List.getD, hjs]
 ·simp only [List.mem_map] at hy
  obtain ⟨s, hs, rfl⟩ := hy
  have := hws s (List.mem_of_mem_take hs)
  simpa using this

end Go.Proofs.YtooihpkoplgmbaaGreatDoor

namespace Go.Proofs.YtooihpkoplgmbaaGreatDoor
open Go.RowKit

theorem wAll_mem {H : Type} {P : Program} {e : TypeId} : ∀ {l : List (DataW H)} {d : DataW H}, d ∈ l → ∀ n ∈ d.weights P e, n ∈ DataW.weightsAll P e l
 | [], _, h, _, _ => by cases h
 | a :: l, d, h, n, hn => by
  rw [DataW.weightsAll, List.mem_append]
  rcases List.mem_cons.1 h with rfl | h
  ·exact .inl hn
  ·exact .inr (wAll_mem h n hn)

theorem sized_hd {H : Type} {P : Program} {ts : List TypeId} {ds : List (DataW H)} (h : (DataW.weightsEach P ts ds).all (· ≤ reachBytes) = true) {j : Nat} {t e : TypeId} {f0 f1 : Field} {elems spare : List (DataW H)} (ht : ts[j]? = some t) (hd : ds[j]? = some (.slice elems spare))
  (hu : P.underlying t = some (.slice e)) (he : P.underlying e = some (.struct #[f0, f1])) {x y : List UInt8} (hm : DataW.agg [.lit (.string x), .lit (.string y)] ∈ elems) : x.length ≤ 140737488351232 ∧ y.length ≤ 140737488351232 := by
 have key : ∀ n ∈ (DataW.agg [.lit (.string x), .lit (.string y)] : DataW H).weights P e, n ≤ 140737488351232 := fun n hn => by
  have h1 : n ∈ DataW.weightsAll P e elems := wAll_mem hm n hn
  have h2 : n ∈ (DataW.slice elems spare : DataW H).weights P t := by
   rw [DataW.weights, hu]
   simp only [List.mem_cons, List.mem_append]
   exact .inr (.inl h1)
  have := List.all_eq_true.1 h _ (DataW.weights_mem_each ht hd n h2)
  exact of_decide_eq_true this
 constructor
 ·exact key x.length (by rw [DataW.weights, he]; simp [DataW.weightsEach, DataW.weights])
 ·exact key y.length (by rw [DataW.weights, he]; simp [DataW.weightsEach, DataW.weights])

theorem undHd : ∃ f0 f1, Tryz.prog.underlying 85 = some (.struct #[f0, f1]) ∧ f0.offset = 0 ∧ f1.offset = 1 ∧ f0.type = 9 ∧ f1.type = 9 := ⟨_, _, Tryz.underlying85, rfl, rfl, rfl, rfl⟩

theorem addr_add {x : Addr} (h : x.spot = none) (j : Nat) : x.add j = ⟨x.block, x.off + j, none⟩ := by
 unfold Addr.add
 split
 ·subst_vars; rw [← h]; rfl
 ·rfl

theorem hd_arg {H : Type} {enc : TypeId × Value → H} {W : World} {a : Option Addr} {len cap : Nat} {d : DataW H} {p : List MemPlace} {ts : List TypeId} {ds : List (DataW H)} {j fuel : Nat}
  (hf : DataW.trod enc Tryz.prog W 0 (fun _ => true) true fuel 50 [.slice a len cap] = some (d, p)) (hwt : (DataW.weightsEach Tryz.prog ts ds).all (· ≤ reachBytes) = true) (ht : ts[j]? = some 50) (hd : ds[j]? = some d) :
  ∃ L, HdAt W (.slice a len cap) L ∧ Szd 140737488351232 L := by
 obtain ⟨f0, f1, hu, o0, o1, t0, t1⟩ := undHd
 have c1 : Tryz.prog.cellsOf 9 = 1 := by kernel_rfl
 rcases Deep.open_slice_pairs Tryz.underlying50 hu (by kernel_rfl) o0 o1 (by rw [t0]; exact c1) (by rw [t1]; exact c1) hf with ⟨hcs, _⟩ | ⟨x, len', cap', m, n, V0, V1, D0, D1, P0, P1, hcs, _, hl, hm, hmm, hx, hcell⟩
 ·simp at hcs
  obtain ⟨rfl, rfl, rfl⟩ := hcs
  exact ⟨[], hd_nil _, fun h hh => by simp at hh⟩
 ·simp at hcs
  obtain ⟨rfl, rfl, rfl⟩ := hcs
  have hlm : len ≤ m := by rw [hmm]; simp; omega
  have hx1 := (Prod.mk.injEq _ _ _ _ ▸ hx : _ ∧ _).1
  have each : ∀ i, i < len → ∃ s : ByteArray × ByteArray, W.cell? (x.add (i * 2)) = some (.string s.1) ∧ W.cell? (x.add (i * 2 + 1)) = some (.string s.2) ∧ s.1.data.toList.length ≤ 140737488351232 ∧ s.2.data.toList.length ≤ 140737488351232 := fun i hi => by
   obtain ⟨q0, q1, r0, r1⟩ := hcell i (by omega)
   rw [t0] at r0
   rw [t1] at r1
   obtain ⟨s0, e0, y0, _⟩ := DataW.trod_string Tryz.underlying9 r0
   obtain ⟨s1, e1, y1, _⟩ := DataW.trod_string Tryz.underlying9 r1
   simp at e0 e1 y0 y1
   rw [e0] at q0
   rw [e1] at q1
   have hmem : DataW.agg [.lit (.string s0.data.toList), .lit (.string s1.data.toList)] ∈ ((List.range len).map fun i => (DataW.agg [D0 i, D1 i] : DataW H)) := by
    rw [List.mem_map]
    refine ⟨i, by simpa using hi, ?_⟩
    rw [y0.1, y1.1]
   have := sized_hd hwt ht (by rw [hd, hx1]) Tryz.underlying50 hu hmem
   exact ⟨(s0, s1), q0, q1, this⟩
  obtain ⟨F, hF⟩ := Deep.choose_lt each
  have hL : ((List.range len).map fun i => (⟨(F i).1.data.toList, (F i).2.data.toList⟩ : Hd)).length = len := by simp
  refine ⟨(List.range len).map fun i => ⟨(F i).1.data.toList, (F i).2.data.toList⟩, ⟨some x, cap, by rw [hL], by rw [hL]; exact hl, hm, fun i hi => ?_⟩, fun h hh => ?_⟩
  ·rw [hL] at hi
   have h0 := hF 0 (by omega)
   have hsp : x.spot = none := spot_none (by simpa [Addr.add] using h0.1)
   obtain ⟨q0, q1, _⟩ := hF i hi
   rw [addr_add hsp] at q0 q1
   refine ⟨x.block, x.off, by rw [← hsp], ?_, ?_⟩
   ·rw [q0]; simp
   ·rw [Nat.add_assoc, q1]; simp
  ·rw [List.mem_map] at hh
   obtain ⟨i, hi, rfl⟩ := hh
   exact (hF i (by simpa using hi)).2.2

end Go.Proofs.YtooihpkoplgmbaaGreatDoor
