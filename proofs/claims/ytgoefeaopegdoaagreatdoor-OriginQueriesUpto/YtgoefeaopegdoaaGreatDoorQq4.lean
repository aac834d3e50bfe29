/-
  Walks and plain facts that this claim leans on, put together out of 5 texts: Ewl, Ewp, Azh, Epa, Dz.
-/
import Derived.Test.YtgoefeaopegdoaaGreatDoorProg
import Derived.Test.YtgoefeaopegdoaaGreatDoorRows
import Derived.Test.YtgoefeaopegdoaaGreatDoorTie
import Derived.Test.YtgoefeaopegdoaaGreatDoorQa1
import Derived.Test.YtgoefeaopegdoaaGreatDoorQa2
import Derived.Test.YtgoefeaopegdoaaGreatDoorQa3
import Derived.Test.YtgoefeaopegdoaaGreatDoorQa4
import Derived.Test.YtgoefeaopegdoaaGreatDoorQa5
import Derived.Test.YtgoefeaopegdoaaGreatDoorQa6
import Derived.Test.YtgoefeaopegdoaaGreatDoorQa7
import Derived.Test.YtgoefeaopegdoaaGreatDoorQa8
import Derived.Test.YtgoefeaopegdoaaGreatDoorQa9
import Derived.Test.YtgoefeaopegdoaaGreatDoorQa10
import Derived.Test.YtgoefeaopegdoaaGreatDoorQa11
import Derived.Test.YtgoefeaopegdoaaGreatDoorQa12
import Derived.Test.YtgoefeaopegdoaaGreatDoorQa13
import Derived.Test.YtgoefeaopegdoaaGreatDoorQa14
import Derived.Test.YtgoefeaopegdoaaGreatDoorQa15
import Derived.Test.YtgoefeaopegdoaaGreatDoorQa16
import Derived.Test.YtgoefeaopegdoaaGreatDoorQa17
import Derived.Test.YtgoefeaopegdoaaGreatDoorQa18
import Derived.Test.YtgoefeaopegdoaaGreatDoorQa19
import Derived.Test.YtgoefeaopegdoaaGreatDoorQa20
import Derived.Test.YtgoefeaopegdoaaGreatDoorQa21
import Derived.Test.YtgoefeaopegdoaaGreatDoorQa22
import Derived.Test.YtgoefeaopegdoaaGreatDoorQa23
import Derived.Test.YtgoefeaopegdoaaGreatDoorQa24
import Derived.Test.YtgoefeaopegdoaaGreatDoorQa25
import Derived.Test.YtgoefeaopegdoaaGreatDoorQa26
import Derived.Test.YtgoefeaopegdoaaGreatDoorQa27
import Derived.Test.YtgoefeaopegdoaaGreatDoorQq1
import Derived.Test.YtgoefeaopegdoaaGreatDoorQq2
import Derived.Test.YtgoefeaopegdoaaGreatDoorQq3
import Derived.Deep.Cut
import Derived.Deep.QuietTactic
import Derived.BigQuiet
import Derived.BigRegion
import Derived.Deep.RegionHeld
import Derived.Lib.IndexMore
import Derived.Lib.Join
import Derived.Lib.LastIndexByte
import Derived.WalkKit
import Derived.Lib.Strings
import Derived.Lib.UnsafeStr
import Derived.Laws.IdiomStrings
import Derived.Laws.AppendOwn
import Derived.Laws.BitsAllLaws
import Derived.Lib.Bytealg
import Derived.Lib.BufferMore
import Derived.Lib.BufferRead
import Derived.Lib.RuneBytes
import Derived.Laws.RangeAny
import Derived.LoopN
import Derived.RegionTactic
import Derived.Deep.RegionWith
import Derived.OwnWalk
import Derived.Deep.RegionLaw
import Derived.Laws.OwnMore
import Derived.Deep.LoopGhost
import Derived.Shelf.Strings.Builder1
import Derived.Shelf.Strings.Builder2
import Derived.Shelf.Strings.OnBuilder
import Derived.Shelf.Strings.Trim
import Derived.Shelf.Small.Utf8
import Derived.Shelf.Small.Bits
import Derived.Shelf.Small.Strs
import Derived.Shelf.Small.Wraps
import Derived.Shelf.Strings.BuilderF
import Derived.Shelf.Strings.BuilderK
import Derived.Shelf.Strings.BuilderRune
import Derived.Shelf.Utf8.AppendRune
import Derived.Shelf.Utf8.AppendRunePlain
import Derived.Shelf.Strings.Builder2Cap
import Derived.Shelf.Strconv.Itoa0
import Derived.Shelf.Strconv.Itoa1
import Derived.Shelf.LaysM
import Derived.Shelf.Strconv.Itoa2
import Derived.Shelf.Strconv.Itoa3
import Derived.Shelf.Strings.Search1
import Derived.Shelf.Strings.Search2
import Derived.Shelf.Strings.Search3
import Derived.Shelf.Strings.Cut
import Derived.Shelf.Strings.Count
import Derived.Shelf.Strings.Shaped
import Derived.Shelf.Strings.LastIndex
import Derived.Shelf.Strings.Prefix
import Derived.Shelf.Strings.Split
import Derived.Shelf.Strings.Replace
import Derived.Shelf.Strings.Runes
import Derived.Shelf.Strings.IndexAny
import Derived.Shelf.Strings.AsciiSet
import Derived.Shelf.Strings.IndexAnyAll
import Derived.Shelf.Unicode.DecodeSlow
import Derived.Ground.Names2Prog
import Derived.Shelf.Slices.Clone
import Derived.Shelf.Slices.In.SortNone
import Derived.Ground.SlgnProg
import Derived.Shelf.SlicesE.Clone
import Derived.Laws.AppendOwnNone
import Derived.Scope
import Derived.ScopeJumps
import Derived.WalkMore
import Derived.Lib.IndexAny
import Derived.Lib.Replace
import Derived.Lib.TrimByte
import Derived.Lib.ItoaNum
import Derived.Lib.DecodeN
import Derived.Lib.OthersKept
import Derived.Laws.BytesString
import Derived.Deep.WholeRow
import Derived.Lib.AppendStr
import Derived.WalkSpells
import Derived.WalkLawsBesides
import Derived.Lib.AppendIntMem
import Derived.Lib.SmallJoins
import Derived.WalkSmall
import Derived.Laws.CopyOwn
import Derived.Laws.ResultCell
import Derived.Deep.MidRow
import Derived.Lib.FrozenHead2
import Derived.Lib.Builder
import Derived.Lib.SlTrimSet
import Derived.Below
import Derived.Shelf.Strings.SlTrimAscii
import Derived.Laws.Runes
import Derived.Deep.SlicePairs
import Derived.Stop.LaidErr
import Derived.LaidMore
set_option linter.unusedSimpArgs false
set_option linter.unusedVariables false

namespace Go.Proofs.YtgoefeaopegdoaaGreatDoor
open Go.RowKit

def plTo (l : List UInt8) (k : Nat) : List UInt8 := (l.take k).map plusC ++ l.drop k

theorem plTo_length (l : List UInt8) (k : Nat) : (plTo l k).length = l.length := by simp [plTo]; omega

theorem plTo_at (l : List UInt8) (k : Nat) (h : k < l.length) (h' : k < (plTo l k).length) : (plTo l k)[k] = l[k] := by
 simp [plTo, List.getElem_append, List.length_take]
 have : min k l.length = k := by omega
 simp [this]

theorem plTo_succ (l : List UInt8) (k : Nat) (h : k < l.length) : plTo l (k + 1) = (plTo l k).set k (plusC l[k]) := by
 have e1 : (l.take k).length = k := by simp; omega
 unfold plTo
 rw [List.take_succ_eq_append_getElem h, List.drop_eq_getElem_cons h, List.map_append, List.set_append_right _ _ (by simp; omega)]
 have e2 : k - (List.map plusC (List.take k l)).length = 0 := by simp; omega
 rw [e2, List.append_assoc]; rfl

theorem plTo_zero (l : List UInt8) : plTo l 0 = l := by simp [plTo]

theorem plTo_all (l : List UInt8) : plTo l l.length = l.map plusC := by simp [plTo]

set_option maxHeartbeats 8000000 in
set_option maxRecDepth 100000 in
theorem rread4_any (s : ByteArray) (w : World) (hs : s.size ≤ 1000000) :
  Calls Tryz.prog 80 #[.string s] w fun e w' => e = .returned (.string ⟨(readQ s.data.toList).toArray⟩) ∧ Below w.heap.size w w' := by
 obtain ⟨P, hP⟩ : ∃ X : ByteArray, X = ⟨(s.data.toList.map plusC).toArray⟩ := ⟨_, rfl⟩
 have hPl : P.data.toList = s.data.toList.map plusC := by rw [hP]
 have hPs : P.size ≤ 1000000 := by rw [Lib.size_eq, hPl, List.length_map, ← Lib.size_eq]; exact hs
 obtain ⟨U, hU⟩ : ∃ X : ByteArray, X = ⟨(unpct P.data.toList).toArray⟩ := ⟨_, rfl⟩
 have hUl : U.data.toList = unpct P.data.toList := by rw [hU]
 have hUs : U.size ≤ 1000000 := by rw [Lib.size_eq, hUl]; have := unpct_le P.data.toList; rw [← Lib.size_eq] at this; omega
 have HUn := hid (fun w => runpercent_any P w (by omega))
 rw [← hU] at HUn
 have HDe := hid (fun (v : Value) (w : World) (h : SlB w v U.data.toList) => rdecode_any v U.data.toList w h (by rw [← Lib.size_eq]; omega))
 have HV := hid (show readQ s.data.toList = dec U.data.toList by unfold readQ; rw [hUl, hPl])
 have HPe := hid hP
 clear hP hPl hU hUl
 have hcv := run_bytes_of_string (P := Tryz.prog) w 9 113 5 s Tryz.underlying9 Tryz.underlying113 Tryz.underlying5
 have hcap := grownCap_ge w s.size 0 5
 have hr0 := rowIs_bytes w 5 s (grownCap w s.size 0 5) hcap
 have hb0 : Below w.heap.size w (w.drew.alloc (.cells (bytesRow s (grownCap w s.size 0 5)) 5 ((bytesRow s (grownCap w s.size 0 5)).size, (bytesRow s (grownCap w s.size 0 5)).size + 1))) := (Below.refl _ w).drew.alloc (Nat.le_refl _) _
 generalize (w.drew.alloc (.cells (bytesRow s (grownCap w s.size 0 5)) 5 ((bytesRow s (grownCap w s.size 0 5)).size, (bytesRow s (grownCap w s.size 0 5)).size + 1))) = w0 at hcv hr0 hb0
 generalize grownCap w s.size 0 5 = cap at hcv hcap
 go_enter Tryz.func80, Tryz.ntmps80
 go_wp2
 clear hcv
 go_loopw [4] (fun i wr => ∃ k : Nat, k ≤ s.size ∧ i = .int .i64 k ∧ rowIs wr w.heap.size 5 (plTo s.data.toList k) ∧ Below w.heap.size w wr)
  (fun i _ => s.size - (intOf i).toNat)
 case atStart => exact ⟨0, Nat.zero_le _, rfl, by rw [plTo_zero]; exact hr0, hb0⟩
 case round =>
  obtain ⟨k, hk, rfl, hr, hbw⟩ := hrel
  by_cases hlt : k < s.size
  ·have hl : k < s.data.toList.length := by simpa using hlt
   have hl' : k < (plTo s.data.toList k).length := by rw [plTo_length]; exact hl
   have hc := hr.cell k hl'
   rw [plTo_at _ _ hl] at hc
   have hf := hr.frozen k hl'
   have hsucc := plTo_succ s.data.toList k hl
   have hat := plTo_at s.data.toList k hl hl'
   generalize s.data.toList[k] = c at hc hsucc hat
   have HS := hid hsucc
   have HAt := hid hat
   clear hsucc hat
   have hc8 : c.toNat < 256 := c.toNat_lt
   by_cases hu : c = 43
   ·have HL := hid (show plusC c = 32 by unfold plusC; rw [if_pos hu])
    have h1 : ((c.toNat : Int) == 43) = true := by rw [hu]; rfl
    clear hu
    go_wp2
    go_roundw
    case rel =>
     refine ⟨k + 1, by omega, by go_num, ?_, hbw.setCell (p := ⟨w.heap.size, k, none⟩) (Nat.le_refl _) _⟩
     rw [HS.out, HL.out]
     exact (show rowIs (wr.setCell ⟨w.heap.size, k, none⟩ (Value.int IntKind.u8 ((32 : UInt8).toNat : Int))) _ _ _ from hr.set k 32)
    case measure => simp [intOf]; omega
   ·have HL := hid (show plusC c = c by unfold plusC; rw [if_neg hu])
    have h1 : ((c.toNat : Int) == 43) = false := by
     rw [beq_eq_false_iff_ne]
     intro e
     exact hu (UInt8.toNat_inj.1 (by show c.toNat = 43; omega))
    clear hu
    go_wp2
    go_roundw
    case rel =>
     refine ⟨k + 1, by omega, by go_num, ?_, hbw⟩
     have e : plusC c = (plTo s.data.toList k)[k] := by rw [HL.out, HAt.out]
     rw [HS.out, e, List.set_getElem_self]
     exact hr
    case measure => simp [intOf]; omega
  ·have hk' : k = s.data.toList.length := by simp; omega
   have hr' : rowIs wr w.heap.size 5 (s.data.toList.map plusC) := by rw [← plTo_all, ← hk']; exact hr
   have hlt' : decide ((k : Int) < (s.size : Int)) = false := by rw [decide_eq_false_iff_not]; omega
   clear hr hk'
   have hcv := hr'.string (P := Tryz.prog) (src := 113) (dst := 9) (cap := cap) Tryz.underlying113 Tryz.underlying5 Tryz.underlying9
   rw [show (s.data.toList.map plusC).length = s.size by simp, ← HPe.out] at hcv
   have HB1 := hid hbw
   clear hr' hbw
   go_wp2_with fail
   refine (HUn.out _).mono ?_
   rintro e w2 ⟨rfl, hb2⟩
   have HB2 := hid (below2 HB1.out hb2)
   clear hb2 hcv
   have hcv := run_bytes_of_string (P := Tryz.prog) w2 9 113 5 U Tryz.underlying9 Tryz.underlying113 Tryz.underlying5
   have hcap := grownCap_ge w2 U.size 0 5
   have hsl := SlB.ofBytes4 w2 5 U (grownCap w2 U.size 0 5) hcap
   have hb0 : Below w2.heap.size w2 (w2.drew.alloc (.cells (bytesRow U (grownCap w2 U.size 0 5)) 5 ((bytesRow U (grownCap w2 U.size 0 5)).size, (bytesRow U (grownCap w2 U.size 0 5)).size + 1))) := (Below.refl _ w2).drew.alloc (Nat.le_refl _) _
   generalize (w2.drew.alloc (.cells (bytesRow U (grownCap w2 U.size 0 5)) 5 ((bytesRow U (grownCap w2 U.size 0 5)).size, (bytesRow U (grownCap w2 U.size 0 5)).size + 1))) = w3 at hcv hsl hb0
   generalize grownCap w2 U.size 0 5 = cap2 at hcv hcap hsl
   have HSl := hid hsl
   have HB3 := hid (below2 HB2.out hb0)
   clear hsl hb0
   go_wp2_with fail
   clear hcv
   refine (HDe.out _ _ HSl.out).mono ?_
   rintro e w4 ⟨rfl, hb4⟩
   go_wp2
   go_ret
   exact ⟨ret_str' (by rw [HV.out]), below2 HB3.out hb4⟩

theorem infoPairR : (Tryz.prog.info? 52).map (fun i => (i.zero, i.size, i.bytes)) = some (some (.agg #[.string ByteArray.empty, .string ByteArray.empty]), 2, 32) := by kernel_rfl

def QPostR (L : List Hd) (w : World) (e : Ending) (w' : World) : Prop :=
 ∃ v, e = .returned v ∧ w'.ownsRow w.heap.size 52 2 v L.length (cellsH L) ∧ Below w.heap.size w w'

set_option maxHeartbeats 8000000 in
set_option maxRecDepth 100000 in
theorem rquery4_any (s : ByteArray) (w : World) (hs : s.size ≤ 100000) :
  Calls Tryz.prog 30 #[.string s] w (QPostR (querQ s.data.toList) w) := by
 obtain ⟨i0, hi, hz0, hz1, hz2⟩ := info3 infoPairR
 have HSp := hid (rcut_own s 38 w (by omega))
 have HC1 := hid (show ∀ p ∈ cutL 38 s.data.toList, p.length ≤ 100000 from fun p hp => by have := cutL_le38 _ p hp; rw [← Lib.size_eq] at this; omega)
 have hC2 : (cutL 38 s.data.toList).length ≤ 100001 := by have := cutL_cnt 38 s.data.toList; rw [← Lib.size_eq] at this; omega
 unfold querQ OwnPost at *
 unfold QPostR
 generalize cutL 38 s.data.toList = C at HSp HC1 hC2 ⊢
 obtain ⟨LL, hLL⟩ : ∃ L, (C.filter fullQ).map pairQ = L := ⟨_, rfl⟩
 have HLL := hid (show ∀ k, C.length ≤ k → qTo C k = LL from fun k h => by unfold qTo; rw [List.take_of_length_le h, hLL])
 rw [hLL]
 clear hLL
 go_enter Tryz.func30, Tryz.ntmps30
 go_wp2_with fail
 refine HSp.out.mono ?_
 rintro e w1 ⟨vv, rfl, hown, hb1⟩
 have HT := hid (path_tx (own_path hown))
 obtain ⟨ga, gn, gc, rfl⟩ := own_sl hown
 have hgn : gn = C.length := by obtain ⟨a', c', e', -⟩ := HT.out.view; injection e'
 subst hgn
 have HB1 := hid hb1
 obtain ⟨n, hn⟩ : ∃ n, C.length = n := ⟨_, rfl⟩
 have HN := hid hn
 rw [hn] at hC2 ⊢
 have HO0 := hid (show w1.ownsRow w1.heap.size 52 2 (.slice none 0 0) 0 [] from World.ownsRow_nil _ _ _ _)
 clear hown hb1 hn HSp
 go_wp2_with fail
 go_loopw [3, 5, 6, 7, 8] (fun v3 v12 _ _ _ wr => ∃ (k : Nat), k ≤ n ∧ v12 = .int .i64 k ∧ wr.ownsRow w1.heap.size 52 2 v3 (qTo C k).length (cellsH (qTo C k)) ∧ Below w1.heap.size w1 wr) (fun v3 v12 _ _ _ _ => n - (intOf v12).toNat)
 case atStart => exact ⟨0, Nat.zero_le _, rfl, HO0.out, Below.refl _ _⟩
 case round =>
  obtain ⟨k, hk, rfl, hown, hb1w⟩ := hrel
  have hbw := below2 HB1.out hb1w
  have HO := hid hown
  have HBw := hid hbw
  have HB1w := hid hb1w
  have hwr := hbw.size
  have hlen := quer_len C k
  clear hown hbw hb1w
  by_cases hlt : k < n
  ·have hkC : k < C.length := by have := HN.out; omega
   obtain ⟨ac', cc', eac, q1, q2, hcell⟩ := HT.out.view
   injection eac with eac1 eac2 eac3
   clear eac2 eac3
   subst eac1
   obtain ⟨bc, oc, eb, hcl⟩ := hcell k hkC
   subst eb
   obtain ⟨A, hA⟩ : ∃ A : ByteArray, A = ⟨C[k].toArray⟩ := ⟨_, rfl⟩
   rw [← hA] at hcl
   have hAl : A.data.toList = C[k] := by rw [hA]
   have hAs : A.size ≤ 100000 := by rw [Lib.size_eq, hAl]; exact HC1.out _ (List.getElem_mem hkC)
   have q0 := keptC4 hcl HB1w.out
   have hin : (k : Int) < (n : Int) := by omega
   have HTk := hid (quer_take hkC)
   rw [← hAl] at HTk
   obtain ⟨em, hem⟩ : ∃ q, (A.toList == []) = q := ⟨_, rfl⟩
   have HFl := hid (show fullQ A.data.toList = !em by rw [← hem, Lib.toList_data]; rfl)
   rw [HFl.out] at HTk
   clear hcl hcell hA q1 q2
   cases em with
   | true =>
    rw [if_neg (by decide), List.append_nil] at HTk
    clear hAl hAs hkC
    go_wp2_with fail
    go_roundw
    case rel =>
     first
      | exact ⟨k + 1, by omega, by go_num, by rw [HTk.out]; exact HO.out, HB1w.out⟩
      | ((repeat apply Exists.intro); refine ⟨?_, rfl⟩; exact ⟨k + 1, by omega, by go_num, by rw [HTk.out]; exact HO.out, HB1w.out⟩)
      | ((repeat apply Exists.intro); exact ⟨⟨k + 1, by omega, by go_num, by rw [HTk.out]; exact HO.out, HB1w.out⟩, rfl⟩)
    case measure => simp [intOf]; omega
   | false =>
    rw [if_pos (by decide)] at HTk
    have hpl := part_le61 A.data.toList
    obtain ⟨E1, hE1⟩ : ∃ X : ByteArray, X = ⟨(part 61 A.data.toList).1.toArray⟩ := ⟨_, rfl⟩
    obtain ⟨E2, hE2⟩ : ∃ X : ByteArray, X = ⟨(part 61 A.data.toList).2.1.toArray⟩ := ⟨_, rfl⟩
    obtain ⟨E3, hE3⟩ : ∃ q, (part 61 A.data.toList).2.2 = q := ⟨_, rfl⟩
    have hE1s : E1.size ≤ 100000 := by rw [hE1, Lib.size_eq]; rw [← Lib.size_eq] at hpl; exact Nat.le_trans hpl.1 hAs
    have hE2s : E2.size ≤ 100000 := by rw [hE2, Lib.size_eq]; rw [← Lib.size_eq] at hpl; exact Nat.le_trans hpl.2 hAs
    have HCut : Hid (∀ w : World, Calls Tryz.prog 79 #[.string A, .int .u8 61] w fun e w' => e = .returned (.tuple #[.string E1, .string E2, .bool E3]) ∧ Below w.heap.size w w') := fun w => by
     have := rpart_any A 61 w (by omega)
     rw [← hE1, ← hE2, hE3] at this
     exact this
    obtain ⟨R1, hR1⟩ : ∃ X : ByteArray, X = ⟨(readQ E1.data.toList).toArray⟩ := ⟨_, rfl⟩
    obtain ⟨R2, hR2⟩ : ∃ X : ByteArray, X = ⟨(readQ E2.data.toList).toArray⟩ := ⟨_, rfl⟩
    have HR1 := hid (fun (w : World) => rread4_any E1 w (by omega))
    have HR2 := hid (fun (w : World) => rread4_any E2 w (by omega))
    rw [← hR1] at HR1
    rw [← hR2] at HR2
    have HPr := hid (show cellsH [pairQ A.data.toList] = [.string R1, .string R2] by rw [hR1, hR2, hE1, hE2]; rfl)
    clear hpl hE1 hE2 hE3 hR1 hR2 hAl hAs hkC
    go_wp2_with fail
    refine (HCut.out _).mono ?_
    rintro e w2 ⟨rfl, hb2⟩
    have HB2 := hid (below2 HBw.out hb2)
    have HB12 := hid (below2 HB1w.out hb2)
    have HO2 := hid (own_same HO.out hb2)
    clear hb2 q0
    go_wp2_with fail
    refine (HR1.out _).mono ?_
    rintro e w3 ⟨rfl, hb3⟩
    have HB3 := hid (below2 HB2.out hb3)
    have HB13 := hid (below2 HB12.out hb3)
    have HO3 := hid (own_same HO2.out hb3)
    clear hb3
    go_wp2_with fail
    refine (HR2.out _).mono ?_
    rintro e w4 ⟨rfl, hb4⟩
    have hbw4 := below2 HB3.out hb4
    have HB14 := hid (below2 HB13.out hb4)
    have HO4 := hid (own_same HO3.out hb4)
    have hw4 := hbw4.size
    have hw14 := HB14.out.size
    clear hb4
    go_wp2_with (at_builtin; go_must (refine wpList_append_own _ rfl _ _ 50 rfl w1.heap.size 52 i0 _ 2 32 Tryz.underlying50 hi hz0 hz1 hz2 rfl (by decide) _ _ _ rfl (HO4.out.alloc _) ⟨w4.heap.size, 0, none⟩ 1 1 [.string R1, .string R2] rfl rfl ?c1 ?c2 ?c3 ?c4 ?c5 ?_))
    case c1 =>
     intro q u hq
     match q, hq with
     | 0, hq => simp at hq; subst hq; simp [Addr.add]
     | 1, hq => simp at hq; subst hq; simp [Addr.add]
    case c2 => intro u hu; simp at hu; rcases hu with rfl | rfl <;> rfl
    case c3 => unfold maxLen; omega
    case c4 => omega
    case c5 => simp; omega
    intro v' w5 hown' hgrow hnil
    have HO5 := hid hown'
    have HB15 := hid (show Below w1.heap.size w1 w5 from (HB14.out.alloc hw14 _).grown hgrow (by simp; omega) (fun g hg => (HO4.out.lt g hg).1))
    clear hown' hgrow hnil
    go_wp2
    go_roundw
    case rel =>
     first
      | exact ⟨k + 1, by omega, by go_num, by rw [HTk.out, cellsH_app, List.length_append, HPr.out]; exact HO5.out, HB15.out⟩
      | ((repeat apply Exists.intro); refine ⟨?_, rfl⟩; exact ⟨k + 1, by omega, by go_num, by rw [HTk.out, cellsH_app, List.length_append, HPr.out]; exact HO5.out, HB15.out⟩)
    case measure => simp [intOf]; omega
  ·have hge : ¬ (k : Int) < (n : Int) := by omega
   rw [HLL.out k (by have := HN.out; omega)] at HO
   go_wp2_with fail
   go_ret
   exact ⟨_, rfl, ownsRow_lower HO.out HB1.out.size, HBw.out⟩

end Go.Proofs.YtgoefeaopegdoaaGreatDoor

namespace Go.Proofs.YtgoefeaopegdoaaGreatDoor
open Go.RowKit

theorem hd_take4 {w : World} {a : Option Addr} {n cap k : Nat} {L : List Hd} (h : HdAt w (.slice a n cap) L) (hk : k ≤ L.length) : HdAt w (.slice a k cap) (L.take k) := by
 obtain ⟨a', cap', e, h1, h2, h3⟩ := h
 cases e
 have hl : (L.take k).length = k := by simp; omega
 refine ⟨a, cap, by rw [hl], by rw [hl]; omega, h2, fun j hj => ?_⟩
 obtain ⟨b, off, e, c0, c1⟩ := h3 j (by omega)
 refine ⟨b, off, e, ?_, ?_⟩
 ·rw [List.getElem_take]; exact c0
 ·rw [List.getElem_take]; exact c1

theorem big_take_le (L : List Hd) (k : Nat) : bigQ (L.take k) ≤ bigQ L := by
 have h2 := bigQ_app (L.take k) (L.drop k)
 rw [List.take_append_drop] at h2
 omega

def CpI (w : World) (L : List Hd) (v : Value) (wr : World) (k : Nat) : Prop := wr.ownsRow w.heap.size 52 2 v k (cellsH (L.take k)) ∧ Below w.heap.size w wr

theorem cells_snoc4 (L : List Hd) (k : Nat) (hk : k < L.length) : cellsH (L.take (k + 1)) = cellsH (L.take k) ++ [.string ⟨L[k].name.toArray⟩, .string ⟨L[k].value.toArray⟩] := by
 rw [List.take_succ_eq_append_getElem hk, cellsH_app]
 rfl

set_option maxHeartbeats 32000000 in
set_option maxRecDepth 100000 in
theorem originQueries_walk (s : ByteArray) (v : Value) (L : List Hd) (w : World) (hs : s.size ≤ 140737488351232) (hv : HdAt w v L) (hbig : bigQ L ≤ 4000000) (hg : Gd w) :
  Calls Tryz.prog 6 #[.string s, v] w fun e w' => e = .returned (.bool true) ∧ Below w.heap.size w w' := by
 obtain ⟨i0, hi, hz0, hz1, hz2⟩ := info3 infoPairR
 have HG0 := hid hg
 obtain ⟨FF, hF⟩ : ∃ F : ByteArray, ⟨(s.data.toList.take 500).toArray⟩ = F := ⟨_, rfl⟩
 have hFs : FF.size ≤ 500 := by rw [← hF, Lib.size_eq]; show (s.data.toList.take 500).length ≤ _; rw [List.length_take]; omega
 have HFw := hid (fun w => few_any s 500 w (by omega) (by omega))
 rw [hF] at HFw
 have HQa := hid (fun (w : World) (hg : Gd w) => query4_any FF w hg (by omega))
 have HQb := hid (fun (w : World) => rquery4_any FF w (by omega))
 unfold QPost at HQa
 unfold QPostR at HQb
 obtain ⟨QQ, hQQ⟩ : ∃ Q, querQ FF.data.toList = Q := ⟨_, rfl⟩
 have hQn : QQ.length ≤ 1000 := by
  rw [← hQQ]
  unfold querQ
  rw [List.length_map]
  have h1 := List.length_filter_le fullQ (cutL 38 FF.data.toList)
  have h2 := cutL_cnt 38 FF.data.toList
  rw [← Lib.size_eq] at h2
  omega
 rw [hQQ] at HQa HQb
 obtain ⟨a, cap, rfl, hc1, hc2, -⟩ := hv.view
 have HV := hid hv
 have HBg := hid hbig
 clear hF hg hQQ hv hbig
 by_cases h20 : 20 < L.length
 ·have h20' : (20 : Int) < (L.length : Int) := by omega
  have hcap20 : (20 : Int) ≤ (cap : Int) := by omega
  obtain ⟨M, hM⟩ : ∃ M, L.take 20 = M := ⟨_, rfl⟩
  have HMl := hid (show M.length = 20 by rw [← hM, List.length_take]; omega)
  have HM := hid (show HdAt w (.slice a 20 cap) M by rw [← hM]; exact hd_take4 HV.out (by omega))
  have HMb := hid (show bigQ M ≤ 4000000 by rw [← hM]; exact Nat.le_trans (big_take_le _ _) HBg.out)
  clear hM
  go_enter Tryz.func6, Tryz.ntmps6
  go_wp2_with fail
  refine (HFw.out _).mono ?_
  rintro e wz ⟨rfl, hwz⟩
  rw [← hwz]
  clear hwz
  go_wp2_with fail
  go_loopw [5, 6, 7] (fun mv iv _ wr => ∃ k : Nat, k ≤ 20 ∧ iv = .int .i64 k ∧ CpI w M mv wr k) (fun _ iv _ _ => 20 - (intOf iv).toNat)
  case atStart => exact ⟨0, Nat.zero_le _, rfl, World.ownsRow_nil _ _ _ _, Below.refl _ _⟩
  case round =>
   obtain ⟨k, hk, rfl, hown, hbw⟩ := hrel
   have HO := hid hown
   have HBw := hid hbw
   have hwr := hbw.size
   clear hown hbw
   by_cases hlt : k < 20
   ·have hlt' : (k : Int) < (20) := by omega
    have hkM : k < M.length := by rw [HMl.out]; exact hlt
    obtain ⟨a', cap', he, -, -, hcells⟩ := HM.out.kept HBw.out
    obtain ⟨g, off, ha, c0, c1⟩ := hcells k hkM
    have ha2 : a = some ⟨g, off, none⟩ := by injection he with e1; rw [e1]; exact ha
    clear he ha hcells
    subst ha2
    obtain ⟨X, hX⟩ : ∃ X : ByteArray, (⟨M[k].name.toArray⟩ : ByteArray) = X := ⟨_, rfl⟩
    obtain ⟨Y, hY⟩ : ∃ X : ByteArray, (⟨M[k].value.toArray⟩ : ByteArray) = X := ⟨_, rfl⟩
    have HTk := hid (cells_snoc4 M k hkM)
    rw [hX, hY] at HTk
    rw [hX] at c0
    rw [hY] at c1
    obtain ⟨W1, hW1⟩ : ∃ Z, wr.alloc (.cells #[.string X, .string Y] 51) = Z := ⟨_, rfl⟩
    have hb1 : Below wr.heap.size wr W1 := by rw [← hW1]; exact (Below.refl _ wr).alloc (Nat.le_refl _) _
    have hp1 : W1.heap[wr.heap.size]? = some (.cells #[.string X, .string Y] 51 (0, 0)) := by rw [← hW1]; exact heap_alloc_new wr _
    have d0 : W1.cell? ⟨wr.heap.size, 0, none⟩ = some (.string X) := by rw [Lib.cell_of_heap hp1]; rfl
    have d1 : W1.cell? ⟨wr.heap.size, 1, none⟩ = some (.string Y) := by rw [Lib.cell_of_heap hp1]; rfl
    have HO1 := hid (own_same HO.out hb1)
    have HB1 := hid (below2 HBw.out hb1)
    have hw1 := HB1.out.size
    clear hX hY hp1 hb1
    go_wp2_with (at_builtin; go_must (refine wpList_append_own _ rfl _ _ 50 rfl w.heap.size 52 i0 _ 2 32 Tryz.underlying50 hi hz0 hz1 hz2 rfl (by decide) _ _ _ rfl (HO1.out.alloc _) ⟨W1.heap.size, 0, none⟩ 1 1 [.string X, .string Y] rfl rfl ?c1 ?c2 ?c3 ?c4 ?c5 ?_))
    case c1 =>
     intro q u hq
     match q, hq with
     | 0, hq => simp at hq; subst hq; simp [Addr.add]
     | 1, hq => simp at hq; subst hq; simp [Addr.add]
    case c2 => intro u hu; simp at hu; rcases hu with rfl | rfl <;> rfl
    case c3 => unfold maxLen; omega
    case c4 => omega
    case c5 => simp; omega
    intro v' w5 hown' hgrow hnil
    have HO5 := hid hown'
    have HB5 := hid (show Below w.heap.size w w5 from (HB1.out.alloc hw1 _).grown hgrow (by simp; omega) (fun g hg => (HO1.out.lt g hg).1))
    clear hown' hgrow hnil
    go_wp2
    go_roundw
    case rel => exact ⟨k + 1, by omega, by go_num, by rw [HTk.out]; exact HO5.out, HB5.out⟩
    case measure => simp [intOf]; omega
   ·have hlt' : decide ((k : Int) < (20)) = false := by rw [decide_eq_false_iff_not]; omega
    have hkn : k = 20 := by omega
    subst hkn
    have hMt : M.take (20) = M := List.take_of_length_le (by rw [HMl.out]; exact Nat.le_refl _)
    rw [hMt] at HO
    obtain ⟨ma, mn, mc, rfl⟩ : ∃ ma mn mc, u5 = Value.slice ma mn mc := by
     rcases HO.out.2 with ⟨hv, _⟩ | ⟨g, cap, cur, hv, _⟩
     ·exact ⟨_, _, _, hv⟩
     ·exact ⟨_, _, _, hv⟩
    clear hMt
    have HGr := hid (HG0.out.kept HBw.out)
    go_wp2_with fail
    refine (HQa.out _ HGr.out).mono ?_
    rintro e w2 ⟨va, rfl, hown, hb2⟩
    have HHa := hid (own_hd hown)
    have HB2 := hid (below2 HBw.out hb2)
    have HO2 := hid (own_same HO.out hb2)
    clear hown hb2
    go_wp2_with fail
    refine (HQb.out _).mono ?_
    rintro e w3 ⟨vb, rfl, hown, hb3⟩
    have HHb := hid (own_hd hown)
    have HHa3 := hid (HHa.out.kept hb3)
    have HB3 := hid (below2 HB2.out hb3)
    have HO3 := hid (own_same HO2.out hb3)
    have HG3 := hid (HG0.out.kept HB3.out)
    clear hown hb3 HHa HO2
    obtain ⟨aa, ac, rfl, -, -, hca⟩ := HHa3.out.view
    obtain ⟨ba, bc, rfl, -, -, hcb⟩ := HHb.out.view
    have HWa := hid (writeO_any _ M w3 (HM.out.kept HB3.out) (by have := HMb.out; omega) (by rw [HMl.out]; omega))
    have HMm := hid (show HdAt w3 (.slice ma mn mc) M from own_hd (by have := HO3.out; rw [HMl.out]; exact this))
    obtain ⟨TT, hTT⟩ : ∃ X : ByteArray, (⟨(wrV M).toArray⟩ : ByteArray) = X := ⟨_, rfl⟩
    have HWb := hid (fun (X : World) (h : HdAt X (.slice ma mn mc) M) => rwriteO_any _ M X h (by have := HMb.out; omega) (by rw [HMl.out]; omega))
    rw [hTT] at HWa HWb
    clear hTT hca hcb
    go_wp2_with fail
    refine HWa.out.mono ?_
    rintro e w4 ⟨rfl, hb4⟩
    have HMm4 := hid (HMm.out.kept hb4)
    have HB34 := hid hb4
    clear hb4
    go_wp2_with fail
    refine (HWb.out _ HMm4.out).mono ?_
    rintro e w5 ⟨rfl, hb5⟩
    have HB35 := hid (below2 HB34.out hb5)
    have HHa5 := hid (HHa3.out.kept HB35.out)
    have HHb5 := hid (HHb.out.kept HB35.out)
    have HB5 := hid (below2 HB3.out HB35.out)
    clear hb5 HB34 HWa HWb HMm HMm4
    go_wp2_with fail
    go_loopw [10] (fun iv wr => ∃ k : Nat, k ≤ QQ.length ∧ iv = .int .i64 k ∧ Below w5.heap.size w5 wr) (fun iv _ => QQ.length - (intOf iv).toNat)
    case atStart => exact ⟨0, Nat.zero_le _, rfl, Below.refl _ _⟩
    case round =>
     obtain ⟨k, hk, rfl, hbw⟩ := hrel
     have HBr := hid hbw
     by_cases hlt : k < QQ.length
     ·have hlt' : (k : Int) < (QQ.length : Int) := by omega
      obtain ⟨a1, cap1, he1, -, -, hc1⟩ := HHa5.out.kept hbw
      obtain ⟨g1, off1, ha1, x0, x1⟩ := hc1 k hlt
      have ha2 : aa = some ⟨g1, off1, none⟩ := by injection he1 with e1; rw [e1]; exact ha1
      obtain ⟨a2, cap2, he2, -, -, hc2⟩ := HHb5.out.kept hbw
      obtain ⟨g2, off2, hb1, y0, y1⟩ := hc2 k hlt
      have hb2 : ba = some ⟨g2, off2, none⟩ := by injection he2 with e1; rw [e1]; exact hb1
      clear he1 ha1 hc1 he2 hb1 hc2 hbw
      subst ha2 hb2
      obtain ⟨X, hX⟩ : ∃ X : ByteArray, (⟨QQ[k].name.toArray⟩ : ByteArray) = X := ⟨_, rfl⟩
      obtain ⟨Y, hY⟩ : ∃ X : ByteArray, (⟨QQ[k].value.toArray⟩ : ByteArray) = X := ⟨_, rfl⟩
      rw [hX] at x0 y0
      rw [hY] at x1 y1
      clear hX hY
      go_wp2_with fail
      go_quiet (fail)
      go_wp2_with fail
      go_roundw
      case rel => exact ⟨k + 1, by omega, by go_num, ⟨HBr.out.os, HBr.out.tape, HBr.out.output, HBr.out.size, HBr.out.block⟩⟩
      case measure => simp [intOf]; omega
     ·have hlt' : decide ((k : Int) < (QQ.length : Int)) = false := by rw [decide_eq_false_iff_not]; omega
      have HB6 := hid (below2 HB5.out hbw)
      clear hbw
      go_wp2_with fail
      refine (known4_any _ (HG0.out.kept HB6.out)).mono ?_
      rintro e w7 ⟨rfl, hb7⟩
      go_wp2
      go_ret
      exact ⟨rfl, below2 HB6.out hb7⟩
 ·have h20' : decide ((20 : Int) < (L.length : Int)) = false := by rw [decide_eq_false_iff_not]; omega
  have HMl := hid (show L.length = L.length from rfl)
  go_enter Tryz.func6, Tryz.ntmps6
  go_wp2_with fail
  refine (HFw.out _).mono ?_
  rintro e wz ⟨rfl, hwz⟩
  rw [← hwz]
  clear hwz
  go_wp2_with fail
  go_loopw [5, 6, 7] (fun mv iv _ wr => ∃ k : Nat, k ≤ L.length ∧ iv = .int .i64 k ∧ CpI w L mv wr k) (fun _ iv _ _ => L.length - (intOf iv).toNat)
  case atStart => exact ⟨0, Nat.zero_le _, rfl, World.ownsRow_nil _ _ _ _, Below.refl _ _⟩
  case round =>
   obtain ⟨k, hk, rfl, hown, hbw⟩ := hrel
   have HO := hid hown
   have HBw := hid hbw
   have hwr := hbw.size
   clear hown hbw
   by_cases hlt : k < L.length
   ·have hlt' : (k : Int) < (L.length : Int) := by omega
    have hkM : k < L.length := by exact hlt
    obtain ⟨a', cap', he, -, -, hcells⟩ := HV.out.kept HBw.out
    obtain ⟨g, off, ha, c0, c1⟩ := hcells k hkM
    have ha2 : a = some ⟨g, off, none⟩ := by injection he with e1; rw [e1]; exact ha
    clear he ha hcells
    subst ha2
    obtain ⟨X, hX⟩ : ∃ X : ByteArray, (⟨L[k].name.toArray⟩ : ByteArray) = X := ⟨_, rfl⟩
    obtain ⟨Y, hY⟩ : ∃ X : ByteArray, (⟨L[k].value.toArray⟩ : ByteArray) = X := ⟨_, rfl⟩
    have HTk := hid (cells_snoc4 L k hkM)
    rw [hX, hY] at HTk
    rw [hX] at c0
    rw [hY] at c1
    obtain ⟨W1, hW1⟩ : ∃ Z, wr.alloc (.cells #[.string X, .string Y] 51) = Z := ⟨_, rfl⟩
    have hb1 : Below wr.heap.size wr W1 := by rw [← hW1]; exact (Below.refl _ wr).alloc (Nat.le_refl _) _
    have hp1 : W1.heap[wr.heap.size]? = some (.cells #[.string X, .string Y] 51 (0, 0)) := by rw [← hW1]; exact heap_alloc_new wr _
    have d0 : W1.cell? ⟨wr.heap.size, 0, none⟩ = some (.string X) := by rw [Lib.cell_of_heap hp1]; rfl
    have d1 : W1.cell? ⟨wr.heap.size, 1, none⟩ = some (.string Y) := by rw [Lib.cell_of_heap hp1]; rfl
    have HO1 := hid (own_same HO.out hb1)
    have HB1 := hid (below2 HBw.out hb1)
    have hw1 := HB1.out.size
    clear hX hY hp1 hb1
    go_wp2_with (at_builtin; go_must (refine wpList_append_own _ rfl _ _ 50 rfl w.heap.size 52 i0 _ 2 32 Tryz.underlying50 hi hz0 hz1 hz2 rfl (by decide) _ _ _ rfl (HO1.out.alloc _) ⟨W1.heap.size, 0, none⟩ 1 1 [.string X, .string Y] rfl rfl ?c1 ?c2 ?c3 ?c4 ?c5 ?_))
    case c1 =>
     intro q u hq
     match q, hq with
     | 0, hq => simp at hq; subst hq; simp [Addr.add]
     | 1, hq => simp at hq; subst hq; simp [Addr.add]
    case c2 => intro u hu; simp at hu; rcases hu with rfl | rfl <;> rfl
    case c3 => unfold maxLen; omega
    case c4 => omega
    case c5 => simp; omega
    intro v' w5 hown' hgrow hnil
    have HO5 := hid hown'
    have HB5 := hid (show Below w.heap.size w w5 from (HB1.out.alloc hw1 _).grown hgrow (by simp; omega) (fun g hg => (HO1.out.lt g hg).1))
    clear hown' hgrow hnil
    go_wp2
    go_roundw
    case rel => exact ⟨k + 1, by omega, by go_num, by rw [HTk.out]; exact HO5.out, HB5.out⟩
    case measure => simp [intOf]; omega
   ·have hlt' : decide ((k : Int) < (L.length : Int)) = false := by rw [decide_eq_false_iff_not]; omega
    have hkn : k = L.length := by omega
    subst hkn
    have hMt : L.take (L.length) = L := List.take_of_length_le (by exact Nat.le_refl _)
    rw [hMt] at HO
    obtain ⟨ma, mn, mc, rfl⟩ : ∃ ma mn mc, u5 = Value.slice ma mn mc := by
     rcases HO.out.2 with ⟨hv, _⟩ | ⟨g, cap, cur, hv, _⟩
     ·exact ⟨_, _, _, hv⟩
     ·exact ⟨_, _, _, hv⟩
    clear hMt
    have HGr := hid (HG0.out.kept HBw.out)
    go_wp2_with fail
    refine (HQa.out _ HGr.out).mono ?_
    rintro e w2 ⟨va, rfl, hown, hb2⟩
    have HHa := hid (own_hd hown)
    have HB2 := hid (below2 HBw.out hb2)
    have HO2 := hid (own_same HO.out hb2)
    clear hown hb2
    go_wp2_with fail
    refine (HQb.out _).mono ?_
    rintro e w3 ⟨vb, rfl, hown, hb3⟩
    have HHb := hid (own_hd hown)
    have HHa3 := hid (HHa.out.kept hb3)
    have HB3 := hid (below2 HB2.out hb3)
    have HO3 := hid (own_same HO2.out hb3)
    have HG3 := hid (HG0.out.kept HB3.out)
    clear hown hb3 HHa HO2
    obtain ⟨aa, ac, rfl, -, -, hca⟩ := HHa3.out.view
    obtain ⟨ba, bc, rfl, -, -, hcb⟩ := HHb.out.view
    have HWa := hid (writeO_any _ L w3 (HV.out.kept HB3.out) (by have := HBg.out; omega) (by omega))
    have HMm := hid (show HdAt w3 (.slice ma mn mc) L from own_hd (by have := HO3.out; exact this))
    obtain ⟨TT, hTT⟩ : ∃ X : ByteArray, (⟨(wrV L).toArray⟩ : ByteArray) = X := ⟨_, rfl⟩
    have HWb := hid (fun (X : World) (h : HdAt X (.slice ma mn mc) L) => rwriteO_any _ L X h (by have := HBg.out; omega) (by omega))
    rw [hTT] at HWa HWb
    clear hTT hca hcb
    go_wp2_with fail
    refine HWa.out.mono ?_
    rintro e w4 ⟨rfl, hb4⟩
    have HMm4 := hid (HMm.out.kept hb4)
    have HB34 := hid hb4
    clear hb4
    go_wp2_with fail
    refine (HWb.out _ HMm4.out).mono ?_
    rintro e w5 ⟨rfl, hb5⟩
    have HB35 := hid (below2 HB34.out hb5)
    have HHa5 := hid (HHa3.out.kept HB35.out)
    have HHb5 := hid (HHb.out.kept HB35.out)
    have HB5 := hid (below2 HB3.out HB35.out)
    clear hb5 HB34 HWa HWb HMm HMm4
    go_wp2_with fail
    go_loopw [10] (fun iv wr => ∃ k : Nat, k ≤ QQ.length ∧ iv = .int .i64 k ∧ Below w5.heap.size w5 wr) (fun iv _ => QQ.length - (intOf iv).toNat)
    case atStart => exact ⟨0, Nat.zero_le _, rfl, Below.refl _ _⟩
    case round =>
     obtain ⟨k, hk, rfl, hbw⟩ := hrel
     have HBr := hid hbw
     by_cases hlt : k < QQ.length
     ·have hlt' : (k : Int) < (QQ.length : Int) := by omega
      obtain ⟨a1, cap1, he1, -, -, hc1⟩ := HHa5.out.kept hbw
      obtain ⟨g1, off1, ha1, x0, x1⟩ := hc1 k hlt
      have ha2 : aa = some ⟨g1, off1, none⟩ := by injection he1 with e1; rw [e1]; exact ha1
      obtain ⟨a2, cap2, he2, -, -, hc2⟩ := HHb5.out.kept hbw
      obtain ⟨g2, off2, hb1, y0, y1⟩ := hc2 k hlt
      have hb2 : ba = some ⟨g2, off2, none⟩ := by injection he2 with e1; rw [e1]; exact hb1
      clear he1 ha1 hc1 he2 hb1 hc2 hbw
      subst ha2 hb2
      obtain ⟨X, hX⟩ : ∃ X : ByteArray, (⟨QQ[k].name.toArray⟩ : ByteArray) = X := ⟨_, rfl⟩
      obtain ⟨Y, hY⟩ : ∃ X : ByteArray, (⟨QQ[k].value.toArray⟩ : ByteArray) = X := ⟨_, rfl⟩
      rw [hX] at x0 y0
      rw [hY] at x1 y1
      clear hX hY
      go_wp2_with fail
      go_quiet (fail)
      go_wp2_with fail
      go_roundw
      case rel => exact ⟨k + 1, by omega, by go_num, ⟨HBr.out.os, HBr.out.tape, HBr.out.output, HBr.out.size, HBr.out.block⟩⟩
      case measure => simp [intOf]; omega
     ·have hlt' : decide ((k : Int) < (QQ.length : Int)) = false := by rw [decide_eq_false_iff_not]; omega
      have HB6 := hid (below2 HB5.out hbw)
      clear hbw
      go_wp2_with fail
      refine (known4_any _ (HG0.out.kept HB6.out)).mono ?_
      rintro e w7 ⟨rfl, hb7⟩
      go_wp2
      go_ret
      exact ⟨rfl, below2 HB6.out hb7⟩

end Go.Proofs.YtgoefeaopegdoaaGreatDoor

namespace Go.Proofs.YtgoefeaopegdoaaGreatDoor
open Go.RowKit

theorem spot_none0 {w : World} {x : Addr} {v : Value} (h : w.cell? x = some v) : x.spot = none := by
 unfold World.cell? at h
 cases hs : x.spot with
 | none => rfl
 | some y =>
  rw [hs] at h
  split at h
  ·simp at h
  ·cases h

theorem addr_add0 {x : Addr} (h : x.spot = none) (j : Nat) : x.add j = ⟨x.block, x.off + j, none⟩ := by
 unfold Addr.add
 split
 ·subst_vars; rw [← h]; rfl
 ·rfl

end Go.Proofs.YtgoefeaopegdoaaGreatDoor

namespace Go.Proofs.YtgoefeaopegdoaaGreatDoor
open Go.RowKit

theorem undPr : ∃ f0 f1, Tryz.prog.underlying 51 = some (.struct #[f0, f1]) ∧ f0.offset = 0 ∧ f1.offset = 1 ∧ f0.type = 9 ∧ f1.type = 9 := ⟨_, _, Tryz.underlying51, rfl, rfl, rfl, rfl⟩

theorem bulk_pair {H : Type} (x y : List UInt8) : Rows.uptoBulk (DataW.agg [.lit (.string x), .lit (.string y)] : DataW H) = x.length + y.length + 3 := by
 simp [Rows.uptoBulk, Rows.uptoBulkAll]
 omega

theorem bulk_big {H : Type} (f : Nat → Hd) (g : Nat → DataW H) : ∀ (I : List Nat), (∀ i ∈ I, g i = .agg [.lit (.string (f i).name), .lit (.string (f i).value)]) → bigQ (I.map f) ≤ 3 * Rows.uptoBulkAll (I.map g)
 | [], _ => by simp [bigQ]
 | i :: I, h => by
  have h1 := bulk_big f g I fun j hj => h j (by simp [hj])
  have h2 : bigH (f i) ≤ 3 * Rows.uptoBulk (g i) := by
   rw [h i (by simp), bulk_pair]
   unfold bigH
   omega
  have e1 : bigQ ((i :: I).map f) = bigH (f i) + bigQ (I.map f) := by simp [bigQ]
  have e2 : Rows.uptoBulkAll ((i :: I).map g) = Rows.uptoBulk (g i) + Rows.uptoBulkAll (I.map g) := by rw [List.map_cons, Rows.uptoBulkAll]
  rw [e1, e2]
  omega

theorem pair_arg {H : Type} {enc : TypeId × Value → H} {W : World} {a : Option Addr} {len cap : Nat} {d : DataW H} {p : List MemPlace} {fuel : Nat}
  (hf : DataW.trod enc Tryz.prog W 0 (fun _ => true) true fuel 48 [.slice a len cap] = some (d, p)) :
  ∃ L, HdAt W (.slice a len cap) L ∧ bigQ L ≤ 3 * Rows.uptoBulk d := by
 obtain ⟨f0, f1, hu, o0, o1, t0, t1⟩ := undPr
 have c1 : Tryz.prog.cellsOf 9 = 1 := by kernel_rfl
 rcases Deep.open_slice_pairs Tryz.underlying48 hu (by kernel_rfl) o0 o1 (by rw [t0]; exact c1) (by rw [t1]; exact c1) hf with ⟨hcs, _⟩ | ⟨x, len', cap', m, n, V0, V1, D0, D1, P0, P1, hcs, _, hl, hm, hmm, hx, hcell⟩
 ·simp at hcs
  obtain ⟨rfl, rfl, rfl⟩ := hcs
  exact ⟨[], hd_nil _, by simp [bigQ]⟩
 ·simp at hcs
  obtain ⟨rfl, rfl, rfl⟩ := hcs
  have hlm : len ≤ m := by rw [hmm]; simp; omega
  have hx1 := (Prod.mk.injEq _ _ _ _ ▸ hx : _ ∧ _).1
  have each : ∀ i, i < len → ∃ s : ByteArray × ByteArray, W.cell? (x.add (i * 2)) = some (.string s.1) ∧ W.cell? (x.add (i * 2 + 1)) = some (.string s.2) ∧ D0 i = .lit (.string s.1.data.toList) ∧ D1 i = .lit (.string s.2.data.toList) := fun i hi => by
   obtain ⟨q0, q1, r0, r1⟩ := hcell i (by omega)
   rw [t0] at r0
   rw [t1] at r1
   obtain ⟨s0, e0, y0, _⟩ := DataW.trod_string Tryz.underlying9 r0
   obtain ⟨s1, e1, y1, _⟩ := DataW.trod_string Tryz.underlying9 r1
   simp at e0 e1 y0 y1
   rw [e0] at q0
   rw [e1] at q1
   exact ⟨(s0, s1), q0, q1, y0.1, y1.1⟩
  obtain ⟨F, hF⟩ := Deep.choose_lt each
  have hL : ((List.range len).map fun i => (⟨(F i).1.data.toList, (F i).2.data.toList⟩ : Hd)).length = len := by simp
  refine ⟨(List.range len).map fun i => ⟨(F i).1.data.toList, (F i).2.data.toList⟩, ⟨some x, cap, by rw [hL], by rw [hL]; exact hl, hm, fun i hi => ?_⟩, ?_⟩
  ·rw [hL] at hi
   have h0 := hF 0 (by omega)
   have hsp : x.spot = none := spot_none0 (by simpa [Addr.add] using h0.1)
   obtain ⟨q0, q1, _⟩ := hF i hi
   rw [addr_add0 hsp] at q0 q1
   refine ⟨x.block, x.off, by rw [← hsp], ?_, ?_⟩
   ·rw [q0]; simp
   ·rw [Nat.add_assoc, q1]; simp
  ·have := bulk_big (H := H) (fun i => (⟨(F i).1.data.toList, (F i).2.data.toList⟩ : Hd)) (fun i => .agg [D0 i, D1 i]) (List.range len) fun i hi => by
    obtain ⟨_, _, h0, h1⟩ := hF i (by simpa using hi)
    rw [h0, h1]
   have e : Rows.uptoBulkAll ((List.range len).map fun i => (DataW.agg [D0 i, D1 i] : DataW H)) ≤ Rows.uptoBulk d := by
    rw [hx1]
    simp only [Rows.uptoBulk]
    omega
   omega

theorem bulk_part {H : Type} {d : DataW H} {l : List (DataW H)} (h : d ∈ l) : Rows.uptoBulk d ≤ Rows.uptoBulkAll l := by
 induction l with
 | nil => cases h
 | cons x r ih =>
  simp only [Rows.uptoBulkAll]
  cases List.mem_cons.1 h with
  | inl e => subst e; omega
  | inr e => have := ih e; omega

theorem bulk_bound {H : Type} {l : List (DataW H)} (hk : Rows.uptoSmall H l = true) : Rows.uptoBulkAll l ≤ 1048576 := of_decide_eq_true hk

end Go.Proofs.YtgoefeaopegdoaaGreatDoor

namespace Go.Proofs.YtgoefeaopegdoaaGreatDoor
open Go.RowKit

def laid7 : List (String × DataW Unit) := [("math/bits.deBruijn32tab", Rows.laid_math_bits_deBruijn32tab), ("math/bits.deBruijn64tab", Rows.laid_math_bits_deBruijn64tab), ("internal/strconv.uint64pow10", Rows.laid_internal_strconv_uint64pow10), ("unicode/utf8.acceptRanges", Rows.laid_unicode_utf8_acceptRanges), ("unicode/utf8.first", Rows.laid_unicode_utf8_first)]

theorem g5_of_shaped {W : World} (hsh : W.ShapedOpen Tryz.prog) : G5 W := Tryz.laysM145.s1_3 W hsh

theorem gd7_of_laid {W : World} (h : laidMetH Tryz.prog laid7 W) (hsh : W.ShapedOpen Tryz.prog) : Gd W := by
 have h' : laidMet Tryz.prog laid7 W := h
 have h2 := h'.tail
 have h3 := h2.tail
 refine ⟨Tryz.laysM145.s1_3 W hsh, ?_, ?_⟩
 ·exact Lib.tabIs_of_head gPow10 (by kernel_rfl) Tryz.underlying269 Tryz.underlying239 (by kernel_rfl) (by kernel_rfl) h3
 ·exact Lib.tabIs_of_head gDB64 (by kernel_rfl) Tryz.underlying304 Tryz.underlying5 (by kernel_rfl) (by kernel_rfl) h2

theorem ownK : ownKnob Tryz.prog.godebug = none := by kernel_rfl

noncomputable def startW (os : Os) : World :=
 { World.doorLaid Tryz.prog 24 os with heap := (World.doorLaid Tryz.prog 24 os).heap.setIfInBounds 1 (.cells (Pinned.utf8FirstZ.map fun (n : Nat) => Value.int .u8 (n : Int)).toArray 247 (0, 0)) }

theorem door_met (os : Os) (args : Array Value) : laidMetH Tryz.prog laid7 ((startW os).forCall (fun _ _ => 0) ⟨#[], args, []⟩).memory :=
 laidMetH_of_parts3 (fuel := 8) (laidMet_of_run' 8 (by kernel_rfl) (by kernel_rfl)) (by kernel_rfl) (by kernel_rfl)

end Go.Proofs.YtgoefeaopegdoaaGreatDoor
