/-
  Walks and plain facts that this claim leans on, put together out of 13 texts: Ua, Ud, Uv, Uy, Ytx, Xa, Xc, Xe, Xh, Xj, Ytn, Ewa, Ewd.
-/
import Derived.Test.YtgoefeaopegdoaaGreatDoorProg
import Derived.Test.YtgoefeaopegdoaaGreatDoorQx1
import Derived.Test.YtgoefeaopegdoaaGreatDoorQx2
import Derived.Test.YtgoefeaopegdoaaGreatDoorQx3
import Derived.Test.YtgoefeaopegdoaaGreatDoorQx4
import Derived.Test.YtgoefeaopegdoaaGreatDoorQx5
import Derived.Test.YtgoefeaopegdoaaGreatDoorQx6
import Derived.Test.YtgoefeaopegdoaaGreatDoorQx7
import Derived.Test.YtgoefeaopegdoaaGreatDoorQx8
import Derived.Test.YtgoefeaopegdoaaGreatDoorQx9
import Derived.Test.YtgoefeaopegdoaaGreatDoorQx10
import Derived.Test.YtgoefeaopegdoaaGreatDoorQx11
import Derived.Test.YtgoefeaopegdoaaGreatDoorQx12
import Derived.Test.YtgoefeaopegdoaaGreatDoorQx13
import Derived.Test.YtgoefeaopegdoaaGreatDoorQx14
import Derived.Test.YtgoefeaopegdoaaGreatDoorQx15
import Derived.Test.YtgoefeaopegdoaaGreatDoorQx16
import Derived.Test.YtgoefeaopegdoaaGreatDoorQx17
import Derived.Test.YtgoefeaopegdoaaGreatDoorQx18
import Derived.Test.YtgoefeaopegdoaaGreatDoorQx19
import Derived.Test.YtgoefeaopegdoaaGreatDoorQx20
import Derived.Test.YtgoefeaopegdoaaGreatDoorQx21
import Derived.Test.YtgoefeaopegdoaaGreatDoorQx22
import Derived.Test.YtgoefeaopegdoaaGreatDoorQx23
import Derived.Test.YtgoefeaopegdoaaGreatDoorQx24
import Derived.Test.YtgoefeaopegdoaaGreatDoorQx25
import Derived.Test.YtgoefeaopegdoaaGreatDoorQx26
import Derived.Test.YtgoefeaopegdoaaGreatDoorQx27
import Derived.Test.YtgoefeaopegdoaaGreatDoorQx28
import Derived.Test.YtgoefeaopegdoaaGreatDoorQx29
import Derived.Test.YtgoefeaopegdoaaGreatDoorQx30
import Derived.Lib.IndexMore
import Derived.Lib.Join
import Derived.Lib.LastIndexByte
import Derived.WalkKit
import Derived.Lib.Strings
import Derived.Lib.UnsafeStr
import Derived.Laws.IdiomStrings
import Derived.Laws.AppendOwn
import Derived.Laws.BitsAllLaws
import Derived.Lib.Bytealg
import Derived.Lib.BufferMore
import Derived.Shelf.Strings.Builder1
import Derived.Shelf.Strings.Builder2
import Derived.Shelf.Strings.OnBuilder
import Derived.Shelf.Strings.Trim
import Derived.Shelf.Small.Utf8
import Derived.Shelf.Small.Bits
import Derived.Shelf.Small.Strs
import Derived.Shelf.Small.Wraps
import Derived.Shelf.Strings.BuilderF
import Derived.Shelf.Strings.BuilderK
import Derived.Shelf.Strings.BuilderRune
import Derived.Shelf.Utf8.AppendRune
import Derived.Shelf.Utf8.AppendRunePlain
import Derived.Shelf.Strings.Builder2Cap
import Derived.Shelf.Strconv.Itoa0
import Derived.Shelf.Strconv.Itoa1
import Derived.Shelf.LaysM
import Derived.Shelf.Strconv.Itoa2
import Derived.Shelf.Strconv.Itoa3
import Derived.Shelf.Strings.Search1
import Derived.Shelf.Strings.Search2
import Derived.Shelf.Strings.Search3
import Derived.Shelf.Strings.Cut
import Derived.Shelf.Strings.Count
import Derived.Shelf.Strings.Shaped
import Derived.Shelf.Strings.LastIndex
import Derived.Shelf.Strings.Prefix
import Derived.Shelf.Strings.Split
import Derived.Shelf.Strings.Replace
import Derived.Shelf.Strings.Runes
import Derived.Shelf.Strings.IndexAny
import Derived.Shelf.Strings.AsciiSet
import Derived.Shelf.Strings.IndexAnyAll
import Derived.Shelf.Unicode.DecodeSlow
import Derived.Ground.Names2Prog
import Derived.Shelf.Slices.Clone
import Derived.Shelf.Slices.In.SortNone
import Derived.Ground.SlgnProg
import Derived.Shelf.SlicesE.Clone
import Derived.WalkSpells
import Derived.WalkLawsBesides
import Derived.Lib.AppendIntMem
import Derived.Lib.SmallJoins
import Derived.WalkSmall
import Derived.WalkMore
import Derived.Deep.LoopGhost
import Derived.OwnWalk
import Derived.Laws.CopyOwn
import Derived.Laws.ResultCell
import Derived.Deep.MidRow
import Derived.Deep.RegionWith
import Derived.Lib.FrozenHead2
import Derived.Lib.OthersKept
import Derived.Lib.Builder
import Derived.Lib.IndexAny
import Derived.Lib.Replace
import Derived.Lib.TrimByte
import Derived.Lib.ItoaNum
import Derived.LoopN
import Derived.RegionTactic
import Derived.Deep.QuietTactic
import Derived.BigQuiet
import Derived.Laws.OwnMore
import Derived.Scope
import Derived.ScopeJumps
import Derived.Laws.RangeAny
import Derived.Lib.DecodeN
import Derived.Laws.BytesString
import Derived.Deep.WholeRow
import Derived.BigRegion
import Derived.Deep.RegionLaw
import Derived.Lib.AppendStr
import Derived.Deep.RegionHeld
import Derived.Lib.BufferRead
import Derived.Lib.RuneBytes
import Derived.Laws.AppendOwnNone
import Derived.Deep.Cut
import Derived.Laws.Runes
import Derived.Lib.SlTrimSet
import Derived.Below
import Derived.Shelf.Strings.SlTrimAscii
set_option linter.unusedSimpArgs false
set_option linter.unusedVariables false

namespace Go.Proofs.YtgoefeaopegdoaaGreatDoor
def deciN : Nat → Nat → List UInt8 → List UInt8
 | 0, _, acc => acc
 | f + 1, n, acc => if n < 10 then UInt8.ofNat (48 + n) :: acc else deciN f (n / 10) (UInt8.ofNat (48 + n % 10) :: acc)

def portT (p : Int) : List UInt8 := deciN 6 p.toNat []

end Go.Proofs.YtgoefeaopegdoaaGreatDoor

namespace Go.Proofs.YtgoefeaopegdoaaGreatDoor
theorem deci_gen : ∀ (f n : Nat) (acc : List UInt8), n < 10 ^ f → f ≠ 0 → deciN f n acc = Lib.decDigits n ++ acc
 | 0, n, acc, h, h0 => absurd rfl h0
 | f + 1, n, acc, h, _ => by
  rw [deciN, Lib.decDigits]
  by_cases h1 : n < 10
  ·rw [if_pos h1, dif_pos h1]; rfl
  ·rw [if_neg h1, dif_neg h1]
   have hf : f ≠ 0 := by rintro rfl; simp at h; omega
   rw [deci_gen f (n / 10) _ (by rw [Nat.pow_succ] at h; omega) hf]
   simp

theorem portT_itoa (p : Int) (h0 : 0 ≤ p) (h1 : p ≤ 65535) : Lib.itoa p = portT p := by
 unfold Lib.itoa portT
 rw [if_neg (by omega), deci_gen 6 _ _ (by omega) (by omega), List.append_nil]

end Go.Proofs.YtgoefeaopegdoaaGreatDoor

namespace Go.Proofs.YtgoefeaopegdoaaGreatDoor
open Go.RowKit

theorem itoaP_any (p : Int) (w : World) (hg : Gd w) (h0 : 0 ≤ p) (h1 : p ≤ 65535) :
  Calls Tryz.prog 127 #[.int .i64 p] w fun e w' => e = .returned (.string ⟨(portT p).toArray⟩) ∧ Below w.heap.size w w' := by
 refine (Tryz.strconv_Itoa p (by omega) (by omega) w hg.2.1).mono ?_
 rintro e w' ⟨rfl, k, os, rfl⟩
 exact ⟨by rw [portT_itoa p h0 h1], Lib.below_grow _ _ (Nat.le_refl _) _ _⟩

theorem deciN_le : ∀ (f n : Nat) (acc : List UInt8), (deciN f n acc).length ≤ f + acc.length
 | 0, n, acc => by rw [deciN]; omega
 | f + 1, n, acc => by
  rw [deciN]
  split
  ·simp; omega
  ·have := deciN_le f (n / 10) (UInt8.ofNat (48 + n % 10) :: acc)
   rw [List.length_cons] at this
   omega

theorem portT_le (p : Int) : (⟨(portT p).toArray⟩ : ByteArray).size ≤ 100 := by
 rw [Lib.size_eq]
 have := deciN_le 6 p.toNat []
 simp at this
 show (portT p).length ≤ 100
 unfold portT
 omega

end Go.Proofs.YtgoefeaopegdoaaGreatDoor

namespace Go.Proofs.YtgoefeaopegdoaaGreatDoor
open Go.RowKit

theorem AdrIn.load {w : World} {b : Nat} {u : Adr} {pv : Value} (h : AdrIn w b u pv) : (loadVar 34 ⟨b, 0, none⟩).run Tryz.prog w = .ok (adrVal u pv) w :=
 run_loadVar_mid w b 0 34 (adrCells u pv) _ (range_row h) Tryz.underlying34 rfl (sizeUl u pv)

end Go.Proofs.YtgoefeaopegdoaaGreatDoor

namespace Go.Proofs.YtgoefeaopegdoaaGreatDoor
open Go.RowKit

def textO (o : Org) : List UInt8 := if o.opq then [110, 117, 108, 108] else o.scheme ++ [58, 47, 47] ++ o.host ++ (if o.port = ownV o.scheme then [] else [58] ++ portT o.port)

set_option maxHeartbeats 8000000 in
set_option maxRecDepth 100000 in
theorem textO_any (o : Org) (w : World) (hg : Gd w) (hs : o.scheme.length ≤ 1000000) (hh : o.host.length ≤ 1000000) (hp : o.opq = false → 0 ≤ o.port ∧ o.port ≤ 65535) :
  Calls Tryz.prog 73 #[orgVal o] w fun e w' => e = .returned (.string ⟨(textO o).toArray⟩) ∧ Below w.heap.size w w' := by
 obtain ⟨sa, ah, ap, ao⟩ := o
 obtain ⟨AS, rfl⟩ : ∃ X : ByteArray, sa = X.data.toList := ⟨⟨sa.toArray⟩, rfl⟩
 obtain ⟨AH, rfl⟩ : ∃ X : ByteArray, ah = X.data.toList := ⟨⟨ah.toArray⟩, rfl⟩
 rw [show orgVal ⟨AS.data.toList, AH.data.toList, ap, ao⟩ = .agg #[.string AS, .string AH, .int .i64 ap, .bool ao] from rfl]
 have hss : AS.size ≤ 1000000 := by rw [Lib.size_eq]; exact hs
 have hhs : AH.size ≤ 1000000 := by rw [Lib.size_eq]; exact hh
 obtain ⟨T1, hT1⟩ : ∃ Z : ByteArray, AS ++ (⟨#[58, 47, 47]⟩ : ByteArray) = Z := ⟨_, rfl⟩
 have hT1l : T1.data.toList = AS.data.toList ++ [58, 47, 47] := by rw [← hT1, ByteArray.data_append, Array.toList_append]
 have hT1s : T1.size ≤ 1000003 := by rw [Lib.size_eq, hT1l, List.length_append, ← Lib.size_eq]; simp; omega
 obtain ⟨T2, hT2⟩ : ∃ Z : ByteArray, T1 ++ AH = Z := ⟨_, rfl⟩
 have hT2l : T2.data.toList = AS.data.toList ++ [58, 47, 47] ++ AH.data.toList := by rw [← hT2, ByteArray.data_append, Array.toList_append, hT1l]
 have hT2s : T2.size ≤ 2000003 := by rw [Lib.size_eq, ← hT2, ByteArray.data_append, Array.toList_append, List.length_append, ← Lib.size_eq, ← Lib.size_eq]; omega
 obtain ⟨PT, hPT⟩ : ∃ X : ByteArray, X = ⟨(portT ap).toArray⟩ := ⟨_, rfl⟩
 have hPl : PT.data.toList = portT ap := by rw [hPT]
 have hPs : PT.size ≤ 100 := by rw [hPT]; exact portT_le ap
 obtain ⟨T3, hT3⟩ : ∃ Z : ByteArray, (⟨#[58]⟩ : ByteArray) ++ PT = Z := ⟨_, rfl⟩
 have hT3l : T3.data.toList = [58] ++ portT ap := by rw [← hT3, ByteArray.data_append, Array.toList_append, hPl]
 have hT3s : T3.size ≤ 101 := by rw [Lib.size_eq, hT3l, ← hPl, List.length_append, ← Lib.size_eq]; simp; omega
 obtain ⟨T4, hT4⟩ : ∃ Z : ByteArray, T2 ++ T3 = Z := ⟨_, rfl⟩
 have HT4 := hid (show T4.data.toList = AS.data.toList ++ [58, 47, 47] ++ AH.data.toList ++ ([58] ++ portT ap) by rw [← hT4, ByteArray.data_append, Array.toList_append, hT2l, hT3l])
 have HT2 := hid hT2l
 obtain ⟨W, hW⟩ : ∃ W, (w.alloc (.cells #[.string AS, .string AH, .int .i64 ap, .bool ao] 28)) = W := ⟨_, rfl⟩
 have hbW : Below w.heap.size w W := by rw [← hW]; exact (Below.refl _ w).alloc (Nat.le_refl _) _
 have hrow : W.heap[w.heap.size]? = some (.cells #[.string AS, .string AH, .int .i64 ap, .bool ao] 28 (0, 0)) := by rw [← hW]; exact heap_alloc_new w _
 have h0 : W.cell? ⟨w.heap.size, 0, none⟩ = some (.string AS) := by rw [Lib.cell_of_heap hrow]; rfl
 have h1 : W.cell? ⟨w.heap.size, 1, none⟩ = some (.string AH) := by rw [Lib.cell_of_heap hrow]; rfl
 have h2 : W.cell? ⟨w.heap.size, 2, none⟩ = some (.int .i64 ap) := by rw [Lib.cell_of_heap hrow]; rfl
 have h3 : W.cell? ⟨w.heap.size, 3, none⟩ = some (.bool ao) := by rw [Lib.cell_of_heap hrow]; rfl
 have HKF := hid (show ∀ Z, Below W.heap.size W Z → Z.cell? ⟨w.heap.size, 0, none⟩ = some (.string AS) ∧ Z.cell? ⟨w.heap.size, 1, none⟩ = some (.string AH) ∧ Z.cell? ⟨w.heap.size, 2, none⟩ = some (.int .i64 ap) ∧ Z.cell? ⟨w.heap.size, 3, none⟩ = some (.bool ao) from fun Z hZ => ⟨keptC h0 hZ, keptC h1 hZ, keptC h2 hZ, keptC h3 hZ⟩)
 have HGW := hid (fun (X : World) (hX : Below W.heap.size W X) => (hg.kept hbW).kept hX)
 have HBW := hid hbW
 have HOw := hid (fun w => own_any AS w)
 obtain ⟨ow, how⟩ : ∃ z, ownV AS.data.toList = z := ⟨_, rfl⟩
 rw [how] at HOw
 have HOwE := hid how
 have HPT := hid hPT
 clear hg hs hh hT1l hT2l hPT hPl hT3l hbW hrow how
 cases ao with
 | true =>
  clear hp
  go_enter Tryz.func73, Tryz.ntmps73
  go_wp2
  go_ret
  exact ⟨rfl, HBW.out⟩
 | false =>
  have HP := hid (hp rfl)
  have HIt : Hid (∀ (X : World), Below W.heap.size W X → Calls Tryz.prog 127 #[.int .i64 ap] X fun e w' => e = .returned (.string PT) ∧ Below X.heap.size X w') := fun X hX => by rw [HPT.out]; exact itoaP_any ap X (HGW.out _ hX) HP.out.1 HP.out.2
  clear hp
  go_enter Tryz.func73, Tryz.ntmps73
  go_wp2_with fail
  have HQ0 := hid ((Below.refl W.heap.size W).drew)
  refine wp_region_held_drew (S := (fun wx => Below W.heap.size W wx)) (by kernel_rfl) HQ0.out (fun hHeld => ?_)
  refine' wpAnyH_take (i := 0) (oi := ⟨some 12, _, _, _, _, _⟩) (v := _) rfl (by kernel_rfl) (by kernel_rfl) (by kernel_rfl) (fun _ _ _ h => h) (Or.inl ⟨by kernel_rfl, ?hy1⟩) (by assumption) ?rest1
  case hy1 => (intro wx hSw; (try dsimp only at hSw); obtain ⟨k0, k1, k2, k3⟩ := HKF.out _ hSw; go_simp; first | done | with_reducible rfl | (rw [if_neg (by omega)]; with_reducible rfl))
  (try simp only [Act.put, List.setIfInBounds_toArray, List.set_cons_zero, List.set_cons_succ])
  refine' wpAnyH_take (i := 1) (oi := ⟨some 13, _, _, _, _, _⟩) (v := _) rfl (by kernel_rfl) (by kernel_rfl) (by kernel_rfl) (fun _ _ _ h => h) (Or.inl ⟨by kernel_rfl, ?hy2⟩) (by assumption) ?rest2
  case hy2 => (intro wx hSw; (try dsimp only at hSw); obtain ⟨k0, k1, k2, k3⟩ := HKF.out _ hSw; go_simp; first | done | with_reducible rfl | (rw [if_neg (by omega)]; with_reducible rfl))
  (try simp only [Act.put, List.setIfInBounds_toArray, List.set_cons_zero, List.set_cons_succ])
  refine' wpAnyH_take (i := 2) (oi := ⟨some 14, _, _, _, _, _⟩) (v := _) rfl (by kernel_rfl) (by kernel_rfl) (by kernel_rfl) (fun _ _ _ h => h) (Or.inl ⟨by kernel_rfl, ?hy3⟩) (by assumption) ?rest3
  case hy3 => (intro wx hSw; (try dsimp only at hSw); obtain ⟨k0, k1, k2, k3⟩ := HKF.out _ hSw; go_simp; first | done | with_reducible rfl | (rw [if_neg (by omega)]; with_reducible rfl))
  (try simp only [Act.put, List.setIfInBounds_toArray, List.set_cons_zero, List.set_cons_succ])
  refine' wpAnyH_take (i := 3) (oi := ⟨some 15, _, _, _, _, _⟩) (v := _) rfl (by kernel_rfl) (by kernel_rfl) (by kernel_rfl) (fun _ _ _ h => h) (Or.inl ⟨by kernel_rfl, ?hy4⟩) (by assumption) ?rest4
  case hy4 => (intro wx hSw; (try dsimp only at hSw); obtain ⟨k0, k1, k2, k3⟩ := HKF.out _ hSw; go_simp; first | done | with_reducible rfl | (rw [if_neg (by omega)]; with_reducible rfl))
  (try simp only [Act.put, List.setIfInBounds_toArray, List.set_cons_zero, List.set_cons_succ])
  refine wpAnyH_ready (rs := [4]) (by kernel_rfl) (by simp) ?_
  refine AllReadyH.cons rfl (fun K hK => ?_) AllReadyH.nil
  rw [if_pos (by kernel_rfl)]
  go_simp
  go_wp2_with (go_at_call 125; refine (HOw.out _).mono ?_; rintro e wz ⟨rfl, hwz⟩; rw [← hwz]; clear hwz)
  refine hK.out _ _ HQ0.out (fun hHeld2 => ?_)
  clear hK K hHeld
  rename _ => hHeld
  by_cases hpo : ap = ow
  ·have hpo' : (ap != ow) = false := by rw [hpo]; exact bne_self_eq_false ow
   have HZ := hid (show textO ⟨AS.data.toList, AH.data.toList, ap, false⟩ = AS.data.toList ++ [58, 47, 47] ++ AH.data.toList by unfold textO; simp [hpo, HOwE.out])
   clear hpo
   refine' wpAnyH_take (i := 5) (oi := ⟨some 17, _, _, _, _, _⟩) (v := _) rfl (by kernel_rfl) (by kernel_rfl) (by kernel_rfl) (fun _ _ _ h => h) (Or.inl ⟨by kernel_rfl, ?hy5⟩) (by assumption) ?rest5
   case hy5 => (intro wx hSw; (try dsimp only at hSw); obtain ⟨k0, k1, k2, k3⟩ := HKF.out _ hSw; go_simp; first | done | with_reducible rfl | (rw [if_neg (by omega)]; with_reducible rfl))
   (try simp only [Act.put, List.setIfInBounds_toArray, List.set_cons_zero, List.set_cons_succ])
   refine wpAnyH_done (by kernel_rfl) ?_ _
   go_wp2
   go_ret
   exact ⟨ret_str' (by refine ba_ext ?_; rw [HT2.out, HZ.out]), below2 HBW.out HQ0.out⟩
  ·have hpo' : (ap != ow) = true := bne_iff_ne.2 hpo
   have HZ := hid (show textO ⟨AS.data.toList, AH.data.toList, ap, false⟩ = AS.data.toList ++ [58, 47, 47] ++ AH.data.toList ++ ([58] ++ portT ap) by unfold textO; simp [hpo, HOwE.out])
   clear hpo
   refine' wpAnyH_take (i := 5) (oi := ⟨some 17, _, _, _, _, _⟩) (v := _) rfl (by kernel_rfl) (by kernel_rfl) (by kernel_rfl) (fun _ _ _ h => h) (Or.inl ⟨by kernel_rfl, ?hy6⟩) (by assumption) ?rest6
   case hy6 => (intro wx hSw; (try dsimp only at hSw); obtain ⟨k0, k1, k2, k3⟩ := HKF.out _ hSw; go_simp; first | done | with_reducible rfl | (rw [if_neg (by omega)]; with_reducible rfl))
   (try simp only [Act.put, List.setIfInBounds_toArray, List.set_cons_zero, List.set_cons_succ])
   refine wpAnyH_done (by kernel_rfl) ?_ _
   obtain ⟨k0, k1, k2, k3⟩ := HKF.out _ HQ0.out
   go_wp2_with fail
   refine (HIt.out _ HQ0.out).mono ?_
   rintro e w5 ⟨rfl, hb5⟩
   go_wp2
   go_ret
   exact ⟨ret_str' (by refine ba_ext ?_; rw [HT4.out, HZ.out]), below2 HBW.out (below2 HQ0.out hb5)⟩

end Go.Proofs.YtgoefeaopegdoaaGreatDoor

namespace Go.Proofs.YtgoefeaopegdoaaGreatDoor
def clos : List UInt8 → Nat
 | [] => 0
 | [c] => if c = 34 then 0 else if c = 92 then 2 else 1
 | c :: d :: r => if c = 34 then 0 else if c = 92 then 2 + clos r else 1 + clos (d :: r)

def cutQ : Bool → List UInt8 → Option Nat
 | _, [] => none
 | false, c :: r => if c = 44 then some 0 else if c = 34 then (cutQ true r).map (· + 1) else (cutQ false r).map (· + 1)
 | true, [_] => none
 | true, c :: d :: r => if c = 34 then (cutQ false (d :: r)).map (· + 1) else if c = 92 then (cutQ true r).map (· + 2) else (cutQ true (d :: r)).map (· + 1)

theorem clos_quote (r : List UInt8) : clos (34 :: r) = 0 := by cases r <;> simp [clos]

theorem clos_back (r : List UInt8) : clos (92 :: r) = 2 + clos (r.drop 1) := by cases r <;> simp [clos]

theorem clos_other (c : UInt8) (r : List UInt8) (h1 : c ≠ 34) (h2 : c ≠ 92) : clos (c :: r) = 1 + clos r := by cases r <;> simp [clos, h1, h2]

theorem cutQ_comma (r : List UInt8) : cutQ false (44 :: r) = some 0 := by simp [cutQ]

theorem cutQ_open (r : List UInt8) : cutQ false (34 :: r) = (cutQ true r).map (· + 1) := by simp [cutQ]

theorem cutQ_other (c : UInt8) (r : List UInt8) (h1 : c ≠ 44) (h2 : c ≠ 34) : cutQ false (c :: r) = (cutQ false r).map (· + 1) := by simp [cutQ, h1, h2]

theorem cutQ_close (r : List UInt8) : cutQ true (34 :: r) = (cutQ false r).map (· + 1) := by cases r <;> simp [cutQ]

theorem cutQ_back (r : List UInt8) : cutQ true (92 :: r) = (cutQ true (r.drop 1)).map (· + 2) := by cases r <;> simp [cutQ]

theorem cutQ_in (c : UInt8) (r : List UInt8) (h1 : c ≠ 34) (h2 : c ≠ 92) : cutQ true (c :: r) = (cutQ true r).map (· + 1) := by cases r <;> simp [cutQ, h1, h2]

theorem map_map_add (o : Option Nat) (a b : Nat) : (o.map (· + a)).map (· + b) = o.map (· + (a + b)) := by
 cases o <;> simp [Nat.add_assoc]

theorem cutQ_true : ∀ (n : Nat) (r : List UInt8), r.length ≤ n → cutQ true r = (cutQ false (r.drop (clos r + 1))).map (· + (clos r + 1)) := by
 intro n
 induction n with
 | zero =>
  intro r hr
  have : r = [] := List.eq_nil_of_length_eq_zero (by omega)
  subst this; rfl
 | succ n ih =>
  intro r hr
  cases r with
  | nil => rfl
  | cons c r =>
   simp at hr
   by_cases h1 : c = 34
   ·subst h1; rw [cutQ_close, clos_quote]; rfl
   ·by_cases h2 : c = 92
    ·subst h2
     rw [cutQ_back, clos_back, ih (r.drop 1) (by simp; omega), map_map_add, List.drop_drop]
     rw [show 2 + clos (r.drop 1) + 1 = (1 + (clos (r.drop 1) + 1)) + 1 by omega, List.drop_succ_cons]
     congr 2
     funext x; omega
    ·rw [cutQ_in c r h1 h2, clos_other c r h1 h2, ih r (by omega), map_map_add]
     rw [show 1 + clos r + 1 = (clos r + 1) + 1 by omega, List.drop_succ_cons]

theorem cutQ_false_open (r : List UInt8) : cutQ false (34 :: r) = (cutQ false (r.drop (clos r + 1))).map (· + (clos r + 2)) := by
 rw [cutQ_open, cutQ_true r.length r (Nat.le_refl _), map_map_add]

theorem cutQ_lt : ∀ (n : Nat) (q : Bool) (l : List UInt8) (k : Nat), l.length ≤ n → cutQ q l = some k → k < l.length := by
 intro n
 induction n with
 | zero =>
  intro q l k hl h
  have : l = [] := List.eq_nil_of_length_eq_zero (by omega)
  subst this; cases q <;> simp [cutQ] at h
 | succ n ih =>
  intro q l k hl h
  cases l with
  | nil => cases q <;> simp [cutQ] at h
  | cons c r =>
   simp at hl
   have step : ∀ (q : Bool) (r' : List UInt8) (a : Nat), r'.length + a ≤ r.length + 1 → 1 ≤ a → (cutQ q r').map (· + a) = some k → k < (c :: r).length := by
    intro q r' a ha ha1 hk
    obtain ⟨j, hj, rfl⟩ := Option.map_eq_some_iff.1 hk
    have := ih q r' j (by omega) hj
    simp; omega
   cases q with
   | false =>
    by_cases h1 : c = 44
    ·subst h1; rw [cutQ_comma] at h; simp at h; subst h; simp
    ·by_cases h2 : c = 34
     ·subst h2; rw [cutQ_open] at h; exact step true r 1 (by omega) (by omega) h
     ·rw [cutQ_other c r h1 h2] at h; exact step false r 1 (by omega) (by omega) h
   | true =>
    by_cases h1 : c = 34
    ·subst h1; rw [cutQ_close] at h; exact step false r 1 (by omega) (by omega) h
    ·by_cases h2 : c = 92
     ·subst h2; rw [cutQ_back] at h
      cases r with
      | nil => simp [cutQ] at h
      | cons d r => exact step true r 2 (by simp) (by omega) h
     ·rw [cutQ_in c r h1 h2] at h; exact step true r 1 (by omega) (by omega) h

def pcsN : Nat → List UInt8 → List (List UInt8)
 | 0, l => [l]
 | f + 1, l => match cutQ false l with
  | none => [l]
  | some k => l.take k :: pcsN f (l.drop (k + 1))

def pcs (l : List UInt8) : List (List UInt8) := pcsN l.length l

theorem pcsN_succ : ∀ (g : Nat) (m : List UInt8), m.length ≤ g → pcsN (g + 1) m = pcsN g m := by
 intro g
 induction g with
 | zero =>
  intro m hm
  have : m = [] := List.eq_nil_of_length_eq_zero (by omega)
  subst this; simp [pcsN, cutQ]
 | succ g ihg =>
  intro m hm
  rw [pcsN, pcsN]
  cases hc : cutQ false m with
  | none => rfl
  | some k =>
   have := cutQ_lt m.length false m k (Nat.le_refl _) hc
   simp only
   rw [ihg _ (by simp; omega)]

theorem pcsN_more (f : Nat) (l : List UInt8) (hl : l.length ≤ f) : pcsN f l = pcsN l.length l := by
 obtain ⟨d, rfl⟩ : ∃ d, f = l.length + d := ⟨f - l.length, by omega⟩
 clear hl
 induction d with
 | zero => rfl
 | succ d ih => rw [← Nat.add_assoc, pcsN_succ _ _ (by omega), ih]

theorem pcs_none (l : List UInt8) (h : cutQ false l = none) : pcs l = [l] := by
 unfold pcs
 cases hn : l.length with
 | zero => simp [pcsN]
 | succ n => simp [pcsN, h]

theorem pcs_some (l : List UInt8) (k : Nat) (h : cutQ false l = some k) : pcs l = l.take k :: pcs (l.drop (k + 1)) := by
 have hk := cutQ_lt l.length false l k (Nat.le_refl _) h
 unfold pcs
 cases hn : l.length with
 | zero => omega
 | succ n =>
  simp only [pcsN, h]
  rw [pcsN_more n _ (by simp; omega)]

def trimB (l : List UInt8) : List UInt8 := Lib.trimS l [9, 32]

def splitV (L : List Hd) (n : List UInt8) : List (List UInt8) := (pcs (getT L n)).map trimB

end Go.Proofs.YtgoefeaopegdoaaGreatDoor

namespace Go.Proofs.YtgoefeaopegdoaaGreatDoor
open Go.RowKit

def cellsH (L : List Hd) : List Value := L.flatMap fun h => [.string ⟨h.name.toArray⟩, .string ⟨h.value.toArray⟩]

theorem cellsH_len (a : List Hd) : (cellsH a).length = a.length * 2 := by
 induction a with
 | nil => rfl
 | cons h a ih => simp [cellsH] at ih ⊢; omega

theorem cellsH_at (L : List Hd) : ∀ j (h : j < L.length), (cellsH L)[j * 2]? = some (.string ⟨L[j].name.toArray⟩) ∧ (cellsH L)[j * 2 + 1]? = some (.string ⟨L[j].value.toArray⟩) := by
 induction L with
 | nil => intro j h; simp at h
 | cons a L ih =>
  intro j h
  have e : cellsH (a :: L) = Value.string ⟨a.name.toArray⟩ :: Value.string ⟨a.value.toArray⟩ :: cellsH L := rfl
  cases j with
  | zero => rw [e]; exact ⟨rfl, rfl⟩
  | succ j =>
   have := ih j (by simpa using h)
   rw [e, show (j + 1) * 2 = j * 2 + 1 + 1 by omega]
   simpa using this

theorem hd_nil (w : World) : HdAt w (.slice none 0 0) [] := ⟨none, 0, rfl, Nat.le_refl _, by decide, fun j hj => by simp at hj⟩

theorem own_hd {w : World} {B : Nat} {e : TypeId} {v : Value} {L : List Hd} (h : w.ownsRow B e 2 v L.length (cellsH L)) : HdAt w v L := by
 have h2 := h.2
 rcases h2 with ⟨hv, hn⟩ | ⟨g, cap, cur, rfl, hg, hrow, hnc, hcm, hcs, htake⟩
 ·obtain rfl := List.eq_nil_of_length_eq_zero hn
  rw [hv]; exact hd_nil w
 ·refine hd_of hnc hcm fun j hj => ?_
  rw [Nat.zero_add, h.cellAt _ (by omega), h.cellAt _ (by omega)]
  exact cellsH_at L j hj

end Go.Proofs.YtgoefeaopegdoaaGreatDoor

namespace Go.Proofs.YtgoefeaopegdoaaGreatDoor
open Go.RowKit

theorem byteInt (c : UInt8) (n : Nat) (h : n < 256) : ((c.toNat : Int) == (n : Int)) = decide (c = UInt8.ofNat n) := by
 have h1 : (UInt8.ofNat n).toNat = n := by simp [UInt8.toNat_ofNat']; omega
 rw [Bool.eq_iff_iff]
 simp only [beq_iff_eq, decide_eq_true_eq]
 constructor
 ·intro e; exact UInt8.toNat_inj.1 (by rw [h1]; omega)
 ·intro e; rw [e, h1]

theorem byteNe {c : UInt8} {n : Nat} (h : n < 256) (e : c ≠ UInt8.ofNat n) : ((c.toNat : Int) == (n : Int)) = false := by
 rw [byteInt c n h]; simpa using e

set_option maxHeartbeats 1000000 in
theorem closing_any (s : ByteArray) (i : Nat) (w : World) (hs : s.size ≤ 140737488351232) (hi : i < s.size) :
  Calls Tryz.prog 153 #[.string s, .int .i64 i] w fun e w' => e = .returned (.int .i64 ((i + 1 + clos (s.data.toList.drop (i + 1)) : Nat) : Int)) ∧ w = w' := by
 go_enter Tryz.func153, Tryz.ntmps153
 go_wp2
 go_loop [1] (fun v => ∃ k : Nat, k ≤ s.size + 1 ∧ v = .int .i64 k ∧ k + clos (s.data.toList.drop k) = i + 1 + clos (s.data.toList.drop (i + 1))) (fun v => s.size + 2 - (intOf v).toNat)
 case atStart => exact ⟨i + 1, by omega, by go_num, rfl⟩
 case round =>
  obtain ⟨k, hk, rfl, hc⟩ := hrel
  have HC := hid hc
  clear hc
  by_cases hlt : k < s.size
  ·have hlt' : (k : Int) < (s.size : Int) := by omega
   have HD := hid (drop_cons s k hlt)
   by_cases h1 : s[k] = 34
   ·have h1' : (s[k].toNat : Int) = 34 := by rw [h1]; rfl
    have HR := hid (show k = i + 1 + clos (s.data.toList.drop (i + 1)) by have := HC.out; rw [HD.out, h1, clos_quote] at this; omega)
    clear h1
    go_wp2
    go_ret
    exact ⟨ret_int (by have := HR.out; omega), rfl⟩
   ·have h1' : ((s[k].toNat : Int) == 34) = false := byteNe (n := 34) (by omega) h1
    by_cases h2 : s[k] = 92
    ·have h2' : (s[k].toNat : Int) = 92 := by rw [h2]; rfl
     have HR := hid (show k + 2 + clos (s.data.toList.drop (k + 2)) = i + 1 + clos (s.data.toList.drop (i + 1)) by
      have := HC.out; rw [HD.out, h2, clos_back, List.drop_drop] at this
      rw [show k + 1 + 1 = k + 2 by omega] at this; omega)
     clear h1 h2
     go_wp2
     go_round
     case rel =>
      exact ⟨k + 2, by omega, by go_num, HR.out⟩
     case measure => simp [intOf]; omega
    ·have h2' : ((s[k].toNat : Int) == 92) = false := byteNe (n := 92) (by omega) h2
     have HR := hid (show k + 1 + clos (s.data.toList.drop (k + 1)) = i + 1 + clos (s.data.toList.drop (i + 1)) by
      have := HC.out; rw [HD.out, clos_other _ _ h1 h2] at this; omega)
     clear h1 h2
     go_wp2
     go_round
     case rel =>
      exact ⟨k + 1, by omega, by go_num, HR.out⟩
     case measure => simp [intOf]; omega
  ·have hlt' : decide ((k : Int) < (s.size : Int)) = false := by rw [decide_eq_false_iff_not]; omega
   have HR := hid (show k = i + 1 + clos (s.data.toList.drop (i + 1)) by
    have := HC.out; rw [List.drop_eq_nil_of_le (by simp; omega)] at this; simp [clos] at this; omega)
   go_wp2
   go_ret
   exact ⟨ret_int (by have := HR.out; omega), rfl⟩

theorem clos_le : ∀ (n : Nat) (l : List UInt8), l.length ≤ n → clos l ≤ l.length + 1 := by
 intro n
 induction n with
 | zero =>
  intro l hl
  have : l = [] := List.eq_nil_of_length_eq_zero (by omega)
  subst this; simp [clos]
 | succ n ih =>
  intro l hl
  cases l with
  | nil => simp [clos]
  | cons c r =>
   simp at hl
   by_cases h1 : c = 34
   ·subst h1; rw [clos_quote]; simp
   ·by_cases h2 : c = 92
    ·subst h2
     rw [clos_back]
     have := ih (r.drop 1) (by simp; omega)
     cases r with
     | nil => simp [clos]
     | cons d r => simp at this ⊢; omega
    ·rw [clos_other c r h1 h2]
     have := ih r (by omega)
     simp; omega

def cutA (l : List UInt8) : List UInt8 := match cutQ false l with | none => l | some k => l.take k

def cutR (l : List UInt8) : List UInt8 := match cutQ false l with | none => [] | some k => l.drop (k + 1)

def cutB (l : List UInt8) : Bool := (cutQ false l).isSome

theorem xret_ssb {a b c d : ByteArray} {x y : Bool} (h : a = b) (h2 : c = d) (g : x = y) : Ending.returned (.tuple #[.string a, .string c, .bool x]) = .returned (.tuple #[.string b, .string d, .bool y]) := by rw [h, h2, g]

set_option maxHeartbeats 1000000 in
theorem cutPiece_any (s : ByteArray) (w : World) (hs : s.size ≤ 140737488351232) :
  Calls Tryz.prog 92 #[.string s] w fun e w' => e = .returned (.tuple #[.string ⟨(cutA s.data.toList).toArray⟩, .string ⟨(cutR s.data.toList).toArray⟩, .bool (cutB s.data.toList)]) ∧ Below w.heap.size w w' := by
 go_enter Tryz.func92, Tryz.ntmps92
 go_wp2
 go_loop [5] (fun v => ∃ k : Nat, k ≤ s.size + 2 ∧ v = .int .i64 k ∧ cutQ false s.data.toList = (cutQ false (s.data.toList.drop k)).map (· + k)) (fun v => s.size + 3 - (intOf v).toNat)
 case atStart => exact ⟨0, by omega, by go_num, by simp⟩
 case round =>
  obtain ⟨k, hk, rfl, hc⟩ := hrel
  have HC := hid hc
  clear hc
  by_cases hlt : k < s.size
  ·have hlt' : (k : Int) < (s.size : Int) := by omega
   have HD := hid (drop_cons s k hlt)
   by_cases h1 : s[k] = 44
   ·have h1' : (s[k].toNat : Int) = 44 := by rw [h1]; rfl
    have HR := hid (show cutQ false s.data.toList = some k by have := HC.out; rw [HD.out, h1, cutQ_comma] at this; simpa using this)
    have hk0 : (0 : Int) ≤ (k : Int) := by omega
    have hk1 : (k : Int) ≤ (s.size : Int) := by omega
    have hk2 : (k : Int) + 1 ≤ (s.size : Int) := by omega
    clear h1
    go_wp2
    go_quiet (fail)
    go_wp2
    go_ret3
    refine ⟨xret_ssb (xext ?_) (xext ?_) ?_, Go.below_drewN (Below.refl _ _) _⟩
    ·rw [cutA, HR.out, Lib.extract_data]; simp
    ·rw [cutR, HR.out]; exact extract_drop s (k + 1)
    ·rw [cutB, HR.out]; rfl
   ·have h1' : ((s[k].toNat : Int) == 44) = false := byteNe (n := 44) (by omega) h1
    by_cases h2 : s[k] = 34
    ·have h2' : (s[k].toNat : Int) = 34 := by rw [h2]; rfl
     have hcl : clos (s.data.toList.drop (k + 1)) + (k + 1) ≤ s.size + 1 := by have := clos_le _ (s.data.toList.drop (k + 1)) (Nat.le_refl _); simp at this; omega
     have HR := hid (show cutQ false s.data.toList = (cutQ false (s.data.toList.drop (k + 1 + clos (s.data.toList.drop (k + 1)) + 1))).map (· + (k + 1 + clos (s.data.toList.drop (k + 1)) + 1)) by
      have := HC.out
      rw [HD.out, h2, cutQ_false_open, map_map_add, List.drop_drop] at this
      rw [this, show k + 1 + (clos (s.data.toList.drop (k + 1)) + 1) = k + 1 + clos (s.data.toList.drop (k + 1)) + 1 by omega, show clos (s.data.toList.drop (k + 1)) + 2 + k = k + 1 + clos (s.data.toList.drop (k + 1)) + 1 by omega])
     clear h1 h2
     obtain ⟨q, hq⟩ : ∃ q, q = clos (s.data.toList.drop (k + 1)) := ⟨_, rfl⟩
     rw [← hq] at hcl HR
     have HQ := hid hq
     clear hq
     go_wp2_with (go_at_call 153; refine (closing_any s k _ hs hlt).mono ?_; rintro e w' ⟨rfl, rfl⟩; rw [← HQ.out])
     go_round
     case rel =>
      exact ⟨k + 1 + q + 1, by omega, by go_num, HR.out⟩
     case measure => simp [intOf]; omega
    ·have h2' : ((s[k].toNat : Int) == 34) = false := byteNe (n := 34) (by omega) h2
     have HR := hid (show cutQ false s.data.toList = (cutQ false (s.data.toList.drop (k + 1))).map (· + (k + 1)) by
      have := HC.out
      rw [HD.out, cutQ_other _ _ h1 h2, map_map_add] at this
      rw [this, Nat.add_comm 1 k])
     clear h1 h2
     go_wp2
     go_round
     case rel =>
      exact ⟨k + 1, by omega, by go_num, HR.out⟩
     case measure => simp [intOf]; omega
  ·have hlt' : ¬ (k : Int) < (s.size : Int) := by omega
   have HR := hid (show cutQ false s.data.toList = none by
    have := HC.out; rw [List.drop_eq_nil_of_le (by simp; omega)] at this; simpa [cutQ] using this)
   go_wp2
   go_ret3
   refine ⟨xret_ssb (xext ?_) (xext ?_) ?_, Below.refl _ _⟩
   ·rw [cutA, HR.out]
   ·rw [cutR, HR.out]
   ·rw [cutB, HR.out]; rfl

end Go.Proofs.YtgoefeaopegdoaaGreatDoor

namespace Go.Proofs.YtgoefeaopegdoaaGreatDoor
open Go.RowKit

theorem list_eq_of {α : Type} {A B : List α} (hl : A.length = B.length) (h : ∀ j (h1 : j < A.length) (h2 : j < B.length), A[j] = B[j]) : A = B :=
 List.ext_getElem hl fun j h1 h2 => h j h1 h2

end Go.Proofs.YtgoefeaopegdoaaGreatDoor

namespace Go.Proofs.YtgoefeaopegdoaaGreatDoor
open Go.RowKit

theorem trimB_any (s : ByteArray) (w : World) (hs : s.size ≤ 9223372036854775807) :
  Calls Tryz.prog 86 #[.string s, .string ⟨#[9, 32]⟩] w fun e w' => e = .returned (.string ⟨(trimB s.data.toList).toArray⟩) ∧ Below w.heap.size w w' :=
 trim5_any s ⟨#[9, 32]⟩ w hs (by decide) (by decide)

end Go.Proofs.YtgoefeaopegdoaaGreatDoor

namespace Go.Proofs.YtgoefeaopegdoaaGreatDoor
open Go.RowKit

def nearV (h : List UInt8) : Bool := (h == [108, 111, 99, 97, 108, 104, 111, 115, 116]) || (Lib.hasSuffix h [46, 108, 111, 99, 97, 108, 104, 111, 115, 116] || ((h == [91, 58, 58, 49, 93]) || (Lib.hasPrefix h [49, 50, 55, 46] && numO h)))

set_option maxHeartbeats 4000000 in
set_option maxRecDepth 20000 in
theorem near_any (h : ByteArray) (w : World) (hh : h.size ≤ 9223372036854775807) :
  Calls Tryz.prog 121 #[.string h] w fun e w' => e = .returned (.bool (nearV h.data.toList)) ∧ Below w.heap.size w w' := by
 obtain ⟨q2, e2⟩ : ∃ q, Lib.hasSuffix h.data.toList [46, 108, 111, 99, 97, 108, 104, 111, 115, 116] = q := ⟨_, rfl⟩
 obtain ⟨q4, e4⟩ : ∃ q, Lib.hasPrefix h.data.toList [49, 50, 55, 46] = q := ⟨_, rfl⟩
 obtain ⟨q5, e5⟩ : ∃ q, numO h.data.toList = q := ⟨_, rfl⟩
 obtain ⟨q1, e1⟩ : ∃ q, (h.toList == [108, 111, 99, 97, 108, 104, 111, 115, 116]) = q := ⟨_, rfl⟩
 obtain ⟨q3, e3⟩ : ∃ q, (h.toList == [91, 58, 58, 49, 93]) = q := ⟨_, rfl⟩
 have HV := hid (show nearV h.data.toList = (q1 || (q2 || (q3 || (q4 && q5)))) by unfold nearV; rw [e2, e4, e5, ← e1, ← e3, Lib.toList_data])
 have HS : Hid (∀ w, Calls Tryz.prog 177 #[.string h, .string ⟨#[46, 108, 111, 99, 97, 108, 104, 111, 115, 116]⟩] w fun e w' => e = .returned (.bool q2) ∧ w' = w) := fun w => by rw [← e2]; exact Tryz.strings_HasSuffix h _ w hh
 have HP : Hid (∀ w, Calls Tryz.prog 104 #[.string h, .string ⟨#[49, 50, 55, 46]⟩] w fun e w' => e = .returned (.bool q4) ∧ w' = w) := fun w => by rw [← e4]; exact Tryz.strings_HasPrefix h _ w
 have HN := hid (fun w => numeric_any h w hh)
 rw [e5] at HN
 have HB := hid (Below.refl w.heap.size w)
 clear e2 e4 e5 hh
 cases q1 with
 | true =>
  go_enter Tryz.func121, Tryz.ntmps121
  go_wp2
  go_ret
  exact ⟨ret_bool (by rw [HV.out]; rfl), HB.out⟩
 | false =>
  go_enter Tryz.func121, Tryz.ntmps121
  go_wp2_with fail
  refine (HS.out _).mono ?_
  rintro e wz ⟨rfl, hwz⟩
  rw [hwz]
  clear hwz
  cases q2 with
  | true =>
   go_wp2
   go_ret
   exact ⟨ret_bool (by rw [HV.out]; rfl), HB.out⟩
  | false =>
   cases q3 with
   | true =>
    go_wp2
    go_ret
    exact ⟨ret_bool (by rw [HV.out]; rfl), HB.out⟩
   | false =>
    go_wp2_with fail
    refine (HP.out _).mono ?_
    rintro e wy ⟨rfl, hwy⟩
    rw [hwy]
    clear hwy
    cases q4 with
    | false =>
     go_wp2
     go_ret
     exact ⟨ret_bool (by rw [HV.out]; rfl), HB.out⟩
    | true =>
     go_wp2_with fail
     refine (HN.out _).mono ?_
     rintro e wx ⟨rfl, hbx⟩
     go_wp2
     go_ret
     exact ⟨ret_bool (by rw [HV.out]; rfl), hbx⟩

end Go.Proofs.YtgoefeaopegdoaaGreatDoor

namespace Go.Proofs.YtgoefeaopegdoaaGreatDoor
def sData : List UInt8 := [100, 97, 116, 97]

def sAbout : List UInt8 := [97, 98, 111, 117, 116]

def safeS (s : List UInt8) : Bool := (s == sHttps) || ((s == sWss) || ((s == sData) || (s == sAbout)))

def trN : Nat → Adr → Bool
 | 0, u => safeS u.scheme || nearV u.host
 | n + 1, u => if safeS u.scheme then true else if u.scheme = sBlob then trN n (innV u) else nearV u.host

def mT (u : Adr) : Nat := if u.scheme = sBlob then (if u.opq then cc u.path.flatten + 2 else 1) else 0

def trustV (u : Adr) : Bool := trN (mT u) u

theorem cc_sub {a b : List UInt8} (h : List.Sublist a b) : cc a ≤ cc b := h.count_le _

theorem cc_pct (l : List UInt8) : cc (pct 1 l) ≤ cc l := by
 induction l with
 | nil => exact Nat.le_refl _
 | cons c l ih =>
  have h := u8_all (P := fun c => decide ((pct1 1 c).count 58 ≤ ([c] : List UInt8).count 58)) (by decide +kernel) c
  have h := of_decide_eq_true h
  have e : pct 1 (c :: l) = pct1 1 c ++ pct 1 l := rfl
  have e2 : (c :: l) = [c] ++ l := rfl
  unfold cc at ih ⊢
  rw [e, e2, List.count_append, List.count_append]
  omega

theorem cc_clean (l : List UInt8) : cc (cleanV l) ≤ cc l := by
 have h1 : cc (cleanV l) ≤ cc (trimV l) := cc_sub List.filter_sublist
 have h2 : cc (trimV l) = cc ((l.dropWhile wsC).reverse.dropWhile wsC) := by unfold cc trimV; exact List.count_reverse
 have h3 : cc ((l.dropWhile wsC).reverse.dropWhile wsC) ≤ cc (l.dropWhile wsC).reverse := cc_sub (List.dropWhile_sublist _)
 have h4 : cc (l.dropWhile wsC).reverse = cc (l.dropWhile wsC) := by unfold cc; exact List.count_reverse
 have h5 : cc (l.dropWhile wsC) ≤ cc l := cc_sub (List.dropWhile_sublist _)
 omega

theorem cc_part (c : UInt8) (l : List UInt8) : cc (part c l).1 ≤ cc l := by
 rcases first_split c l with h | ⟨a, r, h, rfl⟩
 ·rw [part_none c l h]; exact Nat.le_refl _
 ·rw [part_some c a r h]; exact cc_sub (List.sublist_append_left _ _)

theorem withQuery_opq (u : Adr) (q : List UInt8) : (withQuery u q).opq = u.opq ∧ (withQuery u q).path = u.path := by
 rcases withQuery_cases u q with e | e
 ·rw [e]; exact ⟨rfl, rfl⟩
 ·rw [e]; exact ⟨rfl, rfl⟩

theorem withAuth_opq {u v : Adr} {r : List UInt8} (e : withAuth u r = .ok v) : v.opq = u.opq := by
 unfold withAuth at e
 split at e
 ·cases e
 ·injection e with e
  rw [← e]
  unfold withPath
  exact (withQuery_opq _ _).1

theorem start_opq4 {u v : Adr} {rest : List UInt8} (h0 : u.opq = false) (e : startV u rest = .ok v) (ho : v.opq = true) : v.path = [pct 1 (aheadV [63] rest).1] := by
 unfold startV at e
 split at e
 ·rw [withAuth_opq e, h0] at ho; cases ho
 ·split at e
  ·rw [withAuth_opq e, h0] at ho; cases ho
  ·split at e
   ·injection e with e
    rw [← e] at ho
    unfold withPath at ho
    rw [(withQuery_opq _ _).1] at ho
    rw [show ({ u with path := pathV (specV u.scheme) [] (aheadV [63] rest).1 } : Adr).opq = u.opq from rfl, h0] at ho
    cases ho
   ·injection e with e
    rw [← e, (withQuery_opq _ _).2]

theorem read_cc {t : List UInt8} {v : Adr} (e : readV t none = .ok v) (ho : v.opq = true) : cc v.path.flatten < cc t := by
 unfold readV at e
 split at e
 ·cases e
 ·simp only at e
  split at e
  ·cases e
  ·rename_i hsc
   rw [start_opq4 rfl e ho]
   have h1 : (cc (beginU t).2) + 1 ≤ cc t := by
    have hc := cc_clean t
    have hp := cc_part 35 (cleanV t)
    unfold beginU at hsc ⊢
    simp only at hsc ⊢
    cases hm : schemeV (part 35 (cleanV t)).1 with
    | none => rw [hm] at hsc; exact absurd rfl hsc
    | some m =>
     simp only [hm, Option.getD_some]
     unfold schemeV at hm
     split at hm
     ·rename_i hq
      rw [Bool.and_eq_true] at hq
      injection hm with hm
      rw [← hm]
      simp only
      rcases first_split 58 (part 35 (cleanV t)).1 with h | ⟨a, r, h, hs⟩
      ·rw [part_none 58 _ h] at hq; cases hq.1
      ·rw [hs, part_some 58 a r h]
       rw [hs] at hp
       have : cc (a ++ 58 :: r) = cc a + (cc r + 1) := by unfold cc; rw [List.count_append, List.count_cons_self]
       simp only
       omega
     ·cases hm
   have h2 : cc (pct 1 (aheadV [63] (beginU t).2).1) ≤ cc (beginU t).2 := Nat.le_trans (cc_pct _) (cc_sub (List.takeWhile_sublist _))
   simp only [List.flatten_cons, List.flatten_nil, List.append_nil]
   omega

theorem mT_inn {u : Adr} (h : u.scheme = sBlob) : mT (innV u) < mT u := by
 have h1 : 1 ≤ mT u := by unfold mT; rw [if_pos h]; split <;> omega
 by_cases ho : u.opq = true
 ·have hu : mT u = cc u.path.flatten + 2 := by unfold mT; rw [if_pos h, if_pos ho]
  have hi : innV u = adrOf (readV u.path.flatten none) := by unfold innV; rw [if_pos ⟨h, ho⟩]
  rw [hu, hi]
  cases hr : readV u.path.flatten none with
  | error e => exact Nat.lt_of_lt_of_le (show mT Adr.zero < 1 by decide) (by omega)
  | ok v =>
   show mT v < _
   unfold mT
   split
   ·split
    ·rename_i hv
     have := read_cc hr hv
     omega
    ·omega
   ·omega
 ·have hi : innV u = Adr.zero := by unfold innV; rw [if_neg (fun e => ho e.2)]
  rw [hi]
  exact Nat.lt_of_lt_of_le (show mT Adr.zero < 1 by decide) h1

end Go.Proofs.YtgoefeaopegdoaaGreatDoor

namespace Go.Proofs.YtgoefeaopegdoaaGreatDoor
open Go.RowKit

def trS (u : Adr) (t : Bool) : Bool := if safeS u.scheme then true else if u.scheme = sBlob then t else nearV u.host

set_option maxHeartbeats 4000000 in
set_option maxRecDepth 100000 in
theorem trusted_step (u : Adr) (pv : Value) (w : World) (t : Bool) (hg : Gd w) (hp : PathAt w pv u.path) (hl : u.path.length ≤ 1000000) (hf : u.path.flatten.length ≤ 100000) (hh : u.host.length ≤ 1000000)
  (hb : u.scheme = sBlob → ∀ (qv : Value) (X : World), Gd X → PathAt X qv (innV u).path → Calls Tryz.prog 69 #[adrVal (innV u) qv] X fun e w' => e = .returned (.bool t) ∧ Below X.heap.size X w') :
  Calls Tryz.prog 69 #[adrVal u pv] w fun e w' => e = .returned (.bool (trS u t)) ∧ Below w.heap.size w w' := by
 have HIn := hid (fun (X : World) (hX : Gd X) (h : PathAt X pv u.path) => inner_own u pv X hX h hl hf)
 obtain ⟨da, dn, dc, rfl⟩ := path_sl hp
 obtain ⟨d0, d1, d2, d3, d4, d5, d6, d8, d9, d10, d11, hxd, hx0, hx3, -, -⟩ := adr_named u da dn dc
 have hvd : adrVal u (.slice da dn dc) = .agg #[.string d0, .string d1, .string d2, .string d3, .bool d4, .int .i64 d5, .bool d6, .slice da dn dc, .string d8, .string d9, .bool d10, .bool d11] := by unfold adrVal; rw [hxd]
 rw [hvd] at HIn ⊢
 obtain ⟨W1, hW1⟩ : ∃ X, (w.alloc (.cells #[.string d0, .string d1, .string d2, .string d3, .bool d4, .int .i64 d5, .bool d6, .slice da dn dc, .string d8, .string d9, .bool d10, .bool d11] 34)) = X := ⟨_, rfl⟩
 have hbW1 : Below w.heap.size w W1 := by rw [← hW1]; exact (Below.refl _ w).alloc (Nat.le_refl _) _
 have hsW1 : W1.heap.size = w.heap.size + 1 := by rw [← hW1]; simp
 have hAW1 : AdrIn W1 w.heap.size u (.slice da dn dc) := by
  unfold AdrIn
  rw [hxd, ← hW1]
  exact heap_alloc_new w _
 have HB1 := hid hbW1
 have HG1 := hid (hg.kept hbW1)
 have HP1 := hid (hp.kept hbW1)
 obtain ⟨y0, y1, y2, y3, y4, y5, y6, y7, y8, y9, y10, y11⟩ := adr_twelve hxd hAW1
 have HNe := hid (fun w => near_any d3 w (by rw [Lib.size_eq, hx3]; omega))
 rw [hx3] at HNe
 obtain ⟨q1, eq1⟩ : ∃ q, (d0.toList == [104, 116, 116, 112, 115]) = q := ⟨_, rfl⟩
 obtain ⟨q2, eq2⟩ : ∃ q, (d0.toList == [119, 115, 115]) = q := ⟨_, rfl⟩
 obtain ⟨q3, eq3⟩ : ∃ q, (d0.toList == [100, 97, 116, 97]) = q := ⟨_, rfl⟩
 obtain ⟨q4, eq4⟩ : ∃ q, (d0.toList == [97, 98, 111, 117, 116]) = q := ⟨_, rfl⟩
 obtain ⟨q5, eq5⟩ : ∃ q, (d0.toList == [98, 108, 111, 98]) = q := ⟨_, rfl⟩
 have HV := hid (show trS u t = if (q1 || (q2 || (q3 || q4))) then true else if q5 then t else nearV u.host by
  unfold trS safeS
  rw [← eq1, ← eq2, ← eq3, ← eq4, ← eq5, Lib.toList_data, hx0]
  by_cases h : u.scheme = sBlob
  ·simp [h, sHttps, sWss, sData, sAbout, sBlob]
  ·have : (u.scheme == [98, 108, 111, 98]) = false := beq_eq_false_iff_ne.2 h
   simp [h, this, sHttps, sWss, sData, sAbout])
 have HBl := hid (fun (h : q5 = true) => hb (by rw [h] at eq5; rw [← hx0, ← Lib.toList_data]; exact beq_iff_eq.1 eq5))
 clear hb hx0 hx3 hxd hvd hg hp hl hf hh hbW1 hAW1 hsW1
 cases q1 with
 | true =>
  go_enter Tryz.func69, Tryz.ntmps69
  go_wp2
  go_ret
  exact ⟨ret_bool (by rw [HV.out]; rfl), HB1.out⟩
 | false =>
  cases q2 with
  | true =>
   go_enter Tryz.func69, Tryz.ntmps69
   go_wp2
   go_ret
   exact ⟨ret_bool (by rw [HV.out]; rfl), HB1.out⟩
  | false =>
   cases q3 with
   | true =>
    go_enter Tryz.func69, Tryz.ntmps69
    go_wp2
    go_ret
    exact ⟨ret_bool (by rw [HV.out]; rfl), HB1.out⟩
   | false =>
    cases q4 with
    | true =>
     go_enter Tryz.func69, Tryz.ntmps69
     go_wp2
     go_ret
     exact ⟨ret_bool (by rw [HV.out]; rfl), HB1.out⟩
    | false =>
     cases q5 with
     | true =>
      go_enter Tryz.func69, Tryz.ntmps69
      go_wp2_with fail
      refine (HIn.out _ HG1.out HP1.out).mono ?_
      rintro e w2 ⟨qv, rfl, -, hb2, hp2⟩
      have HG2 := hid (HG1.out.kept hb2)
      have HB2 := hid (below2 HB1.out hb2)
      have HP2 := hid hp2
      clear hb2 hp2
      generalize innV u = V at HBl HP2 ⊢
      go_wp2_with fail
      refine (HBl.out trivial _ _ HG2.out HP2.out).mono ?_
      rintro e w3 ⟨rfl, hb3⟩
      go_wp2
      go_ret
      exact ⟨ret_bool (by rw [HV.out]; rfl), below2 HB2.out hb3⟩
     | false =>
      go_enter Tryz.func69, Tryz.ntmps69
      go_wp2_with fail
      refine (HNe.out _).mono ?_
      rintro e w2 ⟨rfl, hb2⟩
      go_wp2
      go_ret
      exact ⟨ret_bool (by rw [HV.out]; rfl), below2 HB1.out hb2⟩

theorem trusted_n : ∀ (n : Nat) (u : Adr) (pv : Value) (w : World), mT u ≤ n → Gd w → PathAt w pv u.path → TrOk u →
  Calls Tryz.prog 69 #[adrVal u pv] w fun e w' => e = .returned (.bool (trN n u)) ∧ Below w.heap.size w w' := by
 intro n
 induction n with
 | zero =>
  intro u pv w hn hg hp ht
  have hne : u.scheme ≠ sBlob := fun h => by have := mT_inn h; omega
  have := trusted_step u pv w false hg hp ht.1 ht.2.1 ht.2.2 (fun h => absurd h hne)
  have e : trS u false = trN 0 u := by
   unfold trS trN
   cases safeS u.scheme with
   | true => rfl
   | false => rw [if_neg (by decide), if_neg hne]; rfl
  rw [e] at this
  exact this
 | succ n ih =>
  intro u pv w hn hg hp ht
  have := trusted_step u pv w (trN n (innV u)) hg hp ht.1 ht.2.1 ht.2.2 (fun h qv X hX hP => ih (innV u) qv X (by have := mT_inn h; omega) hX hP (inn_tr u))
  exact this

theorem trusted_any (u : Adr) (pv : Value) (w : World) (hg : Gd w) (hp : PathAt w pv u.path) (ht : TrOk u) :
  Calls Tryz.prog 69 #[adrVal u pv] w fun e w' => e = .returned (.bool (trustV u)) ∧ Below w.heap.size w w' := trusted_n _ u pv w (Nat.le_refl _) hg hp ht

end Go.Proofs.YtgoefeaopegdoaaGreatDoor
