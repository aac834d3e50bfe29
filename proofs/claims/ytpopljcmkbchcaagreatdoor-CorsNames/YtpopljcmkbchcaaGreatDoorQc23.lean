/-
  Walks and plain facts that this claim leans on, put together out of 13 texts: Ytx, Yk, Ym, Yn, Era, Erf, Erh, Eri, Ewa, Erc, Erd, Ewd, Eye.
-/
import Derived.Test.YtpopljcmkbchcaaGreatDoorProg
import Derived.Test.YtpopljcmkbchcaaGreatDoorQc1
import Derived.Test.YtpopljcmkbchcaaGreatDoorQc3
import Derived.Test.YtpopljcmkbchcaaGreatDoorQc8
import Derived.Test.YtpopljcmkbchcaaGreatDoorQc9
import Derived.Test.YtpopljcmkbchcaaGreatDoorQc10
import Derived.Test.YtpopljcmkbchcaaGreatDoorQc11
import Derived.Test.YtpopljcmkbchcaaGreatDoorQc12
import Derived.Test.YtpopljcmkbchcaaGreatDoorQc13
import Derived.Test.YtpopljcmkbchcaaGreatDoorQc16
import Derived.Test.YtpopljcmkbchcaaGreatDoorQc20
import Derived.Test.YtpopljcmkbchcaaGreatDoorQc22
import Derived.Lib.IndexMore
import Derived.Lib.Join
import Derived.Lib.LastIndexByte
import Derived.WalkKit
import Derived.Lib.Strings
import Derived.Lib.UnsafeStr
import Derived.Laws.IdiomStrings
import Derived.Laws.AppendOwn
import Derived.Laws.BitsAllLaws
import Derived.Lib.Bytealg
import Derived.Lib.BufferMore
import Derived.Lib.BufferRead
import Derived.Lib.RuneBytes
import Derived.Laws.RangeAny
import Derived.LoopN
import Derived.RegionTactic
import Derived.Deep.RegionWith
import Derived.Deep.QuietTactic
import Derived.BigQuiet
import Derived.OwnWalk
import Derived.Deep.RegionLaw
import Derived.Laws.OwnMore
import Derived.Deep.LoopGhost
import Derived.Shelf.Strings.Builder1
import Derived.Shelf.Strings.Builder2
import Derived.Shelf.Strings.OnBuilder
import Derived.Shelf.Strings.Trim
import Derived.Shelf.Small.Utf8
import Derived.Shelf.Small.Bits
import Derived.Shelf.Small.Strs
import Derived.Shelf.Small.Wraps
import Derived.Shelf.Strings.BuilderF
import Derived.Shelf.Strings.BuilderK
import Derived.Shelf.Strings.BuilderRune
import Derived.Shelf.Utf8.AppendRune
import Derived.Shelf.Utf8.AppendRunePlain
import Derived.Shelf.Strings.Builder2Cap
import Derived.Shelf.Strconv.Itoa0
import Derived.Shelf.Strconv.Itoa1
import Derived.Shelf.LaysM
import Derived.Shelf.Strconv.Itoa2
import Derived.Shelf.Strconv.Itoa3
import Derived.Shelf.Strings.Search1
import Derived.Shelf.Strings.Search2
import Derived.Shelf.Strings.Cut
import Derived.Shelf.Strings.Shaped
import Derived.Shelf.Sort.Plain
import Derived.Shelf.Strings.Prefix
import Derived.Shelf.Unicode.Latin
import Derived.Shelf.Strings.Runes
import Derived.Shelf.Strings.IndexAny
import Derived.Shelf.Strings.AsciiSet
import Derived.Shelf.Strings.IndexAnyAll
import Derived.Shelf.Unicode.DecodeSlow
import Derived.Shelf.Unicode.DecodeAny
import Derived.Shelf.Unicode.DecodeLast
import Derived.Shelf.Unicode.CaseLookup
import Derived.Shelf.Unicode.CaseConvert
import Derived.Shelf.Unicode.CaseTo
import Derived.Shelf.Unicode.CaseLaid
import Derived.Shelf.Slices.CompactS
import Derived.Shelf.Slices.In.SortNone
import Derived.BigRegion
import Derived.Laws.AppendOwnNone
import Derived.Deep.Cut
import Derived.Scope
import Derived.ScopeJumps
import Derived.WalkMore
import Derived.Lib.IndexAny
import Derived.Lib.Replace
import Derived.Lib.TrimByte
import Derived.Lib.ItoaNum
import Derived.Lib.DecodeN
import Derived.Lib.OthersKept
import Derived.Laws.BytesString
import Derived.Deep.WholeRow
import Derived.Lib.AppendStr
import Derived.Deep.RegionHeld
import Derived.WalkSpells
import Derived.WalkLawsBesides
import Derived.Lib.AppendIntMem
import Derived.Lib.SmallJoins
import Derived.WalkSmall
import Derived.Laws.CopyOwn
import Derived.Laws.ResultCell
import Derived.Deep.MidRow
import Derived.Lib.FrozenHead2
import Derived.Lib.Builder
import Derived.Laws.Runes
import Derived.Lib.SlTrimSet
import Derived.Below
import Derived.Shelf.Strings.SlTrimAscii
set_option linter.unusedSimpArgs false
set_option linter.unusedVariables false

namespace Go.Proofs.YtpopljcmkbchcaaGreatDoor
open Go.RowKit

def textO (o : Org) : List UInt8 := if o.opq then [110, 117, 108, 108] else o.scheme ++ [58, 47, 47] ++ o.host ++ (if o.port = ownV o.scheme then [] else [58] ++ portT o.port)

set_option maxHeartbeats 8000000 in
set_option maxRecDepth 100000 in
theorem textO_any (o : Org) (w : World) (hg : Gd w) (hs : o.scheme.length ≤ 1000000) (hh : o.host.length ≤ 1000000) (hp : o.opq = false → 0 ≤ o.port ∧ o.port ≤ 65535) :
  Calls Tryz.prog 92 #[orgVal o] w fun e w' => e = .returned (.string ⟨(textO o).toArray⟩) ∧ Below w.heap.size w w' := by
 obtain ⟨sa, ah, ap, ao⟩ := o
 obtain ⟨AS, rfl⟩ : ∃ X : ByteArray, sa = X.data.toList := ⟨⟨sa.toArray⟩, rfl⟩
 obtain ⟨AH, rfl⟩ : ∃ X : ByteArray, ah = X.data.toList := ⟨⟨ah.toArray⟩, rfl⟩
 rw [show orgVal ⟨AS.data.toList, AH.data.toList, ap, ao⟩ = .agg #[.string AS, .string AH, .int .i64 ap, .bool ao] from rfl]
 have hss : AS.size ≤ 1000000 := by rw [Lib.size_eq]; exact hs
 have hhs : AH.size ≤ 1000000 := by rw [Lib.size_eq]; exact hh
 obtain ⟨T1, hT1⟩ : ∃ Z : ByteArray, AS ++ (⟨#[58, 47, 47]⟩ : ByteArray) = Z := ⟨_, rfl⟩
 have hT1l : T1.data.toList = AS.data.toList ++ [58, 47, 47] := by rw [← hT1, ByteArray.data_append, Array.toList_append]
 have hT1s : T1.size ≤ 1000003 := by rw [Lib.size_eq, hT1l, List.length_append, ← Lib.size_eq]; simp; omega
 obtain ⟨T2, hT2⟩ : ∃ Z : ByteArray, T1 ++ AH = Z := ⟨_, rfl⟩
 have hT2l : T2.data.toList = AS.data.toList ++ [58, 47, 47] ++ AH.data.toList := by rw [← hT2, ByteArray.data_append, Array.toList_append, hT1l]
 have hT2s : T2.size ≤ 2000003 := by rw [Lib.size_eq, ← hT2, ByteArray.data_append, Array.toList_append, List.length_append, ← Lib.size_eq, ← Lib.size_eq]; omega
 obtain ⟨PT, hPT⟩ : ∃ X : ByteArray, X = ⟨(portT ap).toArray⟩ := ⟨_, rfl⟩
 have hPl : PT.data.toList = portT ap := by rw [hPT]
 have hPs : PT.size ≤ 100 := by rw [hPT]; exact portT_le ap
 obtain ⟨T3, hT3⟩ : ∃ Z : ByteArray, (⟨#[58]⟩ : ByteArray) ++ PT = Z := ⟨_, rfl⟩
 have hT3l : T3.data.toList = [58] ++ portT ap := by rw [← hT3, ByteArray.data_append, Array.toList_append, hPl]
 have hT3s : T3.size ≤ 101 := by rw [Lib.size_eq, hT3l, ← hPl, List.length_append, ← Lib.size_eq]; simp; omega
 obtain ⟨T4, hT4⟩ : ∃ Z : ByteArray, T2 ++ T3 = Z := ⟨_, rfl⟩
 have HT4 := hid (show T4.data.toList = AS.data.toList ++ [58, 47, 47] ++ AH.data.toList ++ ([58] ++ portT ap) by rw [← hT4, ByteArray.data_append, Array.toList_append, hT2l, hT3l])
 have HT2 := hid hT2l
 obtain ⟨W, hW⟩ : ∃ W, (w.alloc (.cells #[.string AS, .string AH, .int .i64 ap, .bool ao] 71)) = W := ⟨_, rfl⟩
 have hbW : Below w.heap.size w W := by rw [← hW]; exact (Below.refl _ w).alloc (Nat.le_refl _) _
 have hrow : W.heap[w.heap.size]? = some (.cells #[.string AS, .string AH, .int .i64 ap, .bool ao] 71 (0, 0)) := by rw [← hW]; exact heap_alloc_new w _
 have h0 : W.cell? ⟨w.heap.size, 0, none⟩ = some (.string AS) := by rw [Lib.cell_of_heap hrow]; rfl
 have h1 : W.cell? ⟨w.heap.size, 1, none⟩ = some (.string AH) := by rw [Lib.cell_of_heap hrow]; rfl
 have h2 : W.cell? ⟨w.heap.size, 2, none⟩ = some (.int .i64 ap) := by rw [Lib.cell_of_heap hrow]; rfl
 have h3 : W.cell? ⟨w.heap.size, 3, none⟩ = some (.bool ao) := by rw [Lib.cell_of_heap hrow]; rfl
 have HKF := hid (show ∀ Z, Below W.heap.size W Z → Z.cell? ⟨w.heap.size, 0, none⟩ = some (.string AS) ∧ Z.cell? ⟨w.heap.size, 1, none⟩ = some (.string AH) ∧ Z.cell? ⟨w.heap.size, 2, none⟩ = some (.int .i64 ap) ∧ Z.cell? ⟨w.heap.size, 3, none⟩ = some (.bool ao) from fun Z hZ => ⟨keptC h0 hZ, keptC h1 hZ, keptC h2 hZ, keptC h3 hZ⟩)
 have HGW := hid (fun (X : World) (hX : Below W.heap.size W X) => (hg.kept hbW).kept hX)
 have HBW := hid hbW
 have HOw := hid (fun w => own_any AS w)
 obtain ⟨ow, how⟩ : ∃ z, ownV AS.data.toList = z := ⟨_, rfl⟩
 rw [how] at HOw
 have HOwE := hid how
 have HPT := hid hPT
 clear hg hs hh hT1l hT2l hPT hPl hT3l hbW hrow how
 cases ao with
 | true =>
  clear hp
  go_enter Tryz.func92, Tryz.ntmps92
  go_wp2
  go_ret
  exact ⟨rfl, HBW.out⟩
 | false =>
  have HP := hid (hp rfl)
  have HIt : Hid (∀ (X : World), Below W.heap.size W X → Calls Tryz.prog 143 #[.int .i64 ap] X fun e w' => e = .returned (.string PT) ∧ Below X.heap.size X w') := fun X hX => by rw [HPT.out]; exact itoaP_any ap X (HGW.out _ hX) HP.out.1 HP.out.2
  clear hp
  go_enter Tryz.func92, Tryz.ntmps92
  go_wp2_with fail
  have HQ0 := hid ((Below.refl W.heap.size W).drew)
  refine wp_region_held_drew (S := (fun wx => Below W.heap.size W wx)) (by kernel_rfl) HQ0.out (fun hHeld => ?_)
  refine' wpAnyH_take (i := 0) (oi := ⟨some 12, _, _, _, _, _⟩) (v := _) rfl (by kernel_rfl) (by kernel_rfl) (by kernel_rfl) (fun _ _ _ h => h) (Or.inl ⟨by kernel_rfl, ?hy1⟩) (by assumption) ?rest1
  case hy1 => (intro wx hSw; (try dsimp only at hSw); obtain ⟨k0, k1, k2, k3⟩ := HKF.out _ hSw; go_simp; first | done | with_reducible rfl | (rw [if_neg (by omega)]; with_reducible rfl))
  (try simp only [Act.put, List.setIfInBounds_toArray, List.set_cons_zero, List.set_cons_succ])
  refine' wpAnyH_take (i := 1) (oi := ⟨some 13, _, _, _, _, _⟩) (v := _) rfl (by kernel_rfl) (by kernel_rfl) (by kernel_rfl) (fun _ _ _ h => h) (Or.inl ⟨by kernel_rfl, ?hy2⟩) (by assumption) ?rest2
  case hy2 => (intro wx hSw; (try dsimp only at hSw); obtain ⟨k0, k1, k2, k3⟩ := HKF.out _ hSw; go_simp; first | done | with_reducible rfl | (rw [if_neg (by omega)]; with_reducible rfl))
  (try simp only [Act.put, List.setIfInBounds_toArray, List.set_cons_zero, List.set_cons_succ])
  refine' wpAnyH_take (i := 2) (oi := ⟨some 14, _, _, _, _, _⟩) (v := _) rfl (by kernel_rfl) (by kernel_rfl) (by kernel_rfl) (fun _ _ _ h => h) (Or.inl ⟨by kernel_rfl, ?hy3⟩) (by assumption) ?rest3
  case hy3 => (intro wx hSw; (try dsimp only at hSw); obtain ⟨k0, k1, k2, k3⟩ := HKF.out _ hSw; go_simp; first | done | with_reducible rfl | (rw [if_neg (by omega)]; with_reducible rfl))
  (try simp only [Act.put, List.setIfInBounds_toArray, List.set_cons_zero, List.set_cons_succ])
  refine' wpAnyH_take (i := 3) (oi := ⟨some 15, _, _, _, _, _⟩) (v := _) rfl (by kernel_rfl) (by kernel_rfl) (by kernel_rfl) (fun _ _ _ h => h) (Or.inl ⟨by kernel_rfl, ?hy4⟩) (by assumption) ?rest4
  case hy4 => (intro wx hSw; (try dsimp only at hSw); obtain ⟨k0, k1, k2, k3⟩ := HKF.out _ hSw; go_simp; first | done | with_reducible rfl | (rw [if_neg (by omega)]; with_reducible rfl))
  (try simp only [Act.put, List.setIfInBounds_toArray, List.set_cons_zero, List.set_cons_succ])
  refine wpAnyH_ready (rs := [4]) (by kernel_rfl) (by simp) ?_
  refine AllReadyH.cons rfl (fun K hK => ?_) AllReadyH.nil
  rw [if_pos (by kernel_rfl)]
  go_simp
  go_wp2_with (go_at_call 142; refine (HOw.out _).mono ?_; rintro e wz ⟨rfl, hwz⟩; rw [← hwz]; clear hwz)
  refine hK.out _ _ HQ0.out (fun hHeld2 => ?_)
  clear hK K hHeld
  rename _ => hHeld
  by_cases hpo : ap = ow
  ·have hpo' : (ap != ow) = false := by rw [hpo]; exact bne_self_eq_false ow
   have HZ := hid (show textO ⟨AS.data.toList, AH.data.toList, ap, false⟩ = AS.data.toList ++ [58, 47, 47] ++ AH.data.toList by unfold textO; simp [hpo, HOwE.out])
   clear hpo
   refine' wpAnyH_take (i := 5) (oi := ⟨some 17, _, _, _, _, _⟩) (v := _) rfl (by kernel_rfl) (by kernel_rfl) (by kernel_rfl) (fun _ _ _ h => h) (Or.inl ⟨by kernel_rfl, ?hy5⟩) (by assumption) ?rest5
   case hy5 => (intro wx hSw; (try dsimp only at hSw); obtain ⟨k0, k1, k2, k3⟩ := HKF.out _ hSw; go_simp; first | done | with_reducible rfl | (rw [if_neg (by omega)]; with_reducible rfl))
   (try simp only [Act.put, List.setIfInBounds_toArray, List.set_cons_zero, List.set_cons_succ])
   refine wpAnyH_done (by kernel_rfl) ?_ _
   go_wp2
   go_ret
   exact ⟨ret_str' (by refine ba_ext ?_; rw [HT2.out, HZ.out]), below2 HBW.out HQ0.out⟩
  ·have hpo' : (ap != ow) = true := bne_iff_ne.2 hpo
   have HZ := hid (show textO ⟨AS.data.toList, AH.data.toList, ap, false⟩ = AS.data.toList ++ [58, 47, 47] ++ AH.data.toList ++ ([58] ++ portT ap) by unfold textO; simp [hpo, HOwE.out])
   clear hpo
   refine' wpAnyH_take (i := 5) (oi := ⟨some 17, _, _, _, _, _⟩) (v := _) rfl (by kernel_rfl) (by kernel_rfl) (by kernel_rfl) (fun _ _ _ h => h) (Or.inl ⟨by kernel_rfl, ?hy6⟩) (by assumption) ?rest6
   case hy6 => (intro wx hSw; (try dsimp only at hSw); obtain ⟨k0, k1, k2, k3⟩ := HKF.out _ hSw; go_simp; first | done | with_reducible rfl | (rw [if_neg (by omega)]; with_reducible rfl))
   (try simp only [Act.put, List.setIfInBounds_toArray, List.set_cons_zero, List.set_cons_succ])
   refine wpAnyH_done (by kernel_rfl) ?_ _
   obtain ⟨k0, k1, k2, k3⟩ := HKF.out _ HQ0.out
   go_wp2_with fail
   refine (HIt.out _ HQ0.out).mono ?_
   rintro e w5 ⟨rfl, hb5⟩
   go_wp2
   go_ret
   exact ⟨ret_str' (by refine ba_ext ?_; rw [HT4.out, HZ.out]), below2 HBW.out (below2 HQ0.out hb5)⟩

end Go.Proofs.YtpopljcmkbchcaaGreatDoor

namespace Go.Proofs.YtpopljcmkbchcaaGreatDoor
theorem w_drop_no (p : UInt8 → Bool) (l : List UInt8) (h : ∀ c ∈ l, p c = false) : l.dropWhile p = l := by
 cases l with
 | nil => rfl
 | cons c l => rw [List.dropWhile_cons, h c (by simp)]; rfl

theorem w_clean_id (l : List UInt8) (h : ∀ c ∈ l, 33 ≤ c.toNat) : cleanV l = l := by
 have hw : ∀ c ∈ l, wsC c = false := fun c hc => by unfold wsC; rw [decide_eq_false]; have := h c hc; omega
 unfold cleanV trimV
 rw [w_drop_no wsC l hw, w_drop_no wsC l.reverse (fun c hc => hw c (by simpa using hc)), List.reverse_reverse, List.filter_eq_self]
 intro c hc
 have := h c hc
 unfold eyeC
 simp only [Bool.not_eq_true', Bool.or_eq_false_iff, beq_eq_false_iff_ne]
 refine ⟨?_, ?_, ?_⟩ <;> (intro e; subst e; revert this; decide)

theorem w_take_yes (p : UInt8 → Bool) (l : List UInt8) (h : ∀ c ∈ l, p c = true) : l.takeWhile p = l := by
 induction l with
 | nil => rfl
 | cons c l ih => rw [List.takeWhile_cons, h c (by simp), if_pos rfl, ih fun d hd => h d (by simp [hd])]

theorem w_drop_yes (p : UInt8 → Bool) (l : List UInt8) (h : ∀ c ∈ l, p c = true) : l.dropWhile p = [] := by
 induction l with
 | nil => rfl
 | cons c l ih => rw [List.dropWhile_cons, h c (by simp), if_pos rfl, ih fun d hd => h d (by simp [hd])]

theorem ahead_all (ends l : List UInt8) (h : ∀ c ∈ l, c ∉ ends) : aheadV ends l = (l, []) := by
 have key : ∀ c ∈ l, (!ends.contains c) = true := fun c hc => by simp [h c hc]
 unfold aheadV
 rw [w_take_yes _ l key, w_drop_yes _ l key]

theorem ahead_at (ends a : List UInt8) (c : UInt8) (r : List UInt8) (h : ∀ c ∈ a, c ∉ ends) (hc : c ∈ ends) : aheadV ends (a ++ c :: r) = (a, c :: r) := by
 have hk : (!ends.contains c) = false := by simp [hc]
 have key : ∀ x ∈ a, (!ends.contains x) = true := fun x hx => by simp [h x hx]
 unfold aheadV
 congr 1
 ·rw [takeWhile_stop _ c hk, w_take_yes _ a key]
 ·induction a with
  | nil => rw [List.nil_append, List.dropWhile_cons, hk]; rfl
  | cons x a ih => rw [List.cons_append, List.dropWhile_cons, key x (by simp), if_pos rfl]; exact ih (fun d hd => h d (by simp [hd])) (fun d hd => key d (by simp [hd]))

theorem colN_plain : ∀ (l : List UInt8) (i k : Nat), (∀ c ∈ l, c ≠ 58 ∧ c ≠ 91) → colN false i k l = k
 | [], i, k, h => rfl
 | c :: l, i, k, h => by
  rw [colN, if_neg (h c (by simp)).1, if_neg (h c (by simp)).2]
  exact colN_plain l (i + 1) k fun d hd => h d (by simp [hd])

theorem colN_at11 : ∀ (a t : List UInt8) (i k : Nat), (∀ c ∈ a, c ≠ 58 ∧ c ≠ 91) → (∀ c ∈ t, c ≠ 58 ∧ c ≠ 91) → colN false i k (a ++ 58 :: t) = i + a.length
 | [], t, i, k, _, h => by
  rw [List.nil_append, colN, if_pos rfl, colN_plain t _ _ h]; rfl
 | c :: a, t, i, k, h1, h2 => by
  rw [List.cons_append, colN, if_neg (h1 c (by simp)).1, if_neg (h1 c (by simp)).2, colN_at11 a t (i + 1) k (fun d hd => h1 d (by simp [hd])) h2]
  simp; omega

def paC (c : UInt8) : Bool := decide (33 ≤ c.toNat) && (c != 35 && (c != 63 && c != 92))

def hnC (c : UInt8) : Bool := (decide (97 ≤ c.toNat) && decide (c.toNat ≤ 122)) || ((decide (65 ≤ c.toNat) && decide (c.toNat ≤ 90)) || ((decide (48 ≤ c.toNat) && decide (c.toNat ≤ 57)) || c == 46))

end Go.Proofs.YtpopljcmkbchcaaGreatDoor

namespace Go.Proofs.YtpopljcmkbchcaaGreatDoor
def WrQ (T : List UInt8) : Prop := ∃ r : List UInt8, T = 113 :: r ∧ ∀ c ∈ r, 97 ≤ c.toNat ∧ c.toNat ≤ 122

theorem WrQ.mem {T : List UInt8} (h : WrQ T) : ∀ c ∈ T, 97 ≤ c.toNat ∧ c.toNat ≤ 122 := fun c hc => by
 obtain ⟨r, rfl, hr⟩ := h
 rcases List.mem_cons.1 hc with rfl | hc
 ·decide
 ·exact hr c hc

theorem WrQ.start : WrQ [113] := ⟨[], rfl, fun c hc => by simp at hc⟩

theorem small_facts (c : UInt8) (h : 97 ≤ c.toNat ∧ c.toNat ≤ 122) : lowC c = c ∧ hnC c = true ∧ c ≠ 46 ∧ c ≠ 47 ∧ c ≠ 58 ∧ c ≠ 37 ∧ paC c = true ∧ inSetI c.toNat 5 = false ∧ c ≠ 42 ∧ c ≠ 39 := by
 have key : ∀ n < 256, (97 ≤ n ∧ n ≤ 122) → lowC (UInt8.ofNat n) = UInt8.ofNat n ∧ hnC (UInt8.ofNat n) = true ∧ UInt8.ofNat n ≠ 46 ∧ UInt8.ofNat n ≠ 47 ∧ UInt8.ofNat n ≠ 58 ∧ UInt8.ofNat n ≠ 37 ∧ paC (UInt8.ofNat n) = true ∧ inSetI n 5 = false ∧ UInt8.ofNat n ≠ 42 ∧ UInt8.ofNat n ≠ 39 := by decide +kernel
 have e : UInt8.ofNat c.toNat = c := by simp
 have := key c.toNat c.toNat_lt h
 rw [e] at this
 exact this

theorem WrQ.low {T : List UInt8} (h : WrQ T) : low T = T := low_plain _ fun c hc => (small_facts c (h.mem c hc)).1

def prt (n : Nat) : Int := if (n : Int) = 443 then -1 else n

end Go.Proofs.YtpopljcmkbchcaaGreatDoor

namespace Go.Proofs.YtpopljcmkbchcaaGreatDoor
def Lets (T : List UInt8) : Prop := T ≠ [] ∧ ∀ c ∈ T, 97 ≤ c.toNat ∧ c.toNat ≤ 122

theorem Lets.no {T : List UInt8} (h : Lets T) : 47 ∉ T ∧ 58 ∉ T ∧ 37 ∉ T := ⟨fun e => (small_facts 47 (h.2 47 e)).2.2.2.1 rfl, fun e => (small_facts 58 (h.2 58 e)).2.2.2.2.1 rfl, fun e => (small_facts 37 (h.2 37 e)).2.2.2.2.2.1 rfl⟩

theorem Lets.unpct {T : List UInt8} (h : Lets T) : unpct T = T := unpct_plain T h.no.2.2

theorem Lets.pct {T : List UInt8} (h : Lets T) : pct 5 T = T := by
 have key : ∀ l : List UInt8, (∀ c ∈ l, 97 ≤ c.toNat ∧ c.toNat ≤ 122) → Go.Proofs.YtpopljcmkbchcaaGreatDoor.pct 5 l = l := by
  intro l
  induction l with
  | nil => intro _; rfl
  | cons c l ih =>
   intro hl
   unfold Go.Proofs.YtpopljcmkbchcaaGreatDoor.pct at ih ⊢
   rw [List.flatMap_cons, ih fun d hd => hl d (by simp [hd])]
   unfold pct1
   rw [(small_facts c (hl c (by simp))).2.2.2.2.2.2.2.1]
   rfl
 exact key T h.2

theorem Lets.dots {T : List UInt8} (h : Lets T) : dotsV T = 0 := by
 unfold dotsV
 rw [h.unpct]
 have h46 : 46 ∉ T := fun e => (small_facts 46 (h.2 46 e)).2.2.1 rfl
 rw [if_neg (fun e => h46 (by rw [e]; simp)), if_neg (fun e => h46 (by rw [e]; simp))]

end Go.Proofs.YtpopljcmkbchcaaGreatDoor

namespace Go.Proofs.YtpopljcmkbchcaaGreatDoor
def pbC (c : UInt8) : Bool := decide (33 ≤ c.toNat) && (c != 35 && c != 63)

theorem d_1 : dotsV [46] = 1 ∧ dotsV [46, 46] = 2 ∧ dotsV [37, 50, 69, 37, 50, 101] = 2 ∧ dotsV [37, 50, 101] = 1 := by decide +kernel

def OkP (l : List UInt8) : Prop := ∀ c ∈ l, pbC c = true ∧ c ≠ 92

theorem OkP.app {a b : List UInt8} (ha : OkP a) (hb : OkP b) : OkP (a ++ b) := fun c hc => (List.mem_append.1 hc).elim (ha c) (hb c)

theorem dots0 : dotsV [] = 0 ∧ pct 5 [] = [] := by decide +kernel

end Go.Proofs.YtpopljcmkbchcaaGreatDoor

namespace Go.Proofs.YtpopljcmkbchcaaGreatDoor
theorem drop_stop {α : Type} (p : α → Bool) (y : α) (hy : p y = false) (b : List α) : ∀ a : List α, (a ++ y :: b).dropWhile p = a.dropWhile p ++ y :: b
 | [] => by simp [List.dropWhile_cons, hy]
 | c :: a => by
  rw [List.cons_append, List.dropWhile_cons, List.dropWhile_cons]
  cases p c with
  | true => simp only [if_pos]; exact drop_stop p y hy b a
  | false => rfl

end Go.Proofs.YtpopljcmkbchcaaGreatDoor

namespace Go.Proofs.YtpopljcmkbchcaaGreatDoor
def seeC (c : UInt8) : Bool := decide (33 ≤ c.toNat) && decide (c.toNat ≤ 126)

def seeB (c : UInt8) : Bool := decide (32 ≤ c.toNat) && decide (c.toNat ≤ 126)

theorem seeC_B {c : UInt8} (h : seeC c = true) : seeB c = true := by
 unfold seeC at h
 unfold seeB
 rw [Bool.and_eq_true, decide_eq_true_iff, decide_eq_true_iff] at h ⊢
 omega

def hoC (c : UInt8) : Bool := seeC c && (c != 35 && (c != 47 && (c != 63 && (c != 64 && c != 92))))

theorem u8_all {P : UInt8 → Bool} (h : ∀ n < 256, P (UInt8.ofNat n) = true) (c : UInt8) : P c = true := by
 have := h c.toNat c.toNat_lt
 rwa [show UInt8.ofNat c.toNat = c by simp] at this

theorem pct1_see (c : UInt8) : ((pct1 2 c).all seeC && ((pct1 3 c).all seeC && ((pct1 4 c).all seeC && ((pct1 5 c).all seeC && ((pct1 6 c).all seeC && (pct1 1 c).all seeB))))) = true :=
 u8_all (P := fun c => ((pct1 2 c).all seeC && ((pct1 3 c).all seeC && ((pct1 4 c).all seeC && ((pct1 5 c).all seeC && ((pct1 6 c).all seeC && (pct1 1 c).all seeB)))))) (by decide +kernel) c

theorem pct_all (k : Int) (P : UInt8 → Bool) (h : ∀ c, (pct1 k c).all P = true) (l : List UInt8) : ∀ c ∈ pct k l, P c = true := fun c hc => by
 unfold pct at hc
 obtain ⟨d, -, hd⟩ := List.mem_flatMap.1 hc
 exact List.all_eq_true.1 (h d) c hd

theorem pct_see (k : Int) (hk : k = 2 ∨ k = 3 ∨ k = 4 ∨ k = 5 ∨ k = 6) (l : List UInt8) : ∀ c ∈ pct k l, seeC c = true := by
 apply pct_all
 intro c
 have := pct1_see c
 simp only [Bool.and_eq_true] at this
 rcases hk with rfl | rfl | rfl | rfl | rfl
 ·exact this.1
 ·exact this.2.1
 ·exact this.2.2.1
 ·exact this.2.2.2.1
 ·exact this.2.2.2.2.1

theorem pct_seeB (l : List UInt8) : ∀ c ∈ pct 1 l, seeB c = true := by
 apply pct_all
 intro c
 have := pct1_see c
 simp only [Bool.and_eq_true] at this
 exact this.2.2.2.2.2



theorem digC_ho (n : Nat) (h : n < 16) : hoC (digC n) = true := by
 have : ∀ n < 16, hoC (digC n) = true := by decide +kernel
 exact this n h

theorem digsN_ho : ∀ (f n : Nat) (acc : List UInt8), (∀ c ∈ acc, hoC c = true) → ∀ c ∈ digsN 16 f n acc, hoC c = true
 | 0, n, acc, h => h
 | f + 1, n, acc, h => by
  rw [digsN]
  split
  ·intro c hc
   rcases List.mem_cons.1 hc with rfl | hc
   ·exact digC_ho n (by omega)
   ·exact h c hc
  ·exact digsN_ho f _ _ fun c hc => by
    rcases List.mem_cons.1 hc with rfl | hc
    ·exact digC_ho _ (Nat.mod_lt _ (by omega))
    ·exact h c hc

theorem joined_ho : ∀ (x : List Nat), ∀ c ∈ joined x, hoC c = true
 | [] => by rw [joined_nil]; simp
 | [n] => by rw [joined_one]; exact digsN_ho 4 n [] (by simp)
 | a :: b :: l => by
  rw [joined_cons]
  intro c hc
  rcases List.mem_append.1 hc with hc | hc
  ·exact digsN_ho 4 a [] (by simp) c hc
  ·rcases List.mem_append.1 hc with hc | hc
   ·obtain rfl := List.mem_singleton.1 hc; decide
   ·exact joined_ho (b :: l) c hc

theorem text6_ho (x : List Nat) : ∀ c ∈ text6 x, hoC c = true := by
 unfold text6
 split
 ·exact joined_ho x
 ·intro c hc
  rcases List.mem_append.1 hc with hc | hc
  ·exact joined_ho _ c hc
  ·rcases List.mem_append.1 hc with hc | hc
   ·rcases List.mem_cons.1 hc with rfl | hc
    ·decide
    ·obtain rfl := List.mem_singleton.1 hc; decide
   ·exact joined_ho _ c hc

theorem dec8_ho (n : Nat) (h : n < 256) : ∀ c ∈ dec8 n, hoC c = true := by
 have : ∀ n < 256, ∀ c ∈ dec8 n, hoC c = true := by decide +kernel
 exact this n h

theorem text4_ho (n : Nat) : ∀ c ∈ text4 n, hoC c = true := by
 unfold text4
 intro c hc
 have hm : ∀ k : Nat, k % 256 < 256 := fun k => Nat.mod_lt _ (by decide)
 rcases List.mem_append.1 hc with hc | hc
 ·exact dec8_ho _ (hm _) c hc
 ·rcases List.mem_cons.1 hc with rfl | hc
  ·decide
  ·rcases List.mem_append.1 hc with hc | hc
   ·exact dec8_ho _ (hm _) c hc
   ·rcases List.mem_cons.1 hc with rfl | hc
    ·decide
    ·rcases List.mem_append.1 hc with hc | hc
     ·exact dec8_ho _ (hm _) c hc
     ·rcases List.mem_cons.1 hc with rfl | hc
      ·decide
      ·exact dec8_ho _ (hm _) c hc

theorem nameB_ho (c : UInt8) (h : nameB c = true) : hoC c = true := by
 have := u8_all (P := fun c => !nameB c || hoC c) (by decide +kernel) c
 simp only [Bool.or_eq_true, Bool.not_eq_true'] at this
 rcases this with h' | h'
 ·rw [h] at h'; cases h'
 ·exact h'

theorem seeB_ho (c : UInt8) (h : seeB c = true) (hf : forb c = false) : hoC c = true := by
 have := u8_all (P := fun c => !seeB c || (forb c || hoC c)) (by decide +kernel) c
 simp only [Bool.or_eq_true, Bool.not_eq_true'] at this
 rcases this with h' | h' | h'
 ·rw [h] at h'; cases h'
 ·rw [hf] at h'; cases h'
 ·exact h'

theorem host_ho {l a : List UInt8} {b : Bool} (h : parseV l b = some a) : ∀ c ∈ a, hoC c = true := by
 unfold parseV at h
 split at h
 ·unfold bracketV at h
  split at h
  ·cases hs : sixV (Lib.trimSuffix (l.drop 1) [93]) with
   | none => rw [hs] at h; cases h
   | some x =>
    rw [hs] at h
    simp only [Option.map_some, Option.some.injEq] at h
    rw [← h]
    intro c hc
    rcases List.mem_cons.1 hc with rfl | hc
    ·decide
    ·rcases List.mem_append.1 hc with hc | hc
     ·exact text6_ho x c hc
     ·obtain rfl := List.mem_singleton.1 hc; decide
  ·cases h
 ·split at h
  ·unfold nameV at h
   split at h
   ·cases h
   ·rename_i hn
    split at h
    ·cases hf : fourV (low (unpct l)) with
     | none => rw [hf] at h; cases h
     | some n =>
      rw [hf] at h
      simp only [Option.map_some, Option.some.injEq] at h
      rw [← h]
      exact text4_ho n
    ·simp only [Option.some.injEq] at h
     rw [← h]
     intro c hc
     have : allN (low (unpct l)) = true := by
      cases he : allN (low (unpct l)) with
      | true => rfl
      | false => exact absurd (.inr (.inl he)) hn
     exact nameB_ho c (List.all_eq_true.1 this c hc)
  ·unfold otherV at h
   split at h
   ·cases h
   ·rename_i hn
    simp only [Option.some.injEq] at h
    have hf := pct_forb l (by simpa using hn)
    rw [h] at hf
    intro c hc
    refine seeB_ho c ?_ ?_
    ·rw [← h] at hc; exact pct_seeB l c hc
    ·cases he : forb c with
     | false => rfl
     | true => rw [List.any_eq_true.2 ⟨c, hc, he⟩] at hf; cases hf

theorem hoC_see {c : UInt8} (h : hoC c = true) : seeC c = true := by
 unfold hoC at h
 exact (Bool.and_eq_true _ _ ▸ h : _ ∧ _).1



theorem pct5_dot (p : List UInt8) (q : List UInt8) (hq : q = [46] ∨ q = [46, 46]) (h : pct 5 p = q) : p = q := by
 have h1 : ∀ c : UInt8, pct1 5 c ≠ [] ∧ (pct1 5 c).head? = some (if inSetI c.toNat 5 then 37 else c) := fun c => by
  unfold pct1 esc
  split <;> simp [*]
 have h2 : ∀ c : UInt8, (pct1 5 c).head? = some 46 → c = 46 ∧ pct1 5 c = [46] := fun c hc => by
  rw [(h1 c).2] at hc
  split at hc
  ·injection hc with hc; cases hc
  ·injection hc with hc
   subst hc
   exact ⟨rfl, by decide +kernel⟩
 have step : ∀ (p r : List UInt8), pct 5 p = 46 :: r → ∃ p', p = 46 :: p' ∧ pct 5 p' = r := by
  intro p r e
  cases p with
  | nil => cases e
  | cons c p =>
   have e' : pct1 5 c ++ pct 5 p = 46 :: r := e
   have hh : (pct1 5 c).head? = some 46 := by
    cases hc : pct1 5 c with
    | nil => exact absurd hc (h1 c).1
    | cons d t => rw [hc, List.cons_append] at e'; injection e' with e1 e2; rw [e1]; rfl
   obtain ⟨rfl, e2⟩ := h2 c hh
   rw [e2] at e'
   exact ⟨p, rfl, by simpa using e'⟩
 have nil : ∀ p : List UInt8, pct 5 p = [] → p = [] := by
  intro p e
  cases p with
  | nil => rfl
  | cons c p =>
   have e' : pct1 5 c ++ pct 5 p = [] := e
   exact absurd (List.append_eq_nil_iff.1 e').1 (h1 c).1
 rcases hq with rfl | rfl
 ·obtain ⟨p', rfl, e⟩ := step p _ h
  rw [nil p' e]
 ·obtain ⟨p', rfl, e⟩ := step p _ h
  obtain ⟨p2, rfl, e2⟩ := step p' _ e
  rw [nil p2 e2]

def PartOk (p : List UInt8) : Prop := (∀ c ∈ p, seeC c = true) ∧ p ≠ [46] ∧ p ≠ [46, 46]

theorem part_nil : PartOk [] := ⟨by simp, by simp, by simp⟩

theorem part_pct {p : List UInt8} (h : dotsV p = 0) : PartOk (pct 5 p) := by
 refine ⟨pct_see 5 (.inr (.inr (.inr (.inl rfl)))) p, fun e => ?_, fun e => ?_⟩
 ·have := pct5_dot p [46] (.inl rfl) e
  subst this
  rw [d_1.1] at h; cases h
 ·have := pct5_dot p [46, 46] (.inr rfl) e
  subst this
  rw [d_1.2.1] at h; cases h

theorem step_ok {out : List (List UInt8)} {p : List UInt8} {mo : Bool} (h : ∀ q ∈ out, PartOk q) : ∀ q ∈ stepP out p mo, PartOk q := by
 intro q hq
 rcases dotsV_cases p with h0 | h0 | h0
 ·rw [stepP0 h0] at hq
  rcases List.mem_append.1 hq with hq | hq
  ·exact h q hq
  ·obtain rfl := List.mem_singleton.1 hq; exact part_pct h0
 ·cases mo with
  | true => rw [stepP1 h0] at hq; exact h q hq
  | false =>
   rw [stepP1' h0] at hq
   rcases List.mem_append.1 hq with hq | hq
   ·exact h q hq
   ·obtain rfl := List.mem_singleton.1 hq; exact part_nil
 ·cases mo with
  | true => rw [stepP2 h0] at hq; exact h q (List.dropLast_subset _ hq)
  | false =>
   rw [stepP2' h0] at hq
   rcases List.mem_append.1 hq with hq | hq
   ·exact h q (List.dropLast_subset _ hq)
   ·obtain rfl := List.mem_singleton.1 hq; exact part_nil

theorem pathL_ok : ∀ (L out : List (List UInt8)), (∀ q ∈ out, PartOk q) → ∀ q ∈ pathL out L, PartOk q
 | [], out, h => by rw [pathL]; exact h
 | [p], out, h => by rw [pathL_last]; exact step_ok h
 | p :: q :: r, out, h => by
  rw [pathL_more out p (q :: r) (by simp)]
  exact pathL_ok (q :: r) _ (step_ok h)

theorem stepP_ne (out : List (List UInt8)) (p : List UInt8) : stepP out p false ≠ [] := by
 rcases dotsV_cases p with h0 | h0 | h0
 ·rw [stepP0 h0]; simp
 ·rw [stepP1' h0]; simp
 ·rw [stepP2' h0]; simp

theorem pathL_ne : ∀ (L out : List (List UInt8)), L ≠ [] → pathL out L ≠ []
 | [], out, h => absurd rfl h
 | [p], out, h => by rw [pathL_last]; exact stepP_ne _ _
 | p :: q :: r, out, h => by
  rw [pathL_more out p (q :: r) (by simp)]
  exact pathL_ne (q :: r) _ (by simp)

end Go.Proofs.YtpopljcmkbchcaaGreatDoor

namespace Go.Proofs.YtpopljcmkbchcaaGreatDoor
def AllS (l : List UInt8) : Prop := ∀ c ∈ l, seeC c = true

theorem allS_nil : AllS [] := fun c h => by simp at h

structure Pre3 (u : Adr) : Prop where
 scheme : AllS u.scheme
 user : AllS u.user
 pass : AllS u.pass
 host : ∀ c ∈ u.host, hoC c = true
 port : u.port = -1 ∨ (0 ≤ u.port ∧ u.port ≤ 65535 ∧ u.port ≠ ownV u.scheme ∧ u.hasHost = true)
 query : AllS u.query
 fragment : AllS u.fragment
 noQ : u.hasQuery = false → u.query = []
 noF : u.hasFragment = false → u.fragment = []

structure Good3 (u : Adr) : Prop where
 pre : Pre3 u
 parts : u.opq = false → ∀ p ∈ u.path, PartOk p
 opaque_ : u.opq = true → u.hasHost = false ∧ ∃ x, u.path = [pct 1 x]
 special : specV u.scheme = true → u.host ≠ [] ∧ u.path ≠ [] ∧ u.opq = false

theorem withQuery_cases (u : Adr) (q : List UInt8) : withQuery u q = u ∨ withQuery u q = { u with query := querV (specV u.scheme) (q.drop 1), hasQuery := true } := by
 unfold withQuery
 split
 ·exact .inl rfl
 ·exact .inr rfl

theorem querV_see (sp : Bool) (q : List UInt8) : AllS (querV sp q) := by
 unfold querV
 cases sp with
 | true => exact pct_see 4 (.inr (.inr (.inl rfl))) q
 | false => exact pct_see 3 (.inr (.inl rfl)) q

theorem Good3.query {u : Adr} (h : Good3 u) (q : List UInt8) : Good3 (withQuery u q) := by
 rcases withQuery_cases u q with e | e
 ·rw [e]; exact h
 ·rw [e]
  exact ⟨⟨h.pre.scheme, h.pre.user, h.pre.pass, h.pre.host, h.pre.port, querV_see _ _, h.pre.fragment, (fun e => by cases e), h.pre.noF⟩, h.parts, h.opaque_, h.special⟩

theorem Good3.path {u : Adr} (h : Pre3 u) (ho : u.opq = false) (hs : specV u.scheme = true → u.host ≠ []) (hv : List (List UInt8)) (hok : ∀ q ∈ hv, PartOk q) (r : List UInt8) : Good3 (withPath u hv r) := by
 unfold withPath
 refine Good3.query (u := { u with path := pathV (specV u.scheme) hv (aheadV [63] r).1 }) ⟨⟨h.scheme, h.user, h.pass, h.host, h.port, h.query, h.fragment, h.noQ, h.noF⟩, ?_, ?_, ?_⟩ _
 ·intro _ p hp
  have hp' : p ∈ pathV (specV u.scheme) hv (aheadV [63] r).1 := hp
  unfold pathV at hp'
  split at hp'
  ·simp at hp'
  ·exact pathL_ok _ _ hok p hp'
 ·intro e
  have e' : u.opq = true := e
  rw [ho] at e'; cases e'
 ·intro e
  have e' : specV u.scheme = true := e
  refine ⟨hs e', ?_, ho⟩
  show pathV (specV u.scheme) hv (aheadV [63] r).1 ≠ []
  rw [e']
  unfold pathV
  rw [if_neg (by simp)]
  exact pathL_ne _ _ (cutL_ne _ _)

theorem parseV_ne {l a : List UInt8} (h : parseV l true = some a) : a ≠ [] := by
 intro e
 subst e
 unfold parseV at h
 split at h
 ·unfold bracketV at h
  split at h
  ·cases hs : sixV (Lib.trimSuffix (l.drop 1) [93]) with
   | none => rw [hs] at h; cases h
   | some x => rw [hs] at h; simp at h
  ·cases h
 ·simp only [if_true] at h
  unfold nameV at h
  split at h
  ·cases h
  ·rename_i hn
   split at h
   ·cases hf : fourV (low (unpct l)) with
    | none => rw [hf] at h; cases h
    | some n =>
     rw [hf] at h
     simp only [Option.map_some, Option.some.injEq] at h
     unfold text4 at h
     simp at h
   ·simp only [Option.some.injEq] at h
    exact hn (.inl h)

theorem port_own {own : Int} {t : List UInt8} {p : Int} (h : portV own t = some p) : p = -1 ∨ (0 ≤ p ∧ p ≤ 65535 ∧ p ≠ own) := by
 rcases portV_ok h with h1 | h1
 ·exact .inl h1
 ·unfold portV at h
  split at h
  ·injection h with h; exact .inl h.symm
  ·split at h
   ·injection h with h
    split at h
    ·exact .inl h.symm
    ·rename_i hne
     exact .inr ⟨h1.1, h1.2, by rw [← h]; exact hne⟩
   ·cases h

theorem auth_good {sc s a b h : List UInt8} {p : Int} (e : authV sc s = .ok (a, b, h, p)) : AllS a ∧ AllS b ∧ (∀ c ∈ h, hoC c = true) ∧ (p = -1 ∨ (0 ≤ p ∧ p ≤ 65535 ∧ p ≠ ownV sc)) ∧ (specV sc = true → h ≠ []) := by
 unfold authV at e
 split at e
 ·cases e
 ·rename_i po hpo
  split at e
  ·cases e
  ·rename_i hh hhe
   split at e
   ·cases e
   ·injection e with e
    injection e with e1 e
    injection e with e2 e
    injection e with e3 e4
    subst e1 e2 e3 e4
    refine ⟨pct_see 6 (.inr (.inr (.inr (.inr rfl)))) _, pct_see 6 (.inr (.inr (.inr (.inr rfl)))) _, host_ho hhe, port_own hpo, fun hsp => ?_⟩
    rw [hsp] at hhe
    exact parseV_ne hhe

theorem withAuth_good {u v : Adr} {r : List UInt8} (h : Pre3 u) (ho : u.opq = false) (e : withAuth u r = .ok v) : Good3 v := by
 unfold withAuth at e
 split at e
 ·cases e
 ·rename_i a b hh p hau
  injection e with e
  rw [← e]
  obtain ⟨h1, h2, h3, h4, h5⟩ := auth_good hau
  refine Good3.path (u := { u with user := a, pass := b, host := hh, hasHost := true, port := p }) ⟨h.scheme, h1, h2, h3, ?_, h.query, h.fragment, h.noQ, h.noF⟩ ho h5 [] (by simp) _
  rcases h4 with h4 | ⟨h4, h6, h7⟩
  ·exact .inl h4
  ·exact .inr ⟨h4, h6, h7, rfl⟩

theorem start_good {u v : Adr} {r : List UInt8} (h : Pre3 u) (ho : u.opq = false) (hh : u.hasHost = false) (e : startV u r = .ok v) : Good3 v := by
 unfold startV at e
 split at e
 ·exact withAuth_good h ho e
 ·rename_i hsp
  split at e
  ·exact withAuth_good h ho e
  ·split at e
   ·injection e with e
    rw [← e]
    exact Good3.path h ho (fun e => absurd e hsp) [] (by simp) _
   ·injection e with e
    rw [← e]
    refine Good3.query (u := { u with opq := true, path := [pct 1 (aheadV [63] r).1] }) ⟨⟨h.scheme, h.user, h.pass, h.host, h.port, h.query, h.fragment, h.noQ, h.noF⟩, ?_, ?_, ?_⟩ _
    ·intro e; cases e
    ·intro _
     exact ⟨hh, _, rfl⟩
    ·intro e; exact absurd e hsp

theorem part_false (c : UInt8) : ∀ l : List UInt8, (part c l).2.2 = false → (part c l).2.1 = []
 | [] => fun _ => rfl
 | x :: l => by
  rw [part]
  split
  ·intro h; cases h
  ·exact part_false c l

theorem sch_see {l : List UInt8} (h : schOk l = true) : AllS (low l) := by
 intro c hc
 obtain ⟨d, hd, rfl⟩ := List.mem_map.1 (show c ∈ l.map lowC from hc)
 unfold schOk at h
 rw [Bool.and_eq_true] at h
 have h1 := List.all_eq_true.1 h.2 d hd
 have := u8_all (P := fun c => !schC c || seeC (lowC c)) (by decide +kernel) d
 simp only [Bool.or_eq_true, Bool.not_eq_true'] at this
 rcases this with h' | h'
 ·rw [h1] at h'; cases h'
 ·exact h'

theorem begin_good (s : List UInt8) : Pre3 (beginU s).1 ∧ (beginU s).1.opq = false ∧ (beginU s).1.hasHost = false := by
 unfold beginU
 refine ⟨⟨?_, allS_nil, allS_nil, fun c h => by simp at h, .inl rfl, allS_nil, pct_see 2 (.inl rfl) _, fun _ => rfl, fun e => ?_⟩, rfl, rfl⟩
 ·show AllS ((schemeV (part 35 (cleanV s)).1).getD ([], (part 35 (cleanV s)).1)).1
  unfold schemeV
  split
  ·rename_i hc
   rw [Bool.and_eq_true] at hc
   exact sch_see hc.2
  ·exact allS_nil
 ·have e' : (part 35 (cleanV s)).2.2 = false := e
  show pct 2 (part 35 (cleanV s)).2.1 = []
  rw [part_false 35 _ e']
  rfl

theorem read_good {s : List UInt8} {u : Adr} (e : readV s none = .ok u) : Good3 u := by
 obtain ⟨h1, h2, h3⟩ := begin_good s
 unfold readV at e
 split at e
 ·cases e
 ·simp only at e
  split at e
  ·cases e
  ·exact start_good h1 h2 h3 e



theorem portT_see (p : Int) : AllS (portT p) := by
 have key : ∀ (f n : Nat) (acc : List UInt8), AllS acc → AllS (deciN f n acc) := by
  intro f
  induction f with
  | zero => intro n acc h; exact h
  | succ f ih =>
   intro n acc h
   have hd : ∀ k < 10, seeC (UInt8.ofNat (48 + k)) = true := by decide +kernel
   rw [deciN]
   split
   ·intro c hc
    rcases List.mem_cons.1 hc with rfl | hc
    ·exact hd n (by omega)
    ·exact h c hc
   ·refine ih _ _ fun c hc => ?_
    rcases List.mem_cons.1 hc with rfl | hc
    ·exact hd _ (Nat.mod_lt _ (by omega))
    ·exact h c hc
 exact key 6 p.toNat [] allS_nil

theorem allS_app {a b : List UInt8} (ha : AllS a) (hb : AllS b) : AllS (a ++ b) := fun c hc => (List.mem_append.1 hc).elim (ha c) (hb c)

theorem allS_cons {c : UInt8} {b : List UInt8} (hc : seeC c = true) (hb : AllS b) : AllS (c :: b) := allS_app (a := [c]) (fun d hd => by obtain rfl := List.mem_singleton.1 hd; exact hc) hb

theorem authT_see {u : Adr} (h : Pre3 u) : AllS (authT u) := by
 unfold authT
 split
 ·refine allS_app (allS_app (allS_app (allS_app (allS_app ?_ h.user) ?_) ?_) (fun c hc => hoC_see (h.host c hc))) ?_
  ·intro c hc; revert c; decide
  ·split
   ·exact allS_nil
   ·exact allS_cons (by decide) h.pass
  ·split
   ·exact allS_nil
   ·intro c hc; revert c; decide
  ·split
   ·exact allS_nil
   ·exact allS_cons (by decide) (portT_see _)
 ·exact allS_nil

theorem flat_see {L : List (List UInt8)} (h : ∀ p ∈ L, PartOk p) : AllS (L.flatMap fun p => 47 :: p) := by
 intro c hc
 obtain ⟨p, hp, hc⟩ := List.mem_flatMap.1 hc
 rcases List.mem_cons.1 hc with rfl | hc
 ·decide
 ·exact (h p hp).1 c hc

theorem text_see {u : Adr} (h : Good3 u) : ∀ c ∈ textV u, seeB c = true ∧ (u.opq = false → seeC c = true) := by
 have hq : AllS (if u.hasQuery then 63 :: u.query else []) := by
  split
  ·exact allS_cons (by decide) h.pre.query
  ·exact allS_nil
 have hf : AllS (if u.hasFragment then 35 :: u.fragment else []) := by
  split
  ·exact allS_cons (by decide) h.pre.fragment
  ·exact allS_nil
 have both : ∀ l : List UInt8, AllS l → ∀ c ∈ l, seeB c = true ∧ (u.opq = false → seeC c = true) := fun l hl c hc => ⟨seeC_B (hl c hc), fun _ => hl c hc⟩
 have hp : ∀ c ∈ pathT u, seeB c = true ∧ (u.opq = false → seeC c = true) := by
  unfold pathT
  cases ho : u.opq with
  | true =>
   rw [if_pos rfl]
   obtain ⟨-, x, hx⟩ := h.opaque_ ho
   rw [hx]
   intro c hc
   simp at hc
   exact ⟨pct_seeB x c hc, fun e => by cases e⟩
  | false =>
   rw [if_neg (by simp)]
   intro c hc
   have hall : AllS ((if u.hasHost = false ∧ 1 < u.path.length ∧ u.path.head? = some [] then [47, 46] else []) ++ u.path.flatMap (fun p => 47 :: p)) := by
    refine allS_app ?_ (flat_see (h.parts ho))
    split
    ·intro c hc; revert c; decide
    ·exact allS_nil
   exact ⟨seeC_B (hall c hc), fun _ => hall c hc⟩
 intro c hc
 unfold textV bareV at hc
 rcases List.mem_append.1 hc with hc | hc
 ·rcases List.mem_append.1 hc with hc | hc
  ·exact both _ h.pre.scheme c hc
  ·rcases List.mem_cons.1 hc with rfl | hc
   ·exact ⟨by decide, fun _ => by decide⟩
   ·rcases List.mem_append.1 hc with hc | hc
    ·exact both _ (authT_see h.pre) c hc
    ·rcases List.mem_append.1 hc with hc | hc
     ·exact hp c hc
     ·exact both _ hq c hc
 ·exact both _ hf c hc

end Go.Proofs.YtpopljcmkbchcaaGreatDoor

namespace Go.Proofs.YtpopljcmkbchcaaGreatDoor
def cc (l : List UInt8) : Nat := l.count 58

theorem withQuery_opq (u : Adr) (q : List UInt8) : (withQuery u q).opq = u.opq ∧ (withQuery u q).path = u.path := by
 rcases withQuery_cases u q with e | e
 ·rw [e]; exact ⟨rfl, rfl⟩
 ·rw [e]; exact ⟨rfl, rfl⟩

theorem withAuth_opq {u v : Adr} {r : List UInt8} (e : withAuth u r = .ok v) : v.opq = u.opq := by
 unfold withAuth at e
 split at e
 ·cases e
 ·injection e with e
  rw [← e]
  unfold withPath
  exact (withQuery_opq _ _).1

theorem start_opq4 {u v : Adr} {rest : List UInt8} (h0 : u.opq = false) (e : startV u rest = .ok v) (ho : v.opq = true) : v.path = [pct 1 (aheadV [63] rest).1] := by
 unfold startV at e
 split at e
 ·rw [withAuth_opq e, h0] at ho; cases ho
 ·split at e
  ·rw [withAuth_opq e, h0] at ho; cases ho
  ·split at e
   ·injection e with e
    rw [← e] at ho
    unfold withPath at ho
    rw [(withQuery_opq _ _).1] at ho
    rw [show ({ u with path := pathV (specV u.scheme) [] (aheadV [63] rest).1 } : Adr).opq = u.opq from rfl, h0] at ho
    cases ho
   ·injection e with e
    rw [← e, (withQuery_opq _ _).2]

end Go.Proofs.YtpopljcmkbchcaaGreatDoor

namespace Go.Proofs.YtpopljcmkbchcaaGreatDoor
open Go.RowKit

theorem path_sl {w : World} {v : Value} {L : List (List UInt8)} (h : PathAt w v L) : IsSl v := by
 rcases h with ⟨rfl, _⟩ | ⟨b, cap, rfl, _⟩
 ·exact ⟨_, _, _, rfl⟩
 ·exact ⟨_, _, _, rfl⟩

theorem adr_cells (A : Adr) (a : Option Addr) (n c : Nat) : ∃ s0 s1 s2 s3 b4 i5 b6 s8 s9 b10 b11, adrCells A (.slice a n c) = [.string s0, .string s1, .string s2, .string s3, .bool b4, .int .i64 i5, .bool b6, .slice a n c, .string s8, .string s9, .bool b10, .bool b11] := ⟨_, _, _, _, _, _, _, _, _, _, _, rfl⟩

end Go.Proofs.YtpopljcmkbchcaaGreatDoor

namespace Go.Proofs.YtpopljcmkbchcaaGreatDoor
open Go.RowKit

theorem adr_twelve {W : World} {b : Nat} {A : Adr} {ua : Option Addr} {un uc : Nat} {u0 u1 u2 u3 : ByteArray} {u4 : Bool} {u5 : Int} {u6 : Bool} {u8 u9 : ByteArray} {u10 u11 : Bool} (hx : adrCells A (.slice ua un uc) = [.string u0, .string u1, .string u2, .string u3, .bool u4, .int .i64 u5, .bool u6, .slice ua un uc, .string u8, .string u9, .bool u10, .bool u11]) (h : AdrIn W b A (.slice ua un uc)) :
  W.cell? ⟨b, 0, none⟩ = some (.string u0) ∧ W.cell? ⟨b, 1, none⟩ = some (.string u1) ∧ W.cell? ⟨b, 2, none⟩ = some (.string u2) ∧ W.cell? ⟨b, 3, none⟩ = some (.string u3) ∧ W.cell? ⟨b, 4, none⟩ = some (.bool u4) ∧ W.cell? ⟨b, 5, none⟩ = some (.int .i64 u5) ∧ W.cell? ⟨b, 6, none⟩ = some (.bool u6) ∧ W.cell? ⟨b, 7, none⟩ = some (.slice ua un uc) ∧ W.cell? ⟨b, 8, none⟩ = some (.string u8) ∧ W.cell? ⟨b, 9, none⟩ = some (.string u9) ∧ W.cell? ⟨b, 10, none⟩ = some (.bool u10) ∧ W.cell? ⟨b, 11, none⟩ = some (.bool u11) := by
 have f : ∀ j v, [.string u0, .string u1, .string u2, .string u3, .bool u4, .int .i64 u5, .bool u6, .slice ua un uc, .string u8, .string u9, .bool u10, .bool u11][j]? = some v → W.cell? ⟨b, j, none⟩ = some v := fun j v hj => h.cell j v (by rw [hx]; exact hj)
 exact ⟨f 0 _ rfl, f 1 _ rfl, f 2 _ rfl, f 3 _ rfl, f 4 _ rfl, f 5 _ rfl, f 6 _ rfl, f 7 _ rfl, f 8 _ rfl, f 9 _ rfl, f 10 _ rfl, f 11 _ rfl⟩

theorem read_err {s : List UInt8} {e : Int} (h : readV s none = .error e) : e = 3 ∨ e = 10 ∨ e = 11 ∨ e = 12 := by
 unfold readV at h
 split at h
 ·injection h with h; exact .inl h.symm
 ·simp only at h
  split at h
  ·injection h with h; exact .inr (.inr (.inr h.symm))
  ·rcases startV_err h with h | h
   ·exact .inr (.inl h)
   ·exact .inr (.inr (.inl h))

theorem err_ne {e : Int} (h : e = 3 ∨ e = 10 ∨ e = 11 ∨ e = 12) : (e == 0) = false := by
 rcases h with rfl | rfl | rfl | rfl <;> rfl

end Go.Proofs.YtpopljcmkbchcaaGreatDoor

namespace Go.Proofs.YtpopljcmkbchcaaGreatDoor
open Go.RowKit

def TrOk (u : Adr) : Prop := u.path.length ≤ 1000000 ∧ u.path.flatten.length ≤ 100000 ∧ u.host.length ≤ 1000000

theorem slim_tr {u : Adr} (h : Slim 20000 u) : TrOk u := by
 obtain ⟨h1, h2, h3, h4, h5, h6, h7, h8⟩ := h
 have a := slL_len u.path
 have b := slL_flat u.path
 exact ⟨by omega, by omega, by omega⟩

end Go.Proofs.YtpopljcmkbchcaaGreatDoor

namespace Go.Proofs.YtpopljcmkbchcaaGreatDoor
open Go.RowKit

set_option maxHeartbeats 4000000 in
set_option maxRecDepth 100000 in
theorem rport_any (u : Adr) (pv : Value) (w : World) (hp : PathAt w pv u.path) :
  Calls Tryz.prog 146 #[adrVal u pv] w fun e w' => e = .returned (.int .i64 (hasP u)) ∧ Below w.heap.size w w' := by
 obtain ⟨da, dn, dc, rfl⟩ := path_sl hp
 obtain ⟨d0, d1, d2, d3, d4, d5, d6, d8, d9, d10, d11, hxd, hx0, hx3, hx5, -⟩ := adr_named u da dn dc
 have hvd : adrVal u (.slice da dn dc) = .agg #[.string d0, .string d1, .string d2, .string d3, .bool d4, .int .i64 d5, .bool d6, .slice da dn dc, .string d8, .string d9, .bool d10, .bool d11] := by unfold adrVal; rw [hxd]
 rw [hvd]
 obtain ⟨W1, hW1⟩ : ∃ X, (w.alloc (.cells #[.string d0, .string d1, .string d2, .string d3, .bool d4, .int .i64 d5, .bool d6, .slice da dn dc, .string d8, .string d9, .bool d10, .bool d11] 133)) = X := ⟨_, rfl⟩
 have hbW1 : Below w.heap.size w W1 := by rw [← hW1]; exact (Below.refl _ w).alloc (Nat.le_refl _) _
 have hsW1 : W1.heap.size = w.heap.size + 1 := by rw [← hW1]; simp
 have hAW1 : AdrIn W1 w.heap.size u (.slice da dn dc) := by
  unfold AdrIn
  rw [hxd, ← hW1]
  exact heap_alloc_new w _
 have HB1 := hid hbW1
 obtain ⟨y0, y1, y2, y3, y4, y5, y6, y7, y8, y9, y10, y11⟩ := adr_twelve hxd hAW1
 have HO := hid (fun w => rown_any d0 w)
 rw [hx0] at HO
 have HV := hid (show hasP u = if d5 = -1 then ownV u.scheme else d5 by unfold hasP; rw [hx5])
 clear hx0 hx3 hx5 hxd hvd hp hbW1 hAW1 hsW1
 by_cases h1 : d5 = -1
 ·subst h1
  go_enter Tryz.func146, Tryz.ntmps146
  go_wp2_with fail
  refine (HO.out _).mono ?_
  rintro e w2 ⟨rfl, rfl⟩
  go_wp2
  go_ret
  exact ⟨ret_int (by rw [HV.out]; simp), HB1.out⟩
 ·go_enter Tryz.func146, Tryz.ntmps146
  go_wp2
  go_ret
  exact ⟨ret_int (by rw [HV.out, if_neg h1]), HB1.out⟩

theorem path_one4 {w : World} {a : Option Addr} {n c : Nat} {L : List (List UInt8)} (h : PathAt w (.slice a n c) L) : n = L.length ∧ ∀ x, L = [x] → ∃ b, a = some ⟨b, 0, none⟩ ∧ w.cell? ⟨b, 0, none⟩ = some (.string ⟨x.toArray⟩) ∧ b < w.heap.size := by
 rcases h with ⟨h1, rfl⟩ | ⟨b, cap, h1, h2, h3, h4, h5⟩
 ·cases h1
  exact ⟨rfl, fun x e => by cases e⟩
 ·cases h1
  refine ⟨rfl, fun x e => ?_⟩
  subst e
  exact ⟨b, rfl, h5 0 (by simp), h2⟩

end Go.Proofs.YtpopljcmkbchcaaGreatDoor
