/-
  Walks and plain facts that this claim leans on, put together out of 1 texts: Efd.
-/
import Derived.Test.YtooihpkoplgmbaaGreatDoorProg
import Derived.Test.YtooihpkoplgmbaaGreatDoorQh1
import Derived.Test.YtooihpkoplgmbaaGreatDoorQh2
import Derived.Test.YtooihpkoplgmbaaGreatDoorQh3
import Derived.Test.YtooihpkoplgmbaaGreatDoorQh4
import Derived.Test.YtooihpkoplgmbaaGreatDoorQh5
import Derived.Test.YtooihpkoplgmbaaGreatDoorQh6
import Derived.Test.YtooihpkoplgmbaaGreatDoorQh7
import Derived.Test.YtooihpkoplgmbaaGreatDoorQh8
import Derived.BigRegion
import Derived.Deep.RegionHeld
import Derived.Deep.RegionHeldLaw
import Derived.Lib.IndexAny
import Derived.WalkKit
import Derived.Lib.UnsafeStr
import Derived.Lib.BufferRead
import Derived.Lib.RuneBytes
import Derived.Laws.RangeAny
import Derived.Deep.LoopGhost
import Derived.Maps.OwnSet
import Derived.Maps.OwnOps
import Derived.Maps.AppendAt
import Derived.StringKeys
import Derived.BigQuiet
import Derived.Deep.QuietTactic
import Derived.LoopN
import Derived.RegionTactic
import Derived.Deep.RegionLaw
import Derived.Deep.RegionWith
import Derived.WalkSpells
import Derived.WalkLawsBesides
import Derived.Lib.FieldsP
import Derived.Lib.DecodeN
import Derived.Lib.IndexMore
import Derived.Lib.Join
import Derived.Lib.SmallJoins
import Derived.Laws.CopyOwn
import Derived.Laws.ResultCell
import Derived.Deep.MidRow
import Derived.Laws.OwnMore
import Derived.Below
import Derived.WalkSmall
import Derived.Lib.LaidTab
import Derived.Lib.AppendIntMem
import Derived.Laws.AppendOwn
import Derived.Laws.Runes
import Derived.Lib.OthersKept
import Derived.Lib.FrozenHead2
import Derived.Lib.Builder
import Derived.Lib.AppendStr
import Derived.Lib.Replace
import Derived.Shelf.GgClosure.GivesRunes
import Derived.Laws.BitsAll
import Derived.Laws.Shifts
import Derived.Deep.DeepAppendRoom
import Derived.Laws.IdiomStrings
import Derived.Laws.BytesString
import Derived.Laws.CopyRow
import Derived.Sort.OwnSorted
import Derived.Lib.SlicesCompact
import Derived.Deep.CutRange
import Derived.Lib.Strings
import Derived.Laws.BitsAllLaws
import Derived.Lib.Bytealg
import Derived.Lib.BufferMore
import Derived.Shelf.Strings.Builder1
import Derived.Shelf.Strings.Builder2
import Derived.Shelf.Strings.OnBuilder
import Derived.Shelf.Strings.Trim
import Derived.Shelf.Small.Utf8
import Derived.Shelf.Small.Bits
import Derived.Shelf.Small.Strs
import Derived.Shelf.Small.Wraps
import Derived.Shelf.Strings.BuilderF
import Derived.Shelf.Strings.BuilderK
import Derived.Shelf.Utf8.RuneCount
import Derived.Shelf.Strings.Builder2Cap
import Derived.Shelf.Strconv.Itoa0
import Derived.Shelf.Strconv.Itoa1
import Derived.Shelf.LaysM
import Derived.Shelf.Strconv.Itoa2
import Derived.Shelf.Strconv.Itoa3
import Derived.Shelf.Strings.Search1
import Derived.Shelf.Strings.Search2
import Derived.Shelf.Strings.Search3
import Derived.Shelf.Strings.Cut
import Derived.Shelf.Strings.Count
import Derived.Shelf.Strings.Shaped
import Derived.Shelf.Sort.Plain
import Derived.Shelf.Strings.LastIndex
import Derived.Shelf.Strings.Prefix
import Derived.Shelf.Strings.Split
import Derived.Shelf.Strings.Replace
import Derived.Shelf.Strings.SplitShaped
import Derived.Shelf.Unicode.Decode
import Derived.Shelf.Strings.Runes
import Derived.Shelf.Strings.RuneCount
import Derived.Shelf.Strings.IndexAny
import Derived.Shelf.Strings.AsciiSet
import Derived.Shelf.Strings.IndexAnyAll
import Derived.Shelf.Strings.Explode
import Derived.Shelf.Unicode.DecodeSlow
import Derived.Shelf.Unicode.DecodeAny
import Derived.Shelf.Unicode.DecodeLast
import Derived.Shelf.Strings.FieldsFuncAny
import Derived.Shelf.Strings.FieldsFuncGrows
import Derived.Shelf.Slices.Equal
import Derived.Ground.Names2Prog
import Derived.Shelf.Slices.Clone
import Derived.Shelf.Slices.CompactS
import Derived.Shelf.Slices.Cells
import Derived.Shelf.Slices.In.SortNone
import Derived.Ground.SlgnProg
import Derived.Shelf.SlicesE.Equal
import Derived.Shelf.SlicesE.Clone
import Derived.Lib.SlTrimSet
import Derived.Shelf.Strings.SlTrimAscii
import Derived.Laws.Rows
import Derived.Laws.MakeOwn
import Derived.Deep.WholeRow
import Derived.Laws.AppendOwnNone
set_option linter.unusedSimpArgs false
set_option linter.unusedVariables false

namespace Go.Proofs.YtooihpkoplgmbaaGreatDoor
open Go.RowKit

set_option maxHeartbeats 4000000 in
theorem age16_any (v : Value) (L : List Hd) (s n : Int) (w : World) (h : HdAt w v L) (hz : Szd 140737488351232 L) (hl : L.length ≤ 1000000) (hb : bulkV L ≤ 1000000000) (hs : -9223372036854775808 ≤ s ∧ s ≤ 9223372036854775807) (hn : -9223372036854775808 ≤ n ∧ n ≤ 9223372036854775807) :
  Calls Tryz.prog 26 #[v, .int .i64 s, .int .i64 n] w fun e w' => e = .returned (.int .i64 (ageV L s n)) ∧ Below w.heap.size w w' := by
 obtain ⟨va, vcc, rfl, _, _, _⟩ := h.view
 have HG := hid (get_any _ L ⟨#[97, 103, 101]⟩ w h (by decide) hz hl (by omega))
 have htl := getT_len L nAg
 obtain ⟨b, hbb⟩ : ∃ b, getB L nAg = b := ⟨_, rfl⟩
 obtain ⟨T, hT⟩ : ∃ B' : ByteArray, ⟨(getT L nAg).toArray⟩ = B' := ⟨_, rfl⟩
 rw [show (⟨#[97, 103, 101]⟩ : ByteArray).data.toList = nAg from rfl, hT, hbb] at HG
 have hTl : T.data.toList = getT L nAg := by rw [← hT]
 have hTs : T.size ≤ 1000000000 := by rw [Lib.size_eq, hTl]; omega
 obtain ⟨S, hS⟩ : ∃ B' : ByteArray, ⟨(strip T.data.toList).toArray⟩ = B' := ⟨_, rfl⟩
 have hSl : S.data.toList = strip T.data.toList := by rw [← hS]
 have hSs : S.size ≤ 1000000000 := by rw [Lib.size_eq, hSl]; rw [Lib.size_eq] at hTs; have := strip_le16 T.data.toList; omega
 obtain ⟨m, hm⟩ : ∃ m, intV S.data.toList = m := ⟨_, rfl⟩
 obtain ⟨ok, hok⟩ : ∃ m, intOk S.data.toList = m := ⟨_, rfl⟩
 have hmr := intV_range S.data.toList
 rw [hm] at hmr
 have hir := sinV_range s n
 have HSt : Hid (∀ Y : World, Calls Tryz.prog 54 #[.string T] Y fun e w' => e = .returned (.string S) ∧ Y = w') := fun Y => by rw [← hS]; exact strip_any T Y (by omega)
 have HI : Hid (∀ Y : World, Calls Tryz.prog 43 #[.string S] Y fun e w' => e = .returned (.tuple #[.int .i64 m, .bool ok]) ∧ Y = w') := fun Y => by rw [← hm, ← hok]; exact int_any S Y (by omega)
 have HSi := hid (fun (Y : World) => since16_any s n Y hs hn)
 have HE := hid (show ageV L s n = addV m (sinV s n) by unfold ageV; rw [← hTl, ← hSl, hm])
 obtain ⟨d, hd⟩ : ∃ d, sinV s n = d := ⟨_, rfl⟩
 rw [hd] at HSi HE hir
 have HAd := hid (fun (Y : World) => add16_any m d Y (by omega) (by omega))
 clear htl hbb hT hTl hTs hS hSl hSs hm hok hmr hir hd h hz hl hb
 go_enter Tryz.func26, Tryz.ntmps26
 go_wp2_with fail
 refine HG.out.mono ?_
 rintro e w1 ⟨rfl, hb1⟩
 go_wp2_with fail
 refine (HSt.out _).mono ?_
 rintro e w2 ⟨rfl, rfl⟩
 go_wp2_with fail
 refine (HI.out _).mono ?_
 rintro e w2 ⟨rfl, rfl⟩
 go_wp2_with fail
 refine (HSi.out _).mono ?_
 rintro e w2 ⟨rfl, hw2⟩
 rw [hw2]
 clear hw2
 go_wp2_with fail
 refine (HAd.out _).mono ?_
 rintro e w2 ⟨rfl, hw2⟩
 rw [hw2]
 clear hw2
 go_wp2
 go_ret
 exact ⟨ret_i16 HE.out.symm, hb1⟩

set_option maxHeartbeats 8000000 in
set_option maxRecDepth 100000 in
theorem fresh16_any (v : Value) (L : List Hd) (s n : Int) (w : World) (hg : G5 w) (h : HdAt w v L) (hz : Szd 140737488351232 L) (hl : L.length ≤ 1000000) (hb : bulkV L ≤ 100000000) (hs : -9223372036854775808 ≤ s ∧ s ≤ 9223372036854775807) (hn : -9223372036854775808 ≤ n ∧ n ≤ 9223372036854775807) :
  Calls Tryz.prog 28 #[v, .int .i64 s, .int .i64 n] w fun e w' => e = .returned (.bool (freV L s n)) ∧ Below w.heap.size w w' := by
 obtain ⟨va, vcc, rfl, _, _, _⟩ := h.view
 have HP := hid (parse16_any _ L w hg h hz hl (by omega))
 have HA := hid (fun (Y : World) (hY : Below w.heap.size w Y) => age16_any _ L s n Y (h.kept hY) hz hl (by omega) hs hn)
 obtain ⟨A, hA⟩ : ∃ A, ageV L s n = A := ⟨_, rfl⟩
 have HE := hid (show freV L s n = (!(ctlV L).nc && decide (A < (ctlV L).mx)) by unfold freV; rw [hA])
 rw [hA] at HA
 obtain ⟨c, hc⟩ : ∃ c, ctlV L = c := ⟨_, rfl⟩
 rw [hc] at HP HE
 obtain ⟨cs, cc, cm⟩ := c
 unfold CtPost at HP
 clear hA hc h hz hl hb hg
 go_enter Tryz.func28, Tryz.ntmps28
 go_wp2_with fail
 refine HP.out.mono ?_
 rintro e w1 ⟨rfl, hb1⟩
 obtain ⟨W2, hW2⟩ : ∃ X, (w1.alloc (.cells #[.bool cs, .bool cc, .int .i64 cm] 53)) = X := ⟨_, rfl⟩
 have hb2 : Below w1.heap.size w1 W2 := by rw [← hW2]; exact (Below.refl _ w1).alloc (Nat.le_refl _) _
 have hr2 : CtC 53 W2 w1.heap.size ⟨cs, cc, cm⟩ := by rw [← hW2]; exact heap_alloc_new w1 _
 have HB2 := hid (below2 hb1 hb2)
 have HKF := hid (fun (Z : World) (hZ : Below W2.heap.size W2 Z) => (show Z.cell? ⟨w1.heap.size, 1, none⟩ = some (.bool cc) ∧ Z.cell? ⟨w1.heap.size, 2, none⟩ = some (.int .i64 cm) from ⟨(hr2.kept hZ).cells.2.1, (hr2.kept hZ).cells.2.2.1⟩))
 have HQ0 := hid ((Below.refl W2.heap.size W2).drew)
 clear hb1 hb2 hr2 HP
 cases cc with
 | true =>
  have HE2 := hid (show freV L s n = false by rw [HE.out]; rfl)
  clear HE
  go_upto_region 2 with fail
  refine wp_region_held_drew (S := (fun wx => Below W2.heap.size W2 wx)) (by kernel_rfl) HQ0.out (fun hHeld => ?_)
  refine wpAnyH_to (fuel' := 13) (listed' := #[false, false, false, false, false, false, false, false, false, false, false, false, false]) rfl rfl ?_
  refine' wpAnyH_take (i := 0) (oi := ⟨some 10, _, _, _, _, _⟩) (v := _) rfl (by kernel_rfl) (by kernel_rfl) (by kernel_rfl) (fun _ _ _ h => h) (Or.inl ⟨by kernel_rfl, ?hyfa1⟩) (by assumption) ?restfa1
  case hyfa1 => (intro wx hSw; (try dsimp only at hSw); obtain ⟨f1, f2⟩ := HKF.out _ hSw; go_simp; first | done | with_reducible rfl)
  (try simp only [Act.put, List.setIfInBounds_toArray, List.set_cons_zero, List.set_cons_succ])
  refine' wpAnyH_take (i := 1) (oi := ⟨some 11, _, _, _, _, _⟩) (v := _) rfl (by kernel_rfl) (by kernel_rfl) (by kernel_rfl) (fun _ _ _ h => h) (Or.inl ⟨by kernel_rfl, ?hyfa2⟩) (by assumption) ?restfa2
  case hyfa2 => (intro wx hSw; (try dsimp only at hSw); obtain ⟨f1, f2⟩ := HKF.out _ hSw; go_simp; first | done | with_reducible rfl)
  (try simp only [Act.put, List.setIfInBounds_toArray, List.set_cons_zero, List.set_cons_succ])
  refine' wpAnyH_take (i := 2) (oi := ⟨some 12, _, _, _, _, _⟩) (v := _) rfl (by kernel_rfl) (by kernel_rfl) (by kernel_rfl) (fun _ _ _ h => h) (Or.inl ⟨by kernel_rfl, ?hyfa3⟩) (by assumption) ?restfa3
  case hyfa3 => (intro wx hSw; (try dsimp only at hSw); obtain ⟨f1, f2⟩ := HKF.out _ hSw; go_simp; first | done | with_reducible rfl)
  (try simp only [Act.put, List.setIfInBounds_toArray, List.set_cons_zero, List.set_cons_succ])
  refine' wpAnyH_take (i := 3) (oi := ⟨some 13, _, _, _, _, _⟩) (v := _) rfl (by kernel_rfl) (by kernel_rfl) (by kernel_rfl) (fun _ _ _ h => h) (Or.inl ⟨by kernel_rfl, ?hyfa4⟩) (by assumption) ?restfa4
  case hyfa4 => (intro wx hSw; (try dsimp only at hSw); obtain ⟨f1, f2⟩ := HKF.out _ hSw; go_simp; first | done | with_reducible rfl)
  (try simp only [Act.put, List.setIfInBounds_toArray, List.set_cons_zero, List.set_cons_succ])
  refine wpAnyH_take (i := 4) (oi := ⟨some 14, _, _, _, _, _⟩) (v := undef) rfl (by kernel_rfl) (by kernel_rfl) (by kernel_rfl) (fun _ _ _ h => h) (Or.inr ⟨by kernel_rfl, by kernel_rfl⟩) (by assumption) ?_
  (try simp only [Act.put, List.setIfInBounds_toArray, List.set_cons_zero, List.set_cons_succ])
  refine wpAnyH_take (i := 5) (oi := ⟨some 15, _, _, _, _, _⟩) (v := undef) rfl (by kernel_rfl) (by kernel_rfl) (by kernel_rfl) (fun _ _ _ h => h) (Or.inr ⟨by kernel_rfl, by kernel_rfl⟩) (by assumption) ?_
  (try simp only [Act.put, List.setIfInBounds_toArray, List.set_cons_zero, List.set_cons_succ])
  refine wpAnyH_take (i := 6) (oi := ⟨some 16, _, _, _, _, _⟩) (v := undef) rfl (by kernel_rfl) (by kernel_rfl) (by kernel_rfl) (fun _ _ _ h => h) (Or.inr ⟨by kernel_rfl, by kernel_rfl⟩) (by assumption) ?_
  (try simp only [Act.put, List.setIfInBounds_toArray, List.set_cons_zero, List.set_cons_succ])
  refine wpAnyH_take (i := 7) (oi := ⟨some 17, _, _, _, _, _⟩) (v := undef) rfl (by kernel_rfl) (by kernel_rfl) (by kernel_rfl) (fun _ _ _ h => h) (Or.inr ⟨by kernel_rfl, by kernel_rfl⟩) (by assumption) ?_
  (try simp only [Act.put, List.setIfInBounds_toArray, List.set_cons_zero, List.set_cons_succ])
  refine wpAnyH_take (i := 8) (oi := ⟨some 18, _, _, _, _, _⟩) (v := undef) rfl (by kernel_rfl) (by kernel_rfl) (by kernel_rfl) (fun _ _ _ h => h) (Or.inr ⟨by kernel_rfl, by kernel_rfl⟩) (by assumption) ?_
  (try simp only [Act.put, List.setIfInBounds_toArray, List.set_cons_zero, List.set_cons_succ])
  refine wpAnyH_take (i := 9) (oi := ⟨some 19, _, _, _, _, _⟩) (v := undef) rfl (by kernel_rfl) (by kernel_rfl) (by kernel_rfl) (fun _ _ _ h => h) (Or.inr ⟨by kernel_rfl, by kernel_rfl⟩) (by assumption) ?_
  (try simp only [Act.put, List.setIfInBounds_toArray, List.set_cons_zero, List.set_cons_succ])
  refine wpAnyH_take (i := 10) (oi := ⟨some 20, _, _, _, _, _⟩) (v := undef) rfl (by kernel_rfl) (by kernel_rfl) (by kernel_rfl) (fun _ _ _ h => h) (Or.inr ⟨by kernel_rfl, by kernel_rfl⟩) (by assumption) ?_
  (try simp only [Act.put, List.setIfInBounds_toArray, List.set_cons_zero, List.set_cons_succ])
  refine' wpAnyH_take (i := 11) (oi := ⟨some 21, _, _, _, _, _⟩) (v := _) rfl (by kernel_rfl) (by kernel_rfl) (by kernel_rfl) (fun _ _ _ h => h) (Or.inl ⟨by kernel_rfl, ?hyfa5⟩) (by assumption) ?restfa5
  case hyfa5 => (intro wx hSw; (try dsimp only at hSw); obtain ⟨f1, f2⟩ := HKF.out _ hSw; go_simp; first | done | with_reducible rfl)
  (try simp only [Act.put, List.setIfInBounds_toArray, List.set_cons_zero, List.set_cons_succ])
  refine' wpAnyH_take (i := 12) (oi := ⟨some 6, _, _, _, _, _⟩) (v := _) rfl (by kernel_rfl) (by kernel_rfl) (by kernel_rfl) (fun _ _ _ h => h) (Or.inl ⟨by kernel_rfl, ?hyfa6⟩) (by assumption) ?restfa6
  case hyfa6 => (intro wx hSw; (try dsimp only at hSw); obtain ⟨f1, f2⟩ := HKF.out _ hSw; go_simp; first | done | with_reducible rfl)
  (try simp only [Act.put, List.setIfInBounds_toArray, List.set_cons_zero, List.set_cons_succ])
  refine wpAnyH_done (by kernel_rfl) ?_ _
  go_wp2
  go_ret
  exact ⟨by rw [HE2.out]; rfl, below2 HB2.out HQ0.out⟩
 | false =>
  have HE2 := hid (show freV L s n = decide (A < cm) by rw [HE.out]; rfl)
  clear HE
  go_upto_region 2 with fail
  refine wp_region_held_drew (S := (fun wx => Below W2.heap.size W2 wx)) (by kernel_rfl) HQ0.out (fun hHeld => ?_)
  refine wpAnyH_to (fuel' := 13) (listed' := #[false, false, false, false, false, false, false, false, false, false, false, false, false]) rfl rfl ?_
  refine' wpAnyH_take (i := 0) (oi := ⟨some 10, _, _, _, _, _⟩) (v := _) rfl (by kernel_rfl) (by kernel_rfl) (by kernel_rfl) (fun _ _ _ h => h) (Or.inl ⟨by kernel_rfl, ?hyfb1⟩) (by assumption) ?restfb1
  case hyfb1 => (intro wx hSw; (try dsimp only at hSw); obtain ⟨f1, f2⟩ := HKF.out _ hSw; go_simp; first | done | with_reducible rfl)
  (try simp only [Act.put, List.setIfInBounds_toArray, List.set_cons_zero, List.set_cons_succ])
  refine' wpAnyH_take (i := 1) (oi := ⟨some 11, _, _, _, _, _⟩) (v := _) rfl (by kernel_rfl) (by kernel_rfl) (by kernel_rfl) (fun _ _ _ h => h) (Or.inl ⟨by kernel_rfl, ?hyfb2⟩) (by assumption) ?restfb2
  case hyfb2 => (intro wx hSw; (try dsimp only at hSw); obtain ⟨f1, f2⟩ := HKF.out _ hSw; go_simp; first | done | with_reducible rfl)
  (try simp only [Act.put, List.setIfInBounds_toArray, List.set_cons_zero, List.set_cons_succ])
  refine' wpAnyH_take (i := 2) (oi := ⟨some 12, _, _, _, _, _⟩) (v := _) rfl (by kernel_rfl) (by kernel_rfl) (by kernel_rfl) (fun _ _ _ h => h) (Or.inl ⟨by kernel_rfl, ?hyfb3⟩) (by assumption) ?restfb3
  case hyfb3 => (intro wx hSw; (try dsimp only at hSw); obtain ⟨f1, f2⟩ := HKF.out _ hSw; go_simp; first | done | with_reducible rfl)
  (try simp only [Act.put, List.setIfInBounds_toArray, List.set_cons_zero, List.set_cons_succ])
  refine' wpAnyH_take (i := 3) (oi := ⟨some 13, _, _, _, _, _⟩) (v := _) rfl (by kernel_rfl) (by kernel_rfl) (by kernel_rfl) (fun _ _ _ h => h) (Or.inl ⟨by kernel_rfl, ?hyfb4⟩) (by assumption) ?restfb4
  case hyfb4 => (intro wx hSw; (try dsimp only at hSw); obtain ⟨f1, f2⟩ := HKF.out _ hSw; go_simp; first | done | with_reducible rfl)
  (try simp only [Act.put, List.setIfInBounds_toArray, List.set_cons_zero, List.set_cons_succ])
  refine' wpAnyH_take (i := 4) (oi := ⟨some 14, _, _, _, _, _⟩) (v := _) rfl (by kernel_rfl) (by kernel_rfl) (by kernel_rfl) (fun _ _ _ h => h) (Or.inl ⟨by kernel_rfl, ?hyfb5⟩) (by assumption) ?restfb5
  case hyfb5 => (intro wx hSw; (try dsimp only at hSw); obtain ⟨f1, f2⟩ := HKF.out _ hSw; go_simp; first | done | with_reducible rfl)
  (try simp only [Act.put, List.setIfInBounds_toArray, List.set_cons_zero, List.set_cons_succ])
  refine' wpAnyH_take (i := 5) (oi := ⟨some 15, _, _, _, _, _⟩) (v := _) rfl (by kernel_rfl) (by kernel_rfl) (by kernel_rfl) (fun _ _ _ h => h) (Or.inl ⟨by kernel_rfl, ?hyfb6⟩) (by assumption) ?restfb6
  case hyfb6 => (intro wx hSw; (try dsimp only at hSw); obtain ⟨f1, f2⟩ := HKF.out _ hSw; go_simp; first | done | with_reducible rfl)
  (try simp only [Act.put, List.setIfInBounds_toArray, List.set_cons_zero, List.set_cons_succ])
  refine' wpAnyH_take (i := 6) (oi := ⟨some 16, _, _, _, _, _⟩) (v := _) rfl (by kernel_rfl) (by kernel_rfl) (by kernel_rfl) (fun _ _ _ h => h) (Or.inl ⟨by kernel_rfl, ?hyfb7⟩) (by assumption) ?restfb7
  case hyfb7 => (intro wx hSw; (try dsimp only at hSw); obtain ⟨f1, f2⟩ := HKF.out _ hSw; go_simp; first | done | with_reducible rfl)
  (try simp only [Act.put, List.setIfInBounds_toArray, List.set_cons_zero, List.set_cons_succ])
  refine' wpAnyH_take (i := 7) (oi := ⟨some 17, _, _, _, _, _⟩) (v := _) rfl (by kernel_rfl) (by kernel_rfl) (by kernel_rfl) (fun _ _ _ h => h) (Or.inl ⟨by kernel_rfl, ?hyfb8⟩) (by assumption) ?restfb8
  case hyfb8 => (intro wx hSw; (try dsimp only at hSw); obtain ⟨f1, f2⟩ := HKF.out _ hSw; go_simp; first | done | with_reducible rfl)
  (try simp only [Act.put, List.setIfInBounds_toArray, List.set_cons_zero, List.set_cons_succ])
  refine' wpAnyH_take (i := 8) (oi := ⟨some 18, _, _, _, _, _⟩) (v := _) rfl (by kernel_rfl) (by kernel_rfl) (by kernel_rfl) (fun _ _ _ h => h) (Or.inl ⟨by kernel_rfl, ?hyfb9⟩) (by assumption) ?restfb9
  case hyfb9 => (intro wx hSw; (try dsimp only at hSw); obtain ⟨f1, f2⟩ := HKF.out _ hSw; go_simp; first | done | with_reducible rfl)
  (try simp only [Act.put, List.setIfInBounds_toArray, List.set_cons_zero, List.set_cons_succ])
  refine wpAnyH_ready (rs := [9]) (by kernel_rfl) (by simp) ?_
  refine AllReadyH.cons rfl (fun K9 hK => ?_) AllReadyH.nil
  rw [if_pos (by kernel_rfl)]
  go_simp
  go_wp2_with (go_at_call 26; refine (HA.out _ (below2 HB2.out HQ0.out)).mono ?_; rintro e w4 ⟨rfl, hba⟩)
  have HQ4 := hid (below2 HQ0.out hba)
  clear hba
  refine hK.out _ _ HQ4.out (fun hHeld2 => ?_)
  clear hK K9 hHeld
  rename _ => hHeld
  refine' wpAnyH_take (i := 10) (oi := ⟨some 20, _, _, _, _, _⟩) (v := _) rfl (by kernel_rfl) (by kernel_rfl) (by kernel_rfl) (fun _ _ _ h => h) (Or.inl ⟨by kernel_rfl, ?hyfb10⟩) (by assumption) ?restfb10
  case hyfb10 => (intro wx hSw; (try dsimp only at hSw); obtain ⟨f1, f2⟩ := HKF.out _ hSw; go_simp; first | done | with_reducible rfl)
  (try simp only [Act.put, List.setIfInBounds_toArray, List.set_cons_zero, List.set_cons_succ])
  refine' wpAnyH_take (i := 11) (oi := ⟨some 21, _, _, _, _, _⟩) (v := _) rfl (by kernel_rfl) (by kernel_rfl) (by kernel_rfl) (fun _ _ _ h => h) (Or.inl ⟨by kernel_rfl, ?hyfb11⟩) (by assumption) ?restfb11
  case hyfb11 => (intro wx hSw; (try dsimp only at hSw); obtain ⟨f1, f2⟩ := HKF.out _ hSw; go_simp; first | done | with_reducible rfl)
  (try simp only [Act.put, List.setIfInBounds_toArray, List.set_cons_zero, List.set_cons_succ])
  refine' wpAnyH_take (i := 12) (oi := ⟨some 6, _, _, _, _, _⟩) (v := _) rfl (by kernel_rfl) (by kernel_rfl) (by kernel_rfl) (fun _ _ _ h => h) (Or.inl ⟨by kernel_rfl, ?hyfb12⟩) (by assumption) ?restfb12
  case hyfb12 => (intro wx hSw; (try dsimp only at hSw); obtain ⟨f1, f2⟩ := HKF.out _ hSw; go_simp; first | done | with_reducible rfl)
  (try simp only [Act.put, List.setIfInBounds_toArray, List.set_cons_zero, List.set_cons_succ])
  refine wpAnyH_done (by kernel_rfl) ?_ _
  go_wp2
  go_ret
  exact ⟨by rw [HE2.out]; rfl, below2 HB2.out HQ4.out⟩

theorem unq_ba {D : ByteArray} {M : Nat} (h : D.size = M + 1) (h1 : 1 ≤ M) (h0 : D[0]'(by omega) = 34) (hM : D[M]'(by omega) = 34) : (⟨(unqV D.data.toList).toArray⟩ : ByteArray) = D.extract 1 M := by
 have hl : D.data.toList.length = M + 1 := by rw [← Lib.size_eq]; exact h
 have e : D.data.toList = 34 :: ((D.data.toList.drop 1).take (M - 1) ++ [34]) := by
  have g0 : D.data.toList[0]'(by omega) = 34 := Eq.trans (by simp; rfl) h0
  have gM : D.data.toList[M]'(by omega) = 34 := Eq.trans (by simp; rfl) hM
  refine List.ext_getElem (by simp; omega) fun i h2 h3 => ?_
  cases i with
  | zero => simpa using g0
  | succ i =>
   rw [List.getElem_cons_succ]
   by_cases hi : i < M - 1
   ·rw [List.getElem_append_left (by simp; omega)]
    simp [Nat.add_comm]
   ·have : i = M - 1 := by omega
    subst this
    rw [List.getElem_append_right (by simp; omega)]
    simp only [List.length_take, List.length_drop, List.getElem_singleton]
    rw [← gM]
    congr 1
    omega
 refine xba ?_
 rw [Lib.extract_data]
 show unqV D.data.toList = _
 have e2 := unq_yes ((D.data.toList.drop 1).take (M - 1))
 rw [← e] at e2
 exact e2

theorem unq_one {D : ByteArray} (h : ¬ 1 < D.size) : (⟨(unqV D.data.toList).toArray⟩ : ByteArray) = D := by
 rw [unq_no]
 ·intro a e
  have : D.data.toList.length = a.length + 2 := by rw [e]; simp
  rw [← Lib.size_eq] at this
  omega

theorem unq_head {D : ByteArray} (h : 1 < D.size) (h0 : D[0]'(by omega) ≠ 34) : (⟨(unqV D.data.toList).toArray⟩ : ByteArray) = D := by
 rw [unq_no]
 ·intro a e
  refine h0 ?_
  have : D.data.toList[0]? = some 34 := by rw [e]; rfl
  rw [List.getElem?_eq_getElem (by rw [← Lib.size_eq]; omega)] at this
  simp at this
  exact this

theorem unq_last {D : ByteArray} {M : Nat} (h : D.size = M + 1) (hM : D[M]'(by omega) ≠ 34) : (⟨(unqV D.data.toList).toArray⟩ : ByteArray) = D := by
 rw [unq_no]
 ·intro a e
  refine hM ?_
  have hl : D.data.toList.length = M + 1 := by rw [← Lib.size_eq]; exact h
  have hl2 : a.length + 2 = M + 1 := by rw [← hl, e]; simp
  have : D.data.toList[M]? = some 34 := by
   rw [e, show M = a.length + 1 by omega]
   simp
  rw [List.getElem?_eq_getElem (by omega)] at this
  simp at this
  exact this

theorem part_none16 (c : UInt8) (l : List UInt8) (h : (part c l).2.2 = false) : (part c l).2.1 = [] := by
 induction l with
 | nil => rfl
 | cons a l ih =>
  unfold part at h ⊢
  split at h
  ·cases h
  ·rename_i hne
   rw [if_neg hne]
   exact ih h

theorem results_rct {fn : Func} {p : Tmp} (h : fn.results = #[.cell p 55]) (tmps : Array Value) (w : World) (b : Nat) (ns nc : Bool) (mx : Int) (hp : tmps.getD p undef = .pointer (some ⟨b, 0, none⟩)) (hc : w.rangeAt b 0 [.bool ns, .bool nc, .int .i64 mx]) : (results fn tmps).run Tryz.prog w = .ok (.agg #[.bool ns, .bool nc, .int .i64 mx]) w := by
 rw [Array.getD_eq_getD_getElem?] at hp
 simp only [results, h]
 simp [Sem.run_bind, Result.andThen, hp, asAddr, run_loadVar_mid w b 0 55 [.bool ns, .bool nc, .int .i64 mx] _ hc Tryz.underlying55 rfl (by kernel_rfl)]

def hd16 (D : ByteArray) : Bool := if h : 0 < D.size then decide (D[0] = 34) else false

def lt16 (D : ByteArray) : Bool := if h : 0 < D.size then decide (D[D.size - 1] = 34) else false

theorem quoted16 (D : ByteArray) (q : Bool) (h : (decide (1 < D.size) && (hd16 D && lt16 D)) = q) : (q = true → ∃ M, D.size = M + 1 ∧ 1 ≤ M ∧ (⟨(unqV D.data.toList).toArray⟩ : ByteArray) = D.extract 1 M) ∧ (q = false → (⟨(unqV D.data.toList).toArray⟩ : ByteArray) = D) := by
 by_cases hsz : 1 < D.size
 ·have h0 : 0 < D.size := by omega
  obtain ⟨M, hM⟩ : ∃ M, D.size = M + 1 := ⟨D.size - 1, by omega⟩
  have e : D.size - 1 = M := by omega
  unfold hd16 lt16 at h
  rw [dif_pos h0, dif_pos h0, decide_eq_true hsz] at h
  simp only [e, Bool.true_and] at h
  by_cases a1 : D[0] = 34
  ·by_cases a2 : D[M]'(by omega) = 34
   ·rw [decide_eq_true a1, decide_eq_true a2] at h
    exact ⟨fun _ => ⟨M, hM, by omega, unq_ba hM (by omega) a1 a2⟩, fun h2 => (by rw [← h] at h2; cases h2)⟩
   ·rw [decide_eq_true a1, decide_eq_false a2] at h
    exact ⟨fun h2 => (by rw [← h] at h2; cases h2), fun _ => unq_last hM a2⟩
  ·rw [decide_eq_false a1] at h
   exact ⟨fun h2 => (by rw [← h] at h2; cases h2), fun _ => unq_head hsz a1⟩
 ·rw [decide_eq_false hsz] at h
  exact ⟨fun h2 => (by rw [← h] at h2; cases h2), fun _ => unq_one hsz⟩

theorem rsplit16_any (v : Value) (L : List Hd) (n : ByteArray) (w : World) (h : HdAt w v L) (hs : n.size ≤ 140737488351232) (hz : Szd 140737488351232 L) (hl : L.length ≤ 1000000) (hb : bulkV L ≤ 100000000) :
  Calls Tryz.prog 44 #[v, .string n] w (SpPost (pcsV L n.data.toList) w) := by
 refine (rsplit_any v L n w h hs hz hl hb).mono ?_
 rintro e w' ⟨u, rfl, ho, hb'⟩
 exact ⟨u, _, rfl, ho, hb'⟩

set_option maxHeartbeats 8000000 in
set_option maxRecDepth 100000 in
theorem rparse16_any (v : Value) (L : List Hd) (w : World) (h : HdAt w v L) (hz : Szd 140737488351232 L) (hl : L.length ≤ 1000000) (hb : bulkV L ≤ 100000000) :
  Calls Tryz.prog 21 #[v] w (CtPost 55 (ctlV L) w) := by
 obtain ⟨va, vcc, rfl, _, _, _⟩ := h.view
 obtain ⟨P, hP⟩ : ∃ P, P = pcsV L nCC := ⟨_, rfl⟩
 have hPl := pcsV_len16 L nCC
 rw [← hP] at hPl
 have HPS := hid hPl.2
 have HBK := hid hb
 have hPn := hPl.1
 have hCV : ctlV L = ctlP P := by unfold ctlV; rw [hP]
 obtain ⟨W1, hW1⟩ : ∃ X, (w.alloc (.cells #[.bool false, .bool false, .int .i64 0] 55)).alloc (.cells #[.bool false, .bool false, .int .i64 (-1)] 55) = X := ⟨_, rfl⟩
 have hb1 : Below w.heap.size w W1 := by rw [← hW1]; exact ((Below.refl _ w).alloc (Nat.le_refl _) _).alloc (by simp) _
 have hs1 : W1.heap.size = w.heap.size + 2 := by rw [← hW1]; simp
 have hr0 : CtC 55 W1 w.heap.size ⟨false, false, 0⟩ := by rw [← hW1]; exact (Lib.alloc_old _ _ _ (by simp)).trans (heap_alloc_new w _)
 have hr1 : CtC 55 W1 (w.heap.size + 1) ⟨false, false, -1⟩ := by
  rw [← hW1]
  have := heap_alloc_new (w.alloc (.cells #[.bool false, .bool false, .int .i64 0] 55)) (.cells #[.bool false, .bool false, .int .i64 (-1)] 55)
  unfold CtC
  simpa using this
 have HS := hid (rsplit16_any _ L ⟨#[99, 97, 99, 104, 101, 45, 99, 111, 110, 116, 114, 111, 108]⟩ W1 (h.kept hb1) (by decide) hz hl hb)
 rw [show (⟨#[99, 97, 99, 104, 101, 45, 99, 111, 110, 116, 114, 111, 108]⟩ : ByteArray).data.toList = nCC from rfl, ← hP] at HS
 have HB1 := hid hb1
 have HS1 := hid hs1
 have HR0 := hid hr0
 have HR1 := hid hr1
 rw [hCV]
 obtain ⟨n, hn⟩ : ∃ n, n = P.length := ⟨_, rfl⟩
 have HN := hid hn
 have hn9 : n ≤ 100000001 := by omega
 unfold SpPost at HS
 rw [← hn] at HS
 clear hP hPl hPn hCV hb1 hs1 hr0 hr1 h hz hl hn
 go_enter Tryz.func21, Tryz.ntmps21
 go_wp2_with fail
 refine HS.out.mono ?_
 rintro e w2 ⟨v2, q2, rfl, hown2, hb2⟩
 obtain ⟨a2, c2, rfl⟩ := own_sl16 hown2
 have HJ := hid (show CtP 55 w w2 (.slice a2 n c2) P (ctlP (P.take 0)) from ⟨HR0.out.kept hb2, HR1.out.kept hb2, by rw [← HN.out, ← HS1.out]; exact hown2, below2 HB1.out hb2⟩)
 clear hown2 hb2 HS HR0 HR1
 go_wp2_with fail
 go_loopw [6] (fun vi wr => ∃ k : Nat, k ≤ n ∧ vi = .int .i64 k ∧ Hid (CtP 55 w wr (.slice a2 n c2) P (ctlP (P.take k)))) (fun vi _ => n - (intOf vi).toNat)
 case atStart => exact ⟨0, Nat.zero_le _, rfl, HJ.out⟩
 case round =>
  clear HJ
  obtain ⟨k, hk, rfl, HR⟩ := hrel
  by_cases hlt : k < n
  ·have hkP : k < P.length := by have := HN.out; omega
   have hlt' : (k : Int) < (n : Int) := by omega
   obtain ⟨pb, po, rfl, hpc⟩ := HR.out.at rfl k hkP
   obtain ⟨X, hX⟩ : ∃ X : ByteArray, X = ⟨P[k].toArray⟩ := ⟨_, rfl⟩
   rw [← hX] at hpc
   have hXl : X.data.toList = P[k] := by rw [hX]
   have hXs : X.size ≤ 100000000 := by
    rw [Lib.size_eq, hXl]
    exact Nat.le_trans (HPS.out _ (List.getElem_mem hkP)) HBK.out
   obtain ⟨c, hc⟩ : ∃ c, c = ctlP (P.take k) := ⟨_, rfl⟩
   rw [← hc] at HR
   have HST := hid (show ctlP (P.take (k + 1)) = ctlS c X.data.toList by rw [hc, hXl]; exact ctlP_take P k hkP)
   have hmx : -1 ≤ c.mx := by rw [hc]; exact (ctlP_mx _).1
   clear hX hXl hc hkP
   obtain ⟨A, hA⟩ : ∃ B : ByteArray, ⟨(part 61 X.data.toList).1.toArray⟩ = B := ⟨_, rfl⟩
   obtain ⟨B, hB⟩ : ∃ B : ByteArray, ⟨(part 61 X.data.toList).2.1.toArray⟩ = B := ⟨_, rfl⟩
   obtain ⟨q, hq⟩ : ∃ q, (part 61 X.data.toList).2.2 = q := ⟨_, rfl⟩
   have hpl := part_le16 61 X.data.toList
   have hAl : A.data.toList = (part 61 X.data.toList).1 := by rw [← hA]
   have hBl : B.data.toList = (part 61 X.data.toList).2.1 := by rw [← hB]
   have hAs : A.size ≤ 100000000 := by rw [Lib.size_eq, hAl]; rw [Lib.size_eq] at hXs; omega
   have hBs : B.size ≤ 100000000 := by rw [Lib.size_eq, hBl]; rw [Lib.size_eq] at hXs; omega
   obtain ⟨C, hC⟩ : ∃ B' : ByteArray, ⟨(strip A.data.toList).toArray⟩ = B' := ⟨_, rfl⟩
   obtain ⟨D, hD⟩ : ∃ B' : ByteArray, ⟨(strip B.data.toList).toArray⟩ = B' := ⟨_, rfl⟩
   have hCl : C.data.toList = strip A.data.toList := by rw [← hC]
   have hDl : D.data.toList = strip B.data.toList := by rw [← hD]
   have hCs : C.size ≤ 100000000 := by rw [Lib.size_eq, hCl]; rw [Lib.size_eq] at hAs; have := strip_le16 A.data.toList; omega
   have hDs : D.size ≤ 100000000 := by rw [Lib.size_eq, hDl]; rw [Lib.size_eq] at hBs; have := strip_le16 B.data.toList; omega
   obtain ⟨N, hN⟩ : ∃ B' : ByteArray, ⟨(low C.data.toList).toArray⟩ = B' := ⟨_, rfl⟩
   obtain ⟨V, hV⟩ : ∃ B' : ByteArray, ⟨(unqV D.data.toList).toArray⟩ = B' := ⟨_, rfl⟩
   have hVl : V.data.toList = unqV D.data.toList := by rw [← hV]
   have hVs : V.size ≤ 100000000 := by rw [Lib.size_eq, hVl]; rw [Lib.size_eq] at hDs; have := unq_le D.data.toList; omega
   have HPt : Hid (∀ Y : World, Calls Tryz.prog 45 #[.string X, .int .u8 61] Y fun e w' => e = .returned (.tuple #[.string A, .string B, .bool q]) ∧ Below Y.heap.size Y w') := fun Y => by
    have h := rpart9_any X 61 Y (by omega)
    rw [hA, hB, hq] at h
    exact h
   have HS1 : Hid (∀ Y : World, Calls Tryz.prog 46 #[.string A] Y fun e w' => e = .returned (.string C) ∧ Y = w') := fun Y => by rw [← hC]; exact rstrip_any A Y (by omega)
   have HS2 : Hid (∀ Y : World, Calls Tryz.prog 46 #[.string B] Y fun e w' => e = .returned (.string D) ∧ Y = w') := fun Y => by rw [← hD]; exact rstrip_any B Y (by omega)
   have HLo : Hid (∀ Y : World, Calls Tryz.prog 47 #[.string C] Y fun e w' => e = .returned (.string N) ∧ Below Y.heap.size Y w') := fun Y => by rw [← hN]; exact rlower_any C Y (by omega)
   obtain ⟨m, hm⟩ : ∃ m, intV V.data.toList = m := ⟨_, rfl⟩
   obtain ⟨ok, hok⟩ : ∃ m, intOk V.data.toList = m := ⟨_, rfl⟩
   have HI : Hid (∀ Y : World, Calls Tryz.prog 48 #[.string V] Y fun e w' => e = .returned (.tuple #[.int .i64 m, .bool ok]) ∧ Y = w') := fun Y => by rw [← hm, ← hok]; exact rint_any V Y (by omega)
   have HNo := hid (show q = false → ok = false from fun h => by
    have h1 := part_none16 61 X.data.toList (by rw [hq]; exact h)
    rw [← hok, hVl, hDl, hBl, h1]
    decide)
   have HC := hid (show ctlP (P.take (k + 1)) = (if N.data.toList = tNS then (⟨true, c.nc, c.mx⟩ : Ctl) else if N.data.toList = tNC then ⟨c.ns, true, c.mx⟩ else if N.data.toList = tMA then ⟨c.ns, c.nc, if ok && decide (c.mx = -1) then m else c.mx⟩ else c) by
    rw [HST.out, ← hm, ← hok, ← hN, hVl, hDl, hBl, hCl, hAl]
    rfl)
   obtain ⟨cs, cc, cm⟩ := c
   have HV := hid hV
   clear hpl hA hB hq hAl hBl hAs hBs hC hD hCl hDl hCs hN hV hVl hm hok HST hXs
   go_wp2_with fail
   refine (HPt.out _).mono ?_
   rintro e w3 ⟨rfl, hb3⟩
   have HP3 := hid (HR.out.kept hb3)
   clear hb3
   go_wp2_with fail
   refine (HS2.out _).mono ?_
   rintro e w4 ⟨rfl, rfl⟩
   go_upto_region 8 with fail
   go_cut [50] from 38 to 49 (fun x wx => x = .bool (decide (1 < D.size) && (hd16 D && lt16 D)) ∧ wx = w3)
   case first =>
    by_cases hsz : 1 < D.size
    ·obtain ⟨M, hM⟩ : ∃ M, D.size = M + 1 := ⟨D.size - 1, by omega⟩
     have hsz' : (1 : Int) < (D.size : Int) := by omega
     have hni : (D.size : Int) - 1 = (M : Int) := by omega
     have hM1 : 1 ≤ M := by omega
     have hM2 : M < D.size := by omega
     have h02 : 0 < D.size := by omega
     have HH := hid (show hd16 D = decide (D[0]'(by omega) = 34) by unfold hd16; rw [dif_pos h02])
     have HL2 := hid (show lt16 D = decide (D[M]'(by omega) = 34) by
      unfold lt16
      rw [dif_pos h02]
      have : D.size - 1 = M := by omega
      simp only [this])
     by_cases h0 : D[0]'(by omega) = 34
     ·have e0 : ((D[0]'(by omega)).toNat : Int) = 34 := by rw [h0]; rfl
      by_cases h9 : D[M]'(by omega) = 34
      ·have e9 : ((D[M]'(by omega)).toNat : Int) = 34 := by rw [h9]; rfl
       have HZ := hid (show (decide (1 < D.size) && (hd16 D && lt16 D)) = true by rw [HH.out, HL2.out, decide_eq_true hsz, decide_eq_true h0, decide_eq_true h9]; rfl)
       clear h0 h9 hsz
       go_wp2_with fail
       go_meet
       exact ⟨by rw [HZ.out], rfl⟩
      ·have e9 : (((D[M]'(by omega)).toNat : Int) == 34) = false := by
        rw [beq_eq_false_iff_ne]; intro e; exact h9 (UInt8.toNat_inj.1 (by have : (34 : UInt8).toNat = 34 := rfl; omega))
       have HZ := hid (show (decide (1 < D.size) && (hd16 D && lt16 D)) = false by rw [HH.out, HL2.out, decide_eq_true hsz, decide_eq_true h0, decide_eq_false h9]; rfl)
       clear h0 h9 hsz
       go_wp2_with fail
       go_meet
       exact ⟨by rw [HZ.out], rfl⟩
     ·have e0 : (((D[0]'(by omega)).toNat : Int) == 34) = false := by
       rw [beq_eq_false_iff_ne]; intro e; exact h0 (UInt8.toNat_inj.1 (by have : (34 : UInt8).toNat = 34 := rfl; omega))
      have HZ := hid (show (decide (1 < D.size) && (hd16 D && lt16 D)) = false by rw [HH.out, decide_eq_true hsz, decide_eq_false h0]; rfl)
      clear h0 hsz
      go_wp2_with fail
      go_meet
      exact ⟨by rw [HZ.out], rfl⟩
    ·have hsz' : ¬ (1 : Int) < (D.size : Int) := by omega
     have HZ := hid (show (decide (1 < D.size) && (hd16 D && lt16 D)) = false by rw [decide_eq_false hsz]; rfl)
     clear hsz
     go_wp2_with fail
     go_meet
     exact ⟨by rw [HZ.out], rfl⟩
   case rest =>
    obtain ⟨rfl, hwx⟩ := hcut
    have hwx := hwx.symm
    subst hwx
    obtain ⟨qt, hqt⟩ : ∃ q, (decide (1 < D.size) && (hd16 D && lt16 D)) = q := ⟨_, rfl⟩
    have HQT := hid (quoted16 D qt hqt)
    rw [hqt]
    clear hqt
    go_upto_if 50 with fail
    go_cut [8] from 51 to 55 (fun x wx => x = .string V ∧ wx = w3)
    case first =>
     cases qt with
     | true =>
      obtain ⟨M, h1, h2, h3⟩ := HQT.out.1 rfl
      have hM1 : 1 ≤ M := h2
      have hni : (D.size : Int) - 1 = (M : Int) := by omega
      have hb1 : (1 : Int) ≤ (M : Int) ∧ (M : Int) ≤ (D.size : Int) := by omega
      have HXV := hid (show D.extract 1 M = V by rw [← h3, HV.out])
      clear h3
      go_wp2_with fail
      go_meet
      exact ⟨by rw [HXV.out], rfl⟩
     | false =>
      have HXV := hid (show D = V by rw [← HV.out]; exact (HQT.out.2 rfl).symm)
      go_wp2_with fail
      go_meet
      exact ⟨by rw [← HXV.out], rfl⟩
    case rest =>
     obtain ⟨rfl, hwx⟩ := hcut
     have hwx := hwx.symm
     subst hwx
     clear HQT HV
     go_wp2_with fail
     refine (HS1.out _).mono ?_
     rintro e w4 ⟨rfl, rfl⟩
     go_wp2_with fail
     refine (HLo.out _).mono ?_
     rintro e w4 ⟨rfl, hb4⟩
     have HP4 := hid (HP3.out.kept hb4)
     clear hb4
     obtain ⟨d0, d1, d2, z0, z1, z2⟩ := HP4.out.2.1.cells
     by_cases h1 : N.data.toList = tNS
     ·have HD := hid (show ctlP (P.take (k + 1)) = ⟨true, cc, cm⟩ by rw [HC.out, if_pos h1])
      have hNe : N = ⟨#[110, 111, 45, 115, 116, 111, 114, 101]⟩ := eq_lit16 h1
      clear h1 HC
      subst hNe
      go_wp2_with fail
      go_roundw
      case rel =>
       first
        | exact ⟨k + 1, by omega, by go_num, by rw [HD.out]; exact HP4.out.set 0 _ _ rfl⟩
        | ((repeat apply Exists.intro); refine ⟨?_, rfl⟩; exact ⟨k + 1, by omega, by go_num, by rw [HD.out]; exact HP4.out.set 0 _ _ rfl⟩)
        | ((repeat apply Exists.intro); exact ⟨⟨k + 1, by omega, by go_num, by rw [HD.out]; exact HP4.out.set 0 _ _ rfl⟩, rfl⟩)
      case measure => simp [intOf]; omega
     ·have e1 : (N.toList == [110, 111, 45, 115, 116, 111, 114, 101]) = false := beq_no16 N _ h1
      by_cases h2 : N.data.toList = tNC
      ·have HD := hid (show ctlP (P.take (k + 1)) = ⟨cs, true, cm⟩ by rw [HC.out, if_neg h1, if_pos h2])
       have hNe : N = ⟨#[110, 111, 45, 99, 97, 99, 104, 101]⟩ := eq_lit16 h2
       clear h1 h2 HC e1
       subst hNe
       go_wp2_with fail
       go_roundw
       case rel =>
        first
         | exact ⟨k + 1, by omega, by go_num, by rw [HD.out]; exact HP4.out.set 1 _ _ rfl⟩
         | ((repeat apply Exists.intro); refine ⟨?_, rfl⟩; exact ⟨k + 1, by omega, by go_num, by rw [HD.out]; exact HP4.out.set 1 _ _ rfl⟩)
         | ((repeat apply Exists.intro); exact ⟨⟨k + 1, by omega, by go_num, by rw [HD.out]; exact HP4.out.set 1 _ _ rfl⟩, rfl⟩)
       case measure => simp [intOf]; omega
      ·have e2 : (N.toList == [110, 111, 45, 99, 97, 99, 104, 101]) = false := beq_no16 N _ h2
       by_cases h3 : N.data.toList = tMA
       ·have HD := hid (show ctlP (P.take (k + 1)) = ⟨cs, cc, if ok && decide (cm = -1) then m else cm⟩ by rw [HC.out, if_neg h1, if_neg h2, if_pos h3])
        have hNe : N = ⟨#[109, 97, 120, 45, 97, 103, 101]⟩ := eq_lit16 h3
        clear h1 h2 h3 HC e1 e2
        subst hNe
        cases q with
        | false =>
         have hokf := HNo.out rfl
         have HD2 := hid (show ctlP (P.take (k + 1)) = ⟨cs, cc, cm⟩ by rw [HD.out, hokf]; rfl)
         clear HD hokf
         have HD := HD2
         clear HD2
         go_wp2_with fail
         refine (HI.out _).mono ?_
         rintro e w5 ⟨rfl, rfl⟩
         go_wp2_with fail
         go_roundw
         case rel =>
          first
           | exact ⟨k + 1, by omega, by go_num, by rw [HD.out]; exact HP4.out⟩
           | ((repeat apply Exists.intro); refine ⟨?_, rfl⟩; exact ⟨k + 1, by omega, by go_num, by rw [HD.out]; exact HP4.out⟩)
           | ((repeat apply Exists.intro); exact ⟨⟨k + 1, by omega, by go_num, by rw [HD.out]; exact HP4.out⟩, rfl⟩)
         case measure => simp [intOf]; omega
        | true =>
         clear HNo
         cases ok with
         | false =>
          have HD2 := hid (show ctlP (P.take (k + 1)) = ⟨cs, cc, cm⟩ by rw [HD.out]; rfl)
          clear HD
          have HD := HD2
          clear HD2
          go_wp2_with fail
          refine (HI.out _).mono ?_
          rintro e w5 ⟨rfl, rfl⟩
          go_wp2_with fail
          go_roundw
          case rel =>
           first
            | exact ⟨k + 1, by omega, by go_num, by rw [HD.out]; exact HP4.out⟩
            | ((repeat apply Exists.intro); refine ⟨?_, rfl⟩; exact ⟨k + 1, by omega, by go_num, by rw [HD.out]; exact HP4.out⟩)
            | ((repeat apply Exists.intro); exact ⟨⟨k + 1, by omega, by go_num, by rw [HD.out]; exact HP4.out⟩, rfl⟩)
          case measure => simp [intOf]; omega
         | true =>
          by_cases h4 : cm = -1
          ·subst h4
           have HD2 := hid (show ctlP (P.take (k + 1)) = ⟨cs, cc, m⟩ by rw [HD.out]; rfl)
           clear HD
           have HD := HD2
           clear HD2
           go_wp2_with fail
           refine (HI.out _).mono ?_
           rintro e w5 ⟨rfl, rfl⟩
           go_wp2_with fail
           go_roundw
           case rel =>
            first
             | exact ⟨k + 1, by omega, by go_num, by rw [HD.out]; exact HP4.out.set 2 _ _ rfl⟩
             | ((repeat apply Exists.intro); refine ⟨?_, rfl⟩; exact ⟨k + 1, by omega, by go_num, by rw [HD.out]; exact HP4.out.set 2 _ _ rfl⟩)
             | ((repeat apply Exists.intro); exact ⟨⟨k + 1, by omega, by go_num, by rw [HD.out]; exact HP4.out.set 2 _ _ rfl⟩, rfl⟩)
           case measure => simp [intOf]; omega
          ·have HD2 := hid (show ctlP (P.take (k + 1)) = ⟨cs, cc, cm⟩ by rw [HD.out, decide_eq_false h4]; rfl)
           clear HD
           have HD := HD2
           clear HD2
           have hcm : -1 ≤ cm := hmx
           have e4 : ¬ cm < 0 := by omega
           go_wp2_with fail
           refine (HI.out _).mono ?_
           rintro e w5 ⟨rfl, rfl⟩
           go_wp2_with fail
           go_roundw
           case rel =>
            first
             | exact ⟨k + 1, by omega, by go_num, by rw [HD.out]; exact HP4.out⟩
             | ((repeat apply Exists.intro); refine ⟨?_, rfl⟩; exact ⟨k + 1, by omega, by go_num, by rw [HD.out]; exact HP4.out⟩)
             | ((repeat apply Exists.intro); exact ⟨⟨k + 1, by omega, by go_num, by rw [HD.out]; exact HP4.out⟩, rfl⟩)
           case measure => simp [intOf]; omega
       ·have HD := hid (show ctlP (P.take (k + 1)) = ⟨cs, cc, cm⟩ by rw [HC.out, if_neg h1, if_neg h2, if_neg h3])
        have e3 : (N.toList == [109, 97, 120, 45, 97, 103, 101]) = false := beq_no16 N _ h3
        clear h1 h2 h3 HC
        go_wp2_with fail
        go_roundw
        case rel =>
         first
          | exact ⟨k + 1, by omega, by go_num, by rw [HD.out]; exact HP4.out⟩
          | ((repeat apply Exists.intro); refine ⟨?_, rfl⟩; exact ⟨k + 1, by omega, by go_num, by rw [HD.out]; exact HP4.out⟩)
          | ((repeat apply Exists.intro); exact ⟨⟨k + 1, by omega, by go_num, by rw [HD.out]; exact HP4.out⟩, rfl⟩)
        case measure => simp [intOf]; omega
  ·obtain rfl : k = n := by omega
   have hall : P.take k = P := List.take_of_length_le (by have := HN.out; omega)
   rw [hall] at HR
   obtain ⟨c, hc⟩ : ∃ c, ctlP P = c := ⟨_, rfl⟩
   rw [hc] at HR
   have HO := hid HR.out.out
   have HCt := hid hc
   obtain ⟨d0, d1, d2, z0, z1, z2⟩ := HR.out.2.1.cells
   obtain ⟨f0, f1, f2, y0, y1, y2⟩ := HR.out.1.cells
   clear hc hall
   obtain ⟨cs, cc, cm⟩ := c
   go_wp2_with fail
   exact bodyPost_ret (results_rct rfl _ _ w.heap.size cs cc cm rfl HO.out.1) rfl (by rw [HCt.out]; exact HO.out.2)

set_option maxHeartbeats 4000000 in
theorem radd16_any (a b : Int) (w : World) (ha : -9223372036854775808 ≤ a ∧ a ≤ 9223372036854775807) (hb : -9223372036854775808 ≤ b ∧ b ≤ 9223372036854775807) :
  Calls Tryz.prog 25 #[.int .i64 a, .int .i64 b] w fun e w' => e = .returned (.int .i64 (addV a b)) ∧ w' = w := by
 by_cases h1 : 0 < b
 ·have h2 : ¬ b < 0 := by omega
  have hr : -9223372036854775808 ≤ 9223372036854775807 - b ∧ 9223372036854775807 - b ≤ 9223372036854775807 := by omega
  by_cases h3 : 9223372036854775807 - b < a
  ·have HE := hid (show addV a b = 9223372036854775807 by unfold addV; (repeat' split) <;> omega)
   go_enter Tryz.func25, Tryz.ntmps25
   go_wp2
   go_ret
   exact ⟨ret_i16 HE.out.symm, rfl⟩
  ·have hr2 : -9223372036854775808 ≤ a + b ∧ a + b ≤ 9223372036854775807 := by omega
   by_cases h7 : a + b < 0
   ·have HE := hid (show addV a b = 0 by unfold addV; (repeat' split) <;> omega)
    go_enter Tryz.func25, Tryz.ntmps25
    go_wp2
    go_ret
    exact ⟨ret_i16 HE.out.symm, rfl⟩
   ·have HE := hid (show addV a b = a + b by unfold addV; (repeat' split) <;> omega)
    go_enter Tryz.func25, Tryz.ntmps25
    go_wp2
    go_ret
    exact ⟨ret_i16 HE.out.symm, rfl⟩
 ·by_cases h2 : b < 0
  ·have hr : -9223372036854775808 ≤ -9223372036854775808 - b ∧ -9223372036854775808 - b ≤ 9223372036854775807 := by omega
   by_cases h3 : a < -9223372036854775808 - b
   ·have HE := hid (show addV a b = 0 by unfold addV; (repeat' split) <;> omega)
    go_enter Tryz.func25, Tryz.ntmps25
    go_wp2
    go_ret
    exact ⟨ret_i16 HE.out.symm, rfl⟩
   ·have hr2 : -9223372036854775808 ≤ a + b ∧ a + b ≤ 9223372036854775807 := by omega
    by_cases h7 : a + b < 0
    ·have HE := hid (show addV a b = 0 by unfold addV; (repeat' split) <;> omega)
     go_enter Tryz.func25, Tryz.ntmps25
     go_wp2
     go_ret
     exact ⟨ret_i16 HE.out.symm, rfl⟩
    ·have HE := hid (show addV a b = a + b by unfold addV; (repeat' split) <;> omega)
     go_enter Tryz.func25, Tryz.ntmps25
     go_wp2
     go_ret
     exact ⟨ret_i16 HE.out.symm, rfl⟩
  ·have hr2 : -9223372036854775808 ≤ a + b ∧ a + b ≤ 9223372036854775807 := by omega
   by_cases h7 : a + b < 0
   ·have HE := hid (show addV a b = 0 by unfold addV; (repeat' split) <;> omega)
    go_enter Tryz.func25, Tryz.ntmps25
    go_wp2
    go_ret
    exact ⟨ret_i16 HE.out.symm, rfl⟩
   ·have HE := hid (show addV a b = a + b by unfold addV; (repeat' split) <;> omega)
    go_enter Tryz.func25, Tryz.ntmps25
    go_wp2
    go_ret
    exact ⟨ret_i16 HE.out.symm, rfl⟩

set_option maxHeartbeats 4000000 in
theorem rage16_any (v : Value) (L : List Hd) (s n : Int) (w : World) (h : HdAt w v L) (hz : Szd 140737488351232 L) (hl : L.length ≤ 1000000) (hb : bulkV L ≤ 1000000000) (hs : -9223372036854775808 ≤ s ∧ s ≤ 9223372036854775807) (hn : -9223372036854775808 ≤ n ∧ n ≤ 9223372036854775807) :
  Calls Tryz.prog 27 #[v, .int .i64 s, .int .i64 n] w fun e w' => e = .returned (.int .i64 (ageV L s n)) ∧ Below w.heap.size w w' := by
 obtain ⟨va, vcc, rfl, _, _, _⟩ := h.view
 have HG := hid (rget_any _ L ⟨#[97, 103, 101]⟩ w h (by decide) hz hl (by omega))
 have htl := getT_len L nAg
 obtain ⟨b, hbb⟩ : ∃ b, getB L nAg = b := ⟨_, rfl⟩
 obtain ⟨T, hT⟩ : ∃ B' : ByteArray, ⟨(getT L nAg).toArray⟩ = B' := ⟨_, rfl⟩
 rw [show (⟨#[97, 103, 101]⟩ : ByteArray).data.toList = nAg from rfl, hT, hbb] at HG
 have hTl : T.data.toList = getT L nAg := by rw [← hT]
 have hTs : T.size ≤ 1000000000 := by rw [Lib.size_eq, hTl]; omega
 obtain ⟨S, hS⟩ : ∃ B' : ByteArray, ⟨(strip T.data.toList).toArray⟩ = B' := ⟨_, rfl⟩
 have hSl : S.data.toList = strip T.data.toList := by rw [← hS]
 have hSs : S.size ≤ 1000000000 := by rw [Lib.size_eq, hSl]; rw [Lib.size_eq] at hTs; have := strip_le16 T.data.toList; omega
 obtain ⟨m, hm⟩ : ∃ m, intV S.data.toList = m := ⟨_, rfl⟩
 obtain ⟨ok, hok⟩ : ∃ m, intOk S.data.toList = m := ⟨_, rfl⟩
 have hmr := intV_range S.data.toList
 rw [hm] at hmr
 have hir := sinV_range s n
 have HSt : Hid (∀ Y : World, Calls Tryz.prog 46 #[.string T] Y fun e w' => e = .returned (.string S) ∧ Y = w') := fun Y => by rw [← hS]; exact rstrip_any T Y (by omega)
 have HI : Hid (∀ Y : World, Calls Tryz.prog 48 #[.string S] Y fun e w' => e = .returned (.tuple #[.int .i64 m, .bool ok]) ∧ Y = w') := fun Y => by rw [← hm, ← hok]; exact rint_any S Y (by omega)
 have HE := hid (show ageV L s n = addV m (sinV s n) by unfold ageV; rw [← hTl, ← hSl, hm])
 clear htl hbb hT hTl hTs hS hSl hSs hm hok hir h hz hl hb
 by_cases h1 : n ≤ s
 ·have HE2 := hid (show ageV L s n = m by
   rw [HE.out]; unfold sinV addV; rw [if_pos h1]; repeat' split
   all_goals omega)
  go_enter Tryz.func27, Tryz.ntmps27
  go_wp2_with fail
  refine HG.out.mono ?_
  rintro e w1 ⟨rfl, hb1⟩
  go_wp2_with fail
  refine (HSt.out _).mono ?_
  rintro e w2 ⟨rfl, rfl⟩
  go_wp2_with fail
  refine (HI.out _).mono ?_
  rintro e w2 ⟨rfl, rfl⟩
  go_wp2
  go_ret
  exact ⟨ret_i16 HE2.out.symm, hb1⟩
 ·obtain ⟨d, hd⟩ : ∃ d, wrap64 (n - s) = d := ⟨_, rfl⟩
  have HV := hid (show sinV s n = if d < 0 then 9223372036854775807 else d by
   rw [← hd]; unfold sinV wrap64; repeat' split
   all_goals omega)
  have hdr : -9223372036854775808 ≤ d ∧ d ≤ 9223372036854775807 := by rw [← hd]; unfold wrap64; omega
  by_cases h2 : d < 0
  ·have HAd := hid (fun (Y : World) => radd16_any m 9223372036854775807 Y (by omega) (by omega))
   have HE2 := hid (show ageV L s n = addV m 9223372036854775807 by rw [HE.out, HV.out, if_pos h2])
   clear HV hdr
   go_enter Tryz.func27, Tryz.ntmps27
   go_wp2_with fail
   refine HG.out.mono ?_
   rintro e w1 ⟨rfl, hb1⟩
   go_wp2_with fail
   refine (HSt.out _).mono ?_
   rintro e w2 ⟨rfl, rfl⟩
   go_wp2_with fail
   refine (HI.out _).mono ?_
   rintro e w2 ⟨rfl, rfl⟩
   go_wp2_with fail
   refine (HAd.out _).mono ?_
   rintro e w2 ⟨rfl, hw2⟩
   rw [hw2]
   clear hw2
   go_wp2
   go_ret
   exact ⟨ret_i16 HE2.out.symm, hb1⟩
  ·have HAd := hid (fun (Y : World) => radd16_any m d Y (by omega) hdr)
   have HE2 := hid (show ageV L s n = addV m d by rw [HE.out, HV.out, if_neg h2])
   clear HV hdr
   go_enter Tryz.func27, Tryz.ntmps27
   go_wp2_with fail
   refine HG.out.mono ?_
   rintro e w1 ⟨rfl, hb1⟩
   go_wp2_with fail
   refine (HSt.out _).mono ?_
   rintro e w2 ⟨rfl, rfl⟩
   go_wp2_with fail
   refine (HI.out _).mono ?_
   rintro e w2 ⟨rfl, rfl⟩
   go_wp2_with fail
   refine (HAd.out _).mono ?_
   rintro e w2 ⟨rfl, hw2⟩
   rw [hw2]
   clear hw2
   go_wp2
   go_ret
   exact ⟨ret_i16 HE2.out.symm, hb1⟩

set_option maxHeartbeats 8000000 in
set_option maxRecDepth 100000 in
theorem rfresh16_any (v : Value) (L : List Hd) (s n : Int) (w : World) (h : HdAt w v L) (hz : Szd 140737488351232 L) (hl : L.length ≤ 1000000) (hb : bulkV L ≤ 100000000) (hs : -9223372036854775808 ≤ s ∧ s ≤ 9223372036854775807) (hn : -9223372036854775808 ≤ n ∧ n ≤ 9223372036854775807) :
  Calls Tryz.prog 29 #[v, .int .i64 s, .int .i64 n] w fun e w' => e = .returned (.bool (freV L s n)) ∧ Below w.heap.size w w' := by
 obtain ⟨va, vcc, rfl, _, _, _⟩ := h.view
 have HP := hid (rparse16_any _ L w h hz hl (by omega))
 have HA := hid (fun (Y : World) (hY : Below w.heap.size w Y) => rage16_any _ L s n Y (h.kept hY) hz hl (by omega) hs hn)
 obtain ⟨A, hA⟩ : ∃ A, ageV L s n = A := ⟨_, rfl⟩
 have HE := hid (show freV L s n = (!(ctlV L).nc && decide (A < (ctlV L).mx)) by unfold freV; rw [hA])
 rw [hA] at HA
 obtain ⟨c, hc⟩ : ∃ c, ctlV L = c := ⟨_, rfl⟩
 rw [hc] at HP HE
 obtain ⟨cs, cc, cm⟩ := c
 unfold CtPost at HP
 clear hA hc h hz hl hb 
 go_enter Tryz.func29, Tryz.ntmps29
 go_wp2_with fail
 refine HP.out.mono ?_
 rintro e w1 ⟨rfl, hb1⟩
 obtain ⟨W2, hW2⟩ : ∃ X, (w1.alloc (.cells #[.bool cs, .bool cc, .int .i64 cm] 55)) = X := ⟨_, rfl⟩
 have hb2 : Below w1.heap.size w1 W2 := by rw [← hW2]; exact (Below.refl _ w1).alloc (Nat.le_refl _) _
 have hr2 : CtC 55 W2 w1.heap.size ⟨cs, cc, cm⟩ := by rw [← hW2]; exact heap_alloc_new w1 _
 have HB2 := hid (below2 hb1 hb2)
 have HKF := hid (fun (Z : World) (hZ : Below W2.heap.size W2 Z) => (show Z.cell? ⟨w1.heap.size, 1, none⟩ = some (.bool cc) ∧ Z.cell? ⟨w1.heap.size, 2, none⟩ = some (.int .i64 cm) from ⟨(hr2.kept hZ).cells.2.1, (hr2.kept hZ).cells.2.2.1⟩))
 have HQ0 := hid ((Below.refl W2.heap.size W2).drew)
 clear hb1 hb2 hr2 HP
 cases cc with
 | true =>
  have HE2 := hid (show freV L s n = false by rw [HE.out]; rfl)
  clear HE
  go_upto_region 2 with fail
  refine wp_region_held_drew (S := (fun wx => Below W2.heap.size W2 wx)) (by kernel_rfl) HQ0.out (fun hHeld => ?_)
  refine wpAnyH_to (fuel' := 13) (listed' := #[false, false, false, false, false, false, false, false, false, false, false, false, false]) rfl rfl ?_
  refine' wpAnyH_take (i := 0) (oi := ⟨some 10, _, _, _, _, _⟩) (v := _) rfl (by kernel_rfl) (by kernel_rfl) (by kernel_rfl) (fun _ _ _ h => h) (Or.inl ⟨by kernel_rfl, ?hyfa1⟩) (by assumption) ?restfa1
  case hyfa1 => (intro wx hSw; (try dsimp only at hSw); obtain ⟨f1, f2⟩ := HKF.out _ hSw; go_simp; first | done | with_reducible rfl)
  (try simp only [Act.put, List.setIfInBounds_toArray, List.set_cons_zero, List.set_cons_succ])
  refine' wpAnyH_take (i := 1) (oi := ⟨some 11, _, _, _, _, _⟩) (v := _) rfl (by kernel_rfl) (by kernel_rfl) (by kernel_rfl) (fun _ _ _ h => h) (Or.inl ⟨by kernel_rfl, ?hyfa2⟩) (by assumption) ?restfa2
  case hyfa2 => (intro wx hSw; (try dsimp only at hSw); obtain ⟨f1, f2⟩ := HKF.out _ hSw; go_simp; first | done | with_reducible rfl)
  (try simp only [Act.put, List.setIfInBounds_toArray, List.set_cons_zero, List.set_cons_succ])
  refine' wpAnyH_take (i := 2) (oi := ⟨some 12, _, _, _, _, _⟩) (v := _) rfl (by kernel_rfl) (by kernel_rfl) (by kernel_rfl) (fun _ _ _ h => h) (Or.inl ⟨by kernel_rfl, ?hyfa3⟩) (by assumption) ?restfa3
  case hyfa3 => (intro wx hSw; (try dsimp only at hSw); obtain ⟨f1, f2⟩ := HKF.out _ hSw; go_simp; first | done | with_reducible rfl)
  (try simp only [Act.put, List.setIfInBounds_toArray, List.set_cons_zero, List.set_cons_succ])
  refine' wpAnyH_take (i := 3) (oi := ⟨some 13, _, _, _, _, _⟩) (v := _) rfl (by kernel_rfl) (by kernel_rfl) (by kernel_rfl) (fun _ _ _ h => h) (Or.inl ⟨by kernel_rfl, ?hyfa4⟩) (by assumption) ?restfa4
  case hyfa4 => (intro wx hSw; (try dsimp only at hSw); obtain ⟨f1, f2⟩ := HKF.out _ hSw; go_simp; first | done | with_reducible rfl)
  (try simp only [Act.put, List.setIfInBounds_toArray, List.set_cons_zero, List.set_cons_succ])
  refine wpAnyH_take (i := 4) (oi := ⟨some 14, _, _, _, _, _⟩) (v := undef) rfl (by kernel_rfl) (by kernel_rfl) (by kernel_rfl) (fun _ _ _ h => h) (Or.inr ⟨by kernel_rfl, by kernel_rfl⟩) (by assumption) ?_
  (try simp only [Act.put, List.setIfInBounds_toArray, List.set_cons_zero, List.set_cons_succ])
  refine wpAnyH_take (i := 5) (oi := ⟨some 15, _, _, _, _, _⟩) (v := undef) rfl (by kernel_rfl) (by kernel_rfl) (by kernel_rfl) (fun _ _ _ h => h) (Or.inr ⟨by kernel_rfl, by kernel_rfl⟩) (by assumption) ?_
  (try simp only [Act.put, List.setIfInBounds_toArray, List.set_cons_zero, List.set_cons_succ])
  refine wpAnyH_take (i := 6) (oi := ⟨some 16, _, _, _, _, _⟩) (v := undef) rfl (by kernel_rfl) (by kernel_rfl) (by kernel_rfl) (fun _ _ _ h => h) (Or.inr ⟨by kernel_rfl, by kernel_rfl⟩) (by assumption) ?_
  (try simp only [Act.put, List.setIfInBounds_toArray, List.set_cons_zero, List.set_cons_succ])
  refine wpAnyH_take (i := 7) (oi := ⟨some 17, _, _, _, _, _⟩) (v := undef) rfl (by kernel_rfl) (by kernel_rfl) (by kernel_rfl) (fun _ _ _ h => h) (Or.inr ⟨by kernel_rfl, by kernel_rfl⟩) (by assumption) ?_
  (try simp only [Act.put, List.setIfInBounds_toArray, List.set_cons_zero, List.set_cons_succ])
  refine wpAnyH_take (i := 8) (oi := ⟨some 18, _, _, _, _, _⟩) (v := undef) rfl (by kernel_rfl) (by kernel_rfl) (by kernel_rfl) (fun _ _ _ h => h) (Or.inr ⟨by kernel_rfl, by kernel_rfl⟩) (by assumption) ?_
  (try simp only [Act.put, List.setIfInBounds_toArray, List.set_cons_zero, List.set_cons_succ])
  refine wpAnyH_take (i := 9) (oi := ⟨some 19, _, _, _, _, _⟩) (v := undef) rfl (by kernel_rfl) (by kernel_rfl) (by kernel_rfl) (fun _ _ _ h => h) (Or.inr ⟨by kernel_rfl, by kernel_rfl⟩) (by assumption) ?_
  (try simp only [Act.put, List.setIfInBounds_toArray, List.set_cons_zero, List.set_cons_succ])
  refine wpAnyH_take (i := 10) (oi := ⟨some 20, _, _, _, _, _⟩) (v := undef) rfl (by kernel_rfl) (by kernel_rfl) (by kernel_rfl) (fun _ _ _ h => h) (Or.inr ⟨by kernel_rfl, by kernel_rfl⟩) (by assumption) ?_
  (try simp only [Act.put, List.setIfInBounds_toArray, List.set_cons_zero, List.set_cons_succ])
  refine' wpAnyH_take (i := 11) (oi := ⟨some 21, _, _, _, _, _⟩) (v := _) rfl (by kernel_rfl) (by kernel_rfl) (by kernel_rfl) (fun _ _ _ h => h) (Or.inl ⟨by kernel_rfl, ?hyfa5⟩) (by assumption) ?restfa5
  case hyfa5 => (intro wx hSw; (try dsimp only at hSw); obtain ⟨f1, f2⟩ := HKF.out _ hSw; go_simp; first | done | with_reducible rfl)
  (try simp only [Act.put, List.setIfInBounds_toArray, List.set_cons_zero, List.set_cons_succ])
  refine' wpAnyH_take (i := 12) (oi := ⟨some 6, _, _, _, _, _⟩) (v := _) rfl (by kernel_rfl) (by kernel_rfl) (by kernel_rfl) (fun _ _ _ h => h) (Or.inl ⟨by kernel_rfl, ?hyfa6⟩) (by assumption) ?restfa6
  case hyfa6 => (intro wx hSw; (try dsimp only at hSw); obtain ⟨f1, f2⟩ := HKF.out _ hSw; go_simp; first | done | with_reducible rfl)
  (try simp only [Act.put, List.setIfInBounds_toArray, List.set_cons_zero, List.set_cons_succ])
  refine wpAnyH_done (by kernel_rfl) ?_ _
  go_wp2
  go_ret
  exact ⟨by rw [HE2.out]; rfl, below2 HB2.out HQ0.out⟩
 | false =>
  have HE2 := hid (show freV L s n = decide (A < cm) by rw [HE.out]; rfl)
  clear HE
  go_upto_region 2 with fail
  refine wp_region_held_drew (S := (fun wx => Below W2.heap.size W2 wx)) (by kernel_rfl) HQ0.out (fun hHeld => ?_)
  refine wpAnyH_to (fuel' := 13) (listed' := #[false, false, false, false, false, false, false, false, false, false, false, false, false]) rfl rfl ?_
  refine' wpAnyH_take (i := 0) (oi := ⟨some 10, _, _, _, _, _⟩) (v := _) rfl (by kernel_rfl) (by kernel_rfl) (by kernel_rfl) (fun _ _ _ h => h) (Or.inl ⟨by kernel_rfl, ?hyfb1⟩) (by assumption) ?restfb1
  case hyfb1 => (intro wx hSw; (try dsimp only at hSw); obtain ⟨f1, f2⟩ := HKF.out _ hSw; go_simp; first | done | with_reducible rfl)
  (try simp only [Act.put, List.setIfInBounds_toArray, List.set_cons_zero, List.set_cons_succ])
  refine' wpAnyH_take (i := 1) (oi := ⟨some 11, _, _, _, _, _⟩) (v := _) rfl (by kernel_rfl) (by kernel_rfl) (by kernel_rfl) (fun _ _ _ h => h) (Or.inl ⟨by kernel_rfl, ?hyfb2⟩) (by assumption) ?restfb2
  case hyfb2 => (intro wx hSw; (try dsimp only at hSw); obtain ⟨f1, f2⟩ := HKF.out _ hSw; go_simp; first | done | with_reducible rfl)
  (try simp only [Act.put, List.setIfInBounds_toArray, List.set_cons_zero, List.set_cons_succ])
  refine' wpAnyH_take (i := 2) (oi := ⟨some 12, _, _, _, _, _⟩) (v := _) rfl (by kernel_rfl) (by kernel_rfl) (by kernel_rfl) (fun _ _ _ h => h) (Or.inl ⟨by kernel_rfl, ?hyfb3⟩) (by assumption) ?restfb3
  case hyfb3 => (intro wx hSw; (try dsimp only at hSw); obtain ⟨f1, f2⟩ := HKF.out _ hSw; go_simp; first | done | with_reducible rfl)
  (try simp only [Act.put, List.setIfInBounds_toArray, List.set_cons_zero, List.set_cons_succ])
  refine' wpAnyH_take (i := 3) (oi := ⟨some 13, _, _, _, _, _⟩) (v := _) rfl (by kernel_rfl) (by kernel_rfl) (by kernel_rfl) (fun _ _ _ h => h) (Or.inl ⟨by kernel_rfl, ?hyfb4⟩) (by assumption) ?restfb4
  case hyfb4 => (intro wx hSw; (try dsimp only at hSw); obtain ⟨f1, f2⟩ := HKF.out _ hSw; go_simp; first | done | with_reducible rfl)
  (try simp only [Act.put, List.setIfInBounds_toArray, List.set_cons_zero, List.set_cons_succ])
  refine' wpAnyH_take (i := 4) (oi := ⟨some 14, _, _, _, _, _⟩) (v := _) rfl (by kernel_rfl) (by kernel_rfl) (by kernel_rfl) (fun _ _ _ h => h) (Or.inl ⟨by kernel_rfl, ?hyfb5⟩) (by assumption) ?restfb5
  case hyfb5 => (intro wx hSw; (try dsimp only at hSw); obtain ⟨f1, f2⟩ := HKF.out _ hSw; go_simp; first | done | with_reducible rfl)
  (try simp only [Act.put, List.setIfInBounds_toArray, List.set_cons_zero, List.set_cons_succ])
  refine' wpAnyH_take (i := 5) (oi := ⟨some 15, _, _, _, _, _⟩) (v := _) rfl (by kernel_rfl) (by kernel_rfl) (by kernel_rfl) (fun _ _ _ h => h) (Or.inl ⟨by kernel_rfl, ?hyfb6⟩) (by assumption) ?restfb6
  case hyfb6 => (intro wx hSw; (try dsimp only at hSw); obtain ⟨f1, f2⟩ := HKF.out _ hSw; go_simp; first | done | with_reducible rfl)
  (try simp only [Act.put, List.setIfInBounds_toArray, List.set_cons_zero, List.set_cons_succ])
  refine' wpAnyH_take (i := 6) (oi := ⟨some 16, _, _, _, _, _⟩) (v := _) rfl (by kernel_rfl) (by kernel_rfl) (by kernel_rfl) (fun _ _ _ h => h) (Or.inl ⟨by kernel_rfl, ?hyfb7⟩) (by assumption) ?restfb7
  case hyfb7 => (intro wx hSw; (try dsimp only at hSw); obtain ⟨f1, f2⟩ := HKF.out _ hSw; go_simp; first | done | with_reducible rfl)
  (try simp only [Act.put, List.setIfInBounds_toArray, List.set_cons_zero, List.set_cons_succ])
  refine' wpAnyH_take (i := 7) (oi := ⟨some 17, _, _, _, _, _⟩) (v := _) rfl (by kernel_rfl) (by kernel_rfl) (by kernel_rfl) (fun _ _ _ h => h) (Or.inl ⟨by kernel_rfl, ?hyfb8⟩) (by assumption) ?restfb8
  case hyfb8 => (intro wx hSw; (try dsimp only at hSw); obtain ⟨f1, f2⟩ := HKF.out _ hSw; go_simp; first | done | with_reducible rfl)
  (try simp only [Act.put, List.setIfInBounds_toArray, List.set_cons_zero, List.set_cons_succ])
  refine' wpAnyH_take (i := 8) (oi := ⟨some 18, _, _, _, _, _⟩) (v := _) rfl (by kernel_rfl) (by kernel_rfl) (by kernel_rfl) (fun _ _ _ h => h) (Or.inl ⟨by kernel_rfl, ?hyfb9⟩) (by assumption) ?restfb9
  case hyfb9 => (intro wx hSw; (try dsimp only at hSw); obtain ⟨f1, f2⟩ := HKF.out _ hSw; go_simp; first | done | with_reducible rfl)
  (try simp only [Act.put, List.setIfInBounds_toArray, List.set_cons_zero, List.set_cons_succ])
  refine wpAnyH_ready (rs := [9]) (by kernel_rfl) (by simp) ?_
  refine AllReadyH.cons rfl (fun K9 hK => ?_) AllReadyH.nil
  rw [if_pos (by kernel_rfl)]
  go_simp
  go_wp2_with (go_at_call 27; refine (HA.out _ (below2 HB2.out HQ0.out)).mono ?_; rintro e w4 ⟨rfl, hba⟩)
  have HQ4 := hid (below2 HQ0.out hba)
  clear hba
  refine hK.out _ _ HQ4.out (fun hHeld2 => ?_)
  clear hK K9 hHeld
  rename _ => hHeld
  refine' wpAnyH_take (i := 10) (oi := ⟨some 20, _, _, _, _, _⟩) (v := _) rfl (by kernel_rfl) (by kernel_rfl) (by kernel_rfl) (fun _ _ _ h => h) (Or.inl ⟨by kernel_rfl, ?hyfb10⟩) (by assumption) ?restfb10
  case hyfb10 => (intro wx hSw; (try dsimp only at hSw); obtain ⟨f1, f2⟩ := HKF.out _ hSw; go_simp; first | done | with_reducible rfl)
  (try simp only [Act.put, List.setIfInBounds_toArray, List.set_cons_zero, List.set_cons_succ])
  refine' wpAnyH_take (i := 11) (oi := ⟨some 21, _, _, _, _, _⟩) (v := _) rfl (by kernel_rfl) (by kernel_rfl) (by kernel_rfl) (fun _ _ _ h => h) (Or.inl ⟨by kernel_rfl, ?hyfb11⟩) (by assumption) ?restfb11
  case hyfb11 => (intro wx hSw; (try dsimp only at hSw); obtain ⟨f1, f2⟩ := HKF.out _ hSw; go_simp; first | done | with_reducible rfl)
  (try simp only [Act.put, List.setIfInBounds_toArray, List.set_cons_zero, List.set_cons_succ])
  refine' wpAnyH_take (i := 12) (oi := ⟨some 6, _, _, _, _, _⟩) (v := _) rfl (by kernel_rfl) (by kernel_rfl) (by kernel_rfl) (fun _ _ _ h => h) (Or.inl ⟨by kernel_rfl, ?hyfb12⟩) (by assumption) ?restfb12
  case hyfb12 => (intro wx hSw; (try dsimp only at hSw); obtain ⟨f1, f2⟩ := HKF.out _ hSw; go_simp; first | done | with_reducible rfl)
  (try simp only [Act.put, List.setIfInBounds_toArray, List.set_cons_zero, List.set_cons_succ])
  refine wpAnyH_done (by kernel_rfl) ?_ _
  go_wp2
  go_ret
  exact ⟨by rw [HE2.out]; rfl, below2 HB2.out HQ4.out⟩

end Go.Proofs.YtooihpkoplgmbaaGreatDoor
