/-
  Walks and plain facts that this claim leans on, put together out of 3 texts: Efd, Efe, Eff.
-/
import Derived.Test.YtooihpkoplgmbaaDoorProg
import Derived.Test.YtooihpkoplgmbaaDoorQa1
import Derived.Test.YtooihpkoplgmbaaDoorQa2
import Derived.Test.YtooihpkoplgmbaaDoorQa3
import Derived.Test.YtooihpkoplgmbaaDoorQa4
import Derived.Test.YtooihpkoplgmbaaDoorQa5
import Derived.BigRegion
import Derived.Deep.RegionHeld
import Derived.Deep.RegionHeldLaw
import Derived.Lib.IndexAny
import Derived.WalkKit
import Derived.Lib.UnsafeStr
import Derived.Lib.BufferRead
import Derived.Lib.RuneBytes
import Derived.Laws.RangeAny
import Derived.Deep.LoopGhost
import Derived.Maps.OwnSet
import Derived.Maps.OwnOps
import Derived.Maps.AppendAt
import Derived.StringKeys
import Derived.BigQuiet
import Derived.Deep.QuietTactic
import Derived.LoopN
import Derived.RegionTactic
import Derived.Deep.RegionLaw
import Derived.Deep.RegionWith
import Derived.WalkSpells
import Derived.WalkLawsBesides
import Derived.Lib.FieldsP
import Derived.Lib.DecodeN
import Derived.Lib.IndexMore
import Derived.Lib.Join
import Derived.Lib.SmallJoins
import Derived.Laws.CopyOwn
import Derived.Laws.ResultCell
import Derived.Deep.MidRow
import Derived.Laws.OwnMore
import Derived.Below
import Derived.WalkSmall
import Derived.Lib.LaidTab
import Derived.Lib.AppendIntMem
import Derived.Laws.AppendOwn
import Derived.Laws.Runes
import Derived.Lib.OthersKept
import Derived.Lib.FrozenHead2
import Derived.Lib.Builder
import Derived.Lib.AppendStr
import Derived.Lib.Replace
import Derived.Shelf.GgClosure.GivesRunes
import Derived.Laws.BitsAll
import Derived.Laws.Shifts
import Derived.Deep.DeepAppendRoom
import Derived.Laws.IdiomStrings
import Derived.Laws.BytesString
import Derived.Laws.CopyRow
import Derived.Sort.OwnSorted
import Derived.Lib.SlicesCompact
import Derived.Deep.CutRange
import Derived.Lib.Strings
import Derived.Laws.BitsAllLaws
import Derived.Lib.Bytealg
import Derived.Lib.BufferMore
import Derived.Shelf.Strings.Builder1
import Derived.Shelf.Strings.Builder2
import Derived.Shelf.Strings.OnBuilder
import Derived.Shelf.Strings.Trim
import Derived.Shelf.Small.Utf8
import Derived.Shelf.Small.Bits
import Derived.Shelf.Small.Strs
import Derived.Shelf.Small.Wraps
import Derived.Shelf.Strings.BuilderF
import Derived.Shelf.Strings.BuilderK
import Derived.Shelf.Strings.Builder2Cap
import Derived.Shelf.Strconv.Itoa0
import Derived.Shelf.Strings.Search1
import Derived.Shelf.Strings.Search2
import Derived.Shelf.Strings.Cut
import Derived.Shelf.LaysM
import Derived.Shelf.Strings.Shaped
import Derived.Shelf.Sort.Plain
import Derived.Shelf.Strings.Prefix
import Derived.Shelf.Strings.Runes
import Derived.Shelf.Strings.AsciiSet
import Derived.Shelf.Unicode.DecodeSlow
import Derived.Shelf.Slices.CompactS
import Derived.Shelf.Slices.In.SortNone
import Derived.Lib.SlTrimSet
import Derived.Shelf.Strings.SlTrimAscii
import Derived.Laws.Rows
import Derived.Laws.MakeOwn
import Derived.Deep.WholeRow
import Derived.Laws.AppendOwnNone
set_option linter.unusedSimpArgs false
set_option linter.unusedVariables false

namespace Go.Proofs.YtooihpkoplgmbaaDoor
open Go.RowKit

set_option maxHeartbeats 4000000 in
theorem age16_any (v : Value) (L : List Hd) (s n : Int) (w : World) (h : HdAt w v L) (hz : Szd 140737488351232 L) (hl : L.length ≤ 1000000) (hb : bulkV L ≤ 1000000000) (hs : -9223372036854775808 ≤ s ∧ s ≤ 9223372036854775807) (hn : -9223372036854775808 ≤ n ∧ n ≤ 9223372036854775807) :
  Calls Tryd.prog 11 #[v, .int .i64 s, .int .i64 n] w fun e w' => e = .returned (.int .i64 (ageV L s n)) ∧ Below w.heap.size w w' := by
 obtain ⟨va, vcc, rfl, _, _, _⟩ := h.view
 have HG := hid (get_any _ L ⟨#[97, 103, 101]⟩ w h (by decide) hz hl (by omega))
 have htl := getT_len L nAg
 obtain ⟨b, hbb⟩ : ∃ b, getB L nAg = b := ⟨_, rfl⟩
 obtain ⟨T, hT⟩ : ∃ B' : ByteArray, ⟨(getT L nAg).toArray⟩ = B' := ⟨_, rfl⟩
 rw [show (⟨#[97, 103, 101]⟩ : ByteArray).data.toList = nAg from rfl, hT, hbb] at HG
 have hTl : T.data.toList = getT L nAg := by rw [← hT]
 have hTs : T.size ≤ 1000000000 := by rw [Lib.size_eq, hTl]; omega
 obtain ⟨S, hS⟩ : ∃ B' : ByteArray, ⟨(strip T.data.toList).toArray⟩ = B' := ⟨_, rfl⟩
 have hSl : S.data.toList = strip T.data.toList := by rw [← hS]
 have hSs : S.size ≤ 1000000000 := by rw [Lib.size_eq, hSl]; rw [Lib.size_eq] at hTs; have := strip_le16 T.data.toList; omega
 obtain ⟨m, hm⟩ : ∃ m, intV S.data.toList = m := ⟨_, rfl⟩
 obtain ⟨ok, hok⟩ : ∃ m, intOk S.data.toList = m := ⟨_, rfl⟩
 have hmr := intV_range S.data.toList
 rw [hm] at hmr
 have hir := sinV_range s n
 have HSt : Hid (∀ Y : World, Calls Tryd.prog 24 #[.string T] Y fun e w' => e = .returned (.string S) ∧ Y = w') := fun Y => by rw [← hS]; exact strip_any T Y (by omega)
 have HI : Hid (∀ Y : World, Calls Tryd.prog 22 #[.string S] Y fun e w' => e = .returned (.tuple #[.int .i64 m, .bool ok]) ∧ Y = w') := fun Y => by rw [← hm, ← hok]; exact int_any S Y (by omega)
 have HSi := hid (fun (Y : World) => since16_any s n Y hs hn)
 have HE := hid (show ageV L s n = addV m (sinV s n) by unfold ageV; rw [← hTl, ← hSl, hm])
 obtain ⟨d, hd⟩ : ∃ d, sinV s n = d := ⟨_, rfl⟩
 rw [hd] at HSi HE hir
 have HAd := hid (fun (Y : World) => add16_any m d Y (by omega) (by omega))
 clear htl hbb hT hTl hTs hS hSl hSs hm hok hmr hir hd h hz hl hb
 go_enter Tryd.func11, Tryd.ntmps11
 go_wp2_with fail
 refine HG.out.mono ?_
 rintro e w1 ⟨rfl, hb1⟩
 go_wp2_with fail
 refine (HSt.out _).mono ?_
 rintro e w2 ⟨rfl, rfl⟩
 go_wp2_with fail
 refine (HI.out _).mono ?_
 rintro e w2 ⟨rfl, rfl⟩
 go_wp2_with fail
 refine (HSi.out _).mono ?_
 rintro e w2 ⟨rfl, hw2⟩
 rw [hw2]
 clear hw2
 go_wp2_with fail
 refine (HAd.out _).mono ?_
 rintro e w2 ⟨rfl, hw2⟩
 rw [hw2]
 clear hw2
 go_wp2
 go_ret
 exact ⟨ret_i16 HE.out.symm, hb1⟩

set_option maxHeartbeats 8000000 in
set_option maxRecDepth 100000 in
theorem fresh16_any (v : Value) (L : List Hd) (s n : Int) (w : World) (hg : G5 w) (h : HdAt w v L) (hz : Szd 140737488351232 L) (hl : L.length ≤ 1000000) (hb : bulkV L ≤ 100000000) (hs : -9223372036854775808 ≤ s ∧ s ≤ 9223372036854775807) (hn : -9223372036854775808 ≤ n ∧ n ≤ 9223372036854775807) :
  Calls Tryd.prog 12 #[v, .int .i64 s, .int .i64 n] w fun e w' => e = .returned (.bool (freV L s n)) ∧ Below w.heap.size w w' := by
 obtain ⟨va, vcc, rfl, _, _, _⟩ := h.view
 have HP := hid (parse16_any _ L w hg h hz hl (by omega))
 have HA := hid (fun (Y : World) (hY : Below w.heap.size w Y) => age16_any _ L s n Y (h.kept hY) hz hl (by omega) hs hn)
 obtain ⟨A, hA⟩ : ∃ A, ageV L s n = A := ⟨_, rfl⟩
 have HE := hid (show freV L s n = (!(ctlV L).nc && decide (A < (ctlV L).mx)) by unfold freV; rw [hA])
 rw [hA] at HA
 obtain ⟨c, hc⟩ : ∃ c, ctlV L = c := ⟨_, rfl⟩
 rw [hc] at HP HE
 obtain ⟨cs, cc, cm⟩ := c
 unfold CtPost at HP
 clear hA hc h hz hl hb hg
 go_enter Tryd.func12, Tryd.ntmps12
 go_wp2_with fail
 refine HP.out.mono ?_
 rintro e w1 ⟨rfl, hb1⟩
 obtain ⟨W2, hW2⟩ : ∃ X, (w1.alloc (.cells #[.bool cs, .bool cc, .int .i64 cm] 31)) = X := ⟨_, rfl⟩
 have hb2 : Below w1.heap.size w1 W2 := by rw [← hW2]; exact (Below.refl _ w1).alloc (Nat.le_refl _) _
 have hr2 : CtC 31 W2 w1.heap.size ⟨cs, cc, cm⟩ := by rw [← hW2]; exact heap_alloc_new w1 _
 have HB2 := hid (below2 hb1 hb2)
 have HKF := hid (fun (Z : World) (hZ : Below W2.heap.size W2 Z) => (show Z.cell? ⟨w1.heap.size, 1, none⟩ = some (.bool cc) ∧ Z.cell? ⟨w1.heap.size, 2, none⟩ = some (.int .i64 cm) from ⟨(hr2.kept hZ).cells.2.1, (hr2.kept hZ).cells.2.2.1⟩))
 have HQ0 := hid ((Below.refl W2.heap.size W2).drew)
 clear hb1 hb2 hr2 HP
 cases cc with
 | true =>
  have HE2 := hid (show freV L s n = false by rw [HE.out]; rfl)
  clear HE
  go_upto_region 2 with fail
  refine wp_region_held_drew (S := (fun wx => Below W2.heap.size W2 wx)) (by kernel_rfl) HQ0.out (fun hHeld => ?_)
  refine wpAnyH_to (fuel' := 13) (listed' := #[false, false, false, false, false, false, false, false, false, false, false, false, false]) rfl rfl ?_
  refine' wpAnyH_take (i := 0) (oi := ⟨some 10, _, _, _, _, _⟩) (v := _) rfl (by kernel_rfl) (by kernel_rfl) (by kernel_rfl) (fun _ _ _ h => h) (Or.inl ⟨by kernel_rfl, ?hyfa1⟩) (by assumption) ?restfa1
  case hyfa1 => (intro wx hSw; (try dsimp only at hSw); obtain ⟨f1, f2⟩ := HKF.out _ hSw; go_simp; first | done | with_reducible rfl)
  (try simp only [Act.put, List.setIfInBounds_toArray, List.set_cons_zero, List.set_cons_succ])
  refine' wpAnyH_take (i := 1) (oi := ⟨some 11, _, _, _, _, _⟩) (v := _) rfl (by kernel_rfl) (by kernel_rfl) (by kernel_rfl) (fun _ _ _ h => h) (Or.inl ⟨by kernel_rfl, ?hyfa2⟩) (by assumption) ?restfa2
  case hyfa2 => (intro wx hSw; (try dsimp only at hSw); obtain ⟨f1, f2⟩ := HKF.out _ hSw; go_simp; first | done | with_reducible rfl)
  (try simp only [Act.put, List.setIfInBounds_toArray, List.set_cons_zero, List.set_cons_succ])
  refine' wpAnyH_take (i := 2) (oi := ⟨some 12, _, _, _, _, _⟩) (v := _) rfl (by kernel_rfl) (by kernel_rfl) (by kernel_rfl) (fun _ _ _ h => h) (Or.inl ⟨by kernel_rfl, ?hyfa3⟩) (by assumption) ?restfa3
  case hyfa3 => (intro wx hSw; (try dsimp only at hSw); obtain ⟨f1, f2⟩ := HKF.out _ hSw; go_simp; first | done | with_reducible rfl)
  (try simp only [Act.put, List.setIfInBounds_toArray, List.set_cons_zero, List.set_cons_succ])
  refine' wpAnyH_take (i := 3) (oi := ⟨some 13, _, _, _, _, _⟩) (v := _) rfl (by kernel_rfl) (by kernel_rfl) (by kernel_rfl) (fun _ _ _ h => h) (Or.inl ⟨by kernel_rfl, ?hyfa4⟩) (by assumption) ?restfa4
  case hyfa4 => (intro wx hSw; (try dsimp only at hSw); obtain ⟨f1, f2⟩ := HKF.out _ hSw; go_simp; first | done | with_reducible rfl)
  (try simp only [Act.put, List.setIfInBounds_toArray, List.set_cons_zero, List.set_cons_succ])
  refine wpAnyH_take (i := 4) (oi := ⟨some 14, _, _, _, _, _⟩) (v := undef) rfl (by kernel_rfl) (by kernel_rfl) (by kernel_rfl) (fun _ _ _ h => h) (Or.inr ⟨by kernel_rfl, by kernel_rfl⟩) (by assumption) ?_
  (try simp only [Act.put, List.setIfInBounds_toArray, List.set_cons_zero, List.set_cons_succ])
  refine wpAnyH_take (i := 5) (oi := ⟨some 15, _, _, _, _, _⟩) (v := undef) rfl (by kernel_rfl) (by kernel_rfl) (by kernel_rfl) (fun _ _ _ h => h) (Or.inr ⟨by kernel_rfl, by kernel_rfl⟩) (by assumption) ?_
  (try simp only [Act.put, List.setIfInBounds_toArray, List.set_cons_zero, List.set_cons_succ])
  refine wpAnyH_take (i := 6) (oi := ⟨some 16, _, _, _, _, _⟩) (v := undef) rfl (by kernel_rfl) (by kernel_rfl) (by kernel_rfl) (fun _ _ _ h => h) (Or.inr ⟨by kernel_rfl, by kernel_rfl⟩) (by assumption) ?_
  (try simp only [Act.put, List.setIfInBounds_toArray, List.set_cons_zero, List.set_cons_succ])
  refine wpAnyH_take (i := 7) (oi := ⟨some 17, _, _, _, _, _⟩) (v := undef) rfl (by kernel_rfl) (by kernel_rfl) (by kernel_rfl) (fun _ _ _ h => h) (Or.inr ⟨by kernel_rfl, by kernel_rfl⟩) (by assumption) ?_
  (try simp only [Act.put, List.setIfInBounds_toArray, List.set_cons_zero, List.set_cons_succ])
  refine wpAnyH_take (i := 8) (oi := ⟨some 18, _, _, _, _, _⟩) (v := undef) rfl (by kernel_rfl) (by kernel_rfl) (by kernel_rfl) (fun _ _ _ h => h) (Or.inr ⟨by kernel_rfl, by kernel_rfl⟩) (by assumption) ?_
  (try simp only [Act.put, List.setIfInBounds_toArray, List.set_cons_zero, List.set_cons_succ])
  refine wpAnyH_take (i := 9) (oi := ⟨some 19, _, _, _, _, _⟩) (v := undef) rfl (by kernel_rfl) (by kernel_rfl) (by kernel_rfl) (fun _ _ _ h => h) (Or.inr ⟨by kernel_rfl, by kernel_rfl⟩) (by assumption) ?_
  (try simp only [Act.put, List.setIfInBounds_toArray, List.set_cons_zero, List.set_cons_succ])
  refine wpAnyH_take (i := 10) (oi := ⟨some 20, _, _, _, _, _⟩) (v := undef) rfl (by kernel_rfl) (by kernel_rfl) (by kernel_rfl) (fun _ _ _ h => h) (Or.inr ⟨by kernel_rfl, by kernel_rfl⟩) (by assumption) ?_
  (try simp only [Act.put, List.setIfInBounds_toArray, List.set_cons_zero, List.set_cons_succ])
  refine' wpAnyH_take (i := 11) (oi := ⟨some 21, _, _, _, _, _⟩) (v := _) rfl (by kernel_rfl) (by kernel_rfl) (by kernel_rfl) (fun _ _ _ h => h) (Or.inl ⟨by kernel_rfl, ?hyfa5⟩) (by assumption) ?restfa5
  case hyfa5 => (intro wx hSw; (try dsimp only at hSw); obtain ⟨f1, f2⟩ := HKF.out _ hSw; go_simp; first | done | with_reducible rfl)
  (try simp only [Act.put, List.setIfInBounds_toArray, List.set_cons_zero, List.set_cons_succ])
  refine' wpAnyH_take (i := 12) (oi := ⟨some 6, _, _, _, _, _⟩) (v := _) rfl (by kernel_rfl) (by kernel_rfl) (by kernel_rfl) (fun _ _ _ h => h) (Or.inl ⟨by kernel_rfl, ?hyfa6⟩) (by assumption) ?restfa6
  case hyfa6 => (intro wx hSw; (try dsimp only at hSw); obtain ⟨f1, f2⟩ := HKF.out _ hSw; go_simp; first | done | with_reducible rfl)
  (try simp only [Act.put, List.setIfInBounds_toArray, List.set_cons_zero, List.set_cons_succ])
  refine wpAnyH_done (by kernel_rfl) ?_ _
  go_wp2
  go_ret
  exact ⟨by rw [HE2.out]; rfl, below2 HB2.out HQ0.out⟩
 | false =>
  have HE2 := hid (show freV L s n = decide (A < cm) by rw [HE.out]; rfl)
  clear HE
  go_upto_region 2 with fail
  refine wp_region_held_drew (S := (fun wx => Below W2.heap.size W2 wx)) (by kernel_rfl) HQ0.out (fun hHeld => ?_)
  refine wpAnyH_to (fuel' := 13) (listed' := #[false, false, false, false, false, false, false, false, false, false, false, false, false]) rfl rfl ?_
  refine' wpAnyH_take (i := 0) (oi := ⟨some 10, _, _, _, _, _⟩) (v := _) rfl (by kernel_rfl) (by kernel_rfl) (by kernel_rfl) (fun _ _ _ h => h) (Or.inl ⟨by kernel_rfl, ?hyfb1⟩) (by assumption) ?restfb1
  case hyfb1 => (intro wx hSw; (try dsimp only at hSw); obtain ⟨f1, f2⟩ := HKF.out _ hSw; go_simp; first | done | with_reducible rfl)
  (try simp only [Act.put, List.setIfInBounds_toArray, List.set_cons_zero, List.set_cons_succ])
  refine' wpAnyH_take (i := 1) (oi := ⟨some 11, _, _, _, _, _⟩) (v := _) rfl (by kernel_rfl) (by kernel_rfl) (by kernel_rfl) (fun _ _ _ h => h) (Or.inl ⟨by kernel_rfl, ?hyfb2⟩) (by assumption) ?restfb2
  case hyfb2 => (intro wx hSw; (try dsimp only at hSw); obtain ⟨f1, f2⟩ := HKF.out _ hSw; go_simp; first | done | with_reducible rfl)
  (try simp only [Act.put, List.setIfInBounds_toArray, List.set_cons_zero, List.set_cons_succ])
  refine' wpAnyH_take (i := 2) (oi := ⟨some 12, _, _, _, _, _⟩) (v := _) rfl (by kernel_rfl) (by kernel_rfl) (by kernel_rfl) (fun _ _ _ h => h) (Or.inl ⟨by kernel_rfl, ?hyfb3⟩) (by assumption) ?restfb3
  case hyfb3 => (intro wx hSw; (try dsimp only at hSw); obtain ⟨f1, f2⟩ := HKF.out _ hSw; go_simp; first | done | with_reducible rfl)
  (try simp only [Act.put, List.setIfInBounds_toArray, List.set_cons_zero, List.set_cons_succ])
  refine' wpAnyH_take (i := 3) (oi := ⟨some 13, _, _, _, _, _⟩) (v := _) rfl (by kernel_rfl) (by kernel_rfl) (by kernel_rfl) (fun _ _ _ h => h) (Or.inl ⟨by kernel_rfl, ?hyfb4⟩) (by assumption) ?restfb4
  case hyfb4 => (intro wx hSw; (try dsimp only at hSw); obtain ⟨f1, f2⟩ := HKF.out _ hSw; go_simp; first | done | with_reducible rfl)
  (try simp only [Act.put, List.setIfInBounds_toArray, List.set_cons_zero, List.set_cons_succ])
  refine' wpAnyH_take (i := 4) (oi := ⟨some 14, _, _, _, _, _⟩) (v := _) rfl (by kernel_rfl) (by kernel_rfl) (by kernel_rfl) (fun _ _ _ h => h) (Or.inl ⟨by kernel_rfl, ?hyfb5⟩) (by assumption) ?restfb5
  case hyfb5 => (intro wx hSw; (try dsimp only at hSw); obtain ⟨f1, f2⟩ := HKF.out _ hSw; go_simp; first | done | with_reducible rfl)
  (try simp only [Act.put, List.setIfInBounds_toArray, List.set_cons_zero, List.set_cons_succ])
  refine' wpAnyH_take (i := 5) (oi := ⟨some 15, _, _, _, _, _⟩) (v := _) rfl (by kernel_rfl) (by kernel_rfl) (by kernel_rfl) (fun _ _ _ h => h) (Or.inl ⟨by kernel_rfl, ?hyfb6⟩) (by assumption) ?restfb6
  case hyfb6 => (intro wx hSw; (try dsimp only at hSw); obtain ⟨f1, f2⟩ := HKF.out _ hSw; go_simp; first | done | with_reducible rfl)
  (try simp only [Act.put, List.setIfInBounds_toArray, List.set_cons_zero, List.set_cons_succ])
  refine' wpAnyH_take (i := 6) (oi := ⟨some 16, _, _, _, _, _⟩) (v := _) rfl (by kernel_rfl) (by kernel_rfl) (by kernel_rfl) (fun _ _ _ h => h) (Or.inl ⟨by kernel_rfl, ?hyfb7⟩) (by assumption) ?restfb7
  case hyfb7 => (intro wx hSw; (try dsimp only at hSw); obtain ⟨f1, f2⟩ := HKF.out _ hSw; go_simp; first | done | with_reducible rfl)
  (try simp only [Act.put, List.setIfInBounds_toArray, List.set_cons_zero, List.set_cons_succ])
  refine' wpAnyH_take (i := 7) (oi := ⟨some 17, _, _, _, _, _⟩) (v := _) rfl (by kernel_rfl) (by kernel_rfl) (by kernel_rfl) (fun _ _ _ h => h) (Or.inl ⟨by kernel_rfl, ?hyfb8⟩) (by assumption) ?restfb8
  case hyfb8 => (intro wx hSw; (try dsimp only at hSw); obtain ⟨f1, f2⟩ := HKF.out _ hSw; go_simp; first | done | with_reducible rfl)
  (try simp only [Act.put, List.setIfInBounds_toArray, List.set_cons_zero, List.set_cons_succ])
  refine' wpAnyH_take (i := 8) (oi := ⟨some 18, _, _, _, _, _⟩) (v := _) rfl (by kernel_rfl) (by kernel_rfl) (by kernel_rfl) (fun _ _ _ h => h) (Or.inl ⟨by kernel_rfl, ?hyfb9⟩) (by assumption) ?restfb9
  case hyfb9 => (intro wx hSw; (try dsimp only at hSw); obtain ⟨f1, f2⟩ := HKF.out _ hSw; go_simp; first | done | with_reducible rfl)
  (try simp only [Act.put, List.setIfInBounds_toArray, List.set_cons_zero, List.set_cons_succ])
  refine wpAnyH_ready (rs := [9]) (by kernel_rfl) (by simp) ?_
  refine AllReadyH.cons rfl (fun K9 hK => ?_) AllReadyH.nil
  rw [if_pos (by kernel_rfl)]
  go_simp
  go_wp2_with (go_at_call 11; refine (HA.out _ (below2 HB2.out HQ0.out)).mono ?_; rintro e w4 ⟨rfl, hba⟩)
  have HQ4 := hid (below2 HQ0.out hba)
  clear hba
  refine hK.out _ _ HQ4.out (fun hHeld2 => ?_)
  clear hK K9 hHeld
  rename _ => hHeld
  refine' wpAnyH_take (i := 10) (oi := ⟨some 20, _, _, _, _, _⟩) (v := _) rfl (by kernel_rfl) (by kernel_rfl) (by kernel_rfl) (fun _ _ _ h => h) (Or.inl ⟨by kernel_rfl, ?hyfb10⟩) (by assumption) ?restfb10
  case hyfb10 => (intro wx hSw; (try dsimp only at hSw); obtain ⟨f1, f2⟩ := HKF.out _ hSw; go_simp; first | done | with_reducible rfl)
  (try simp only [Act.put, List.setIfInBounds_toArray, List.set_cons_zero, List.set_cons_succ])
  refine' wpAnyH_take (i := 11) (oi := ⟨some 21, _, _, _, _, _⟩) (v := _) rfl (by kernel_rfl) (by kernel_rfl) (by kernel_rfl) (fun _ _ _ h => h) (Or.inl ⟨by kernel_rfl, ?hyfb11⟩) (by assumption) ?restfb11
  case hyfb11 => (intro wx hSw; (try dsimp only at hSw); obtain ⟨f1, f2⟩ := HKF.out _ hSw; go_simp; first | done | with_reducible rfl)
  (try simp only [Act.put, List.setIfInBounds_toArray, List.set_cons_zero, List.set_cons_succ])
  refine' wpAnyH_take (i := 12) (oi := ⟨some 6, _, _, _, _, _⟩) (v := _) rfl (by kernel_rfl) (by kernel_rfl) (by kernel_rfl) (fun _ _ _ h => h) (Or.inl ⟨by kernel_rfl, ?hyfb12⟩) (by assumption) ?restfb12
  case hyfb12 => (intro wx hSw; (try dsimp only at hSw); obtain ⟨f1, f2⟩ := HKF.out _ hSw; go_simp; first | done | with_reducible rfl)
  (try simp only [Act.put, List.setIfInBounds_toArray, List.set_cons_zero, List.set_cons_succ])
  refine wpAnyH_done (by kernel_rfl) ?_ _
  go_wp2
  go_ret
  exact ⟨by rw [HE2.out]; rfl, below2 HB2.out HQ4.out⟩

end Go.Proofs.YtooihpkoplgmbaaDoor

namespace Go.Proofs.YtooihpkoplgmbaaDoor
open Go.RowKit

theorem TxAt.take16 {w : World} {a : Option Addr} {n c : Nat} {L : List (List UInt8)} (h : TxAt w (.slice a n c) L) (k : Nat) (hk : k ≤ L.length) : TxAt w (.slice a k c) (L.take k) := by
 obtain ⟨a', c', e, h1, h2, h3⟩ := h.view
 injection e with e1 e2 e3
 subst e1 e3
 refine ⟨a, c, by rw [List.length_take, Nat.min_eq_left hk], by rw [List.length_take]; omega, h2, fun j hj => ?_⟩
 have hj2 : j < L.length := by rw [List.length_take] at hj; omega
 obtain ⟨b, off, e4, e5⟩ := h3 j hj2
 exact ⟨b, off, e4, by rw [List.getElem_take]; exact e5⟩

theorem cells_enc (X : List (List UInt8)) : X.map encStr = cellsT X := rfl

theorem grow_none16 (w : World) : Sort.grow w #[] = w := by
 cases w
 simp [Sort.grow]

def varV (P : List (List UInt8)) : List (List UInt8) := if vrOk P then srtN (vrS P) else []

theorem varV_yes {P X : List (List UInt8)} (h : vrOk P = true) (hX : vrS P = X) : varV P = srtN X := by unfold varV; rw [h, hX]; rfl

theorem varV_no {P : List (List UInt8)} (h : vrOk P = false) : varV P = [] := by unfold varV; rw [h]; rfl

def VyPost (P : List (List UInt8)) (w : World) (e : Ending) (w' : World) : Prop :=
 ∃ v, e = .returned (.tuple #[v, .bool (vrOk P)]) ∧ TxAt w' v (varV P) ∧ Below w.heap.size w w'

theorem srtN_len16 (X : List (List UInt8)) : (srtN X).length ≤ X.length := (srtN_facts X).2.2

set_option maxHeartbeats 8000000 in
set_option maxRecDepth 100000 in
theorem vary16_any (v : Value) (L : List Hd) (w : World) (h : HdAt w v L) (hz : Szd 140737488351232 L) (hl : L.length ≤ 1000000) (hb : bulkV L ≤ 1000000) :
  Calls Tryd.prog 6 #[v] w (VyPost (pcsV L nVy) w) := by
 obtain ⟨i0, hi, hz0, hz1, hz2⟩ := info3 infoTx
 obtain ⟨va, vcc, rfl, _, _, _⟩ := h.view
 obtain ⟨P, hP⟩ : ∃ P, pcsV L nVy = P := ⟨_, rfl⟩
 have hPl := pcsV_len16 L nVy
 rw [hP] at hPl
 have HPS := hid hPl.2
 have HBK := hid hb
 have hPn := hPl.1
 have HS := hid (split16_any _ L ⟨#[118, 97, 114, 121]⟩ w h (by decide) hz hl (by omega))
 rw [show (⟨#[118, 97, 114, 121]⟩ : ByteArray).data.toList = nVy from rfl, hP] at HS
 rw [hP]
 obtain ⟨n, hn⟩ : ∃ n, n = P.length := ⟨_, rfl⟩
 have HN := hid hn
 have hn9 : n ≤ 1000000 + 1 := by omega
 unfold SpPost at HS
 rw [← hn] at HS
 clear hP hPl hPn h hz hl hn hb
 go_enter Tryd.func6, Tryd.ntmps6
 go_wp2_with fail
 refine HS.out.mono ?_
 rintro e w1 ⟨v1, q1, rfl, hown1, hb1⟩
 obtain ⟨a1, c1, rfl⟩ := own_sl16 hown1
 have HT := hid (show TxAt w1 (.slice a1 n c1) P from by
  have h := hown1
  rw [HN.out] at h ⊢
  exact own_txt' h)
 have HB1 := hid hb1
 clear hown1 hb1 HS
 go_wp2_with fail
 go_loopw [6, 16] (fun v6 vi wr => ∃ (k : Nat) (ra : Option Addr) (rn rc : Nat), k ≤ n ∧ rn ≤ n ∧ vi = .int .i64 k ∧ v6 = .slice ra rn rc ∧ Hid (rn = (vrS (P.take k)).length ∧ wr.ownsRow w1.heap.size 9 1 (.slice ra rn rc) rn (cellsT (vrS (P.take k))) ∧ Below w1.heap.size w1 wr ∧ ∀ j (hj : j < P.length), j < k → P[j] ≠ [42])) (fun _ vi _ => n - (intOf vi).toNat)
 case atStart => exact ⟨0, none, 0, 0, Nat.zero_le _, Nat.zero_le _, rfl, rfl, rfl, World.ownsRow_nil _ _ _ _, Below.refl _ _, fun j _ hj => absurd hj (Nat.not_lt_zero _)⟩
 case round =>
  obtain ⟨k, ra, rn, rc, hk, hrn, rfl, rfl, HR⟩ := hrel
  by_cases hlt : k < n
  ·have hkP : k < P.length := by have := HN.out; omega
   have hlt' : (k : Int) < (n : Int) := by omega
   obtain ⟨a1', c1', e1, _, _, hcell⟩ := HT.out.view
   injection e1 with e1 e2 e3
   clear e2 e3
   subst e1
   obtain ⟨pb, po, rfl, hpc0⟩ := hcell k hkP
   have hpc := (HR.out.2.2.1.cell (World.block_lt_of_cell? w1 _ hpc0)).trans hpc0
   obtain ⟨X, hX⟩ : ∃ X : ByteArray, X = ⟨P[k].toArray⟩ := ⟨_, rfl⟩
   rw [← hX] at hpc
   have hXl : X.data.toList = P[k] := by rw [hX]
   have hXs : X.size ≤ 1000000000 := by
    rw [Lib.size_eq, hXl]
    have := HPS.out _ (List.getElem_mem hkP)
    have := HBK.out
    omega
   have HXL := hid hXl
   have HKP := hid hkP
   clear hcell hpc0 hX hXl
   by_cases hst : X.data.toList = [42]
   ·have HVN := hid (show vrOk P = false from vrOk_stop P k HKP.out (by rw [← HXL.out]; exact hst))
    have hNe : X = ⟨#[42]⟩ := eq_lit16 hst
    clear hst HXL
    subst hNe
    go_wp2_with fail
    go_ret2
    refine ⟨.slice none 0 0, by rw [HVN.out]; rfl, by rw [varV_no HVN.out]; exact tx_nil _, below2 HB1.out HR.out.2.2.1⟩
   ·have e42 : (X.toList == [42]) = false := beq_no16 X _ hst
    have HNS := hid (show ∀ j (hj : j < P.length), j < k + 1 → P[j] ≠ [42] from fun j hj hjk => by
     by_cases h : j = k
     ·subst h
      rw [← HXL.out]; exact hst
     ·exact HR.out.2.2.2 j hj (by omega))
    clear hst
    by_cases hem : X.data.toList = []
    ·have HD := hid (show vrS (P.take (k + 1)) = vrS (P.take k) by rw [vrS_take P k HKP.out, if_pos (by rw [← HXL.out]; exact hem)])
     have hNe : X = ⟨#[]⟩ := eq_lit16 hem
     clear hem HXL e42
     subst hNe
     go_wp2_with fail
     go_roundw
     case rel =>
      first
       | exact ⟨k + 1, ra, rn, rc, by omega, hrn, by go_num, rfl, by rw [HD.out]; exact ⟨HR.out.1, HR.out.2.1, HR.out.2.2.1, HNS.out⟩⟩
       | ((repeat apply Exists.intro); refine ⟨?_, rfl⟩; exact ⟨k + 1, ra, rn, rc, by omega, hrn, by go_num, rfl, by rw [HD.out]; exact ⟨HR.out.1, HR.out.2.1, HR.out.2.2.1, HNS.out⟩⟩)
       | ((repeat apply Exists.intro); exact ⟨⟨k + 1, ra, rn, rc, by omega, hrn, by go_num, rfl, by rw [HD.out]; exact ⟨HR.out.1, HR.out.2.1, HR.out.2.2.1, HNS.out⟩⟩, rfl⟩)
     case measure => simp [intOf]; omega
    ·have HD := hid (show vrS (P.take (k + 1)) = vrS (P.take k) ++ [low X.data.toList] by rw [vrS_take P k HKP.out, if_neg (by rw [← HXL.out]; exact hem), HXL.out])
     have e0 : (X.toList == []) = false := beq_no16 X _ hem
     have e00 : X.toList.isEmpty = false := by
      rw [Lib.toList_data]
      cases h : X.data.toList with
      | nil => exact absurd h hem
      | cons a b => rfl
     obtain ⟨M, hM⟩ : ∃ B' : ByteArray, ⟨(low X.data.toList).toArray⟩ = B' := ⟨_, rfl⟩
     have HM := hid (show M.data.toList = low X.data.toList by rw [← hM])
     have HLo : Hid (∀ Y : World, Calls Tryd.prog 18 #[.string X] Y fun e w' => e = .returned (.string M) ∧ Below Y.heap.size Y w') := fun Y => by rw [← hM]; exact lower_any X Y (by omega)
     have HRn := hid (show rn + 1 ≤ n by
      have h1 := HR.out.1
      have h2 := vrS_len (P.take k)
      rw [List.length_take] at h2
      omega)
     clear hem hM HXL
     go_wp2_with fail
     refine (HLo.out _).mono ?_
     rintro e w3 ⟨rfl, hb3⟩
     have HB3 := hid (HR.out.2.2.1.trans (hb3.mono HR.out.2.2.1.size))
     have HO3 := hid (own_same HR.out.2.1 hb3)
     have hs3 := HB3.out.size
     clear hb3 HLo
     go_wp2_with (at_builtin; go_must (refine wpList_append_own _ rfl _ _ 22 rfl w1.heap.size 9 i0 (.string ByteArray.empty) 1 16 Tryd.underlying22 hi hz0 hz1 hz2 rfl (by decide) _ _ _ rfl (HO3.out.alloc _) ⟨w3.heap.size, 0, none⟩ 1 1 [.string M] rfl rfl ?c1 ?c2 ?c3 ?c4 ?c5 ?_))
     case c1 =>
      intro q u hq
      match q, hq with
      | 0, hq => simp at hq; subst hq; simp [Addr.add]
     case c2 => intro u hu; simp at hu; subst hu; rfl
     case c3 => unfold maxLen; omega
     case c4 => omega
     case c5 => simp; omega
     intro v4 w4 hown4 hgrow4 hnil4
     obtain ⟨a4, c4, rfl⟩ := own_sl16 hown4
     have HO4 := hid (show w4.ownsRow w1.heap.size 9 1 (.slice a4 (rn + 1) c4) (rn + 1) (cellsT (vrS (P.take (k + 1)))) by
      rw [HD.out, cellsT_app, ← HM.out, cellsT_one]; exact hown4)
     have HB4 := hid (show Below w1.heap.size w1 w4 from (HB3.out.alloc hs3 _).grown hgrow4 (by simp; omega) (fun g hg => (HO3.out.lt g hg).1))
     have HN4 := hid (show rn + 1 = (vrS (P.take (k + 1))).length by rw [HD.out, List.length_append, ← HR.out.1]; rfl)
     clear hown4 hgrow4 hnil4 hs3
     go_wp2
     go_roundw
     case rel =>
      first
       | exact ⟨k + 1, a4, rn + 1, c4, by omega, HRn.out, by go_num, rfl, HN4.out, HO4.out, HB4.out, HNS.out⟩
       | ((repeat apply Exists.intro); refine ⟨?_, rfl⟩; exact ⟨k + 1, a4, rn + 1, c4, by omega, HRn.out, by go_num, rfl, HN4.out, HO4.out, HB4.out, HNS.out⟩)
       | ((repeat apply Exists.intro); exact ⟨⟨k + 1, a4, rn + 1, c4, by omega, HRn.out, by go_num, rfl, HN4.out, HO4.out, HB4.out, HNS.out⟩, rfl⟩)
     case measure => simp [intOf]; omega
  ·obtain rfl : k = n := by omega
   obtain ⟨hr1, hr2, hr3, hr4⟩ := HR.out
   have hall : P.take k = P := List.take_of_length_le (by have := HN.out; omega)
   rw [hall] at hr1 hr2
   have HOk := hid (show vrOk P = true from vrOk_all P fun j hj => hr4 j hj (by rw [HN.out]; exact hj))
   obtain ⟨X, hX⟩ : ∃ X, vrS P = X := ⟨_, rfl⟩
   rw [hX] at hr1 hr2
   have HXe := hid hX
   have HXZ := hid (show ∀ x ∈ X, x.length ≤ bulkV L from fun x hx => by rw [← hX] at hx; exact vrS_szd P _ HPS.out x hx)
   have HBw := hid (below2 HB1.out hr3)
   have HRC := hid (show rc ≤ maxLen from by
    rcases hr2.2 with ⟨hv, _⟩ | ⟨g, cap, cur, hv, _, _, _, h2, _⟩
    ·injection hv with _ _ e3; subst e3; decide
    ·injection hv with _ _ e3; subst e3; exact h2)
   clear hX hall
   by_cases h0 : rn = 0
   ·have hXn : X = [] := List.eq_nil_of_length_eq_zero (by omega)
    subst h0
    subst hXn
    clear hr1 hr2 hr3 hr4 HR hlt
    go_wp2_with (go_at_call 19; refine (Tryd.slices_Sort_string_none _ _ _).mono ?_; rintro e wz ⟨rfl, hwz⟩; rw [hwz]; clear hwz)
    go_wp2_with (go_at_call 20; refine (Tryd.slices_Compact_string_empty _ _ _).mono ?_; rintro e wz ⟨rfl, hwz⟩; rw [hwz]; clear hwz)
    go_wp2
    go_ret2
    refine ⟨.slice ra 0 rc, by rw [HOk.out]; rfl, ?_, HBw.out⟩
    rw [varV_yes HOk.out HXe.out]
    exact ⟨ra, rc, rfl, Nat.zero_le _, HRC.out, fun j hj => by simp [srtN] at hj⟩
   ·rcases hr2.2 with ⟨_, hn0⟩ | ⟨g, cap, cur, hv, hbase, hb, h1, h2, h3, h4⟩
    ·exact absurd hn0 h0
    ·injection hv with e1 e2 e3
     subst e1
     subst e3
     have hsl := srt16_len X
     have hXL : X.length = rn := hr1.symm
     have HSo := hid (Tryd.slices_Sort_string g 0 rc X wr (holds_of_block hb (by rw [cells_enc, hXL]; simpa using h4)) (Array.getElem?_eq_some_iff.1 hb).1 (by omega))
     rw [hXL] at HSo
     have HAft : Hid (∀ nn os, (Sort.grow (Sort.putRow encStr (Sort.ahead wr nn) g 0 (srt16 X).toArray) os).ownsRow w1.heap.size 9 1 (.slice (some ⟨g, 0, none⟩) rn rc) rn (cellsT (srt16 X)) ∧ Below w1.heap.size w1 (Sort.grow (Sort.putRow encStr (Sort.ahead wr nn) g 0 (srt16 X).toArray) os)) := fun nn os => by
      have o1 := ownsRow_sorted (w := wr) (n := nn) (os := os) (ts := srt16 X) (ss := X) hsl hbase hb (by omega) h2 (by simpa using h3)
      have g1 := grownBy_sorted (w := wr) (g := g) (n := nn) (os := os) (srt16 X).toArray
      rw [hXL] at o1
      exact ⟨o1, hr3.grown g1 hr3.size (fun k hk => by injection hk with hk; omega)⟩
     have HCp := hid (fun (Z : World) (hO : Z.ownsRow w1.heap.size 9 1 (.slice (some ⟨g, 0, none⟩) rn rc) rn (cellsT (srt16 X))) (hBZ : Below w1.heap.size w1 Z) => (show Calls Tryd.prog 20 #[.slice (some ⟨g, 0, none⟩) rn rc] Z fun e w' => ∃ u, e = .returned u ∧ TxAt w' u (srtN X) ∧ Below w1.heap.size w1 w' from by
      rcases hO.2 with ⟨_, hn0⟩ | ⟨g2, cap2, cur2, hv2, hbase2, hb2, k1, k2, k3, k4⟩
      ·exact absurd hn0 h0
      ·injection hv2 with e5 e6 e7
       injection e5 with e5
       injection e5 with e5 _ _
       subst e5
       subst e7
       have hsn : (srt16 X).length = rn := by rw [hsl, hXL]
       have hC := Tryd.slices_Compact_string g 0 rc (srt16 X) Z (holds_of_block hb2 (by rw [cells_enc, hsn]; simpa using k4)) (by omega) (by omega)
       rw [hsn, compact_srt] at hC
       refine hC.mono ?_
       rintro e w' ⟨rfl, q, rfl⟩
       have hcl := srtN_len16 X
       have hl2 : (srtN X ++ List.replicate (rn - (srtN X).length) []).length = (srt16 X).length := by rw [List.length_append, List.length_replicate]; omega
       have o2 := ownsRow_sorted (w := Z) (n := q) (os := #[]) (ts := srtN X ++ List.replicate (rn - (srtN X).length) []) (ss := srt16 X) hl2 hbase2 hb2 (by omega) k2 (by simpa using k3)
       have g2 := grownBy_sorted (w := Z) (g := g) (n := q) (os := #[]) (srtN X ++ List.replicate (rn - (srtN X).length) []).toArray
       rw [grow_none16] at o2 g2
       refine ⟨_, rfl, ?_, hBZ.grown g2 hBZ.size (fun k hk => by injection hk with hk; omega)⟩
       rw [← hl2, cells_enc] at o2
       have t1 := (own_txt' o2).take16 (srtN X).length (by rw [List.length_append]; omega)
       rw [List.take_left'  rfl] at t1
       exact t1))
     clear hr1 hr2 hr3 hr4 HR hlt hb h1 h2 h3 h4 hbase hsl hXL
     go_wp2_with (go_at_call 19; refine HSo.out.mono ?_; rintro e wz ⟨rfl, nn, os, hwz⟩; have HW := hid hwz; clear hwz)
     go_wp2_with (go_at_call 20; refine (HCp.out _ (by have := (HAft.out nn os).1; rw [HW.out]; exact this) (by have := (HAft.out nn os).2; rw [HW.out]; exact this)).mono ?_; rintro e w5 ⟨u5, rfl, ht5, hb5⟩)
     go_wp2
     go_ret2
     exact ⟨u5, by rw [HOk.out]; rfl, by rw [varV_yes HOk.out HXe.out]; exact ht5, below2 HB1.out hb5⟩

end Go.Proofs.YtooihpkoplgmbaaDoor

namespace Go.Proofs.YtooihpkoplgmbaaDoor
open Go.RowKit

def CCu : List UInt8 := [67, 97, 99, 104, 101, 45, 67, 111, 110, 116, 114, 111, 108]

theorem own_lit16 (w : World) (L : List Hd) (n : Nat) (hn : L.length = n) (h : n ≤ 1000) : (w.alloc (.cells (cellsH L).toArray 26)).ownsRow w.heap.size 26 2 (.slice (some ⟨w.heap.size, 0, none⟩) n n) n (cellsH L) := by
 have h1 := World.ownsRow_lit (base := w.heap.size) (e := 26) (size := 2) w (cellsH L).toArray n (Nat.le_refl _) (by unfold maxLen; omega) (by rw [List.size_toArray, cellsH_len, hn])
 exact h1

theorem hd_one16 (w : World) (n v : ByteArray) : HdAt (w.alloc (.cells #[.string n, .string v] 26)) (.slice (some ⟨w.heap.size, 0, none⟩) 1 1) [⟨n.data.toList, v.data.toList⟩] := by
 have h := own_lit16 w [⟨n.data.toList, v.data.toList⟩] 1 rfl (by decide)
 have e : (cellsH [⟨n.data.toList, v.data.toList⟩]).toArray = #[.string n, .string v] := by
  rw [cellsH_one, ← xself n, ← xself v]
 rw [e] at h
 exact own_hd (L := [⟨n.data.toList, v.data.toList⟩]) h

theorem tx_lit16 (w : World) (cs : List ByteArray) (n : Nat) (hn : cs.length = n) (h : n ≤ 1000) : TxAt (w.alloc (.cells (cs.map Value.string).toArray 9)) (.slice (some ⟨w.heap.size, 0, none⟩) n n) (cs.map (·.data.toList)) := by
 subst hn
 have hr := heap_alloc_new w (.cells (cs.map Value.string).toArray 9)
 have := tx_of (w := w.alloc (.cells (cs.map Value.string).toArray 9)) (b := w.heap.size) (off := 0) (cap := cs.length) (L := cs.map (·.data.toList)) (by simp) (by unfold maxLen; omega) (fun j hj => by
  have hj' : j < cs.length := by simpa using hj
  rw [Lib.cell_of_heap hr]
  simp [hj'])
 rw [List.length_map] at this
 exact this

def Sml (L : List Hd) : Prop := L.length ≤ 10 ∧ ∀ x ∈ L, x.name.length ≤ 1000 ∧ x.value.length ≤ 1000

theorem Sml.szd {L : List Hd} (h : Sml L) : Szd 140737488351232 L ∧ L.length ≤ 1000000 ∧ bulkV L ≤ 90000 := by
 have h1 : Szd 1000 L := fun x hx => h.2 x hx
 refine ⟨h1.mono (by decide), by have := h.1; omega, ?_⟩
 have h2 := h1.bulk
 have h3 : (1000 + 2) * L.length ≤ 1002 * 10 := Nat.mul_le_mul_left _ h.1
 omega

theorem sml_nil : Sml [] := ⟨by decide, fun x hx => by simp at hx⟩

theorem sml_one (a : Hd) (h1 : a.name.length ≤ 1000) (h2 : a.value.length ≤ 1000) : Sml [a] := ⟨by simp, fun x hx => by rw [List.mem_singleton.1 hx]; exact ⟨h1, h2⟩⟩

theorem sml_two (a b : Hd) (h1 : a.name.length ≤ 1000) (h2 : a.value.length ≤ 1000) (h3 : b.name.length ≤ 1000) (h4 : b.value.length ≤ 1000) : Sml [a, b] := ⟨by simp, fun x hx => by
 rcases List.mem_cons.1 hx with rfl | hx
 ·exact ⟨h1, h2⟩
 ·rw [List.mem_singleton.1 hx]; exact ⟨h3, h4⟩⟩

theorem parse_at16 (v : Value) (L : List Hd) (a b : Bool) (m : Int) (w : World) (hg : G5 w) (h : HdAt w v L) (hs : Sml L) (hc : ctlV L = ⟨a, b, m⟩) :
  Calls Tryd.prog 9 #[v] w fun e w' => e = .returned (.agg #[.bool a, .bool b, .int .i64 m]) ∧ Below w.heap.size w w' := by
 have := parse16_any v L w hg h hs.szd.1 hs.szd.2.1 (by have := hs.szd.2.2; omega)
 rw [hc] at this
 exact this

theorem age_at16 (v : Value) (L : List Hd) (s n A : Int) (w : World) (h : HdAt w v L) (hs : Sml L) (h1 : -9223372036854775808 ≤ s ∧ s ≤ 9223372036854775807) (h2 : -9223372036854775808 ≤ n ∧ n ≤ 9223372036854775807) (hc : ageV L s n = A) :
  Calls Tryd.prog 11 #[v, .int .i64 s, .int .i64 n] w fun e w' => e = .returned (.int .i64 A) ∧ Below w.heap.size w w' := by
 have := age16_any v L s n w h hs.szd.1 hs.szd.2.1 (by have := hs.szd.2.2; omega) h1 h2
 rw [hc] at this
 exact this

theorem fresh_at16 (v : Value) (L : List Hd) (s n : Int) (b : Bool) (w : World) (hg : G5 w) (h : HdAt w v L) (hs : Sml L) (h1 : -9223372036854775808 ≤ s ∧ s ≤ 9223372036854775807) (h2 : -9223372036854775808 ≤ n ∧ n ≤ 9223372036854775807) (hc : freV L s n = b) :
  Calls Tryd.prog 12 #[v, .int .i64 s, .int .i64 n] w fun e w' => e = .returned (.bool b) ∧ Below w.heap.size w w' := by
 have := fresh16_any v L s n w hg h hs.szd.1 hs.szd.2.1 (by have := hs.szd.2.2; omega) h1 h2
 rw [hc] at this
 exact this

theorem vary_at16 (v : Value) (L : List Hd) (b : Bool) (X : List (List UInt8)) (w : World) (h : HdAt w v L) (hs : Sml L) (h1 : vrOk (pcsV L nVy) = b) (h2 : varV (pcsV L nVy) = X) :
  Calls Tryd.prog 6 #[v] w fun e w' => ∃ a c, e = .returned (.tuple #[.slice a X.length c, .bool b]) ∧ TxAt w' (.slice a X.length c) X ∧ Below w.heap.size w w' := by
 refine (vary16_any v L w h hs.szd.1 hs.szd.2.1 (by have := hs.szd.2.2; omega)).mono ?_
 rintro e w' ⟨u, rfl, ht, hb⟩
 rw [h2] at ht
 obtain ⟨a, c, rfl, h3, h4, h5⟩ := ht.view
 exact ⟨a, c, by rw [h1], ⟨a, c, rfl, h3, h4, h5⟩, hb⟩

set_option maxHeartbeats 1000000 in
theorem cc16_any (s : ByteArray) (w : World) : Calls Tryd.prog 10 #[.string s] w fun e w' => e = .returned (.slice (some ⟨w.heap.size, 0, none⟩) 1 1) ∧ w'.ownsRow w.heap.size 26 2 (.slice (some ⟨w.heap.size, 0, none⟩) 1 1) 1 (cellsH [⟨CCu, s.data.toList⟩]) ∧ Below w.heap.size w w' := by
 have e : (cellsH [⟨CCu, s.data.toList⟩]).toArray = #[.string ⟨#[67, 97, 99, 104, 101, 45, 67, 111, 110, 116, 114, 111, 108]⟩, .string s] := by
  rw [cellsH_one, ← xself s]; rfl
 have h := own_lit16 w [⟨CCu, s.data.toList⟩] 1 rfl (by decide)
 rw [e] at h
 have H := hid h
 clear h e
 go_enter Tryd.func10, Tryd.ntmps10
 go_wp2
 go_ret
 exact ⟨rfl, H.out, (Below.refl _ w).alloc (Nat.le_refl _) _⟩

set_option maxHeartbeats 2000000 in
theorem digits16_any (n : Nat) (w : World) (hn : n ≤ 4294967296) :
  Calls Tryd.prog 16 #[.int .i64 n] w fun e w' => ∃ T, e = .returned (.string ⟨T.toArray⟩) ∧ Dec n T ∧ w = w' := by
 have H0 := hid (decI_start n (by omega))
 go_enter Tryd.func16, Tryd.ntmps16
 go_wp2
 go_loopg [0, 3, 4] 20 (fun f nv sv _ wr => ∃ (u : Nat) (T : List UInt8), nv = .int .i64 u ∧ sv = .string ⟨T.toArray⟩ ∧ u ≤ 4294967296 ∧ DecI n f u T ∧ wr = w)
 case atStart => exact ⟨n, [], rfl, rfl, hn, H0.out, rfl⟩
 case round =>
  obtain ⟨u, T, rfl, rfl, hu, hinv, rfl⟩ := hrel
  have hTl : T.length ≤ 20 := by have := hinv.2.1; omega
  have HI := hid hinv
  clear hinv
  have hm : u % 10 < 10 := by omega
  by_cases hp : 0 < u ∨ T = []
  ·obtain ⟨g, rfl, hnext⟩ := decI_step n _ u T hn hu HI.out hp
   have HN := hid hnext
   have HX := hid (xtens_app (u % 10) hm T)
   have hul : u / 10 ≤ 4294967296 := by omega
   clear hnext
   by_cases h0 : 0 < u
   ·have h0' : (0 : Int) < (u : Int) := by omega
    clear hp
    go_wp2
    go_roundg g
    case measure => omega
    case rel => exact ⟨_, _, by go_num, by rw [HX.out], hul, HN.out, rfl⟩
   ·have hT0 : T = [] := hp.resolve_left h0
    have hu0 : u = 0 := by omega
    subst hT0
    subst hu0
    clear hp h0
    go_wp2
    go_roundg g
    case measure => omega
    case rel => exact ⟨_, _, by go_num, by rw [HX.out], hul, HN.out, rfl⟩
  ·have hu0 : u = 0 := by omega
   have hT : T ≠ [] := fun h => hp (.inr h)
   have HD := hid (decI_done n _ u T HI.out hu0 hT)
   have he : T.isEmpty = false := by simpa using hT
   subst hu0
   clear hp hT
   go_wp2
   go_ret
   exact ⟨T, rfl, HD.out, rfl⟩

theorem kn116 : ctlV [⟨CCu, [77, 97, 120, 45, 65, 103, 101, 61, 34, 53, 34, 44, 32, 110, 111, 45, 99, 97, 99, 104, 101, 61, 120]⟩] = ⟨false, true, 5⟩ := by decide +kernel

theorem kn216 : freV [⟨CCu, [109, 97, 120, 45, 97, 103, 101, 61, 53]⟩] 0 4 = true := by decide +kernel

theorem kn316 : freV [⟨CCu, [109, 97, 120, 45, 97, 103, 101, 61, 53]⟩] 0 5 = false := by decide +kernel

set_option maxHeartbeats 4000000 in
set_option maxRecDepth 100000 in
theorem known16_any (w : World) (hg : G5 w) : Calls Tryd.prog 13 #[] w fun e w' => e = .returned (.bool true) ∧ Below w.heap.size w w' := by
 have HG := hid hg
 have HB0 := hid (Below.refl w.heap.size w)
 clear hg
 go_enter Tryd.func13, Tryd.ntmps13
 go_wp2_with fail
 refine (cc16_any (⟨#[77, 97, 120, 45, 65, 103, 101, 61, 34, 53, 34, 44, 32, 110, 111, 45, 99, 97, 99, 104, 101, 61, 120]⟩ : ByteArray) _).mono ?_
 rintro e w1 ⟨rfl, how1, hbw1⟩
 have HBw1 := hid (below2 HB0.out hbw1)
 have HHw1 := hid (own_hd (L := [⟨CCu, [77, 97, 120, 45, 65, 103, 101, 61, 34, 53, 34, 44, 32, 110, 111, 45, 99, 97, 99, 104, 101, 61, 120]⟩]) how1)
 clear how1 hbw1
 go_wp2_with fail
 refine (parse_at16 _ _ false true 5 _ (HG.out.kept HBw1.out) HHw1.out (sml_one _ (by decide) (by decide)) kn116).mono ?_
 rintro e w2 ⟨rfl, hb2⟩
 have HBw2 := hid (below2 HBw1.out hb2)
 clear hb2
 go_wp2_with fail
 refine (cc16_any (⟨#[109, 97, 120, 45, 97, 103, 101, 61, 53]⟩ : ByteArray) _).mono ?_
 rintro e w3 ⟨rfl, how3, hbw3⟩
 have HBw3 := hid (below2 HBw2.out hbw3)
 have HHw3 := hid (own_hd (L := [⟨CCu, [109, 97, 120, 45, 97, 103, 101, 61, 53]⟩]) how3)
 clear how3 hbw3
 go_wp2_with fail
 refine (fresh_at16 _ _ 0 4 true _ (HG.out.kept HBw3.out) HHw3.out (sml_one _ (by decide) (by decide)) (by omega) (by omega) kn216).mono ?_
 rintro e w4 ⟨rfl, hb4⟩
 have HBw4 := hid (below2 HBw3.out hb4)
 clear hb4
 go_wp2_with fail
 refine (cc16_any (⟨#[109, 97, 120, 45, 97, 103, 101, 61, 53]⟩ : ByteArray) _).mono ?_
 rintro e w5 ⟨rfl, how5, hbw5⟩
 have HBw5 := hid (below2 HBw4.out hbw5)
 have HHw5 := hid (own_hd (L := [⟨CCu, [109, 97, 120, 45, 97, 103, 101, 61, 53]⟩]) how5)
 clear how5 hbw5
 go_wp2_with fail
 refine (fresh_at16 _ _ 0 5 false _ (HG.out.kept HBw5.out) HHw5.out (sml_one _ (by decide) (by decide)) (by omega) (by omega) kn316).mono ?_
 rintro e w6 ⟨rfl, hb6⟩
 have HBw6 := hid (below2 HBw5.out hb6)
 clear hb6
 go_wp2
 go_ret
 exact ⟨rfl, HBw6.out⟩

end Go.Proofs.YtooihpkoplgmbaaDoor
