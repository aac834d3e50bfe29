/-
  Walks and plain facts that this claim leans on, put together out of 5 texts: Efg, Efb, Efh, Efi, Xz.
-/
import Derived.Test.YtooihpkoplgmbaaDoorProg
import Derived.Test.YtooihpkoplgmbaaDoorTie
import Derived.Test.YtooihpkoplgmbaaDoorQa1
import Derived.Test.YtooihpkoplgmbaaDoorQa2
import Derived.Test.YtooihpkoplgmbaaDoorQa3
import Derived.Test.YtooihpkoplgmbaaDoorQa4
import Derived.Test.YtooihpkoplgmbaaDoorQa5
import Derived.Test.YtooihpkoplgmbaaDoorQa6
import Derived.BigRegion
import Derived.Deep.RegionHeld
import Derived.Deep.RegionHeldLaw
import Derived.Lib.IndexAny
import Derived.WalkKit
import Derived.Lib.UnsafeStr
import Derived.Lib.BufferRead
import Derived.Lib.RuneBytes
import Derived.Laws.RangeAny
import Derived.Deep.LoopGhost
import Derived.Maps.OwnSet
import Derived.Maps.OwnOps
import Derived.Maps.AppendAt
import Derived.StringKeys
import Derived.BigQuiet
import Derived.Deep.QuietTactic
import Derived.LoopN
import Derived.RegionTactic
import Derived.Deep.RegionLaw
import Derived.Deep.RegionWith
import Derived.WalkSpells
import Derived.WalkLawsBesides
import Derived.Lib.FieldsP
import Derived.Lib.DecodeN
import Derived.Lib.IndexMore
import Derived.Lib.Join
import Derived.Lib.SmallJoins
import Derived.Laws.CopyOwn
import Derived.Laws.ResultCell
import Derived.Deep.MidRow
import Derived.Laws.OwnMore
import Derived.Below
import Derived.WalkSmall
import Derived.Lib.LaidTab
import Derived.Lib.AppendIntMem
import Derived.Laws.AppendOwn
import Derived.Laws.Runes
import Derived.Lib.OthersKept
import Derived.Lib.FrozenHead2
import Derived.Lib.Builder
import Derived.Lib.AppendStr
import Derived.Lib.Replace
import Derived.Shelf.GgClosure.GivesRunes
import Derived.Laws.BitsAll
import Derived.Laws.Shifts
import Derived.Deep.DeepAppendRoom
import Derived.Laws.IdiomStrings
import Derived.Laws.BytesString
import Derived.Laws.CopyRow
import Derived.Sort.OwnSorted
import Derived.Lib.SlicesCompact
import Derived.Deep.CutRange
import Derived.Shelf.Slices.In.SortNone
import Derived.Shelf.Slices.CompactS
import Derived.Lib.Strings
import Derived.Laws.BitsAllLaws
import Derived.Lib.Bytealg
import Derived.Lib.BufferMore
import Derived.Shelf.Strings.Builder1
import Derived.Shelf.Strings.Builder2
import Derived.Shelf.Strings.OnBuilder
import Derived.Shelf.Strings.Trim
import Derived.Shelf.Small.Utf8
import Derived.Shelf.Small.Bits
import Derived.Shelf.Small.Strs
import Derived.Shelf.Small.Wraps
import Derived.Shelf.Strings.BuilderF
import Derived.Shelf.Strings.BuilderK
import Derived.Shelf.Strings.Builder2Cap
import Derived.Shelf.Strconv.Itoa0
import Derived.Shelf.Strings.Search1
import Derived.Shelf.Strings.Search2
import Derived.Shelf.Strings.Cut
import Derived.Shelf.LaysM
import Derived.Shelf.Strings.Shaped
import Derived.Shelf.Sort.Plain
import Derived.Shelf.Strings.Prefix
import Derived.Shelf.Strings.Runes
import Derived.Shelf.Strings.AsciiSet
import Derived.Shelf.Unicode.DecodeSlow
import Derived.Lib.SlTrimSet
import Derived.Shelf.Strings.SlTrimAscii
import Derived.Laws.Rows
import Derived.Laws.MakeOwn
import Derived.Deep.WholeRow
import Derived.Laws.AppendOwnNone
import Derived.Stop.LaidErr
import Derived.LaidMore
set_option linter.unusedSimpArgs false
set_option linter.unusedVariables false

namespace Go.Proofs.YtooihpkoplgmbaaDoor
open Go.RowKit

theorem szd_few16 {n m : Nat} {L : List Hd} : Szd m (fewH L n m) := fewH_szd L n m

set_option maxHeartbeats 16000000 in
set_option maxRecDepth 100000 in
theorem ageBefore_walk (v : Value) (L0 : List Hd) (s n b : Int) (w : World) (hv : HdAt w v L0) (hz : Szd 140737488351232 L0) (hs : (Lit.int .i64 s).wf = true) (hn : (Lit.int .i64 n).wf = true) (hb : (Lit.int .i64 b).wf = true) (hg : G5 w) :
  Calls Tryd.prog 4 #[v, .int .i64 s, .int .i64 n, .int .i64 b] w fun e w' => e = .returned (.bool true) ∧ Below w.heap.size w w' := by
 have HG := hid hg
 have hs2 := bounds_i64 hs
 have hn2 := bounds_i64 hn
 have hb2 := bounds_i64 hb
 obtain ⟨L, hL⟩ : ∃ L, L = fewH L0 10 100 := ⟨_, rfl⟩
 have hll : L.length ≤ 10 := by rw [hL]; exact fewH_len L0 10 100
 have hsz : Szd 100 L := by rw [hL]; exact fewH_szd L0 10 100
 have hbk : bulkV L ≤ 90000 := by
  have h2 := hsz.bulk
  have h3 : (100 + 2) * L.length ≤ 102 * 10 := Nat.mul_le_mul_left _ hll
  omega
 have HZ := hid (show Szd 140737488351232 L from hsz.mono (by decide))
 have HFw := hid (fewHeaders_any v L0 10 100 w hv (hz.mono (by decide)) (by decide) (by decide))
 unfold HdPost at HFw
 rw [← hL] at HFw
 have HLL := hid hll
 clear hL hsz hv hz hs hn hb hg hll
 by_cases hsw : n < b
 ·have hxy : n ≤ b := by omega
  have hx2 := hn2
  have hy2 := hb2
  go_enter Tryd.func4, Tryd.ntmps4
  go_wp2_with fail
  refine HFw.out.mono ?_
  rintro e w1 ⟨u, rfl, hown, hb1⟩
  have HH := hid (own_hd hown)
  have HW1 := hid hb1
  have hll := HLL.out
  clear hown hb1
  have HA1 := hid (fun (Z : World) (hZ : Below w1.heap.size w1 Z) => age16_any u L s n Z (HH.out.kept hZ) HZ.out (by omega) (by omega) hs2 hx2)
  have HA2 := hid (fun (Z : World) (hZ : Below w1.heap.size w1 Z) => age16_any u L s b Z (HH.out.kept hZ) HZ.out (by omega) (by omega) hs2 hy2)
  have HF1 := hid (fun (Z : World) (hZ : Below w1.heap.size w1 Z) => fresh16_any u L s n Z (HG.out.kept (below2 HW1.out hZ)) (HH.out.kept hZ) HZ.out (by omega) (by omega) hs2 hx2)
  have HF2 := hid (fun (Z : World) (hZ : Below w1.heap.size w1 Z) => fresh16_any u L s b Z (HG.out.kept (below2 HW1.out hZ)) (HH.out.kept hZ) HZ.out (by omega) (by omega) hs2 hy2)
  have hm := ageV_mono L s n b hxy
  have hr := ageV_range L s n
  have hfb := freV_before L s n b hxy
  have HN1 := hid (fun (Z : World) => add16_any s b Z hs2 hy2)
  have HN2 := hid (fun (Z : World) => add16_any b s Z hy2 hs2)
  have hnr := addV_range s b
  have hge := fun (h1 : 0 ≤ s) (h2 : 0 ≤ b) => addV_ge s b ⟨h1, hs2.2⟩ ⟨h2, hy2.2⟩
  rw [addV_comm b s] at HN2
  generalize ageV L s n = A1 at *
  generalize ageV L s b = A2 at *
  generalize freV L s n = F1 at *
  generalize freV L s b = F2 at *
  generalize addV s b = N at *
  have n1 : ¬ A2 < A1 := by omega
  have n2 : ¬ A1 < 0 := by omega
  have n3 : 0 ≤ N := hnr.1
  have HKn := hid (fun (Z : World) (hZ : Below w1.heap.size w1 Z) => known16_any Z (HG.out.kept (below2 HW1.out hZ)))
  have HB0 := hid (Below.refl w1.heap.size w1)
  clear hm hr hnr
  cases F2 with
  | true =>
   obtain rfl : F1 = true := hfb rfl
   clear hfb
   go_wp2_with fail
   refine (HA1.out _ HB0.out).mono ?_
   rintro e w2 ⟨rfl, hbw2⟩
   have HBw2 := hid (below2 HB0.out hbw2)
   clear hbw2
   go_wp2_with fail
   refine (HA2.out _ HBw2.out).mono ?_
   rintro e w3 ⟨rfl, hbw3⟩
   have HBw3 := hid (below2 HBw2.out hbw3)
   clear hbw3
   go_wp2_with fail
   refine (HA1.out _ HBw3.out).mono ?_
   rintro e w4 ⟨rfl, hbw4⟩
   have HBw4 := hid (below2 HBw3.out hbw4)
   clear hbw4
   go_wp2_with fail
   refine (HF2.out _ HBw4.out).mono ?_
   rintro e w5 ⟨rfl, hbw5⟩
   have HBw5 := hid (below2 HBw4.out hbw5)
   clear hbw5
   go_wp2_with fail
   refine (HF1.out _ HBw5.out).mono ?_
   rintro e w6 ⟨rfl, hbw6⟩
   have HBw6 := hid (below2 HBw5.out hbw6)
   clear hbw6
   go_wp2_with fail
   refine (HN1.out _).mono ?_
   rintro e w8 ⟨rfl, hw8⟩
   rw [hw8]
   clear hw8
   go_wp2_with fail
   refine (HN2.out _).mono ?_
   rintro e w8 ⟨rfl, hw8⟩
   rw [hw8]
   clear hw8
   by_cases c1 : s < 0
   ·clear hge
    go_wp2_with fail
    refine (HKn.out _ HBw6.out).mono ?_
    rintro e w9 ⟨rfl, hb9⟩
    go_wp2
    go_ret
    exact ⟨rfl, below2 HW1.out (below2 HBw6.out hb9)⟩
   ·by_cases c2 : b < 0
    ·clear hge
     go_wp2_with fail
     refine (HKn.out _ HBw6.out).mono ?_
     rintro e w9 ⟨rfl, hb9⟩
     go_wp2
     go_ret
     exact ⟨rfl, below2 HW1.out (below2 HBw6.out hb9)⟩
    ·obtain ⟨n4, n5⟩ := hge (by omega) (by omega)
     go_wp2_with fail
     refine (HKn.out _ HBw6.out).mono ?_
     rintro e w9 ⟨rfl, hb9⟩
     go_wp2
     go_ret
     exact ⟨rfl, below2 HW1.out (below2 HBw6.out hb9)⟩
  | false =>
   clear hfb
   go_wp2_with fail
   refine (HA1.out _ HB0.out).mono ?_
   rintro e w2 ⟨rfl, hbw2⟩
   have HBw2 := hid (below2 HB0.out hbw2)
   clear hbw2
   go_wp2_with fail
   refine (HA2.out _ HBw2.out).mono ?_
   rintro e w3 ⟨rfl, hbw3⟩
   have HBw3 := hid (below2 HBw2.out hbw3)
   clear hbw3
   go_wp2_with fail
   refine (HA1.out _ HBw3.out).mono ?_
   rintro e w4 ⟨rfl, hbw4⟩
   have HBw4 := hid (below2 HBw3.out hbw4)
   clear hbw4
   go_wp2_with fail
   refine (HF2.out _ HBw4.out).mono ?_
   rintro e w5 ⟨rfl, hbw5⟩
   have HBw5 := hid (below2 HBw4.out hbw5)
   clear hbw5
   go_wp2_with fail
   refine (HN1.out _).mono ?_
   rintro e w8 ⟨rfl, hw8⟩
   rw [hw8]
   clear hw8
   go_wp2_with fail
   refine (HN2.out _).mono ?_
   rintro e w8 ⟨rfl, hw8⟩
   rw [hw8]
   clear hw8
   by_cases c1 : s < 0
   ·clear hge
    go_wp2_with fail
    refine (HKn.out _ HBw5.out).mono ?_
    rintro e w9 ⟨rfl, hb9⟩
    go_wp2
    go_ret
    exact ⟨rfl, below2 HW1.out (below2 HBw5.out hb9)⟩
   ·by_cases c2 : b < 0
    ·clear hge
     go_wp2_with fail
     refine (HKn.out _ HBw5.out).mono ?_
     rintro e w9 ⟨rfl, hb9⟩
     go_wp2
     go_ret
     exact ⟨rfl, below2 HW1.out (below2 HBw5.out hb9)⟩
    ·obtain ⟨n4, n5⟩ := hge (by omega) (by omega)
     go_wp2_with fail
     refine (HKn.out _ HBw5.out).mono ?_
     rintro e w9 ⟨rfl, hb9⟩
     go_wp2
     go_ret
     exact ⟨rfl, below2 HW1.out (below2 HBw5.out hb9)⟩
 ·have hxy : b ≤ n := by omega
  have hx2 := hb2
  have hy2 := hn2
  go_enter Tryd.func4, Tryd.ntmps4
  go_wp2_with fail
  refine HFw.out.mono ?_
  rintro e w1 ⟨u, rfl, hown, hb1⟩
  have HH := hid (own_hd hown)
  have HW1 := hid hb1
  have hll := HLL.out
  clear hown hb1
  have HA1 := hid (fun (Z : World) (hZ : Below w1.heap.size w1 Z) => age16_any u L s b Z (HH.out.kept hZ) HZ.out (by omega) (by omega) hs2 hx2)
  have HA2 := hid (fun (Z : World) (hZ : Below w1.heap.size w1 Z) => age16_any u L s n Z (HH.out.kept hZ) HZ.out (by omega) (by omega) hs2 hy2)
  have HF1 := hid (fun (Z : World) (hZ : Below w1.heap.size w1 Z) => fresh16_any u L s b Z (HG.out.kept (below2 HW1.out hZ)) (HH.out.kept hZ) HZ.out (by omega) (by omega) hs2 hx2)
  have HF2 := hid (fun (Z : World) (hZ : Below w1.heap.size w1 Z) => fresh16_any u L s n Z (HG.out.kept (below2 HW1.out hZ)) (HH.out.kept hZ) HZ.out (by omega) (by omega) hs2 hy2)
  have hm := ageV_mono L s b n hxy
  have hr := ageV_range L s b
  have hfb := freV_before L s b n hxy
  have HN1 := hid (fun (Z : World) => add16_any s n Z hs2 hy2)
  have HN2 := hid (fun (Z : World) => add16_any n s Z hy2 hs2)
  have hnr := addV_range s n
  have hge := fun (h1 : 0 ≤ s) (h2 : 0 ≤ n) => addV_ge s n ⟨h1, hs2.2⟩ ⟨h2, hy2.2⟩
  rw [addV_comm n s] at HN2
  generalize ageV L s b = A1 at *
  generalize ageV L s n = A2 at *
  generalize freV L s b = F1 at *
  generalize freV L s n = F2 at *
  generalize addV s n = N at *
  have n1 : ¬ A2 < A1 := by omega
  have n2 : ¬ A1 < 0 := by omega
  have n3 : 0 ≤ N := hnr.1
  have HKn := hid (fun (Z : World) (hZ : Below w1.heap.size w1 Z) => known16_any Z (HG.out.kept (below2 HW1.out hZ)))
  have HB0 := hid (Below.refl w1.heap.size w1)
  clear hm hr hnr
  cases F2 with
  | true =>
   obtain rfl : F1 = true := hfb rfl
   clear hfb
   go_wp2_with fail
   refine (HA1.out _ HB0.out).mono ?_
   rintro e w2 ⟨rfl, hbw2⟩
   have HBw2 := hid (below2 HB0.out hbw2)
   clear hbw2
   go_wp2_with fail
   refine (HA2.out _ HBw2.out).mono ?_
   rintro e w3 ⟨rfl, hbw3⟩
   have HBw3 := hid (below2 HBw2.out hbw3)
   clear hbw3
   go_wp2_with fail
   refine (HA1.out _ HBw3.out).mono ?_
   rintro e w4 ⟨rfl, hbw4⟩
   have HBw4 := hid (below2 HBw3.out hbw4)
   clear hbw4
   go_wp2_with fail
   refine (HF2.out _ HBw4.out).mono ?_
   rintro e w5 ⟨rfl, hbw5⟩
   have HBw5 := hid (below2 HBw4.out hbw5)
   clear hbw5
   go_wp2_with fail
   refine (HF1.out _ HBw5.out).mono ?_
   rintro e w6 ⟨rfl, hbw6⟩
   have HBw6 := hid (below2 HBw5.out hbw6)
   clear hbw6
   go_wp2_with fail
   refine (HN1.out _).mono ?_
   rintro e w8 ⟨rfl, hw8⟩
   rw [hw8]
   clear hw8
   go_wp2_with fail
   refine (HN2.out _).mono ?_
   rintro e w8 ⟨rfl, hw8⟩
   rw [hw8]
   clear hw8
   by_cases c1 : s < 0
   ·clear hge
    go_wp2_with fail
    refine (HKn.out _ HBw6.out).mono ?_
    rintro e w9 ⟨rfl, hb9⟩
    go_wp2
    go_ret
    exact ⟨rfl, below2 HW1.out (below2 HBw6.out hb9)⟩
   ·by_cases c2 : n < 0
    ·clear hge
     go_wp2_with fail
     refine (HKn.out _ HBw6.out).mono ?_
     rintro e w9 ⟨rfl, hb9⟩
     go_wp2
     go_ret
     exact ⟨rfl, below2 HW1.out (below2 HBw6.out hb9)⟩
    ·obtain ⟨n4, n5⟩ := hge (by omega) (by omega)
     go_wp2_with fail
     refine (HKn.out _ HBw6.out).mono ?_
     rintro e w9 ⟨rfl, hb9⟩
     go_wp2
     go_ret
     exact ⟨rfl, below2 HW1.out (below2 HBw6.out hb9)⟩
  | false =>
   clear hfb
   go_wp2_with fail
   refine (HA1.out _ HB0.out).mono ?_
   rintro e w2 ⟨rfl, hbw2⟩
   have HBw2 := hid (below2 HB0.out hbw2)
   clear hbw2
   go_wp2_with fail
   refine (HA2.out _ HBw2.out).mono ?_
   rintro e w3 ⟨rfl, hbw3⟩
   have HBw3 := hid (below2 HBw2.out hbw3)
   clear hbw3
   go_wp2_with fail
   refine (HA1.out _ HBw3.out).mono ?_
   rintro e w4 ⟨rfl, hbw4⟩
   have HBw4 := hid (below2 HBw3.out hbw4)
   clear hbw4
   go_wp2_with fail
   refine (HF2.out _ HBw4.out).mono ?_
   rintro e w5 ⟨rfl, hbw5⟩
   have HBw5 := hid (below2 HBw4.out hbw5)
   clear hbw5
   go_wp2_with fail
   refine (HN1.out _).mono ?_
   rintro e w8 ⟨rfl, hw8⟩
   rw [hw8]
   clear hw8
   go_wp2_with fail
   refine (HN2.out _).mono ?_
   rintro e w8 ⟨rfl, hw8⟩
   rw [hw8]
   clear hw8
   by_cases c1 : s < 0
   ·clear hge
    go_wp2_with fail
    refine (HKn.out _ HBw5.out).mono ?_
    rintro e w9 ⟨rfl, hb9⟩
    go_wp2
    go_ret
    exact ⟨rfl, below2 HW1.out (below2 HBw5.out hb9)⟩
   ·by_cases c2 : n < 0
    ·clear hge
     go_wp2_with fail
     refine (HKn.out _ HBw5.out).mono ?_
     rintro e w9 ⟨rfl, hb9⟩
     go_wp2
     go_ret
     exact ⟨rfl, below2 HW1.out (below2 HBw5.out hb9)⟩
    ·obtain ⟨n4, n5⟩ := hge (by omega) (by omega)
     go_wp2_with fail
     refine (HKn.out _ HBw5.out).mono ?_
     rintro e w9 ⟨rfl, hb9⟩
     go_wp2
     go_ret
     exact ⟨rfl, below2 HW1.out (below2 HBw5.out hb9)⟩

end Go.Proofs.YtooihpkoplgmbaaDoor

namespace Go.Proofs.YtooihpkoplgmbaaDoor
open Go.RowKit

theorem dropWhile_all16 {p : UInt8 → Bool} : ∀ l : List UInt8, (∀ c ∈ l, p c = false) → l.dropWhile p = l
 | [], _ => rfl
 | c :: l, h => by rw [List.dropWhile_cons, h c (by simp)]; rfl

theorem strip_all (l : List UInt8) (h : ∀ c ∈ l, blC c = false) : strip l = l := by
 unfold strip
 rw [dropWhile_all16 l h, dropWhile_all16 l.reverse (fun c hc => h c (List.mem_reverse.1 hc)), List.reverse_reverse]

theorem trimB_all (l : List UInt8) (h : ∀ c ∈ l, pT c = false) : trimB l = l := by
 rw [trimB_strip, dropWhile_all16 l h, dropWhile_all16 l.reverse (fun c hc => h c (List.mem_reverse.1 hc)), List.reverse_reverse]

theorem trimB_one (l : List UInt8) (h : ∀ c ∈ l, pT c = false) : trimB (32 :: l) = l := by
 rw [trimB_strip, List.dropWhile_cons, show pT 32 = true from rfl]
 simp only [if_true]
 rw [dropWhile_all16 l h, dropWhile_all16 l.reverse (fun c hc => h c (List.mem_reverse.1 hc)), List.reverse_reverse]

theorem cutQ_no : ∀ l : List UInt8, 44 ∉ l → 34 ∉ l → cutQ false l = none
 | [], _, _ => rfl
 | c :: l, h1, h2 => by
  rw [cutQ_other c l (fun e => h1 (by simp [e])) (fun e => h2 (by simp [e])), cutQ_no l (fun e => h1 (by simp [e])) (fun e => h2 (by simp [e]))]
  rfl

theorem cutQ_skip : ∀ (T r : List UInt8), 34 ∉ T → 92 ∉ T → cutQ true (T ++ 34 :: r) = (cutQ false r).map (· + (T.length + 1))
 | [], r, _, _ => by rw [List.nil_append, cutQ_close]; rfl
 | c :: T, r, h1, h2 => by
  rw [List.cons_append, cutQ_in c _ (fun e => h1 (by simp [e])) (fun e => h2 (by simp [e])), cutQ_skip T r (fun e => h1 (by simp [e])) (fun e => h2 (by simp [e])), map_map_add]
  rfl

theorem cutQ_ahead : ∀ (A r : List UInt8), 44 ∉ A → 34 ∉ A → cutQ false (A ++ r) = (cutQ false r).map (· + A.length)
 | [], r, _, _ => by cases h : cutQ false r <;> simp [h]
 | c :: A, r, h1, h2 => by
  rw [List.cons_append, cutQ_other c _ (fun e => h1 (by simp [e])) (fun e => h2 (by simp [e])), cutQ_ahead A r (fun e => h1 (by simp [e])) (fun e => h2 (by simp [e])), map_map_add]
  rfl

def sMax : List UInt8 := [109, 97, 120, 45, 97, 103, 101, 61]

def sPub : List UInt8 := [80, 117, 98, 108, 105, 99, 44, 32, 77, 97, 120, 45, 65, 103, 101, 61, 34]

def sPu1 : List UInt8 := [80, 117, 98, 108, 105, 99]

def sPu2 : List UInt8 := [77, 97, 120, 45, 65, 103, 101, 61]

theorem max_no : ∀ c ∈ sMax, pT c = false := by decide

theorem pu2_no : ∀ c ∈ sPu2, pT c = false ∧ blC c = false := by decide

theorem dig_byte {n : Nat} {T : List UInt8} (h : Dec n T) : ∀ c ∈ T, blC c = false ∧ pT c = false ∧ c ≠ 34 ∧ c ≠ 44 ∧ c ≠ 61 ∧ c ≠ 92 := by
 intro c hc
 have h1 := List.all_eq_true.1 h.2.1 c hc
 have key : ∀ n < 256, (!digP (UInt8.ofNat n) || (blC (UInt8.ofNat n) == false && pT (UInt8.ofNat n) == false && UInt8.ofNat n != 34 && UInt8.ofNat n != 44 && UInt8.ofNat n != 61 && UInt8.ofNat n != 92)) = true := by decide +kernel
 have := key c.toNat c.toNat_lt
 rw [show UInt8.ofNat c.toNat = c by simp, h1] at this
 simp only [Bool.not_true, Bool.false_or] at this
 simp only [Bool.and_eq_true, beq_iff_eq, bne_iff_ne] at this
 obtain ⟨⟨⟨⟨⟨a, b⟩, c1⟩, d⟩, e⟩, f⟩ := this
 exact ⟨a, b, c1, d, e, f⟩

theorem Dec.intT {n : Nat} {T : List UInt8} (h : Dec n T) : intV T = n ∧ intOk T = true := by
 have h1 := h.int
 have hne : T ≠ [] := h.1
 unfold bndV bndOk at h1
 rw [if_neg hne] at h1
 refine ⟨h1.1, ?_⟩
 have := h1.2
 cases T with
 | nil => exact absurd rfl hne
 | cons a b => simpa using this

theorem ctl_plain (n : Nat) (T : List UInt8) (h : Dec n T) : ctlP ((pcs (sMax ++ T)).map trimB) = ⟨false, false, n⟩ := by
 have hb := dig_byte h
 have hc : cutQ false (sMax ++ T) = none := cutQ_no _ (by
  rw [List.mem_append]; rintro (h1 | h1)
  ·revert h1; decide
  ·exact (hb 44 h1).2.2.2.1 rfl) (by
  rw [List.mem_append]; rintro (h1 | h1)
  ·revert h1; decide
  ·exact (hb 34 h1).2.2.1 rfl)
 rw [pcs_none _ hc, List.map_singleton, trimB_all _ (by
  intro c hm
  rcases List.mem_append.1 hm with h1 | h1
  ·exact max_no c h1
  ·exact (hb c h1).2.1)]
 have hp : part 61 (sMax ++ T) = ([109, 97, 120, 45, 97, 103, 101], T, true) := part_some 61 [109, 97, 120, 45, 97, 103, 101] T (by decide)
 have h1 : apN (sMax ++ T) = tMA := by
  unfold apN
  rw [hp]
  show low (strip [109, 97, 120, 45, 97, 103, 101]) = tMA
  decide
 have h2 : apV (sMax ++ T) = T := by
  unfold apV
  rw [hp]
  show unqV (strip T) = T
  rw [strip_all T (fun c hc => (hb c hc).1)]
  refine unq_no T fun a e => ?_
  exact (hb 34 (by rw [e]; simp)).2.2.1 rfl
 unfold ctlP
 rw [List.foldl_cons, List.foldl_nil]
 unfold ctlS
 rw [h1, h2, h.intT.1, h.intT.2]
 rfl

theorem ctl_quoted (n : Nat) (T : List UInt8) (h : Dec n T) : ctlP ((pcs (sPub ++ T ++ [34])).map trimB) = ⟨false, false, n⟩ := by
 have hb := dig_byte h
 have h34 : 34 ∉ T := fun hm => (hb 34 hm).2.2.1 rfl
 have h92 : 92 ∉ T := fun hm => (hb 92 hm).2.2.2.2.2 rfl
 have e1 : sPub ++ T ++ [34] = sPu1 ++ 44 :: (32 :: (sPu2 ++ 34 :: (T ++ [34]))) := by
  rw [List.append_assoc]; rfl
 have hc : cutQ false (sPu1 ++ 44 :: (32 :: (sPu2 ++ 34 :: (T ++ [34])))) = some 6 := by
  rw [cutQ_ahead sPu1 _ (by decide) (by decide), cutQ_comma]; rfl
 have hc2 : cutQ false (32 :: (sPu2 ++ 34 :: (T ++ [34]))) = none := by
  have : (32 : UInt8) :: (sPu2 ++ 34 :: (T ++ [34])) = (32 :: sPu2) ++ 34 :: (T ++ [34]) := rfl
  rw [this, cutQ_ahead (32 :: sPu2) _ (by decide) (by decide), cutQ_open, cutQ_skip T [] h34 h92]
  rfl
 rw [e1, pcs_some _ 6 hc]
 have t1 : List.take 6 (sPu1 ++ 44 :: (32 :: (sPu2 ++ 34 :: (T ++ [34])))) = sPu1 := rfl
 have t2 : List.drop (6 + 1) (sPu1 ++ 44 :: (32 :: (sPu2 ++ 34 :: (T ++ [34])))) = 32 :: (sPu2 ++ 34 :: (T ++ [34])) := rfl
 rw [t1, t2]
 rw [pcs_none _ hc2, List.map_cons, List.map_singleton, trimB_one _ (by
  intro c hm
  rcases List.mem_append.1 hm with h1 | h1
  ·exact (pu2_no c h1).1
  ·rcases List.mem_cons.1 h1 with rfl | h1
   ·decide
   ·rcases List.mem_append.1 h1 with h1 | h1
    ·exact (hb c h1).2.1
    ·rw [List.mem_singleton.1 h1]; decide)]
 have hp : part 61 (sPu2 ++ 34 :: (T ++ [34])) = ([77, 97, 120, 45, 65, 103, 101], 34 :: (T ++ [34]), true) := part_some 61 [77, 97, 120, 45, 65, 103, 101] (34 :: (T ++ [34])) (by decide)
 have h1 : apN (sPu2 ++ 34 :: (T ++ [34])) = tMA := by
  unfold apN
  rw [hp]
  show low (strip [77, 97, 120, 45, 65, 103, 101]) = tMA
  decide
 have h2 : apV (sPu2 ++ 34 :: (T ++ [34])) = T := by
  unfold apV
  rw [hp]
  show unqV (strip (34 :: (T ++ [34]))) = T
  rw [strip_all _ (by
   intro c hm
   rcases List.mem_cons.1 hm with rfl | hm
   ·decide
   ·rcases List.mem_append.1 hm with h1 | h1
    ·exact (hb c h1).1
    ·rw [List.mem_singleton.1 h1]; decide)]
  exact unq_yes T
 have h0 : ctlS ctl0 (trimB sPu1) = ctl0 := by decide +kernel
 unfold ctlP
 rw [List.foldl_cons, List.foldl_cons, List.foldl_nil, h0]
 unfold ctlS
 rw [h1, h2, h.intT.1, h.intT.2]
 rfl

theorem getT_cons16 (a b : Hd) (n : List UInt8) (h1 : isN n a = true) (h2 : isN n b = false) : getT [a, b] n = a.value ∧ getB [a, b] n = true := by
 unfold getT getB selV
 simp [h1, h2, Lib.join]

theorem getT_snd16 (a b : Hd) (n : List UInt8) (h1 : isN n a = false) (h2 : isN n b = true) : getT [a, b] n = b.value ∧ getB [a, b] n = true := by
 unfold getT getB selV
 simp [h1, h2, Lib.join]

def nCCu : List UInt8 := [67, 97, 99, 104, 101, 45, 67, 111, 110, 116, 114, 111, 108]

def nAgu : List UInt8 := [65, 103, 101]

def lifT (q : Bool) (T : List UInt8) : List UInt8 := if q then sPub ++ T ++ [34] else sMax ++ T

theorem ctl_life (q : Bool) (n : Nat) (T A : List UInt8) (h : Dec n T) : ctlV [⟨nCCu, lifT q T⟩, ⟨nAgu, A⟩] = ⟨false, false, n⟩ := by
 have h1 := getT_cons16 ⟨nCCu, lifT q T⟩ ⟨nAgu, A⟩ nCC (show (low nCCu == low nCC) = true by decide) (show (low nAgu == low nCC) = false by decide)
 unfold ctlV pcsV
 rw [h1.2]
 simp only [if_true]
 unfold splitV
 rw [h1.1]
 cases q with
 | true => exact ctl_quoted n T h
 | false => exact ctl_plain n T h

theorem age_life (q : Bool) (a : Nat) (T A : List UInt8) (h : Dec a A) (s n : Int) : ageV [⟨nCCu, lifT q T⟩, ⟨nAgu, A⟩] s n = addV a (sinV s n) := by
 have h1 := getT_snd16 ⟨nCCu, lifT q T⟩ ⟨nAgu, A⟩ nAg (show (low nCCu == low nAg) = false by decide) (show (low nAgu == low nAg) = true by decide)
 unfold ageV
 rw [h1.1, strip_all A (fun c hc => (dig_byte h c hc).1), h.intT.1]

theorem lives_yes (q : Bool) (n a : Nat) (T A : List UInt8) (hT : Dec n T) (hA : Dec a A) (s : Nat) (hn : n ≤ 4000) (ha : a ≤ 4000) (hs : s ≤ 4000) (h : a < n) :
  freV [⟨nCCu, lifT q T⟩, ⟨nAgu, A⟩] s (s + (n - a) - 1) = true ∧ freV [⟨nCCu, lifT q T⟩, ⟨nAgu, A⟩] s (s + (n - a)) = false ∧ ageV [⟨nCCu, lifT q T⟩, ⟨nAgu, A⟩] s (s + (n - a)) = n := by
 unfold freV
 rw [ctl_life q n T A hT, age_life q a T A hA, age_life q a T A hA]
 have e1 : addV a (sinV s (s + (n - a) - 1)) = n - 1 := by unfold addV sinV; repeat' split <;> omega
 have e2 : addV a (sinV s (s + (n - a))) = n := by unfold addV sinV; repeat' split <;> omega
 rw [e1, e2]
 refine ⟨by simp; omega, by simp, rfl⟩

theorem lives_no (q : Bool) (n a : Nat) (T A : List UInt8) (hT : Dec n T) (hA : Dec a A) (s : Nat) (hn : n ≤ 4000) (ha : a ≤ 4000) (hs : s ≤ 4000) (h : n ≤ a) :
  freV [⟨nCCu, lifT q T⟩, ⟨nAgu, A⟩] s s = false := by
 unfold freV
 rw [ctl_life q n T A hT, age_life q a T A hA]
 have e1 : addV a (sinV s s) = a := by unfold addV sinV; repeat' split <;> omega
 rw [e1]
 simp; omega

end Go.Proofs.YtooihpkoplgmbaaDoor

namespace Go.Proofs.YtooihpkoplgmbaaDoor
open Go.RowKit

theorem tmod16 (x : Int) : -5000 < x.tmod 5000 ∧ x.tmod 5000 < 5000 := by
 rcases Int.lt_or_le x 0 with h | h
 ·have h1 : x.tmod 5000 = -((-x) % 5000) := by
   have := Int.neg_tmod x 5000
   have h2 : (-x).tmod 5000 = (-x) % 5000 := Int.tmod_eq_emod_of_nonneg (by omega)
   omega
  omega
 ·have h2 : x.tmod 5000 = x % 5000 := Int.tmod_eq_emod_of_nonneg h
  omega

theorem wit16 (x : Int) : ∃ n : Nat, n ≤ 4000 ∧ ∀ w : World, Calls Tryd.prog 15 #[.int .i64 (x.tmod 5000), .int .i64 0, .int .i64 4000] w fun e w' => e = .returned (.int .i64 (n : Int)) ∧ w = w' := by
 have h := tmod16 x
 have hb := xwithinI_bounds (x.tmod 5000) 0 4000 (by omega)
 refine ⟨(xwithinI (x.tmod 5000) 0 4000).toNat, by omega, fun w => ?_⟩
 have := xwithin_any (x.tmod 5000) 0 4000 w (by omega) (by omega) (by omega) (by omega) (by omega)
 rw [show (((xwithinI (x.tmod 5000) 0 4000).toNat : Nat) : Int) = xwithinI (x.tmod 5000) 0 4000 by omega]
 exact this

theorem app16 (a b : List UInt8) : (⟨a.toArray⟩ : ByteArray) ++ ⟨b.toArray⟩ = ⟨(a ++ b).toArray⟩ := by
 refine xext ?_
 rw [ByteArray.data_append, Array.toList_append]

theorem lif_len {n : Nat} {T : List UInt8} (h : Dec n T) (q : Bool) : (lifT q T).length ≤ 1000 := by
 have := h.2.2.2
 cases q <;> simp [lifT, sPub, sMax] <;> omega

set_option maxHeartbeats 16000000 in
set_option maxRecDepth 100000 in
theorem ageLives_walk (life age0 stored : Int) (q : Bool) (w : World) (h1 : (Lit.int .i64 life).wf = true) (h2 : (Lit.int .i64 age0).wf = true) (h3 : (Lit.int .i64 stored).wf = true) (hg : G5 w) :
  Calls Tryd.prog 5 #[.int .i64 life, .int .i64 age0, .int .i64 stored, .bool q] w fun e w' => e = .returned (.bool true) ∧ Below w.heap.size w w' := by
 obtain ⟨i0, hi, hz0, hz1, hz2⟩ := info3 infoHd
 have HG := hid hg
 obtain ⟨n, hn, hWn⟩ := wit16 life
 obtain ⟨a, ha, hWa⟩ := wit16 age0
 obtain ⟨s, hs, hWs⟩ := wit16 stored
 have HWn := hid hWn
 have HWa := hid hWa
 have HWs := hid hWs
 clear h1 h2 h3 hg hWn hWa hWs
 cases q with
 | true =>
  go_enter Tryd.func5, Tryd.ntmps5
  go_wp2_with fail
  refine (HWn.out _).mono ?_
  rintro e w1 ⟨rfl, hw1⟩
  rw [← hw1]
  clear hw1
  go_wp2_with fail
  refine (HWa.out _).mono ?_
  rintro e w1 ⟨rfl, hw1⟩
  rw [← hw1]
  clear hw1
  go_wp2_with fail
  refine (HWs.out _).mono ?_
  rintro e w1 ⟨rfl, hw1⟩
  rw [← hw1]
  clear hw1
  go_wp2_with fail
  refine (digits16_any n _ (by omega)).mono ?_
  rintro e w1 ⟨T0, rfl, hT0, hw1⟩
  have DT0 := hid hT0
  have lT0 : T0.length ≤ 40 := hT0.2.2.2
  clear hT0
  rw [← hw1]
  clear hw1
  go_wp2_with fail
  refine (digits16_any n _ (by omega)).mono ?_
  rintro e w1 ⟨T, rfl, hT, hw1⟩
  have DT := hid hT
  have lT : T.length ≤ 40 := hT.2.2.2
  clear hT
  rw [← hw1]
  clear hw1
  have HS := hid (show (⟨#[80, 117, 98, 108, 105, 99, 44, 32, 77, 97, 120, 45, 65, 103, 101, 61, 34]⟩ : ByteArray) ++ ⟨T.toArray⟩ ++ ⟨#[34]⟩ = ⟨(lifT true T).toArray⟩ by
   have h1 := app16 sPub T
   have h2 := app16 (sPub ++ T) [34]
   rw [← h1] at h2
   exact h2)
  go_wp2_with fail
  rw [HS.out]
  refine (cc16_any _ _).mono ?_
  rintro e w2 ⟨rfl, ho2, hb2⟩
  rw [xmk] at ho2
  have HO2 := hid ho2
  have HB2 := hid hb2
  have hs2 := hb2.size
  clear ho2 hb2
  go_wp2_with fail
  refine (digits16_any a _ (by omega)).mono ?_
  rintro e w1 ⟨A, rfl, hA, hw1⟩
  have DA := hid hA
  have lA : A.length ≤ 40 := hA.2.2.2
  clear hA
  rw [← hw1]
  clear hw1
  go_wp2_with (at_builtin; go_must (refine wpList_append_own _ rfl _ _ 27 rfl w.heap.size 26 i0 _ 2 32 Tryd.underlying27 hi hz0 hz1 hz2 rfl (by decide) _ _ _ rfl (HO2.out.alloc _) ⟨w2.heap.size, 0, none⟩ 1 1 [.string ⟨#[65, 103, 101]⟩, .string ⟨A.toArray⟩] rfl rfl ?c1 ?c2 ?c3 ?c4 ?c5 ?_))
  case c1 =>
   intro q u hq
   match q, hq with
   | 0, hq => simp at hq; subst hq; simp [Addr.add]
   | 1, hq => simp at hq; subst hq; simp [Addr.add]
  case c2 => intro u hu; simp at hu; rcases hu with rfl | rfl <;> rfl
  case c3 => unfold maxLen; omega
  case c4 => omega
  case c5 => simp; omega
  intro v4 w4 hown4 hgrow4 hnil4
  have HL4 := hid (show HdAt w4 v4 [⟨nCCu, lifT true T⟩, ⟨nAgu, A⟩] from own_hd (L := [⟨nCCu, lifT true T⟩, ⟨nAgu, A⟩]) hown4)
  have HBw4 := hid (show Below w.heap.size w w4 from (HB2.out.alloc hs2 _).grown hgrow4 (by simp; omega) (fun g hg => (HO2.out.lt g hg).1))
  have HL := hid (fun (Z : World) (hZ : Below w4.heap.size w4 Z) => HL4.out.kept hZ)
  have HCw4 := hid (Below.refl w4.heap.size w4)
  have HSm := hid (show Sml [⟨nCCu, lifT true T⟩, ⟨nAgu, A⟩] from sml_two _ _ (show nCCu.length ≤ 1000 by decide) (lif_len DT.out true) (show nAgu.length ≤ 1000 by decide) (show A.length ≤ 1000 by omega))
  clear hown4 hgrow4 hnil4 hs2
  by_cases hlt : a < n
  ·have e1 : ¬ (n : Int) - (a : Int) ≤ 0 := by omega
   have HY := hid (lives_yes true n a T A DT.out DA.out s hn ha hs hlt)
   go_wp2_with fail
   refine (fresh_at16 _ _ _ _ true _ (HG.out.kept HBw4.out) (HL.out _ HCw4.out) HSm.out (by omega) (by omega) HY.out.1).mono ?_
   rintro e w5 ⟨rfl, hbw5⟩
   have HBw5 := hid (below2 HBw4.out hbw5)
   have HCw5 := hid (below2 HCw4.out hbw5)
   clear hbw5
   go_wp2_with fail
   refine (fresh_at16 _ _ _ _ false _ (HG.out.kept HBw5.out) (HL.out _ HCw5.out) HSm.out (by omega) (by omega) HY.out.2.1).mono ?_
   rintro e w6 ⟨rfl, hbw6⟩
   have HBw6 := hid (below2 HBw5.out hbw6)
   have HCw6 := hid (below2 HCw5.out hbw6)
   clear hbw6
   go_wp2_with fail
   refine (age_at16 _ _ _ _ (n : Int) _ (HL.out _ HCw6.out) HSm.out (by omega) (by omega) HY.out.2.2).mono ?_
   rintro e w7 ⟨rfl, hbw7⟩
   have HBw7 := hid (below2 HBw6.out hbw7)
   clear hbw7
   go_wp2_with fail
   refine (known16_any _ (HG.out.kept HBw7.out)).mono ?_
   rintro e w9 ⟨rfl, hb9⟩
   go_wp2
   go_ret
   exact ⟨rfl, below2 HBw7.out hb9⟩
  ·have e1 : (n : Int) - (a : Int) ≤ 0 := by omega
   have HN := hid (lives_no true n a T A DT.out DA.out s hn ha hs (by omega))
   go_wp2_with fail
   refine (fresh_at16 _ _ _ _ false _ (HG.out.kept HBw4.out) (HL.out _ HCw4.out) HSm.out (by omega) (by omega) HN.out).mono ?_
   rintro e w5 ⟨rfl, hbw5⟩
   have HBw5 := hid (below2 HBw4.out hbw5)
   have HCw5 := hid (below2 HCw4.out hbw5)
   clear hbw5
   go_wp2_with fail
   refine (known16_any _ (HG.out.kept HBw5.out)).mono ?_
   rintro e w9 ⟨rfl, hb9⟩
   go_wp2
   go_ret
   exact ⟨rfl, below2 HBw5.out hb9⟩
 | false =>
  go_enter Tryd.func5, Tryd.ntmps5
  go_wp2_with fail
  refine (HWn.out _).mono ?_
  rintro e w1 ⟨rfl, hw1⟩
  rw [← hw1]
  clear hw1
  go_wp2_with fail
  refine (HWa.out _).mono ?_
  rintro e w1 ⟨rfl, hw1⟩
  rw [← hw1]
  clear hw1
  go_wp2_with fail
  refine (HWs.out _).mono ?_
  rintro e w1 ⟨rfl, hw1⟩
  rw [← hw1]
  clear hw1
  go_wp2_with fail
  refine (digits16_any n _ (by omega)).mono ?_
  rintro e w1 ⟨T0, rfl, hT0, hw1⟩
  have DT0 := hid hT0
  have lT0 : T0.length ≤ 40 := hT0.2.2.2
  clear hT0
  rw [← hw1]
  clear hw1
  obtain ⟨T, hT⟩ : ∃ T, T = T0 := ⟨_, rfl⟩
  have DT := hid (show Dec n T by rw [hT]; exact DT0.out)
  have HS := hid (show (⟨#[109, 97, 120, 45, 97, 103, 101, 61]⟩ : ByteArray) ++ ⟨T0.toArray⟩ = ⟨(lifT false T).toArray⟩ by
   rw [hT]
   exact app16 sMax T0)
  clear hT
  go_wp2_with fail
  rw [HS.out]
  refine (cc16_any _ _).mono ?_
  rintro e w2 ⟨rfl, ho2, hb2⟩
  rw [xmk] at ho2
  have HO2 := hid ho2
  have HB2 := hid hb2
  have hs2 := hb2.size
  clear ho2 hb2
  go_wp2_with fail
  refine (digits16_any a _ (by omega)).mono ?_
  rintro e w1 ⟨A, rfl, hA, hw1⟩
  have DA := hid hA
  have lA : A.length ≤ 40 := hA.2.2.2
  clear hA
  rw [← hw1]
  clear hw1
  go_wp2_with (at_builtin; go_must (refine wpList_append_own _ rfl _ _ 27 rfl w.heap.size 26 i0 _ 2 32 Tryd.underlying27 hi hz0 hz1 hz2 rfl (by decide) _ _ _ rfl (HO2.out.alloc _) ⟨w2.heap.size, 0, none⟩ 1 1 [.string ⟨#[65, 103, 101]⟩, .string ⟨A.toArray⟩] rfl rfl ?c1 ?c2 ?c3 ?c4 ?c5 ?_))
  case c1 =>
   intro q u hq
   match q, hq with
   | 0, hq => simp at hq; subst hq; simp [Addr.add]
   | 1, hq => simp at hq; subst hq; simp [Addr.add]
  case c2 => intro u hu; simp at hu; rcases hu with rfl | rfl <;> rfl
  case c3 => unfold maxLen; omega
  case c4 => omega
  case c5 => simp; omega
  intro v4 w4 hown4 hgrow4 hnil4
  have HL4 := hid (show HdAt w4 v4 [⟨nCCu, lifT false T⟩, ⟨nAgu, A⟩] from own_hd (L := [⟨nCCu, lifT false T⟩, ⟨nAgu, A⟩]) hown4)
  have HBw4 := hid (show Below w.heap.size w w4 from (HB2.out.alloc hs2 _).grown hgrow4 (by simp; omega) (fun g hg => (HO2.out.lt g hg).1))
  have HL := hid (fun (Z : World) (hZ : Below w4.heap.size w4 Z) => HL4.out.kept hZ)
  have HCw4 := hid (Below.refl w4.heap.size w4)
  have HSm := hid (show Sml [⟨nCCu, lifT false T⟩, ⟨nAgu, A⟩] from sml_two _ _ (show nCCu.length ≤ 1000 by decide) (lif_len DT.out false) (show nAgu.length ≤ 1000 by decide) (show A.length ≤ 1000 by omega))
  clear hown4 hgrow4 hnil4 hs2
  by_cases hlt : a < n
  ·have e1 : ¬ (n : Int) - (a : Int) ≤ 0 := by omega
   have HY := hid (lives_yes false n a T A DT.out DA.out s hn ha hs hlt)
   go_wp2_with fail
   refine (fresh_at16 _ _ _ _ true _ (HG.out.kept HBw4.out) (HL.out _ HCw4.out) HSm.out (by omega) (by omega) HY.out.1).mono ?_
   rintro e w5 ⟨rfl, hbw5⟩
   have HBw5 := hid (below2 HBw4.out hbw5)
   have HCw5 := hid (below2 HCw4.out hbw5)
   clear hbw5
   go_wp2_with fail
   refine (fresh_at16 _ _ _ _ false _ (HG.out.kept HBw5.out) (HL.out _ HCw5.out) HSm.out (by omega) (by omega) HY.out.2.1).mono ?_
   rintro e w6 ⟨rfl, hbw6⟩
   have HBw6 := hid (below2 HBw5.out hbw6)
   have HCw6 := hid (below2 HCw5.out hbw6)
   clear hbw6
   go_wp2_with fail
   refine (age_at16 _ _ _ _ (n : Int) _ (HL.out _ HCw6.out) HSm.out (by omega) (by omega) HY.out.2.2).mono ?_
   rintro e w7 ⟨rfl, hbw7⟩
   have HBw7 := hid (below2 HBw6.out hbw7)
   clear hbw7
   go_wp2_with fail
   refine (known16_any _ (HG.out.kept HBw7.out)).mono ?_
   rintro e w9 ⟨rfl, hb9⟩
   go_wp2
   go_ret
   exact ⟨rfl, below2 HBw7.out hb9⟩
  ·have e1 : (n : Int) - (a : Int) ≤ 0 := by omega
   have HN := hid (lives_no false n a T A DT.out DA.out s hn ha hs (by omega))
   go_wp2_with fail
   refine (fresh_at16 _ _ _ _ false _ (HG.out.kept HBw4.out) (HL.out _ HCw4.out) HSm.out (by omega) (by omega) HN.out).mono ?_
   rintro e w5 ⟨rfl, hbw5⟩
   have HBw5 := hid (below2 HBw4.out hbw5)
   have HCw5 := hid (below2 HCw4.out hbw5)
   clear hbw5
   go_wp2_with fail
   refine (known16_any _ (HG.out.kept HBw5.out)).mono ?_
   rintro e w9 ⟨rfl, hb9⟩
   go_wp2
   go_ret
   exact ⟨rfl, below2 HBw5.out hb9⟩

end Go.Proofs.YtooihpkoplgmbaaDoor

namespace Go.Proofs.YtooihpkoplgmbaaDoor
open Go.RowKit

theorem va1_16 : vrOk (pcsV [⟨[118, 97, 114, 121], [66, 44, 32, 97, 44, 32, 98, 44]⟩] nVy) = true := by decide +kernel

theorem va2_16 : varV (pcsV [⟨[118, 97, 114, 121], [66, 44, 32, 97, 44, 32, 98, 44]⟩] nVy) = [[97], [98]] := by decide +kernel

theorem vb1_16 : vrOk (pcsV [⟨[118, 97, 114, 121], [97, 44, 32, 42]⟩] nVy) = false := by decide +kernel

theorem vb2_16 : varV (pcsV [⟨[118, 97, 114, 121], [97, 44, 32, 42]⟩] nVy) = [] := by decide +kernel

theorem vn1_16 : vrOk (pcsV [] nVy) = true := by decide +kernel

theorem vn2_16 : varV (pcsV [] nVy) = [] := by decide +kernel

theorem ad1_16 : addV 9223372036854775807 1 = 9223372036854775807 := by decide +kernel

theorem ad2_16 : addV 5 (-9) = 0 := by decide +kernel

theorem ad3_16 : addV (-9223372036854775808) (-9223372036854775808) = 0 := by decide +kernel

theorem cn_16 : ctlV [] = ⟨false, false, -1⟩ := by decide +kernel

theorem cm_16 : ctlV [⟨CCu, [109, 97, 120, 45, 97, 103, 101, 61, 120, 44, 32, 109, 97, 120, 45, 97, 103, 101, 61, 55, 44, 32, 109, 97, 120, 45, 97, 103, 101, 61, 57, 44, 32, 78, 111, 45, 83, 116, 111, 114, 101]⟩] = ⟨true, false, 7⟩ := by decide +kernel

theorem ag1_16 : ageV [⟨[97, 103, 101], [32, 53, 32]⟩] 3 10 = 12 := by decide +kernel

theorem ag2_16 : ageV [] 10 3 = 0 := by decide +kernel

theorem fr1_16 : freV [] 0 0 = false := by decide +kernel

theorem ag3_16 : ageV [] (-9223372036854775808) 9223372036854775807 = 9223372036854775807 := by decide +kernel

set_option maxHeartbeats 16000000 in
set_option maxRecDepth 100000 in
theorem ageNumbers_walk (w : World) (hg : G5 w) : Calls Tryd.prog 3 #[] w fun e w' => e = .returned (.bool true) ∧ Below w.heap.size w w' := by
 have HG := hid hg
 have HBw := hid (Below.refl w.heap.size w)
 have hsame := fun (v1 v2 : Value) (Z : World) (h1 : TxAt Z v1 [[97], [98]]) (h2 : TxAt Z v2 [[97], [98]]) => sameT_any v1 v2 _ _ Z h1 h2 (by decide) (by decide)
 rw [show decide (([[97], [98]] : List (List UInt8)) = [[97], [98]]) = true from by decide] at hsame
 have HSa := hid hsame
 clear hg hsame
 go_enter Tryd.func3, Tryd.ntmps3
 go_wp2_with fail
 refine (vary_at16 _ [⟨[118, 97, 114, 121], [66, 44, 32, 97, 44, 32, 98, 44]⟩] true [[97], [98]] _ (hd_one16 w (⟨#[118, 97, 114, 121]⟩ : ByteArray) (⟨#[66, 44, 32, 97, 44, 32, 98, 44]⟩ : ByteArray)) (sml_one _ (by decide) (by decide)) va1_16 va2_16).mono ?_
 rintro e w1 ⟨a1, c1, rfl, ht1, hbw1⟩
 have HBw1 := hid (below2 (below2 HBw.out ((Below.refl _ w).alloc (Nat.le_refl _) _)) hbw1)
 clear hbw1
 have HT1 := hid ht1
 clear ht1
 go_wp2_with fail
 refine (vary_at16 _ [⟨[118, 97, 114, 121], [97, 44, 32, 42]⟩] false [] _ (hd_one16 w1 (⟨#[118, 97, 114, 121]⟩ : ByteArray) (⟨#[97, 44, 32, 42]⟩ : ByteArray)) (sml_one _ (by decide) (by decide)) vb1_16 vb2_16).mono ?_
 rintro e w2 ⟨a2, c2, rfl, ht2, hbw2⟩
 have HBw2 := hid (below2 (below2 HBw1.out ((Below.refl _ w1).alloc (Nat.le_refl _) _)) hbw2)
 have HB12 := hid (below2 ((Below.refl _ w1).alloc (Nat.le_refl _) _) hbw2)
 clear hbw2 ht2
 go_wp2_with fail
 refine (vary_at16 _ [] true [] _ (hd_nil w2) sml_nil vn1_16 vn2_16).mono ?_
 rintro e w3 ⟨a3, c3, rfl, ht3, hbw3⟩
 have HBw3 := hid (below2 HBw2.out hbw3)
 have HB13 := hid (below2 HB12.out hbw3)
 clear hbw3 ht3
 obtain ⟨W3, hW3⟩ : ∃ X, (w3.alloc (.cells #[.string (⟨#[97]⟩ : ByteArray), .string (⟨#[98]⟩ : ByteArray)] 9)) = X := ⟨_, rfl⟩
 have hbW3 : Below w3.heap.size w3 W3 := by rw [← hW3]; exact (Below.refl _ w3).alloc (Nat.le_refl _) _
 have HBW3 := hid (below2 HBw3.out hbW3)
 have HT2 := hid (show TxAt W3 (.slice (some ⟨w3.heap.size, 0, none⟩) 2 2) [[97], [98]] by rw [← hW3]; exact tx_lit16 w3 [(⟨#[97]⟩ : ByteArray), (⟨#[98]⟩ : ByteArray)] 2 rfl (by decide))
 have HT3 := hid (HT1.out.kept (below2 HB13.out hbW3))
 clear hbW3
 go_wp2_with fail
 refine (HSa.out _ _ _ HT3.out HT2.out).mono ?_
 rintro e w4 ⟨rfl, hbw4⟩
 have HBw4 := hid (below2 HBW3.out hbw4)
 clear hbw4
 go_wp2_with fail
 refine (add16_any (9223372036854775807) (1) _ (by omega) (by omega)).mono ?_
 rintro e w99 ⟨rfl, hw99⟩
 rw [hw99, ad1_16]
 clear hw99
 go_wp2_with fail
 refine (add16_any (5) (-9) _ (by omega) (by omega)).mono ?_
 rintro e w99 ⟨rfl, hw99⟩
 rw [hw99, ad2_16]
 clear hw99
 go_wp2_with fail
 refine (add16_any (-9223372036854775808) (-9223372036854775808) _ (by omega) (by omega)).mono ?_
 rintro e w99 ⟨rfl, hw99⟩
 rw [hw99, ad3_16]
 clear hw99
 go_wp2_with fail
 refine (parse_at16 _ [] false false (-1) _ (HG.out.kept HBw4.out) (hd_nil _) sml_nil cn_16).mono ?_
 rintro e w5 ⟨rfl, hbw5⟩
 have HBw5 := hid (below2 HBw4.out hbw5)
 clear hbw5
 go_wp2_with fail
 refine (cc16_any (⟨#[109, 97, 120, 45, 97, 103, 101, 61, 120, 44, 32, 109, 97, 120, 45, 97, 103, 101, 61, 55, 44, 32, 109, 97, 120, 45, 97, 103, 101, 61, 57, 44, 32, 78, 111, 45, 83, 116, 111, 114, 101]⟩ : ByteArray) _).mono ?_
 rintro e w6 ⟨rfl, ho6, hb6⟩
 have HBw6 := hid (below2 HBw5.out hb6)
 have HH6 := hid (own_hd (L := [⟨CCu, [109, 97, 120, 45, 97, 103, 101, 61, 120, 44, 32, 109, 97, 120, 45, 97, 103, 101, 61, 55, 44, 32, 109, 97, 120, 45, 97, 103, 101, 61, 57, 44, 32, 78, 111, 45, 83, 116, 111, 114, 101]⟩]) ho6)
 clear ho6 hb6
 go_wp2_with fail
 refine (parse_at16 _ _ true false 7 _ (HG.out.kept HBw6.out) HH6.out (sml_one _ (by decide) (by decide)) cm_16).mono ?_
 rintro e w7 ⟨rfl, hbw7⟩
 have HBw7 := hid (below2 HBw6.out hbw7)
 clear hbw7
 go_wp2_with fail
 refine (age_at16 _ [⟨[97, 103, 101], [32, 53, 32]⟩] 3 10 12 _ (hd_one16 w7 (⟨#[97, 103, 101]⟩ : ByteArray) (⟨#[32, 53, 32]⟩ : ByteArray)) (sml_one _ (by decide) (by decide)) (by omega) (by omega) ag1_16).mono ?_
 rintro e w8 ⟨rfl, hbw8⟩
 have HBw8 := hid (below2 (below2 HBw7.out ((Below.refl _ w7).alloc (Nat.le_refl _) _)) hbw8)
 clear hbw8
 go_wp2_with fail
 refine (age_at16 _ [] 10 3 0 _ (hd_nil _) sml_nil (by omega) (by omega) ag2_16).mono ?_
 rintro e w9 ⟨rfl, hbw9⟩
 have HBw9 := hid (below2 HBw8.out hbw9)
 clear hbw9
 go_wp2_with fail
 refine (fresh_at16 _ [] 0 0 false _ (HG.out.kept HBw9.out) (hd_nil _) sml_nil (by omega) (by omega) fr1_16).mono ?_
 rintro e w10 ⟨rfl, hbw10⟩
 have HBw10 := hid (below2 HBw9.out hbw10)
 clear hbw10
 go_wp2_with fail
 refine (age_at16 _ [] (-9223372036854775808) 9223372036854775807 9223372036854775807 _ (hd_nil _) sml_nil (by omega) (by omega) ag3_16).mono ?_
 rintro e w11 ⟨rfl, hbw11⟩
 have HBw11 := hid (below2 HBw10.out hbw11)
 clear hbw11
 go_wp2_with fail
 refine (known16_any _ (HG.out.kept HBw11.out)).mono ?_
 rintro e w12 ⟨rfl, hbw12⟩
 have HBw12 := hid (below2 HBw11.out hbw12)
 clear hbw12
 go_wp2
 go_ret
 exact ⟨rfl, HBw12.out⟩

end Go.Proofs.YtooihpkoplgmbaaDoor

namespace Go.Proofs.YtooihpkoplgmbaaDoor
open Go.RowKit

def laid5 : List (String × DataW Unit) := [("unicode/utf8.acceptRanges", Rows.laid_unicode_utf8_acceptRanges), ("unicode/utf8.first", Rows.laid_unicode_utf8_first)]

theorem g5_of_shaped {W : World} (hsh : W.ShapedOpen Tryd.prog) : G5 W := Tryd.laysM145.s1_3 W hsh

theorem ownK : ownKnob Tryd.prog.godebug = none := by kernel_rfl

noncomputable def startW (os : Os) : World :=
 { World.doorLaid Tryd.prog 19 os with heap := (World.doorLaid Tryd.prog 19 os).heap.setIfInBounds 1 (.cells (Pinned.utf8FirstZ.map fun (n : Nat) => Value.int .u8 (n : Int)).toArray 115 (0, 0)) }

theorem door_met (os : Os) (args : Array Value) : laidMetH Tryd.prog laid5 ((startW os).forCall (fun _ _ => 0) ⟨#[], args, []⟩).memory :=
 laidMetH_of_parts3 (fuel := 8) (laidMet_of_run' 8 (by kernel_rfl) (by kernel_rfl)) (by kernel_rfl) (by kernel_rfl)

theorem spot_none {w : World} {x : Addr} {v : Value} (h : w.cell? x = some v) : x.spot = none := by
 unfold World.cell? at h
 cases hs : x.spot with
 | none => rfl
 | some y =>
  rw [hs] at h
  split at h
  ·simp at h
  ·cases h

theorem tx_arg {w : World} {x : Addr} {len cap : Nat} {ss : List ByteArray} (hl : len ≤ cap) (hm : cap ≤ maxLen) (hz : ss.length = cap) (hcell : ∀ i, i < ss.length → w.cell? (x.add i) = some (.string (ss.getD i ByteArray.empty))) (hws : ∀ s ∈ ss, s.size ≤ maxLen) :
  ∃ L, TxAt w (.slice (some x) len cap) L ∧ ∀ y ∈ L, y.length ≤ maxLen := by
 have hL : ((ss.take len).map (·.data.toList)).length = len := by simp; omega
 refine ⟨(ss.take len).map (·.data.toList), ⟨some x, cap, by rw [hL], by omega, hm, fun j hj => ?_⟩, fun y hy => ?_⟩
 ·rw [hL] at hj
  have h0 := hcell 0 (by omega)
  have hsp : x.spot = none := spot_none (by simpa [Addr.add] using h0)
  refine ⟨x.block, x.off, by rw [← hsp], ?_⟩
  have hc := hcell j (by omega)
  have e : x.add j = ⟨x.block, x.off + j, none⟩ := by
   unfold Addr.add
   split
   ·subst_vars; rw [← hsp]; rfl
   ·rfl
  rw [e] at hc
  rw [hc]
  have hjs : j < ss.length := by omega
  simp [List.getD, hjs]
 ·simp only [List.mem_map] at hy
  obtain ⟨s, hs, rfl⟩ := hy
  have := hws s (List.mem_of_mem_take hs)
  simpa using this

end Go.Proofs.YtooihpkoplgmbaaDoor
