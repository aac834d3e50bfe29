/-
  Walks and plain facts that this claim leans on, put together out of 3 texts: Eil, Efc, Eim.
-/
import Derived.Test.YtpopljcmkbchcaaGreatDoorProg
import Derived.Test.YtpopljcmkbchcaaGreatDoorQc1
import Derived.Test.YtpopljcmkbchcaaGreatDoorQc3
import Derived.Test.YtpopljcmkbchcaaGreatDoorQc4
import Derived.Test.YtpopljcmkbchcaaGreatDoorQc5
import Derived.Test.YtpopljcmkbchcaaGreatDoorQc6
import Derived.Test.YtpopljcmkbchcaaGreatDoorQc7
import Derived.Test.YtpopljcmkbchcaaGreatDoorQc8
import Derived.Test.YtpopljcmkbchcaaGreatDoorQc10
import Derived.Test.YtpopljcmkbchcaaGreatDoorQc11
import Derived.Test.YtpopljcmkbchcaaGreatDoorQc12
import Derived.Test.YtpopljcmkbchcaaGreatDoorQc16
import Derived.Test.YtpopljcmkbchcaaGreatDoorQc20
import Derived.Test.YtpopljcmkbchcaaGreatDoorQc22
import Derived.Test.YtpopljcmkbchcaaGreatDoorQc23
import Derived.Test.YtpopljcmkbchcaaGreatDoorQc25
import Derived.BigRegion
import Derived.Deep.RegionHeld
import Derived.Deep.RegionHeldLaw
import Derived.Lib.IndexAny
import Derived.WalkKit
import Derived.Lib.UnsafeStr
import Derived.Lib.BufferRead
import Derived.Lib.RuneBytes
import Derived.Laws.RangeAny
import Derived.Deep.LoopGhost
import Derived.Maps.OwnSet
import Derived.Maps.OwnOps
import Derived.Maps.AppendAt
import Derived.StringKeys
import Derived.BigQuiet
import Derived.Deep.QuietTactic
import Derived.LoopN
import Derived.RegionTactic
import Derived.Deep.RegionLaw
import Derived.Deep.RegionWith
import Derived.WalkSpells
import Derived.WalkLawsBesides
import Derived.Lib.FieldsP
import Derived.Lib.DecodeN
import Derived.Lib.IndexMore
import Derived.Lib.Join
import Derived.Lib.SmallJoins
import Derived.Laws.CopyOwn
import Derived.Laws.ResultCell
import Derived.Deep.MidRow
import Derived.Laws.OwnMore
import Derived.Below
import Derived.WalkSmall
import Derived.Lib.LaidTab
import Derived.Lib.AppendIntMem
import Derived.Laws.AppendOwn
import Derived.Laws.Runes
import Derived.Lib.OthersKept
import Derived.Lib.FrozenHead2
import Derived.Lib.Builder
import Derived.Lib.AppendStr
import Derived.Lib.Replace
import Derived.Shelf.GgClosure.GivesRunes
import Derived.Laws.BitsAll
import Derived.Laws.Shifts
import Derived.Deep.DeepAppendRoom
import Derived.Laws.IdiomStrings
import Derived.Laws.BytesString
import Derived.Laws.CopyRow
import Derived.Sort.OwnSorted
import Derived.Lib.SlicesCompact
import Derived.Sort.KeysCollected
import Derived.Lib.Case
import Derived.Maps.RangeWalk
import Derived.Lib.SlMapMerge
import Derived.Laws.IdiomRangeMap
import Derived.Lib.LastIndexByte
import Derived.Shelf.SlIter.Nil
import Derived.Shelf.SortM.Plain
import Derived.Shelf.SortM.SortNone
import Derived.Lib.Strings
import Derived.Laws.BitsAllLaws
import Derived.Lib.Bytealg
import Derived.Lib.BufferMore
import Derived.Shelf.Strings.Builder1
import Derived.Shelf.Strings.Builder2
import Derived.Shelf.Strings.OnBuilder
import Derived.Shelf.Strings.Trim
import Derived.Shelf.Small.Utf8
import Derived.Shelf.Small.Bits
import Derived.Shelf.Small.Strs
import Derived.Shelf.Small.Wraps
import Derived.Shelf.Strings.BuilderF
import Derived.Shelf.Strings.BuilderK
import Derived.Shelf.Strings.BuilderRune
import Derived.Shelf.Utf8.AppendRune
import Derived.Shelf.Utf8.AppendRunePlain
import Derived.Shelf.Strings.Builder2Cap
import Derived.Shelf.Strconv.Itoa0
import Derived.Shelf.Strconv.Itoa1
import Derived.Shelf.LaysM
import Derived.Shelf.Strconv.Itoa2
import Derived.Shelf.Strconv.Itoa3
import Derived.Shelf.Strings.Search1
import Derived.Shelf.Strings.Search2
import Derived.Shelf.Strings.Cut
import Derived.Shelf.Strings.Shaped
import Derived.Shelf.Sort.Plain
import Derived.Shelf.Strings.Prefix
import Derived.Shelf.Unicode.Latin
import Derived.Shelf.Strings.Runes
import Derived.Shelf.Strings.IndexAny
import Derived.Shelf.Strings.AsciiSet
import Derived.Shelf.Strings.IndexAnyAll
import Derived.Shelf.Unicode.DecodeSlow
import Derived.Shelf.Unicode.DecodeAny
import Derived.Shelf.Unicode.DecodeLast
import Derived.Shelf.Unicode.CaseLookup
import Derived.Shelf.Unicode.CaseConvert
import Derived.Shelf.Unicode.CaseTo
import Derived.Shelf.Unicode.CaseLaid
import Derived.Shelf.Slices.CompactS
import Derived.Shelf.Slices.In.SortNone
import Derived.Scope
import Derived.ScopeJumps
import Derived.WalkMore
import Derived.Lib.TrimByte
import Derived.Lib.ItoaNum
import Derived.OwnWalk
import Derived.Lib.SlTrimSet
import Derived.Shelf.Strings.SlTrimAscii
import Derived.Deep.CutRange
import Derived.Laws.Rows
import Derived.Laws.MakeOwn
import Derived.Deep.WholeRow
import Derived.Laws.AppendOwnNone
import Derived.Deep.Cut
set_option linter.unusedSimpArgs false
set_option linter.unusedVariables false

namespace Go.Proofs.YtpopljcmkbchcaaGreatDoor
open Go.RowKit Go.Maps Go.WideMaps

theorem ownsRow_lower18 {w : World} {B B' : Nat} {e : TypeId} {size : Nat} {v : Value} {n : Nat} {xs : List Value} (h : w.ownsRow B e size v n xs) (hB : B' ≤ B) : w.ownsRow B' e size v n xs := by
 refine ⟨h.1, ?_⟩
 rcases h.2 with h | ⟨g, cap, cur, e1, e2, rest⟩
 ·exact .inl h
 ·exact .inr ⟨g, cap, cur, e1, Nat.le_trans hB e2, rest⟩

theorem nm_made (w : World) : NmM (w.alloc (.map #[] 0)) w.heap.size [] :=
 ⟨.map [], 0, World.ownsMap_made w Tryz.prog 9 unitElem, Nat.le_refl _, fun x => by simp [Maps.has]⟩

theorem safZ_le (L : List Hd) (n : Nat) (hz : Szd n L) : safZ L ≤ n * L.length := by
 unfold safZ
 have key : ∀ M : List Hd, (∀ x ∈ M, x.value.length ≤ n) → (M.map fun h => h.value.length).sum ≤ n * M.length := by
  intro M
  induction M with
  | nil => intro _; simp
  | cons a M ih =>
   intro h
   have h1 := ih fun x hx => h x (List.mem_cons_of_mem _ hx)
   have h2 := h a (List.mem_cons_self ..)
   rw [List.map_cons, List.sum_cons, List.length_cons, Nat.mul_add, Nat.mul_one]
   omega
 refine Nat.le_trans (key _ fun x hx => (hz x (List.mem_filter.1 hx).1).2) (Nat.mul_le_mul_left _ (List.length_filter_le _ _))

def UnI (L : List Hd) (w : World) (i : Nat) (wr : World) : Prop :=
 NmM wr w.heap.size (safN (L.take i)) ∧ NmM wr (w.heap.size + 1) (othN (L.take i)) ∧ Below w.heap.size w wr

set_option maxHeartbeats 8000000 in
set_option maxRecDepth 100000 in
theorem unsafe18_any (v : Value) (L : List Hd) (w : World) (hg : G5 w) (h : HdAt w v L) (hl : L.length ≤ 1000) (hz : Szd 1000000 L) :
  Calls Tryz.prog 38 #[v] w fun e w' => ∃ u, e = .returned u ∧ w'.ownsRow w.heap.size 9 1 u (unsV L).length (cellsT (unsV L)) ∧ Below w.heap.size w w' := by
 obtain ⟨a1, c1, rfl, hc1, hm1, hv1⟩ := h.view
 have V1 := hid hv1
 have HG := hid hg
 have HZ := hid hz
 have HSl := hid (fun i => show safZ (L.take i) ≤ 1000000 * 1000 from Nat.le_trans (safZ_le (L.take i) 1000000 (fun x hx => hz x (List.mem_of_mem_take hx))) (Nat.mul_le_mul_left _ (by rw [List.length_take]; omega)))
 have HOl := hid (fun i => show (othN (L.take i)).length ≤ 1000 from Nat.le_trans (oth_len _) (by rw [List.length_take]; omega))
 have HNl := hid (fun i => show (safN (L.take i)).length ≤ 1000 from Nat.le_trans (saf_len _) (by rw [List.length_take]; omega))
 have HL := hid (show L.take L.length = L from List.take_length)
 obtain ⟨n, hn⟩ : ∃ n, n = L.length := ⟨_, rfl⟩
 have HN := hid hn
 rw [← hn] at hl HL ⊢
 obtain ⟨W1, hW1⟩ : ∃ X, w.alloc (.map #[] 0) = X := ⟨_, rfl⟩
 obtain ⟨W2, hW2⟩ : ∃ X, W1.alloc (.map #[] 0) = X := ⟨_, rfl⟩
 have hs1 : W1.heap.size = w.heap.size + 1 := by rw [← hW1]; simp
 have h2 : NmM W1 w.heap.size [] := by rw [← hW1]; exact nm_made w
 have h3 : NmM W2 (w.heap.size + 1) [] := by rw [← hW2, ← hs1]; exact nm_made W1
 have hb2 : Below w.heap.size w W2 := by rw [← hW2, ← hW1]; exact ((Below.refl _ w).alloc (Nat.le_refl _) _).alloc (by simp) _
 have H0 := hid (show UnI L w 0 W2 from ⟨by rw [← hW2]; exact h2.alloc _, h3, hb2⟩)
 clear h hv1 hg hz hn hc1 hm1 h2 h3 hb2
 have hmm := @run_makeMap Tryz.prog
 go_enter Tryz.func38, Tryz.ntmps38
 go_wp2
 first | rw [hW1, hs1, hW2] | skip
 clear hs1
 go_loopw [5, 12] (fun sv iv wr => ∃ (i : Nat), i ≤ n ∧ iv = .int .i64 i ∧ sv = .int .i64 (safZ (L.take i)) ∧ Hid (UnI L w i wr)) (fun _ iv _ => n - (intOf iv).toNat)
 case atStart => exact ⟨0, Nat.zero_le _, rfl, rfl, H0⟩
 case round =>
  obtain ⟨i, hil, rfl, rfl, HI⟩ := hrel
  by_cases hlt : i < n
  ·have hlt' : (i : Int) < (n : Int) := by omega
   have hiL : i < L.length := by have := HN.out; omega
   obtain ⟨b1, o1, rfl, e1, e2⟩ := V1.out i hiL
   have hB := HI.out.2.2
   have HIo := hid HI.out
   have f1 : wr.cell? ⟨b1, o1 + i * 2, none⟩ = some (.string ⟨L[i].name.toArray⟩) := (hB.cell (World.block_lt_of_cell? w _ e1)).trans e1
   have f2 : wr.cell? ⟨b1, o1 + i * 2 + 1, none⟩ = some (.string ⟨L[i].value.toArray⟩) := (hB.cell (World.block_lt_of_cell? w _ e2)).trans e2
   have hT : L.take (i + 1) = L.take i ++ [L[i]] := by rw [List.take_add_one, List.getElem?_eq_getElem hiL]; rfl
   have hq1 := oth_snoc (L.take i) L[i]
   have hq2 := saf_snoc (L.take i) L[i]
   have hq3 := safz_snoc (L.take i) L[i]
   rw [← hT] at hq1 hq2 hq3
   have hzz := HZ.out _ (List.getElem_mem hiL)
   obtain ⟨nm, hnm⟩ : ∃ x : ByteArray, x = ⟨L[i].name.toArray⟩ := ⟨_, rfl⟩
   obtain ⟨vl, hvl⟩ : ∃ x : ByteArray, x = ⟨L[i].value.toArray⟩ := ⟨_, rfl⟩
   have hnl : L[i].name = nm.data.toList := by rw [hnm]
   have hvv : L[i].value = vl.data.toList := by rw [hvl]
   rw [← hnm] at f1
   rw [← hvl] at f2
   rw [hnl, hvv, ← Lib.size_eq, ← Lib.size_eq] at hzz
   rw [hnl, hvv] at hq1 hq2 hq3
   rw [← Lib.size_eq] at hq3
   have hs1 : nm.size ≤ 1000000 := hzz.1
   have hs2 : vl.size ≤ 1000000 := hzz.2
   have HSf := hid (fun (Y : World) (hY : Below w.heap.size w Y) => safe_any nm vl Y (HG.out.kept hY) (by omega) (by omega))
   obtain ⟨sf, hsf⟩ : ∃ b, safeV nm.data.toList vl.data.toList = b := ⟨_, rfl⟩
   rw [hsf] at HSf hq1 hq2 hq3
   have hw0 := hB.size
   obtain ⟨W3, hW3⟩ : ∃ X, wr.alloc (.cells #[.string nm, .string vl] 45) = X := ⟨_, rfl⟩
   have hb3 : Below wr.heap.size wr W3 := by rw [← hW3]; exact (Below.refl _ wr).alloc (Nat.le_refl _) _
   have hx3 : W3.heap[wr.heap.size]? = some (.cells #[.string nm, .string vl] 45 (0, 0)) := by rw [← hW3]; exact heap_alloc_new wr _
   have HX3 := hid (fun (Y : World) (hY : Below W3.heap.size W3 Y) => (show Y.cell? ⟨wr.heap.size, 0, none⟩ = some (.string nm) ∧ Y.cell? ⟨wr.heap.size, 1, none⟩ = some (.string vl) from by
    have h := (hY.block wr.heap.size (Array.getElem?_eq_some_iff.1 hx3).1).trans hx3
    exact ⟨by rw [Lib.cell_of_heap h]; rfl, by rw [Lib.cell_of_heap h]; rfl⟩))
   obtain ⟨g1, g2⟩ := HX3.out W3 (Below.refl _ _)
   have HB3 := hid (hb3.trans (Below.refl _ _))
   have HI3 := hid (show UnI L w i W3 from ⟨HI.out.1.below hb3, HI.out.2.1.below hb3, hB.trans (hb3.mono hw0)⟩)
   have hZl := HSl.out i
   have HOi := HOl.out i
   have HNi := HNl.out i
   have Hq1 := hid hq1
   have Hq2 := hid hq2
   have Hq3 := hid hq3
   clear hq1 hq2 hq3 hT hnm hvl hnl hvv hzz hsf e1 e2 hiL hB hb3 hx3
   have HLt := hid (show w.heap.size + 1 < wr.heap.size by have := HIo.out.2.1.lt; exact this)
   go_wp2_with fail
   refine (HSf.out _ HI3.out.2.2).mono ?_
   rintro e w4 ⟨rfl, hb4⟩
   have HI4 := hid (show UnI L w i w4 from ⟨HI3.out.1.below hb4, HI3.out.2.1.below hb4, HI3.out.2.2.trans (hb4.mono HI3.out.2.2.size)⟩)
   obtain ⟨g3, g4⟩ := HX3.out w4 hb4
   have HS4 := hid (show wr.heap.size < w4.heap.size from World.block_lt_of_cell? w4 ⟨wr.heap.size, 0, none⟩ g3)
   clear hW3 hb4 g1 g2
   cases sf with
   | true =>
    have HA := hid (add18_any w.heap.size (safN (L.take i)) nm w4 HI4.out.1 hs1 (by omega))
    go_wp2_with fail
    refine HA.out.mono ?_
    rintro e w5 ⟨rfl, hnm, hbut⟩
    have HI5 := hid (show UnI L w (i + 1) w5 from by
     refine ⟨?_, ?_, HI4.out.2.2.trans hbut.1⟩
     ·rw [Hq2.out, if_pos trivial]; exact hnm
     ·rw [Hq1.out, if_pos trivial]; exact HI4.out.2.1.kept hbut (by omega))
    have e5 : w5.heap[wr.heap.size]? = w4.heap[wr.heap.size]? := hbut.2 _ (by have := HLt.out; omega) HS4.out
    have g5 : w5.cell? ⟨wr.heap.size, 0, none⟩ = some (.string nm) := (World.cell?_of_block (a := ⟨wr.heap.size, 0, none⟩) e5).trans g3
    have g6 : w5.cell? ⟨wr.heap.size, 1, none⟩ = some (.string vl) := (World.cell?_of_block (a := ⟨wr.heap.size, 1, none⟩) e5).trans g4
    have HZ5 := hid (show safZ (L.take (i + 1)) = safZ (L.take i) + vl.size from by rw [Hq3.out, if_pos trivial])
    clear hnm hbut e5 g3 g4
    go_wp2_with fail
    go_roundw
    case rel => exact ⟨i + 1, by omega, by go_num, by rw [HZ5.out]; go_num, HI5⟩
    case measure => simp [intOf]; omega
   | false =>
    have HA := hid (add18_any (w.heap.size + 1) (othN (L.take i)) nm w4 HI4.out.2.1 hs1 (by omega))
    go_wp2_with fail
    refine HA.out.mono ?_
    rintro e w5 ⟨rfl, hnm, hbut⟩
    have HI5 := hid (show UnI L w (i + 1) w5 from by
     refine ⟨?_, ?_, HI4.out.2.2.trans (hbut.1.mono (by omega))⟩
     ·rw [Hq2.out, if_neg (by decide)]; exact HI4.out.1.kept hbut (by omega)
     ·rw [Hq1.out, if_neg (by decide)]; exact hnm)
    have HZ5 := hid (show safZ (L.take (i + 1)) = safZ (L.take i) from by rw [Hq3.out, if_neg (by decide)])
    clear hnm hbut g3 g4
    go_wp2_with fail
    go_roundw
    case rel => exact ⟨i + 1, by omega, by go_num, by rw [HZ5.out], HI5⟩
    case measure => simp [intOf]; omega
  ·obtain rfl : i = n := by omega
   have hI := HI.out
   have hZl := HSl.out i
   unfold UnI at hI
   rw [HL.out] at hI hZl
   rw [HL.out]
   obtain ⟨h1, h2, h3⟩ := hI
   have hol := HOl.out i
   have hnl := HNl.out i
   rw [HL.out] at hol hnl
   by_cases hbig : 1024 < safZ L
   ·have HU := hid (show unsV L = srtN (othN L ++ safN L) by unfold unsV; rw [if_pos hbig])
    have hbig' : (1024 : Int) < (safZ L : Int) := by omega
    have HC := hid (copy18_any (w.heap.size + 1) w.heap.size (othN L) (safN L) wr h2 h1 (by omega) (by omega) (by omega))
    have HB := hid h3
    have hlen : (othN L ++ safN L).length ≤ 1000000 := by rw [List.length_append]; omega
    clear h1 h2 h3 HI
    go_wp2_with fail
    refine HC.out.mono ?_
    rintro e w5 ⟨rfl, hnm, hbut⟩
    have HB5 := hid (HB.out.trans (hbut.1.mono (by omega)))
    have HS := hid (sorted18_any (w.heap.size + 1) (othN L ++ safN L) w5 hnm hlen)
    clear hnm hbut
    go_wp2_with fail
    refine HS.out.mono ?_
    rintro e w6 ⟨u, rfl, hown, hb6⟩
    have HO6 := hid (ownsRow_lower18 hown HB5.out.size)
    have HB6 := hid (below2 HB5.out hb6)
    clear hown hb6
    go_wp2_with fail
    go_ret
    refine ⟨_, rfl, ?_, HB6.out⟩
    rw [HU.out]
    exact HO6.out
   ·have HU := hid (show unsV L = srtN (othN L) by unfold unsV; rw [if_neg hbig, List.append_nil])
    have hbig' : ¬ (1024 : Int) < (safZ L : Int) := by omega
    have HB := hid h3
    have HS := hid (sorted18_any (w.heap.size + 1) (othN L) wr h2 (by omega))
    clear h1 h2 h3 HI
    go_wp2_with fail
    refine HS.out.mono ?_
    rintro e w6 ⟨u, rfl, hown, hb6⟩
    have HO6 := hid (ownsRow_lower18 hown HB.out.size)
    have HB6 := hid (below2 HB.out hb6)
    clear hown hb6
    go_wp2_with fail
    go_ret
    refine ⟨_, rfl, ?_, HB6.out⟩
    rw [HU.out]
    exact HO6.out

end Go.Proofs.YtpopljcmkbchcaaGreatDoor

namespace Go.Proofs.YtpopljcmkbchcaaGreatDoor
open Go.RowKit

def CtC (T : TypeId) (w : World) (b : Nat) (c : Ctl) : Prop := w.heap[b]? = some (.cells #[.bool c.ns, .bool c.nc, .int .i64 c.mx] T (0, 0))

theorem CtC.lt {T : TypeId} {w : World} {b : Nat} {c : Ctl} (h : CtC T w b c) : b < w.heap.size := (Array.getElem?_eq_some_iff.1 h).1

theorem CtC.kept {T : TypeId} {w w' : World} {b : Nat} {c : Ctl} (h : CtC T w b c) (hb : Below w.heap.size w w') : CtC T w' b c := (hb.block b h.lt).trans h

theorem CtC.range {T : TypeId} {w : World} {b : Nat} {c : Ctl} (h : CtC T w b c) : w.rangeAt b 0 [.bool c.ns, .bool c.nc, .int .i64 c.mx] := fun j u hu => by
 rw [Nat.zero_add, Lib.cell_of_heap h]
 match j, hu with
 | 0, hu => simpa using hu
 | 1, hu => simpa using hu
 | 2, hu => simpa using hu
 | j + 3, hu => simp at hu

theorem CtC.cells {T : TypeId} {w : World} {b : Nat} {c : Ctl} (h : CtC T w b c) : w.cell? ⟨b, 0, none⟩ = some (.bool c.ns) ∧ w.cell? ⟨b, 1, none⟩ = some (.bool c.nc) ∧ w.cell? ⟨b, 2, none⟩ = some (.int .i64 c.mx) ∧ w.frozen? ⟨b, 0, none⟩ = false ∧ w.frozen? ⟨b, 1, none⟩ = false ∧ w.frozen? ⟨b, 2, none⟩ = false :=
 ⟨by rw [Lib.cell_of_heap h]; rfl, by rw [Lib.cell_of_heap h]; rfl, by rw [Lib.cell_of_heap h]; rfl, Lib.frozen_of_heap h 0, Lib.frozen_of_heap h 1, Lib.frozen_of_heap h 2⟩

theorem CtC.set {T : TypeId} {w : World} {b : Nat} {c : Ctl} (h : CtC T w b c) (j : Nat) (x : Value) (d : Ctl) (he : (#[.bool c.ns, .bool c.nc, .int .i64 c.mx] : Array Value).setIfInBounds j x = #[.bool d.ns, .bool d.nc, .int .i64 d.mx]) : CtC T (w.setCell ⟨b, j, none⟩ x) b d := by
 have := Lib.heap_setCell_same h (i := j) x
 rw [he] at this
 exact this

theorem CtC.far {T : TypeId} {w : World} {b b2 : Nat} {c : Ctl} (h : CtC T w b c) (hne : b ≠ b2) (j : Nat) (x : Value) : CtC T (w.setCell ⟨b2, j, none⟩ x) b c := (heap_setCell_other _ ⟨b2, j, none⟩ b _ hne).trans h

def CtP (T : TypeId) (w wr : World) (v : Value) (P : List (List UInt8)) (c : Ctl) : Prop :=
 CtC T wr w.heap.size ⟨false, false, 0⟩ ∧ CtC T wr (w.heap.size + 1) c ∧ wr.ownsRow (w.heap.size + 2) 9 1 v P.length (cellsT P) ∧ Below w.heap.size w wr

theorem CtP.kept {T : TypeId} {w wr w' : World} {v : Value} {P : List (List UInt8)} {c : Ctl} (h : CtP T w wr v P c) (hb : Below wr.heap.size wr w') : CtP T w w' v P c :=
 ⟨h.1.kept hb, h.2.1.kept hb, own_same h.2.2.1 hb, h.2.2.2.trans (hb.mono h.2.2.2.size)⟩

theorem CtP.set {T : TypeId} {w wr : World} {v : Value} {P : List (List UInt8)} {c : Ctl} (h : CtP T w wr v P c) (j : Nat) (x : Value) (d : Ctl) (he : (#[.bool c.ns, .bool c.nc, .int .i64 c.mx] : Array Value).setIfInBounds j x = #[.bool d.ns, .bool d.nc, .int .i64 d.mx]) : CtP T w (wr.setCell ⟨w.heap.size + 1, j, none⟩ x) v P d := by
 obtain ⟨h1, h2, h3, h4⟩ := h
 refine ⟨h1.far (by omega) j x, h2.set j x d he, ownsRow_same h3 fun g hg => ?_, h4.setCell (p := ⟨w.heap.size + 1, j, none⟩) (by simp) x⟩
 have := (h3.lt g hg).1
 exact heap_setCell_other _ ⟨w.heap.size + 1, j, none⟩ g _ (by show g ≠ w.heap.size + 1; omega)

theorem CtP.at {T : TypeId} {w wr : World} {v : Value} {P : List (List UInt8)} {c : Ctl} (h : CtP T w wr v P c) {a : Option Addr} {n cp : Nat} (hv : v = .slice a n cp) (k : Nat) (hk : k < P.length) : ∃ b off, a = some ⟨b, off, none⟩ ∧ wr.cell? ⟨b, off + k, none⟩ = some (.string ⟨P[k].toArray⟩) := by
 obtain ⟨a', c', e, _, _, h2⟩ := (own_txt' h.2.2.1).view
 rw [hv] at e
 injection e with e1 _ _
 subst e1
 exact h2 k hk

def CtPost (T : TypeId) (c : Ctl) (w : World) (e : Ending) (w' : World) : Prop := e = .returned (.agg #[.bool c.ns, .bool c.nc, .int .i64 c.mx]) ∧ Below w.heap.size w w'

theorem CtP.out {T : TypeId} {w wr : World} {v : Value} {P : List (List UInt8)} {c : Ctl} (h : CtP T w wr v P c) :
  (((wr.setCell ⟨w.heap.size, 0, none⟩ (.bool c.ns)).setCell ⟨w.heap.size, 1, none⟩ (.bool c.nc)).setCell ⟨w.heap.size, 2, none⟩ (.int .i64 c.mx)).rangeAt w.heap.size 0 [.bool c.ns, .bool c.nc, .int .i64 c.mx] ∧
  CtPost T c w (.returned (.agg #[.bool c.ns, .bool c.nc, .int .i64 c.mx])) (((wr.setCell ⟨w.heap.size, 0, none⟩ (.bool c.ns)).setCell ⟨w.heap.size, 1, none⟩ (.bool c.nc)).setCell ⟨w.heap.size, 2, none⟩ (.int .i64 c.mx)) := by
 obtain ⟨h1, h2, h3, h4⟩ := h
 have k1 : CtC T (wr.setCell ⟨w.heap.size, 0, none⟩ (.bool c.ns)) w.heap.size ⟨c.ns, false, 0⟩ := h1.set 0 _ _ rfl
 have k2 : CtC T ((wr.setCell ⟨w.heap.size, 0, none⟩ (.bool c.ns)).setCell ⟨w.heap.size, 1, none⟩ (.bool c.nc)) w.heap.size ⟨c.ns, c.nc, 0⟩ := k1.set 1 _ _ rfl
 have k3 : CtC T (((wr.setCell ⟨w.heap.size, 0, none⟩ (.bool c.ns)).setCell ⟨w.heap.size, 1, none⟩ (.bool c.nc)).setCell ⟨w.heap.size, 2, none⟩ (.int .i64 c.mx)) w.heap.size c := k2.set 2 _ _ rfl
 refine ⟨k3.range, rfl, ?_⟩
 exact ((h4.setCell (p := ⟨w.heap.size, 0, none⟩) (Nat.le_refl _) _).setCell (p := ⟨w.heap.size, 1, none⟩) (Nat.le_refl _) _).setCell (p := ⟨w.heap.size, 2, none⟩) (Nat.le_refl _) _

def SpPost (P : List (List UInt8)) (w : World) (e : Ending) (w' : World) : Prop :=
 ∃ v b, e = .returned (.tuple #[v, .bool b]) ∧ w'.ownsRow w.heap.size 9 1 v P.length (cellsT P) ∧ Below w.heap.size w w'

set_option maxHeartbeats 2000000 in
theorem split_none16 (v : Value) (L : List Hd) (n : ByteArray) (w : World) (h : HdAt w v L) (hs : n.size ≤ 140737488351232) (hz : Szd 140737488351232 L) (hl : L.length ≤ 1000000) (hb : bulkV L ≤ 1000000000) (hh : getB L n.data.toList = false) :
  Calls Tryz.prog 85 #[v, .string n] w fun e w' => e = .returned (.tuple #[.slice none 0 0, .bool false]) ∧ Below w.heap.size w w' := by
 have HG := hid (get_any v L n w h hs hz hl (by omega))
 obtain ⟨T, hT⟩ : ∃ T : ByteArray, T = ⟨(getT L n.data.toList).toArray⟩ := ⟨_, rfl⟩
 rw [← hT, hh] at HG
 clear hT h hz hb hh
 go_enter Tryz.func85, Tryz.ntmps85
 go_wp2_with fail
 refine HG.out.mono ?_
 rintro e w0 ⟨rfl, hb0⟩
 go_wp2
 go_ret2
 exact ⟨rfl, hb0⟩

theorem split16_any (v : Value) (L : List Hd) (n : ByteArray) (w : World) (h : HdAt w v L) (hs : n.size ≤ 140737488351232) (hz : Szd 140737488351232 L) (hl : L.length ≤ 1000000) (hb : bulkV L ≤ 1000000000) :
  Calls Tryz.prog 85 #[v, .string n] w (SpPost (pcsV L n.data.toList) w) := by
 cases hh : getB L n.data.toList with
 | true =>
  refine (hsplit_any v L n w h hs hz hl hb hh).mono ?_
  rintro e w' ⟨u, rfl, ho, hb'⟩
  have e : pcsV L n.data.toList = splitV L n.data.toList := by unfold pcsV; rw [hh]; rfl
  unfold SpPost
  rw [e]
  exact ⟨u, true, rfl, ho, hb'⟩
 | false =>
  refine (split_none16 v L n w h hs hz hl hb hh).mono ?_
  rintro e w' ⟨rfl, hb'⟩
  have e : pcsV L n.data.toList = [] := by unfold pcsV; rw [hh]; rfl
  unfold SpPost
  rw [e]
  exact ⟨_, false, rfl, World.ownsRow_nil _ _ _ _, hb'⟩

theorem pcs_len16 : ∀ (f : Nat) (l : List UInt8), (pcsN f l).length ≤ f + 1 ∧ ∀ p ∈ pcsN f l, p.length ≤ l.length
 | 0, l => by unfold pcsN; simp
 | f + 1, l => by
  unfold pcsN
  cases h : cutQ false l with
  | none => simp
  | some k =>
   obtain ⟨h1, h2⟩ := pcs_len16 f (l.drop (k + 1))
   refine ⟨by simp; omega, fun p hp => ?_⟩
   rcases List.mem_cons.1 hp with rfl | hp
   ·simp; omega
   ·have := h2 p hp
    rw [List.length_drop] at this
    omega

theorem trimB_le16 (l : List UInt8) : (trimB l).length ≤ l.length := by
 rw [trimB_strip]
 rw [List.length_reverse]
 refine Nat.le_trans (List.dropWhile_suffix _).length_le ?_
 rw [List.length_reverse]
 exact (List.dropWhile_suffix _).length_le

theorem pcsV_len16 (L : List Hd) (n : List UInt8) : (pcsV L n).length ≤ bulkV L + 1 ∧ ∀ p ∈ pcsV L n, p.length ≤ bulkV L := by
 unfold pcsV
 split
 ·unfold splitV
  have h1 := pcs_len16 (getT L n).length (getT L n)
  have h2 := getT_len L n
  refine ⟨by rw [List.length_map]; unfold pcs; omega, fun p hp => ?_⟩
  obtain ⟨q, hq, rfl⟩ := List.mem_map.1 hp
  have := h1.2 q hq
  have := trimB_le16 q
  omega
 ·exact ⟨by simp, fun p hp => by simp at hp⟩

end Go.Proofs.YtpopljcmkbchcaaGreatDoor

namespace Go.Proofs.YtpopljcmkbchcaaGreatDoor
open Go.RowKit Go.Maps Go.WideMaps

def ExP (L : List Hd) (c : Bool) (w : World) (e : Ending) (w' : World) : Prop :=
 ∃ u, e = .returned (.tuple #[u, .bool (exAll L c)]) ∧ w'.ownsRow w.heap.size 9 1 u (exT L c).length (cellsT (exT L c)) ∧ Below w.heap.size w w'

def ExI (P : List (List UInt8)) (w : World) (i : Nat) (b : Nat) (wr : World) : Prop :=
 NmM wr b (exN (P.take i)) ∧ Below w.heap.size w wr

theorem exN_take (P : List (List UInt8)) (i : Nat) (h : i < P.length) : exN (P.take (i + 1)) = if tokL P[i] then exN (P.take i) ++ [low P[i]] else exN (P.take i) := by
 rw [List.take_add_one, List.getElem?_eq_getElem h]
 exact exN_snoc _ _

set_option maxHeartbeats 8000000 in
set_option maxRecDepth 100000 in
theorem exposed18_any (v : Value) (L : List Hd) (c : Bool) (w : World) (h : HdAt w v L) (hz : Szd 140737488351232 L) (hl : L.length ≤ 1000000) (hb : bulkV L ≤ 1000000000) (hz2 : ∀ x ∈ exPs L, x.length ≤ 1000000) (hpl : (exPs L).length ≤ 100000) :
  Calls Tryz.prog 37 #[v, .bool c] w (ExP L c w) := by
 have HSp := hid (split16_any v L ⟨nEH.toArray⟩ w h (by decide) hz hl hb)
 simp only [show (⟨nEH.toArray⟩ : ByteArray).data.toList = nEH from rfl] at HSp
 rw [show pcsV L nEH = exPs L from rfl] at HSp
 unfold ExP exT exAll
 obtain ⟨P, hP⟩ : ∃ P, exPs L = P := ⟨_, rfl⟩
 rw [hP] at HSp hz2 hpl ⊢
 obtain ⟨A, hA⟩ : ∃ A, (!c && hasT P [42]) = A := ⟨_, rfl⟩
 rw [hA]
 have HZ := hid hz2
 have HA0 := hid hA
 obtain ⟨n, hn⟩ : ∃ n, n = P.length := ⟨_, rfl⟩
 have HN := hid hn
 have HCo := hid (fun (u : Value) (Z : World) (hZ : TxAt Z u P) => contains15_any u P ⟨#[42]⟩ Z hZ (by omega))
 simp only [show (⟨#[42]⟩ : ByteArray).data.toList = [42] from rfl] at HCo
 rw [← hn] at hpl
 have HX := hid (fun i => show (exN (P.take i)).length ≤ 100000 from Nat.le_trans (exN_len _) (by rw [List.length_take]; omega))
 have HT := hid (fun i (h : i < P.length) => exN_take P i h)
 have HAl := hid (show P.take n = P by rw [hn]; exact List.take_length)
 generalize hasT P [42] = hs at HCo HA0
 clear h hz hl hb hz2 hP hn hA
 unfold SpPost at HSp
 have hmm := @run_makeMap Tryz.prog
 go_enter Tryz.func37, Tryz.ntmps37
 go_wp2_with fail
 refine HSp.out.mono ?_
 rintro e w1 ⟨u, gb, rfl, hown, hb1⟩
 have htx := own_txt' hown
 have HTx := hid htx
 obtain ⟨a1, c1, hu, hc1, hm1, hv1⟩ := htx.view
 rw [← HN.out] at hu
 subst hu
 have V1 := hid hv1
 have HB1 := hid hb1
 clear hown htx hv1 hb1 HSp hc1 hm1
 cases c with
 | true =>
  obtain rfl : A = false := by rw [← HA0.out]; rfl
  obtain ⟨W2, hW2⟩ : ∃ X, w1.alloc (.map #[] 0) = X := ⟨_, rfl⟩
  have hb2 : Below w1.heap.size w1 W2 := by rw [← hW2]; exact (Below.refl _ w1).alloc (Nat.le_refl _) _
  obtain ⟨mb, hmb⟩ : ∃ m, w1.heap.size = m := ⟨_, rfl⟩
  have H0 := hid (show ExI P w 0 mb W2 from ⟨by rw [← hW2, ← hmb]; exact nm_made w1, below2 HB1.out hb2⟩)
  have HV2 := hid (fun i (hi : i < P.length) => show ∃ b off, a1 = some ⟨b, off, none⟩ ∧ W2.cell? ⟨b, off + i, none⟩ = some (.string ⟨(P[i]'hi).toArray⟩) ∧ b ≠ mb from by
   obtain ⟨b1, o1, e, c⟩ := V1.out i hi
   have h1 := World.block_lt_of_cell? w1 _ c
   exact ⟨b1, o1, e, (hb2.cell h1).trans c, by rw [← hmb]; exact Nat.ne_of_lt h1⟩)
  have HMl := hid (show w.heap.size ≤ mb from by rw [← hmb]; exact (HB1.out).size)
  clear hb2
  go_upto_region 5 with fail
  clear hW2
  go_wp2_with fail
  go_loopw [25] (fun iv wr => ∃ (i : Nat), i ≤ n ∧ iv = .int .i64 i ∧ Hid (ExI P w i mb wr ∧ But mb W2 wr)) (fun iv _ => n - (intOf iv).toNat)
  case atStart => exact ⟨0, Nat.zero_le _, rfl, H0.out, But.refl _ _⟩
  case round =>
   obtain ⟨i, hil, rfl, HI⟩ := hrel
   by_cases hlt : i < n
   ·have hlt' : (i : Int) < (n : Int) := by omega
    have hiP : i < P.length := by have := HN.out; omega
    obtain ⟨b1, o1, rfl, e1, hne⟩ := HV2.out i hiP
    have hst := HT.out i hiP
    have hxz := HZ.out _ (List.getElem_mem hiP)
    obtain ⟨X, hX⟩ : ∃ x : ByteArray, x = ⟨P[i].toArray⟩ := ⟨_, rfl⟩
    have hXl : P[i] = X.data.toList := by rw [hX]
    rw [← hX] at e1
    rw [hXl] at hst hxz
    have e2 : wr.cell? ⟨b1, o1 + i, none⟩ = some (.string X) := by
     have h1 := World.block_lt_of_cell? W2 _ e1
     have hb := HI.out.2
     by_cases h2 : b1 < mb
     ·exact (hb.1.cell (p := ⟨b1, o1 + i, none⟩) h2).trans e1
     ·exact (World.cell?_of_block (a := ⟨b1, o1 + i, none⟩) (hb.2 b1 (by omega) h1)).trans e1
    have hXs : X.size ≤ 1000000 := by rw [Lib.size_eq]; exact hxz
    have HSt := hid hst
    have hnl := HX.out i
    have HTk := hid (fun w => token_any X w (by omega))
    clear hX hXl hst hxz hiP e1
    go_wp2_with fail
    refine (HTk.out _).mono ?_
    rintro e w3 ⟨rfl, rfl⟩
    cases htk : tokL X.data.toList with
    | false =>
     have HE := hid (show exN (P.take (i + 1)) = exN (P.take i) by rw [HSt.out, htk]; rfl)
     clear htk
     go_wp2_with fail
     go_roundw
     case rel => exact ⟨i + 1, by omega, by go_num, ⟨by rw [HE.out]; exact HI.out.1.1, HI.out.1.2⟩, HI.out.2⟩
     case measure => simp [intOf]; omega
    | true =>
     have HE := hid (show exN (P.take (i + 1)) = exN (P.take i) ++ [low X.data.toList] by rw [HSt.out, htk]; rfl)
     have HAd := hid (add18_any mb (exN (P.take i)) X wr HI.out.1.1 hXs (by omega))
     clear htk
     go_wp2_with fail
     refine HAd.out.mono ?_
     rintro e w5 ⟨rfl, hnm, hbut⟩
     have HR := hid (show ExI P w (i + 1) mb w5 ∧ But mb W2 w5 from ⟨⟨by rw [HE.out]; exact hnm, HI.out.1.2.trans (hbut.1.mono HMl.out)⟩, HI.out.2.trans hbut⟩)
     clear hnm hbut e2
     go_wp2_with fail
     go_roundw
     case rel => exact ⟨i + 1, by omega, by go_num, HR⟩
     case measure => simp [intOf]; omega
   ·obtain rfl : i = n := by omega
    have h1 := HI.out.1.1
    have hnl := HX.out i
    rw [HAl.out] at h1 hnl
    have HB := hid HI.out.1.2
    have HS := hid (sorted18_any mb (exN P) wr h1 (by omega))
    clear h1 HI
    go_wp2_with fail
    refine HS.out.mono ?_
    rintro e w6 ⟨u, rfl, hown, hb6⟩
    have HO6 := hid (ownsRow_lower18 hown HB.out.size)
    have HB6 := hid (below2 HB.out hb6)
    clear hown hb6
    go_wp2_with fail
    go_ret2
    exact ⟨_, rfl, HO6.out, HB6.out⟩
 | false =>
  have HCs := hid (HCo.out _ _ HTx.out)
  cases hs with
  | true =>
   obtain rfl : A = true := by rw [← HA0.out]; rfl
   go_wp2_with fail
   refine HCs.out.mono ?_
   rintro e w2 ⟨rfl, hb2⟩
   have HB2 := hid (below2 HB1.out hb2)
   clear hb2
   go_wp2_with fail
   go_ret2
   exact ⟨_, rfl, World.ownsRow_nil _ _ _ _, HB2.out⟩
  | false =>
   obtain rfl : A = false := by rw [← HA0.out]; rfl
   go_wp2_with fail
   refine HCs.out.mono ?_
   rintro e w2 ⟨rfl, hb2⟩
   have HB2c := hid (below2 HB1.out hb2)
   have HV1 := hid (fun i (hi : i < P.length) => show ∃ b off, a1 = some ⟨b, off, none⟩ ∧ w2.cell? ⟨b, off + i, none⟩ = some (.string ⟨(P[i]'hi).toArray⟩) from by
    obtain ⟨b1, o1, e, c⟩ := V1.out i hi
    exact ⟨b1, o1, e, (hb2.cell (World.block_lt_of_cell? w1 _ c)).trans c⟩)
   clear hb2
   obtain ⟨W2, hW2⟩ : ∃ X, w2.alloc (.map #[] 0) = X := ⟨_, rfl⟩
   have hb9 : Below w2.heap.size w2 W2 := by rw [← hW2]; exact (Below.refl _ w2).alloc (Nat.le_refl _) _
   obtain ⟨mb, hmb⟩ : ∃ m, w2.heap.size = m := ⟨_, rfl⟩
   have H0 := hid (show ExI P w 0 mb W2 from ⟨by rw [← hW2, ← hmb]; exact nm_made w2, below2 HB2c.out hb9⟩)
   have HV2 := hid (fun i (hi : i < P.length) => show ∃ b off, a1 = some ⟨b, off, none⟩ ∧ W2.cell? ⟨b, off + i, none⟩ = some (.string ⟨(P[i]'hi).toArray⟩) ∧ b ≠ mb from by
    obtain ⟨b1, o1, e, c⟩ := HV1.out i hi
    have h1 := World.block_lt_of_cell? w2 _ c
    exact ⟨b1, o1, e, (hb9.cell h1).trans c, by rw [← hmb]; exact Nat.ne_of_lt h1⟩)
   have HMl := hid (show w.heap.size ≤ mb from by rw [← hmb]; exact (HB2c.out).size)
   clear hb9
   go_upto_region 5 with fail
   clear hW2
   go_wp2_with fail
   go_loopw [25] (fun iv wr => ∃ (i : Nat), i ≤ n ∧ iv = .int .i64 i ∧ Hid (ExI P w i mb wr ∧ But mb W2 wr)) (fun iv _ => n - (intOf iv).toNat)
   case atStart => exact ⟨0, Nat.zero_le _, rfl, H0.out, But.refl _ _⟩
   case round =>
    obtain ⟨i, hil, rfl, HI⟩ := hrel
    by_cases hlt : i < n
    ·have hlt' : (i : Int) < (n : Int) := by omega
     have hiP : i < P.length := by have := HN.out; omega
     obtain ⟨b1, o1, rfl, e1, hne⟩ := HV2.out i hiP
     have hst := HT.out i hiP
     have hxz := HZ.out _ (List.getElem_mem hiP)
     obtain ⟨X, hX⟩ : ∃ x : ByteArray, x = ⟨P[i].toArray⟩ := ⟨_, rfl⟩
     have hXl : P[i] = X.data.toList := by rw [hX]
     rw [← hX] at e1
     rw [hXl] at hst hxz
     have e2 : wr.cell? ⟨b1, o1 + i, none⟩ = some (.string X) := by
      have h1 := World.block_lt_of_cell? W2 _ e1
      have hb := HI.out.2
      by_cases h2 : b1 < mb
      ·exact (hb.1.cell (p := ⟨b1, o1 + i, none⟩) h2).trans e1
      ·exact (World.cell?_of_block (a := ⟨b1, o1 + i, none⟩) (hb.2 b1 (by omega) h1)).trans e1
     have hXs : X.size ≤ 1000000 := by rw [Lib.size_eq]; exact hxz
     have HSt := hid hst
     have hnl := HX.out i
     have HTk := hid (fun w => token_any X w (by omega))
     clear hX hXl hst hxz hiP e1
     go_wp2_with fail
     refine (HTk.out _).mono ?_
     rintro e w3 ⟨rfl, rfl⟩
     cases htk : tokL X.data.toList with
     | false =>
      have HE := hid (show exN (P.take (i + 1)) = exN (P.take i) by rw [HSt.out, htk]; rfl)
      clear htk
      go_wp2_with fail
      go_roundw
      case rel => exact ⟨i + 1, by omega, by go_num, ⟨by rw [HE.out]; exact HI.out.1.1, HI.out.1.2⟩, HI.out.2⟩
      case measure => simp [intOf]; omega
     | true =>
      have HE := hid (show exN (P.take (i + 1)) = exN (P.take i) ++ [low X.data.toList] by rw [HSt.out, htk]; rfl)
      have HAd := hid (add18_any mb (exN (P.take i)) X wr HI.out.1.1 hXs (by omega))
      clear htk
      go_wp2_with fail
      refine HAd.out.mono ?_
      rintro e w5 ⟨rfl, hnm, hbut⟩
      have HR := hid (show ExI P w (i + 1) mb w5 ∧ But mb W2 w5 from ⟨⟨by rw [HE.out]; exact hnm, HI.out.1.2.trans (hbut.1.mono HMl.out)⟩, HI.out.2.trans hbut⟩)
      clear hnm hbut e2
      go_wp2_with fail
      go_roundw
      case rel => exact ⟨i + 1, by omega, by go_num, HR⟩
      case measure => simp [intOf]; omega
    ·obtain rfl : i = n := by omega
     have h1 := HI.out.1.1
     have hnl := HX.out i
     rw [HAl.out] at h1 hnl
     have HB := hid HI.out.1.2
     have HS := hid (sorted18_any mb (exN P) wr h1 (by omega))
     clear h1 HI
     go_wp2_with fail
     refine HS.out.mono ?_
     rintro e w6 ⟨u, rfl, hown, hb6⟩
     have HO6 := hid (ownsRow_lower18 hown HB.out.size)
     have HB6 := hid (below2 HB.out hb6)
     clear hown hb6
     go_wp2_with fail
     go_ret2
     exact ⟨_, rfl, HO6.out, HB6.out⟩

end Go.Proofs.YtpopljcmkbchcaaGreatDoor
