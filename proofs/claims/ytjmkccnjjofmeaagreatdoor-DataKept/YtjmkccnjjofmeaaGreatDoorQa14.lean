/-
  Walks and plain facts that this claim leans on, put together out of 4 texts: De, Df, Dg, Dh.
-/
import Derived.Test.YtjmkccnjjofmeaaGreatDoorProg
import Derived.Test.YtjmkccnjjofmeaaGreatDoorQa1
import Derived.Test.YtjmkccnjjofmeaaGreatDoorQa2
import Derived.Test.YtjmkccnjjofmeaaGreatDoorQa3
import Derived.Test.YtjmkccnjjofmeaaGreatDoorQa4
import Derived.Test.YtjmkccnjjofmeaaGreatDoorQa5
import Derived.Test.YtjmkccnjjofmeaaGreatDoorQa6
import Derived.Test.YtjmkccnjjofmeaaGreatDoorQa7
import Derived.Test.YtjmkccnjjofmeaaGreatDoorQa8
import Derived.Test.YtjmkccnjjofmeaaGreatDoorQa9
import Derived.Test.YtjmkccnjjofmeaaGreatDoorQa10
import Derived.Test.YtjmkccnjjofmeaaGreatDoorQa11
import Derived.Test.YtjmkccnjjofmeaaGreatDoorQa12
import Derived.Test.YtjmkccnjjofmeaaGreatDoorQa13
import Derived.WalkKit
import Derived.WalkSpells
import Derived.WalkLawsBesides
import Derived.Lib.FrozenHead2
import Derived.Lib.OthersKept
import Derived.Lib.Builder
import Derived.Laws.IdiomStrings
import Derived.Laws.BytesString
import Derived.Lib.AppendStr
import Derived.Laws.BitsAllLaws
import Derived.WalkMore
import Derived.Deep.LoopGhost
import Derived.Lib.Bytealg
import Derived.Lib.Replace
import Derived.Deep.RegionWith
import Derived.Lib.Strings
import Derived.Lib.UnsafeStr
import Derived.Laws.AppendOwn
import Derived.Lib.LastIndexByte
import Derived.Lib.SlTrimSet
import Derived.Lib.Join
import Derived.Lib.IndexMore
import Derived.BigRegion
import Derived.Laws.OwnMore
import Derived.Below
import Derived.WalkSmall
import Derived.Lib.SmallJoins
import Derived.Maps.OwnSet
import Derived.Maps.OwnOps
import Derived.Maps.AppendAt
import Derived.StringKeys
import Derived.Lib.TrimByte
import Derived.Lib.IndexAny
import Derived.Deep.WholeRow
import Derived.Laws.RangeAny
import Derived.Lib.DecodeN
import Derived.RegionTactic
import Derived.Deep.QuietTactic
import Derived.BigQuiet
import Derived.Lib.BufferRead
import Derived.Lib.RuneBytes
import Derived.OwnWalk
import Derived.Shelf.Strings.Builder1
import Derived.Shelf.Strings.Builder2
import Derived.Shelf.Strings.OnBuilder
import Derived.Shelf.Strings.Trim
import Derived.Shelf.Small.Utf8
import Derived.Shelf.Small.Strs
import Derived.Shelf.Small.Wraps
import Derived.Shelf.Strings.BuilderF
import Derived.Shelf.Strings.BuilderK
import Derived.Shelf.Strings.Builder2Cap
import Derived.Shelf.Strconv.Itoa0
import Derived.Shelf.Strconv.Itoa1
import Derived.Shelf.LaysM
import Derived.Shelf.Strconv.Itoa2
import Derived.Shelf.Strconv.Itoa3
import Derived.Shelf.Strings.Search1
import Derived.Shelf.Strings.Search2
import Derived.Shelf.Strings.Search3
import Derived.Shelf.Strings.Cut
import Derived.Shelf.Strings.Count
import Derived.Shelf.Strings.Shaped
import Derived.Shelf.Strings.Prefix
import Derived.Shelf.Strings.Split
import Derived.Shelf.Strings.Replace
import Derived.Shelf.Strings.Runes
import Derived.Shelf.Strings.IndexAny
import Derived.Shelf.Strings.AsciiSet
import Derived.Shelf.Strings.IndexAnyAll
import Derived.Shelf.Unicode.DecodeSlow
import Derived.Deep.MidRow
import Derived.Lib.ItoaNum
import Derived.Lib.BufferMore
import Derived.Lib.AppendIntMem
import Derived.Deep.RegionHeld
import Derived.Laws.CopyOwn
import Derived.Laws.ResultCell
import Derived.Deep.RegionLaw
import Derived.Scope
import Derived.ScopeJumps
import Derived.Shelf.Strings.SlTrimAscii
import Derived.LoopN
import Derived.Laws.Runes
set_option linter.unusedSimpArgs false
set_option linter.unusedVariables false

namespace Go.Proofs.YtjmkccnjjofmeaaGreatDoor
open Go.RowKit

/-- What the first step answers. -/
def fsK (u : Adr) (a : List UInt8) : List UInt8 := if isD u then a else []

def fsB (u : Adr) : List UInt8 := if isD u then txtD u else []

theorem bareV_le (u : Adr) (hf : Fine u) : (bareV u).length ≤ 8000000 := by
  obtain ⟨h1, ⟨h2, h3, h4, h5⟩, ⟨h6, h7, h8⟩, h9, h10⟩ := hf
  have e1 := authT_le u h3 h4 h5
  have e2 := pathT_le u h7 h8
  unfold bareV
  simp only [List.length_append, List.length_cons]
  have e3 : (if u.hasQuery then 63 :: u.query else ([] : List UInt8)).length ≤ 1000001 := by split <;> simp <;> omega
  omega

theorem adr_cells {w : World} {c : Nat} {u : Adr} {pv : Value} (h : AdrIn w c u pv) : ∀ j v, (adrCells u pv)[j]? = some v → w.cell? ⟨c, j, none⟩ = some v := fun j v hv => h.cell j v hv

set_option maxHeartbeats 4000000 in
set_option maxRecDepth 100000 in
theorem textOf_d (u : Adr) (pv : Value) (c : Nat) (a b : ByteArray) (w : World) (hA : AdrIn w c u pv) (hg : Gd w) (hp : PathAt w pv u.path) (hf : Fine u) :
    Calls Tryz.prog 53 #[hdVal a b, .pointer (some ⟨c, 0, none⟩)] w (StPost (fsK u a.data.toList) (fsB u) (isD u) w) := by
  obtain ⟨h1, h2, hb0⟩ := laidD_facts w a b
  have hA0 := hA.kept hb0
  have hsl : IsSl pv := by
    rcases hp with ⟨rfl, _⟩ | ⟨b, cap, rfl, _⟩
    · exact ⟨_, _, _, rfl⟩
    · exact ⟨_, _, _, rfl⟩
  have HBare := hid (fun (w : World) (hg : Gd w) (hp : PathAt w pv u.path) => bare_any u pv w hg hp hf)
  have HG := hid (hg.kept hb0)
  have HPa := hid (hp.kept hb0)
  have hbl := bareV_le u hf
  obtain ⟨BV, hBV⟩ : ∃ X : ByteArray, X = ⟨(bareV u).toArray⟩ := ⟨_, rfl⟩
  rw [← hBV] at HBare
  have hBl : BV.data.toList = bareV u := by rw [hBV]
  obtain ⟨TX, hTX⟩ : ∃ X : ByteArray, X = ⟨(Lib.trimPrefix BV.data.toList [100, 97, 116, 97, 58]).toArray⟩ := ⟨_, rfl⟩
  have HTr : Hid (∀ w : World, Calls Tryz.prog 54 #[.string BV, .string ⟨#[100, 97, 116, 97, 58]⟩] w fun e w' => e = .returned (.string TX) ∧ w' = w) := fun w => by
    rw [hTX]; exact Tryz.strings_TrimPrefix BV ⟨#[100, 97, 116, 97, 58]⟩ w
  have HTX := hid (show TX = ba (txtD u) by rw [hTX, hBl]; rfl)
  clear hBV hbl hBl hTX hg hp hf hA
  obtain ⟨a0, n0, c0, rfl⟩ := hsl
  obtain ⟨SC, hSC⟩ : ∃ X : ByteArray, X = ⟨u.scheme.toArray⟩ := ⟨_, rfl⟩
  obtain ⟨op, hop⟩ : ∃ b, b = u.opq := ⟨_, rfl⟩
  obtain ⟨x1, x2, x3, x4, x5, x8, x9, x10, x11, hx⟩ : ∃ x1 x2 x3 x4 x5 x8 x9 x10 x11, adrCells u (.slice a0 n0 c0) = [.string SC, x1, x2, x3, x4, x5, .bool op, .slice a0 n0 c0, x8, x9, x10, x11] := ⟨_, _, _, _, _, _, _, _, _, by rw [hSC, hop]; rfl⟩
  have hva : adrVal u (.slice a0 n0 c0) = .agg #[.string SC, x1, x2, x3, x4, x5, .bool op, .slice a0 n0 c0, x8, x9, x10, x11] := by unfold adrVal; rw [hx]
  rw [hva] at HBare
  have hcs := adr_cells hA0
  rw [hx] at hcs
  have y0 := hcs 0 _ rfl
  have y1 := hcs 1 _ rfl
  have y2 := hcs 2 _ rfl
  have y3 := hcs 3 _ rfl
  have y4 := hcs 4 _ rfl
  have y5 := hcs 5 _ rfl
  have y6 := hcs 6 _ rfl
  have y7 := hcs 7 _ rfl
  have y8 := hcs 8 _ rfl
  have y9 := hcs 9 _ rfl
  have y10 := hcs 10 _ rfl
  have y11 := hcs 11 _ rfl
  have hD : isD u = ((SC.data.toList == dataB) && op) := by unfold isD; rw [hSC, hop]
  have H1 := hid h1
  have H2 := hid h2
  have HB := hid hb0
  obtain ⟨e0, e1, k0, k1⟩ := h2.cells
  clear hcs hx hva hA0 hSC hop h1 h2 hb0
  by_cases hs : SC = ⟨#[100, 97, 116, 97]⟩
  · subst hs
    cases op with
    | true =>
      have HE := hid (show fsK u a.data.toList = a.data.toList ∧ fsB u = txtD u ∧ isD u = true by
        have : isD u = true := by rw [hD]; decide
        unfold fsK fsB; rw [this]; exact ⟨rfl, rfl, rfl⟩)
      clear hD e0 e1 k0 k1
      show Calls Tryz.prog 53 #[.agg #[.string a, .string b], .pointer (some ⟨c, 0, none⟩)] w _
      go_enter Tryz.func53, Tryz.ntmps53
      go_wp2_with fail
      refine (HBare.out _ HG.out HPa.out).mono ?_
      rintro e w1 ⟨rfl, hb1⟩
      have h1' := H1.out.kept hb1
      have h2' := H2.out.kept hb1
      have HB1 := hid (below2 HB.out hb1)
      clear hb1
      go_wp2_with fail
      refine (HTr.out _).mono ?_
      rintro e w2 ⟨rfl, rfl⟩
      obtain ⟨d0, d1, g0, g1⟩ := h1'.cells
      have h1s : TwoD (w2.setCell ⟨w.heap.size, 1, none⟩ (.string TX)) w.heap.size a TX := h1'.set1
      have h2s : TwoD (w2.setCell ⟨w.heap.size, 1, none⟩ (.string TX)) (w.heap.size + 1) ⟨#[]⟩ ⟨#[]⟩ := h2'.far (by omega)
      obtain ⟨p0, p1, q0, q1⟩ := h1s.cells
      obtain ⟨r0, r1, s0, s1⟩ := h2s.cells
      have HT := hid h2s
      clear h1' h2' h1s h2s y0 y1 y2 y3 y4 y5 y6 y7 y8 y9 y10 y11
      go_wp2_with fail
      refine bodyPost_ret (results_d2 rfl _ _ (w.heap.size + 1) a TX rfl HT.out.set.range) rfl ⟨?_, ?_⟩
      · rw [HE.out.1, HE.out.2.1, HE.out.2.2, mba_self, HTX.out]; rfl
      · exact ((HB1.out.setCell (p := ⟨w.heap.size, 1, none⟩) (Nat.le_refl _) _).setCell (p := ⟨w.heap.size + 1, 0, none⟩) (Nat.le_succ _) _).setCell (p := ⟨w.heap.size + 1, 1, none⟩) (Nat.le_succ _) _
    | false =>
      have HE := hid (show fsK u a.data.toList = [] ∧ fsB u = [] ∧ isD u = false by
        have : isD u = false := by rw [hD]; decide
        unfold fsK fsB; rw [this]; exact ⟨rfl, rfl, rfl⟩)
      clear hD
      show Calls Tryz.prog 53 #[.agg #[.string a, .string b], .pointer (some ⟨c, 0, none⟩)] w _
      go_enter Tryz.func53, Tryz.ntmps53
      go_wp2_with fail
      refine bodyPost_ret (results_d2 rfl _ _ (w.heap.size + 1) ⟨#[]⟩ ⟨#[]⟩ rfl H2.out.range) rfl ⟨?_, HB.out⟩
      rw [HE.out.1, HE.out.2.1, HE.out.2.2]; rfl
  · have hne : (SC.data.toList == dataB) = false := by
      cases h : SC.data.toList == dataB with
      | false => rfl
      | true => exact absurd (by rw [← mba_self SC, eq_of_beq h]; rfl) hs
    have HE := hid (show fsK u a.data.toList = [] ∧ fsB u = [] ∧ isD u = false by
      have : isD u = false := by rw [hD, hne]; rfl
      unfold fsK fsB; rw [this]; exact ⟨rfl, rfl, rfl⟩)
    have hSf : (SC.toList == [100, 97, 116, 97]) = false := by rw [Lib.toList_data]; exact hne
    clear hD hne hs
    show Calls Tryz.prog 53 #[.agg #[.string a, .string b], .pointer (some ⟨c, 0, none⟩)] w _
    go_enter Tryz.func53, Tryz.ntmps53
    go_wp2_with fail
    refine bodyPost_ret (results_d2 rfl _ _ (w.heap.size + 1) ⟨#[]⟩ ⟨#[]⟩ rfl H2.out.range) rfl ⟨?_, HB.out⟩
    rw [HE.out.1, HE.out.2.1, HE.out.2.2]; rfl

end Go.Proofs.YtjmkccnjjofmeaaGreatDoor

namespace Go.Proofs.YtjmkccnjjofmeaaGreatDoor
open Go.RowKit

def thenL (ok : Bool) (l : List UInt8) : List UInt8 := if ok then l else []

set_option maxHeartbeats 4000000 in
set_option maxRecDepth 100000 in
theorem chain1 (a b : ByteArray) (k1 b1 k2 b2 : List UInt8) (ok1 ok2 : Bool) (c1 c2 : Nat) (w : World)
    (hc1 : w.cell? ⟨c1, 0, none⟩ = some (.func (.func 28) #[] #[])) (hc2 : w.cell? ⟨c2, 0, none⟩ = some (.func (.func 29) #[] #[]))
    (HF : ∀ w', Below w.heap.size w w' → Calls Tryz.prog 28 #[hdVal a b] w' (StPost k1 b1 ok1 w'))
    (HN : ok1 = true → ∀ w', Below w.heap.size w w' → Calls Tryz.prog 29 #[hdVal (ba k1) (ba b1)] w' (StPost k2 b2 ok2 w')) :
    Calls Tryz.prog 52 #[hdVal a b, .pointer (some ⟨c1, 0, none⟩), .pointer (some ⟨c2, 0, none⟩)] w (StPost (thenL ok1 k2) (thenL ok1 b2) (ok1 && ok2) w) := by
  obtain ⟨h1, h2, hb0⟩ := laidD_facts w a b
  obtain ⟨d0, d1, g0, g1⟩ := h1.cells
  have z1 : (laidD w a b).cell? ⟨c1, 0, none⟩ = some (.func (.func 28) #[] #[]) := (hb0.cell (World.block_lt_of_cell? w _ hc1)).trans hc1
  have H1 := hid h1
  have H2 := hid h2
  have HB := hid hb0
  have HC2 := hid hc2
  have HF' := hid HF
  have HN' := hid HN
  clear h1 h2 hb0 hc1 hc2 HF HN
  show Calls Tryz.prog 52 #[.agg #[.string a, .string b], .pointer (some ⟨c1, 0, none⟩), .pointer (some ⟨c2, 0, none⟩)] w _
  unfold hdVal at HF' HN'
  go_enter Tryz.func52, Tryz.ntmps52
  go_wp2_with fail
  refine (HF'.out _ HB.out).mono ?_
  rintro e w1 ⟨rfl, hb1⟩
  unfold hdVal
  have h1' := H1.out.kept hb1
  have h2' := H2.out.kept hb1
  have HB1 := hid (below2 HB.out hb1)
  clear hb1 d0 d1 g0 g1 z1
  obtain ⟨d0, d1, g0, g1⟩ := h1'.cells
  have h1s : TwoD ((w1.setCell ⟨w.heap.size, 0, none⟩ (.string (ba k1))).setCell ⟨w.heap.size, 1, none⟩ (.string (ba b1))) w.heap.size (ba k1) (ba b1) := h1'.set
  have h2s : TwoD ((w1.setCell ⟨w.heap.size, 0, none⟩ (.string (ba k1))).setCell ⟨w.heap.size, 1, none⟩ (.string (ba b1))) (w.heap.size + 1) ⟨#[]⟩ ⟨#[]⟩ := (h2'.far (by omega)).far (by omega)
  have hb2 : Below w.heap.size w ((w1.setCell ⟨w.heap.size, 0, none⟩ (.string (ba k1))).setCell ⟨w.heap.size, 1, none⟩ (.string (ba b1))) := (HB1.out.setCell (p := ⟨w.heap.size, 0, none⟩) (Nat.le_refl _) _).setCell (p := ⟨w.heap.size, 1, none⟩) (Nat.le_refl _) _
  have z2 : ((w1.setCell ⟨w.heap.size, 0, none⟩ (.string (ba k1))).setCell ⟨w.heap.size, 1, none⟩ (.string (ba b1))).cell? ⟨c2, 0, none⟩ = some (.func (.func 29) #[] #[]) := (hb2.cell (World.block_lt_of_cell? w _ HC2.out)).trans HC2.out
  obtain ⟨p0, p1, q0, q1⟩ := h1s.cells
  obtain ⟨r0, r1, s0, s1⟩ := h2s.cells
  have HT := hid h2s
  have HB2 := hid hb2
  clear h1' h2' h1s h2s hb2
  cases ok1 with
  | false =>
    go_wp2_with fail
    refine bodyPost_ret (results_d2 rfl _ _ (w.heap.size + 1) ⟨#[]⟩ ⟨#[]⟩ rfl HT.out.set.range) rfl ⟨rfl, ?_⟩
    exact (HB2.out.setCell (p := ⟨w.heap.size + 1, 0, none⟩) (Nat.le_succ _) _).setCell (p := ⟨w.heap.size + 1, 1, none⟩) (Nat.le_succ _) _
  | true =>
    go_wp2_with fail
    refine (HN'.out (by first | rfl | trivial) _ HB2.out).mono ?_
    rintro e w3 ⟨rfl, hb3⟩
    unfold hdVal
    have HT3 := hid (HT.out.kept hb3)
    have HB3 := hid (below2 HB2.out hb3)
    clear hb3 p0 p1 q0 q1 r0 r1 s0 s1 d0 d1 g0 g1 z2
    obtain ⟨r0, r1, s0, s1⟩ := HT3.out.cells
    go_wp2_with fail
    refine bodyPost_ret (results_d2 rfl _ _ (w.heap.size + 1) (ba k2) (ba b2) rfl HT3.out.set.range) rfl ⟨rfl, ?_⟩
    exact (HB3.out.setCell (p := ⟨w.heap.size + 1, 0, none⟩) (Nat.le_succ _) _).setCell (p := ⟨w.heap.size + 1, 1, none⟩) (Nat.le_succ _) _

set_option maxHeartbeats 4000000 in
set_option maxRecDepth 100000 in
theorem chain2 (a b : ByteArray) (k1 b1 k2 b2 : List UInt8) (ok1 ok2 : Bool) (c1 c2 p q : Nat) (w : World)
    (hc1 : w.cell? ⟨c1, 0, none⟩ = some (.func (.func 27) #[] #[])) (hc2 : w.cell? ⟨c2, 0, none⟩ = some (.func (.func 52) #[] #[.pointer (some ⟨p, 0, none⟩), .pointer (some ⟨q, 0, none⟩)]))
    (HF : ∀ w', Below w.heap.size w w' → Calls Tryz.prog 27 #[hdVal a b] w' (StPost k1 b1 ok1 w'))
    (HN : ok1 = true → ∀ w', Below w.heap.size w w' → Calls Tryz.prog 52 #[hdVal (ba k1) (ba b1), .pointer (some ⟨p, 0, none⟩), .pointer (some ⟨q, 0, none⟩)] w' (StPost k2 b2 ok2 w')) :
    Calls Tryz.prog 52 #[hdVal a b, .pointer (some ⟨c1, 0, none⟩), .pointer (some ⟨c2, 0, none⟩)] w (StPost (thenL ok1 k2) (thenL ok1 b2) (ok1 && ok2) w) := by
  obtain ⟨h1, h2, hb0⟩ := laidD_facts w a b
  obtain ⟨d0, d1, g0, g1⟩ := h1.cells
  have z1 : (laidD w a b).cell? ⟨c1, 0, none⟩ = some (.func (.func 27) #[] #[]) := (hb0.cell (World.block_lt_of_cell? w _ hc1)).trans hc1
  have H1 := hid h1
  have H2 := hid h2
  have HB := hid hb0
  have HC2 := hid hc2
  have HF' := hid HF
  have HN' := hid HN
  clear h1 h2 hb0 hc1 hc2 HF HN
  show Calls Tryz.prog 52 #[.agg #[.string a, .string b], .pointer (some ⟨c1, 0, none⟩), .pointer (some ⟨c2, 0, none⟩)] w _
  unfold hdVal at HF' HN'
  go_enter Tryz.func52, Tryz.ntmps52
  go_wp2_with fail
  refine (HF'.out _ HB.out).mono ?_
  rintro e w1 ⟨rfl, hb1⟩
  unfold hdVal
  have h1' := H1.out.kept hb1
  have h2' := H2.out.kept hb1
  have HB1 := hid (below2 HB.out hb1)
  clear hb1 d0 d1 g0 g1 z1
  obtain ⟨d0, d1, g0, g1⟩ := h1'.cells
  have h1s : TwoD ((w1.setCell ⟨w.heap.size, 0, none⟩ (.string (ba k1))).setCell ⟨w.heap.size, 1, none⟩ (.string (ba b1))) w.heap.size (ba k1) (ba b1) := h1'.set
  have h2s : TwoD ((w1.setCell ⟨w.heap.size, 0, none⟩ (.string (ba k1))).setCell ⟨w.heap.size, 1, none⟩ (.string (ba b1))) (w.heap.size + 1) ⟨#[]⟩ ⟨#[]⟩ := (h2'.far (by omega)).far (by omega)
  have hb2 : Below w.heap.size w ((w1.setCell ⟨w.heap.size, 0, none⟩ (.string (ba k1))).setCell ⟨w.heap.size, 1, none⟩ (.string (ba b1))) := (HB1.out.setCell (p := ⟨w.heap.size, 0, none⟩) (Nat.le_refl _) _).setCell (p := ⟨w.heap.size, 1, none⟩) (Nat.le_refl _) _
  have z2 : ((w1.setCell ⟨w.heap.size, 0, none⟩ (.string (ba k1))).setCell ⟨w.heap.size, 1, none⟩ (.string (ba b1))).cell? ⟨c2, 0, none⟩ = some (.func (.func 52) #[] #[.pointer (some ⟨p, 0, none⟩), .pointer (some ⟨q, 0, none⟩)]) := (hb2.cell (World.block_lt_of_cell? w _ HC2.out)).trans HC2.out
  obtain ⟨p0, p1, q0, q1⟩ := h1s.cells
  obtain ⟨r0, r1, s0, s1⟩ := h2s.cells
  have HT := hid h2s
  have HB2 := hid hb2
  clear h1' h2' h1s h2s hb2
  cases ok1 with
  | false =>
    go_wp2_with fail
    refine bodyPost_ret (results_d2 rfl _ _ (w.heap.size + 1) ⟨#[]⟩ ⟨#[]⟩ rfl HT.out.set.range) rfl ⟨rfl, ?_⟩
    exact (HB2.out.setCell (p := ⟨w.heap.size + 1, 0, none⟩) (Nat.le_succ _) _).setCell (p := ⟨w.heap.size + 1, 1, none⟩) (Nat.le_succ _) _
  | true =>
    go_wp2_with fail
    refine (HN'.out (by first | rfl | trivial) _ HB2.out).mono ?_
    rintro e w3 ⟨rfl, hb3⟩
    unfold hdVal
    have HT3 := hid (HT.out.kept hb3)
    have HB3 := hid (below2 HB2.out hb3)
    clear hb3 p0 p1 q0 q1 r0 r1 s0 s1 d0 d1 g0 g1 z2
    obtain ⟨r0, r1, s0, s1⟩ := HT3.out.cells
    go_wp2_with fail
    refine bodyPost_ret (results_d2 rfl _ _ (w.heap.size + 1) (ba k2) (ba b2) rfl HT3.out.set.range) rfl ⟨rfl, ?_⟩
    exact (HB3.out.setCell (p := ⟨w.heap.size + 1, 0, none⟩) (Nat.le_succ _) _).setCell (p := ⟨w.heap.size + 1, 1, none⟩) (Nat.le_succ _) _

set_option maxHeartbeats 4000000 in
set_option maxRecDepth 100000 in
theorem chain3 (a b : ByteArray) (k1 b1 k2 b2 : List UInt8) (ok1 ok2 : Bool) (c1 c2 u p q : Nat) (w : World)
    (hc1 : w.cell? ⟨c1, 0, none⟩ = some (.func (.func 53) #[] #[.pointer (some ⟨u, 0, none⟩)])) (hc2 : w.cell? ⟨c2, 0, none⟩ = some (.func (.func 52) #[] #[.pointer (some ⟨p, 0, none⟩), .pointer (some ⟨q, 0, none⟩)]))
    (HF : ∀ w', Below w.heap.size w w' → Calls Tryz.prog 53 #[hdVal a b, .pointer (some ⟨u, 0, none⟩)] w' (StPost k1 b1 ok1 w'))
    (HN : ok1 = true → ∀ w', Below w.heap.size w w' → Calls Tryz.prog 52 #[hdVal (ba k1) (ba b1), .pointer (some ⟨p, 0, none⟩), .pointer (some ⟨q, 0, none⟩)] w' (StPost k2 b2 ok2 w')) :
    Calls Tryz.prog 52 #[hdVal a b, .pointer (some ⟨c1, 0, none⟩), .pointer (some ⟨c2, 0, none⟩)] w (StPost (thenL ok1 k2) (thenL ok1 b2) (ok1 && ok2) w) := by
  obtain ⟨h1, h2, hb0⟩ := laidD_facts w a b
  obtain ⟨d0, d1, g0, g1⟩ := h1.cells
  have z1 : (laidD w a b).cell? ⟨c1, 0, none⟩ = some (.func (.func 53) #[] #[.pointer (some ⟨u, 0, none⟩)]) := (hb0.cell (World.block_lt_of_cell? w _ hc1)).trans hc1
  have H1 := hid h1
  have H2 := hid h2
  have HB := hid hb0
  have HC2 := hid hc2
  have HF' := hid HF
  have HN' := hid HN
  clear h1 h2 hb0 hc1 hc2 HF HN
  show Calls Tryz.prog 52 #[.agg #[.string a, .string b], .pointer (some ⟨c1, 0, none⟩), .pointer (some ⟨c2, 0, none⟩)] w _
  unfold hdVal at HF' HN'
  go_enter Tryz.func52, Tryz.ntmps52
  go_wp2_with fail
  refine (HF'.out _ HB.out).mono ?_
  rintro e w1 ⟨rfl, hb1⟩
  unfold hdVal
  have h1' := H1.out.kept hb1
  have h2' := H2.out.kept hb1
  have HB1 := hid (below2 HB.out hb1)
  clear hb1 d0 d1 g0 g1 z1
  obtain ⟨d0, d1, g0, g1⟩ := h1'.cells
  have h1s : TwoD ((w1.setCell ⟨w.heap.size, 0, none⟩ (.string (ba k1))).setCell ⟨w.heap.size, 1, none⟩ (.string (ba b1))) w.heap.size (ba k1) (ba b1) := h1'.set
  have h2s : TwoD ((w1.setCell ⟨w.heap.size, 0, none⟩ (.string (ba k1))).setCell ⟨w.heap.size, 1, none⟩ (.string (ba b1))) (w.heap.size + 1) ⟨#[]⟩ ⟨#[]⟩ := (h2'.far (by omega)).far (by omega)
  have hb2 : Below w.heap.size w ((w1.setCell ⟨w.heap.size, 0, none⟩ (.string (ba k1))).setCell ⟨w.heap.size, 1, none⟩ (.string (ba b1))) := (HB1.out.setCell (p := ⟨w.heap.size, 0, none⟩) (Nat.le_refl _) _).setCell (p := ⟨w.heap.size, 1, none⟩) (Nat.le_refl _) _
  have z2 : ((w1.setCell ⟨w.heap.size, 0, none⟩ (.string (ba k1))).setCell ⟨w.heap.size, 1, none⟩ (.string (ba b1))).cell? ⟨c2, 0, none⟩ = some (.func (.func 52) #[] #[.pointer (some ⟨p, 0, none⟩), .pointer (some ⟨q, 0, none⟩)]) := (hb2.cell (World.block_lt_of_cell? w _ HC2.out)).trans HC2.out
  obtain ⟨p0, p1, q0, q1⟩ := h1s.cells
  obtain ⟨r0, r1, s0, s1⟩ := h2s.cells
  have HT := hid h2s
  have HB2 := hid hb2
  clear h1' h2' h1s h2s hb2
  cases ok1 with
  | false =>
    go_wp2_with fail
    refine bodyPost_ret (results_d2 rfl _ _ (w.heap.size + 1) ⟨#[]⟩ ⟨#[]⟩ rfl HT.out.set.range) rfl ⟨rfl, ?_⟩
    exact (HB2.out.setCell (p := ⟨w.heap.size + 1, 0, none⟩) (Nat.le_succ _) _).setCell (p := ⟨w.heap.size + 1, 1, none⟩) (Nat.le_succ _) _
  | true =>
    go_wp2_with fail
    refine (HN'.out (by first | rfl | trivial) _ HB2.out).mono ?_
    rintro e w3 ⟨rfl, hb3⟩
    unfold hdVal
    have HT3 := hid (HT.out.kept hb3)
    have HB3 := hid (below2 HB2.out hb3)
    clear hb3 p0 p1 q0 q1 r0 r1 s0 s1 d0 d1 g0 g1 z2
    obtain ⟨r0, r1, s0, s1⟩ := HT3.out.cells
    go_wp2_with fail
    refine bodyPost_ret (results_d2 rfl _ _ (w.heap.size + 1) (ba k2) (ba b2) rfl HT3.out.set.range) rfl ⟨rfl, ?_⟩
    exact (HB3.out.setCell (p := ⟨w.heap.size + 1, 0, none⟩) (Nat.le_succ _) _).setCell (p := ⟨w.heap.size + 1, 1, none⟩) (Nat.le_succ _) _

end Go.Proofs.YtjmkccnjjofmeaaGreatDoor

namespace Go.Proofs.YtjmkccnjjofmeaaGreatDoor
open Go.RowKit

abbrev fObj (v : Value) : Obj := .cells #[v] 63

set_option maxHeartbeats 1000000 in
theorem then_d (F1 F2 : Fn) (x1 x2 y1 y2 : Array Value) (w : World) :
    Calls Tryz.prog 25 #[.func F1 x1 y1, .func F2 x2 y2] w fun e w' => e = .returned (.func (.func 52) #[] #[.pointer (some ⟨w.heap.size, 0, none⟩), .pointer (some ⟨w.heap.size + 1, 0, none⟩)]) ∧ w' = (w.alloc (fObj (.func F1 x1 y1))).alloc (fObj (.func F2 x2 y2)) := by
  have hmf : ∀ (fn : Fn) (first cap : Array Value) (w : World), (Instr.makeFunc fn first cap).run Tryz.prog w = .ok (.func fn first cap) w := fun _ _ _ _ => rfl
  go_enter Tryz.func25, Tryz.ntmps25
  go_wp2
  go_ret
  exact ⟨rfl, rfl⟩

set_option maxHeartbeats 1000000 in
theorem textOf_mk (u : Adr) (pv : Value) (hs : IsSl pv) (w : World) :
    Calls Tryz.prog 26 #[adrVal u pv] w fun e w' => e = .returned (.func (.func 53) #[] #[.pointer (some ⟨w.heap.size, 0, none⟩)]) ∧ w' = w.alloc (.cells (adrCells u pv).toArray 32) := by
  have hmf : ∀ (fn : Fn) (first cap : Array Value) (w : World), (Instr.makeFunc fn first cap).run Tryz.prog w = .ok (.func fn first cap) w := fun _ _ _ _ => rfl
  obtain ⟨a0, n0, c0, rfl⟩ := hs
  unfold adrVal adrCells
  go_enter Tryz.func26, Tryz.ntmps26
  go_wp2
  go_ret
  exact ⟨rfl, rfl⟩

theorem own_apD {w : World} {B n k b j : Nat} {e : TypeId} {v x : Value} {xs : List Value} (h : w.ownsRow B e k v n xs) (hne : v.ownBlock ≠ some b) : (w.setCell ⟨b, j, none⟩ x).ownsRow B e k v n xs :=
  ownsRow_same h fun g hg => heap_setCell_other _ _ _ _ (fun e => hne (by rw [hg]; exact congrArg some e))

/-- What a kind's text names: or the usual one. -/
def TyPost (k : List UInt8) (w : World) (e : Ending) (w' : World) : Prop :=
  ∃ v, e = .returned (knVal (ba (typV k).major) (ba (typV k).minor) v) ∧ w'.ownsRow w.heap.size 43 2 v (typV k).params.length (cellsH (typV k).params) ∧ Below w.heap.size w w'

set_option maxHeartbeats 4000000 in
set_option maxRecDepth 100000 in
theorem typeOf_d (k : ByteArray) (w : World) (hG : G5 w) (hs : k.size ≤ 400000000) :
    Calls Tryz.prog 30 #[.string k] w (TyPost k.data.toList w) := by
  have h0 : Tri (w.alloc (.cells #[.string ⟨#[]⟩, .string ⟨#[]⟩, .slice none 0 0] 26)) w.heap.size ⟨#[]⟩ ⟨#[]⟩ (.slice none 0 0) := heap_alloc_new _ _
  have hb0 : Below w.heap.size w (w.alloc (.cells #[.string ⟨#[]⟩, .string ⟨#[]⟩, .slice none 0 0] 26)) := (Below.refl _ w).alloc (Nat.le_refl _) _
  have HG0 := hid (hG.kept hb0)
  have H0 := hid h0
  have HB0 := hid hb0
  have HP := hid (fun w hG => parse6_any k w hG (by omega))
  obtain ⟨ok, hok⟩ : ∃ ok, knOk k.data.toList = ok := ⟨_, rfl⟩
  have HO := hid hok
  clear h0 hb0 hG hok
  go_enter Tryz.func30, Tryz.ntmps30
  go_wp2_with fail
  refine (HP.out _ HG0.out).mono ?_
  rintro e w1 ⟨v, rfl, hown, hb1⟩
  rw [HO.out]
  unfold knVal
  obtain ⟨x1, x2, x3, rfl⟩ := own_slice hown
  have HT := hid (H0.out.kept hb1)
  have HB1 := hid (below2 HB0.out hb1)
  have HOw := hid hown
  clear hb1 hown
  obtain ⟨A, hA⟩ : ∃ A, ba (knV k.data.toList).major = A := ⟨_, rfl⟩
  obtain ⟨M, hM⟩ : ∃ M, ba (knV k.data.toList).minor = M := ⟨_, rfl⟩
  rw [hA, hM]
  have h3 : Tri (w1.alloc (.cells #[.string A, .string M, .slice x1 x2 x3] 26)) w1.heap.size A M (.slice x1 x2 x3) := heap_alloc_new _ _
  have hb3 : Below w1.heap.size w1 (w1.alloc (.cells #[.string A, .string M, .slice x1 x2 x3] 26)) := (Below.refl _ w1).alloc (Nat.le_refl _) _
  have h4 := HT.out.kept hb3
  obtain ⟨c0, c1, c2⟩ := h4.cells
  have f0 := h4.frozen 0
  have f1 := h4.frozen 1
  have f2 := h4.frozen 2
  have H4 := hid h4
  have HB4 := hid (below2 HB1.out hb3)
  have HA := hid hA
  have HM := hid hM
  have HNe : Hid (∀ g, (Value.slice x1 x2 x3).ownBlock = some g → g ≠ w.heap.size) := fun g hg e => by
    have := (HOw.out.lt g hg).1
    simp at this
    omega
  clear h4 hb3 h3 hA hM
  cases ok with
  | true =>
    go_wp2_with fail
    refine bodyPost_ret (results_k1 rfl _ _ w.heap.size A M (.slice x1 x2 x3) rfl H4.out.set.range) rfl ?_
    have e : typV k.data.toList = knV k.data.toList := by unfold typV; rw [HO.out]; rfl
    refine ⟨.slice x1 x2 x3, ?_, ?_, ?_⟩
    · rw [e, HA.out, HM.out]
    · rw [e]
      exact own_base (own_apD (own_apD (own_apD (ownsRow_same HOw.out fun g hg => heap_alloc_old _ _ (HOw.out.lt g hg).2) (fun h => HNe.out _ h rfl)) (fun h => HNe.out _ h rfl)) (fun h => HNe.out _ h rfl)) (by simp)
    · exact ((HB4.out.setCell (p := ⟨w.heap.size, 0, none⟩) (Nat.le_refl _) _).setCell (p := ⟨w.heap.size, 1, none⟩) (Nat.le_refl _) _).setCell (p := ⟨w.heap.size, 2, none⟩) (Nat.le_refl _) _
  | false =>
    have hz : (w1.alloc (.cells #[.string A, .string M, .slice x1 x2 x3] 26)).heap.size = w1.heap.size + 1 := by simp
    have h5 : ((w1.alloc (.cells #[.string A, .string M, .slice x1 x2 x3] 26)).alloc (.cells #[.string ⟨#[99, 104, 97, 114, 115, 101, 116]⟩, .string ⟨#[85, 83, 45, 65, 83, 67, 73, 73]⟩] 43)).heap[w1.heap.size + 1]? = some (.cells #[.string ⟨#[99, 104, 97, 114, 115, 101, 116]⟩, .string ⟨#[85, 83, 45, 65, 83, 67, 73, 73]⟩] 43 (0, 0)) := by
      have := heap_alloc_new (w1.alloc (.cells #[.string A, .string M, .slice x1 x2 x3] 26)) (.cells #[.string ⟨#[99, 104, 97, 114, 115, 101, 116]⟩, .string ⟨#[85, 83, 45, 65, 83, 67, 73, 73]⟩] 43)
      rw [hz] at this
      exact this
    have hb5 : Below (w1.alloc (.cells #[.string A, .string M, .slice x1 x2 x3] 26)).heap.size (w1.alloc (.cells #[.string A, .string M, .slice x1 x2 x3] 26)) ((w1.alloc (.cells #[.string A, .string M, .slice x1 x2 x3] 26)).alloc (.cells #[.string ⟨#[99, 104, 97, 114, 115, 101, 116]⟩, .string ⟨#[85, 83, 45, 65, 83, 67, 73, 73]⟩] 43)) := (Below.refl _ _).alloc (Nat.le_refl _) _
    have h6 := H4.out.kept hb5
    obtain ⟨e0, e1, e2⟩ := h6.cells
    have g0 := h6.frozen 0
    have g1 := h6.frozen 1
    have g2 := h6.frozen 2
    have H6 := hid h6
    have HB6 := hid (below2 HB4.out hb5)
    have H5 := hid h5
    have HLt := hid (HT.out.lt)
    clear h5 hb5 h6 hz c0 c1 c2 f0 f1 f2
    go_wp2_with fail
    refine bodyPost_ret (results_k1 rfl _ _ w.heap.size ⟨#[116, 101, 120, 116]⟩ ⟨#[112, 108, 97, 105, 110]⟩ (.slice (some ⟨w1.heap.size + 1, 0, none⟩) 1 1) rfl H6.out.set.range) rfl ?_
    have e : typV k.data.toList = usual := by unfold typV; rw [HO.out]; rfl
    refine ⟨.slice (some ⟨w1.heap.size + 1, 0, none⟩) 1 1, ?_, ?_, ?_⟩
    · rw [e]; rfl
    · rw [e]
      have hlt : w.heap.size < w1.heap.size := HLt.out
      have ho : ((w1.alloc (.cells #[.string A, .string M, .slice x1 x2 x3] 26)).alloc (.cells #[.string ⟨#[99, 104, 97, 114, 115, 101, 116]⟩, .string ⟨#[85, 83, 45, 65, 83, 67, 73, 73]⟩] 43)).ownsRow w.heap.size 43 2 (.slice (some ⟨w1.heap.size + 1, 0, none⟩) 1 1) usual.params.length (cellsH usual.params) :=
        ⟨by decide, .inr ⟨w1.heap.size + 1, 1, _, rfl, by omega, H5.out, by decide, by decide, by decide, rfl⟩⟩
      exact own_apD (own_apD (own_apD ho (by simp [Value.ownBlock]; omega)) (by simp [Value.ownBlock]; omega)) (by simp [Value.ownBlock]; omega)
    · exact ((HB6.out.setCell (p := ⟨w.heap.size, 0, none⟩) (Nat.le_refl _) _).setCell (p := ⟨w.heap.size, 1, none⟩) (Nat.le_refl _) _).setCell (p := ⟨w.heap.size, 2, none⟩) (Nat.le_refl _) _

end Go.Proofs.YtjmkccnjjofmeaaGreatDoor

namespace Go.Proofs.YtjmkccnjjofmeaaGreatDoor
open Go.RowKit

theorem then_e (F1 F2 : Fn) (x1 x2 y1 y2 : Array Value) (w : World) :
    Calls Tryz.prog 25 #[.func F1 x1 y1, .func F2 x2 y2] w fun e w' => ∃ p q, e = .returned (.func (.func 52) #[] #[.pointer (some ⟨p, 0, none⟩), .pointer (some ⟨q, 0, none⟩)]) ∧ w'.cell? ⟨p, 0, none⟩ = some (.func F1 x1 y1) ∧ w'.cell? ⟨q, 0, none⟩ = some (.func F2 x2 y2) ∧ Below w.heap.size w w' := by
  refine (then_d F1 F2 x1 x2 y1 y2 w).mono ?_
  rintro e w' ⟨rfl, rfl⟩
  have hz : (w.alloc (fObj (.func F1 x1 y1))).heap.size = w.heap.size + 1 := by simp
  have h1 : (w.alloc (fObj (.func F1 x1 y1))).heap[w.heap.size]? = some (fObj (.func F1 x1 y1)) := heap_alloc_new _ _
  have hb1 : Below w.heap.size w (w.alloc (fObj (.func F1 x1 y1))) := (Below.refl _ w).alloc (Nat.le_refl _) _
  have hb2 : Below (w.alloc (fObj (.func F1 x1 y1))).heap.size (w.alloc (fObj (.func F1 x1 y1))) ((w.alloc (fObj (.func F1 x1 y1))).alloc (fObj (.func F2 x2 y2))) := (Below.refl _ _).alloc (Nat.le_refl _) _
  have h1' := (hb2.block w.heap.size (by omega)).trans h1
  have h2 := heap_alloc_new (w.alloc (fObj (.func F1 x1 y1))) (fObj (.func F2 x2 y2))
  rw [hz] at h2
  refine ⟨_, _, rfl, ?_, ?_, below2 hb1 hb2⟩
  · rw [Lib.cell_of_heap h1']; rfl
  · rw [Lib.cell_of_heap h2]; rfl

theorem textOf_e (u : Adr) (pv : Value) (hs : IsSl pv) (w : World) :
    Calls Tryz.prog 26 #[adrVal u pv] w fun e w' => ∃ c, e = .returned (.func (.func 53) #[] #[.pointer (some ⟨c, 0, none⟩)]) ∧ AdrIn w' c u pv ∧ Below w.heap.size w w' := by
  refine (textOf_mk u pv hs w).mono ?_
  rintro e w' ⟨rfl, rfl⟩
  exact ⟨_, rfl, heap_alloc_new _ _, (Below.refl _ w).alloc (Nat.le_refl _) _⟩

theorem Below.cellAt {w w' : World} {a : Addr} {v : Value} (hb : Below w.heap.size w w') (h : w.cell? a = some v) : w'.cell? a = some v := (hb.cell (World.block_lt_of_cell? w _ h)).trans h

theorem trimP_le (l p : List UInt8) : (Lib.trimPrefix l p).length ≤ l.length := by
  unfold Lib.trimPrefix; split
  · simp
  · exact Nat.le_refl _

theorem trimS_le (l p : List UInt8) : (Lib.trimSuffix l p).length ≤ l.length := by
  unfold Lib.trimSuffix; split
  · simp
  · exact Nat.le_refl _

theorem unK_le (k : List UInt8) : (unK k).length ≤ k.length := by
  unfold unK; split
  · unfold offM ahead6
    have h1 := trimS_le (noBl (k.take (k.length - 6))) [59]
    have h2 := noBl_le (k.take (k.length - 6))
    simp at h2
    omega
  · exact Nat.le_refl _

theorem comK_le (k : List UInt8) : (comK k).length ≤ k.length + 10 := by
  unfold comK; split
  · simp [tplB]
  · omega

theorem txtD_le (u : Adr) (hf : Fine u) : (txtD u).length ≤ 8000000 := Nat.le_trans (trimP_le _ _) (bareV_le u hf)

theorem cutK_le (l : List UInt8) : (cutK l).length ≤ l.length := Nat.le_trans (strip_le2 _) (part_le 44 l).1

theorem cutD_le (l : List UInt8) : (cutD l).length ≤ l.length := Nat.le_trans (unpct_le2 _) (part_le 44 l).2

theorem ba_bytes (l : List UInt8) : (ba l).data.toList = l := rfl

/-- What the chain answers. -/
def ChPost (u : Adr) (w : World) (e : Ending) (w' : World) : Prop :=
  ∃ k b, e = .returned (.tuple #[hdVal (ba k) (ba b), .bool (rdO u)]) ∧ (rdO u = true → k = rdK u ∧ b = rdB u) ∧ Below w.heap.size w w'

theorem chain_d (u : Adr) (pv : Value) (cu p1 q1 p2 q2 p3 q3 : Nat) (w : World) (hg : Gd w) (hG : G5 w) (hf : Fine u) (hp : PathAt w pv u.path)
    (hA : AdrIn w cu u pv)
    (z1 : w.cell? ⟨p1, 0, none⟩ = some (.func (.func 28) #[] #[])) (z2 : w.cell? ⟨q1, 0, none⟩ = some (.func (.func 29) #[] #[]))
    (z3 : w.cell? ⟨p2, 0, none⟩ = some (.func (.func 27) #[] #[])) (z4 : w.cell? ⟨q2, 0, none⟩ = some (.func (.func 52) #[] #[.pointer (some ⟨p1, 0, none⟩), .pointer (some ⟨q1, 0, none⟩)]))
    (z5 : w.cell? ⟨p3, 0, none⟩ = some (.func (.func 53) #[] #[.pointer (some ⟨cu, 0, none⟩)])) (z6 : w.cell? ⟨q3, 0, none⟩ = some (.func (.func 52) #[] #[.pointer (some ⟨p2, 0, none⟩), .pointer (some ⟨q2, 0, none⟩)])) :
    Calls Tryz.prog 52 #[hdVal ⟨#[]⟩ ⟨#[]⟩, .pointer (some ⟨p3, 0, none⟩), .pointer (some ⟨q3, 0, none⟩)] w (ChPost u w) := by
  have hT := txtD_le u hf
  have hK := cutK_le (txtD u)
  have hD := cutD_le (txtD u)
  have hU := unK_le (cutK (txtD u))
  have c1 : ∀ w', Below w.heap.size w w' → Calls Tryz.prog 52 #[hdVal (ba (cutK (txtD u))) (ba (cutD (txtD u))), .pointer (some ⟨p1, 0, none⟩), .pointer (some ⟨q1, 0, none⟩)] w' (StPost (thenL (unO (cutK (txtD u)) (cutD (txtD u))) (comK (unK (cutK (txtD u))))) (thenL (unO (cutK (txtD u)) (cutD (txtD u))) (unB (cutK (txtD u)) (cutD (txtD u)))) (unO (cutK (txtD u)) (cutD (txtD u)) && true) w') := fun w' hb => by
    refine chain1 _ _ (unK (cutK (txtD u))) (unB (cutK (txtD u)) (cutD (txtD u))) _ _ _ true p1 q1 w' (Below.cellAt hb z1) (Below.cellAt hb z2) (fun w2 _ => ?_) (fun _ w2 _ => ?_)
    · exact unwrapped_d (ba (cutK (txtD u))) (ba (cutD (txtD u))) w2 (by rw [ba_size]; omega) (by rw [ba_size]; omega)
    · exact completed_d (ba (unK (cutK (txtD u)))) (ba (unB (cutK (txtD u)) (cutD (txtD u)))) w2 (by rw [ba_size]; omega)
  have c2 : isD u = true → ∀ w', Below w.heap.size w w' → Calls Tryz.prog 52 #[hdVal (ba (fsK u [])) (ba (fsB u)), .pointer (some ⟨p2, 0, none⟩), .pointer (some ⟨q2, 0, none⟩)] w' (StPost (thenL (cutO (txtD u)) (thenL (unO (cutK (txtD u)) (cutD (txtD u))) (comK (unK (cutK (txtD u)))))) (thenL (cutO (txtD u)) (thenL (unO (cutK (txtD u)) (cutD (txtD u))) (unB (cutK (txtD u)) (cutD (txtD u))))) (cutO (txtD u) && (unO (cutK (txtD u)) (cutD (txtD u)) && true)) w') := fun hd w' hb => by
    have e : fsB u = txtD u := by unfold fsB; rw [hd]; rfl
    rw [e]
    refine chain2 _ _ (cutK (txtD u)) (cutD (txtD u)) _ _ _ _ p2 q2 p1 q1 w' (Below.cellAt hb z3) (Below.cellAt hb z4) (fun w2 hb2 => ?_) (fun _ w2 hb2 => ?_)
    · exact cut_d (ba (fsK u [])) (ba (txtD u)) w2 ((hG.kept hb).kept hb2) (by rw [ba_size]; omega)
    · exact c1 w2 (below2 hb hb2)
  refine (chain3 ⟨#[]⟩ ⟨#[]⟩ (fsK u []) (fsB u) _ _ (isD u) _ p3 q3 cu p2 q2 w z5 z6 (fun w2 hb2 => ?_) c2).mono ?_
  · exact textOf_d u pv cu ⟨#[]⟩ ⟨#[]⟩ w2 (hA.kept hb2) (hg.kept hb2) (hp.kept hb2) hf
  · rintro e w' ⟨rfl, hb⟩
    have e : (isD u && (cutO (txtD u) && (unO (cutK (txtD u)) (cutD (txtD u)) && true))) = rdO u := by unfold rdO; rw [Bool.and_true]
    rw [e]
    refine ⟨_, _, rfl, ?_, hb⟩
    intro h
    unfold rdO at h
    simp only [Bool.and_eq_true] at h
    obtain ⟨h1, h2, h3⟩ := h
    unfold thenL rdK rdB
    rw [h1, h2, h3]
    exact ⟨rfl, rfl⟩

end Go.Proofs.YtjmkccnjjofmeaaGreatDoor
