/-
  Walks and plain facts that this claim leans on, put together out of 2 texts: Di, Ta.
-/
import Derived.Test.YtjmkccnjjofmeaaGreatDoorProg
import Derived.Test.YtjmkccnjjofmeaaGreatDoorQa1
import Derived.Test.YtjmkccnjjofmeaaGreatDoorQa2
import Derived.Test.YtjmkccnjjofmeaaGreatDoorQa3
import Derived.Test.YtjmkccnjjofmeaaGreatDoorQa4
import Derived.Test.YtjmkccnjjofmeaaGreatDoorQa5
import Derived.Test.YtjmkccnjjofmeaaGreatDoorQa6
import Derived.Test.YtjmkccnjjofmeaaGreatDoorQa7
import Derived.Test.YtjmkccnjjofmeaaGreatDoorQa8
import Derived.Test.YtjmkccnjjofmeaaGreatDoorQa9
import Derived.Test.YtjmkccnjjofmeaaGreatDoorQa10
import Derived.Test.YtjmkccnjjofmeaaGreatDoorQa11
import Derived.Test.YtjmkccnjjofmeaaGreatDoorQa12
import Derived.Test.YtjmkccnjjofmeaaGreatDoorQa13
import Derived.Test.YtjmkccnjjofmeaaGreatDoorQa14
import Derived.WalkKit
import Derived.WalkSpells
import Derived.WalkLawsBesides
import Derived.Lib.FrozenHead2
import Derived.Lib.OthersKept
import Derived.Lib.Builder
import Derived.Laws.IdiomStrings
import Derived.Laws.BytesString
import Derived.Lib.AppendStr
import Derived.Laws.BitsAllLaws
import Derived.WalkMore
import Derived.Deep.LoopGhost
import Derived.Lib.Bytealg
import Derived.Lib.Replace
import Derived.Deep.RegionWith
import Derived.Lib.Strings
import Derived.Lib.UnsafeStr
import Derived.Laws.AppendOwn
import Derived.Lib.LastIndexByte
import Derived.Lib.SlTrimSet
import Derived.Lib.Join
import Derived.Lib.IndexMore
import Derived.BigRegion
import Derived.Laws.OwnMore
import Derived.Below
import Derived.WalkSmall
import Derived.Lib.SmallJoins
import Derived.Maps.OwnSet
import Derived.Maps.OwnOps
import Derived.Maps.AppendAt
import Derived.StringKeys
import Derived.Lib.TrimByte
import Derived.Lib.IndexAny
import Derived.Deep.WholeRow
import Derived.Laws.RangeAny
import Derived.Lib.DecodeN
import Derived.RegionTactic
import Derived.Deep.QuietTactic
import Derived.BigQuiet
import Derived.Lib.BufferRead
import Derived.Lib.RuneBytes
import Derived.OwnWalk
import Derived.Shelf.Strings.Builder1
import Derived.Shelf.Strings.Builder2
import Derived.Shelf.Strings.OnBuilder
import Derived.Shelf.Strings.Trim
import Derived.Shelf.Small.Utf8
import Derived.Shelf.Small.Strs
import Derived.Shelf.Small.Wraps
import Derived.Shelf.Strings.BuilderF
import Derived.Shelf.Strings.BuilderK
import Derived.Shelf.Strings.Builder2Cap
import Derived.Shelf.Strconv.Itoa0
import Derived.Shelf.Strconv.Itoa1
import Derived.Shelf.LaysM
import Derived.Shelf.Strconv.Itoa2
import Derived.Shelf.Strconv.Itoa3
import Derived.Shelf.Strings.Search1
import Derived.Shelf.Strings.Search2
import Derived.Shelf.Strings.Search3
import Derived.Shelf.Strings.Cut
import Derived.Shelf.Strings.Count
import Derived.Shelf.Strings.Shaped
import Derived.Shelf.Strings.Prefix
import Derived.Shelf.Strings.Split
import Derived.Shelf.Strings.Replace
import Derived.Shelf.Strings.Runes
import Derived.Shelf.Strings.IndexAny
import Derived.Shelf.Strings.AsciiSet
import Derived.Shelf.Strings.IndexAnyAll
import Derived.Shelf.Unicode.DecodeSlow
import Derived.Deep.MidRow
import Derived.Lib.ItoaNum
import Derived.Deep.RegionHeldLaw
import Derived.Lib.BufferMore
import Derived.Lib.AppendIntMem
import Derived.Deep.RegionHeld
import Derived.Laws.CopyOwn
import Derived.Laws.ResultCell
import Derived.Deep.RegionLaw
import Derived.Scope
import Derived.ScopeJumps
import Derived.Shelf.Strings.SlTrimAscii
import Derived.LoopN
import Derived.Laws.Runes
set_option linter.unusedSimpArgs false
set_option linter.unusedVariables false

namespace Go.Proofs.YtjmkccnjjofmeaaGreatDoor
open Go.RowKit

/-- A new slice of bytes that were a text's. -/
def NewB (base : Nat) (w : World) (v : Value) (l : List UInt8) : Prop :=
  ∃ g cap, v = .slice (some ⟨g, 0, none⟩) l.length cap ∧ base ≤ g ∧ l.length ≤ cap ∧ cap ≤ maxLen ∧ w.heap[g]? = some (.cells (bytesRow (ba l) cap) 5 ((bytesRow (ba l) cap).size, (bytesRow (ba l) cap).size + 1))

theorem NewB.kept {B : Nat} {w w' : World} {v : Value} {l : List UInt8} (h : NewB B w v l) (hb : Below w.heap.size w w') : NewB B w' v l := by
  obtain ⟨g, cap, hv, hg, h1, h2, h3⟩ := h
  exact ⟨g, cap, hv, hg, h1, h2, (hb.block g (Array.getElem?_eq_some_iff.1 h3).1).trans h3⟩

theorem NewB.sl {B : Nat} {w : World} {v : Value} {l : List UInt8} (h : NewB B w v l) : SlB w v l := by
  obtain ⟨g, cap, rfl, hg, h1, h2, h3⟩ := h
  refine .inr ⟨_, _, rfl, fun j hj => ?_⟩
  rw [Addr.add_lit, Lib.cell_of_heap h3, Nat.zero_add, bytesRow_at (ba l) cap j (by simpa [ba] using hj)]
  simp [ba]

theorem b64_len {b l : List UInt8} (h : b64 b = some l) : l.length ≤ b.length := by
  unfold b64 at h
  have h1 : (noBlanks b).length ≤ b.length := by unfold noBlanks; exact List.length_filter_le _ _
  have h2 : (noPadding (noBlanks b)).length ≤ (noBlanks b).length := by
    unfold noPadding
    split
    · exact Nat.le_trans (trimS_le _ _) (trimS_le _ _)
    · exact Nat.le_refl _
  have h3 := run64_len (noPadding (noBlanks b))
  split at h
  · cases h
  · split at h
    · injection h with h
      subst h
      omega
    · cases h

theorem unB_le (k b : List UInt8) : (unB k b).length ≤ b.length := by
  unfold unB; split
  · cases h : b64 b with
    | none => simp
    | some l => exact b64_len h
  · exact Nat.le_refl _

theorem rdB_le (u : Adr) (hf : Fine u) : (rdB u).length ≤ 8000000 := Nat.le_trans (unB_le _ _) (Nat.le_trans (cutD_le _) (txtD_le u hf))

/-- What Read answers. -/
def RdPost (u : Adr) (w : World) (e : Ending) (w' : World) : Prop :=
  Below w.heap.size w w' ∧
  ((rdO u = false ∧ e = .returned (.tuple #[knVal ⟨#[]⟩ ⟨#[]⟩ (.slice none 0 0), .slice none 0 0, .bool false])) ∨
   (rdO u = true ∧ ∃ v s, e = .returned (.tuple #[knVal (ba (typV (rdK u)).major) (ba (typV (rdK u)).minor) v, s, .bool true]) ∧ w'.ownsRow w.heap.size 43 2 v (typV (rdK u)).params.length (cellsH (typV (rdK u)).params) ∧ NewB w.heap.size w' s (rdB u)))

theorem results_k3 {fn : Func} {p q r : Tmp} (h : fn.results = #[.cell p 26, .tmp q, .tmp r]) (tmps : Array Value) (w : World) (b : Nat) (x y : ByteArray) (v : Value) (hp : tmps.getD p undef = .pointer (some ⟨b, 0, none⟩)) (hc : w.rangeAt b 0 [.string x, .string y, v]) : (results fn tmps).run Tryz.prog w = .ok (.tuple #[knVal x y v, tmps.getD q undef, tmps.getD r undef]) w := by
  rw [Array.getD_eq_getD_getElem?] at hp
  simp only [results, h]
  simp [Sem.run_bind, Result.andThen, hp, asAddr, run_loadVar_mid w b 0 26 [.string x, .string y, v] _ hc Tryz.underlying26 rfl (by kernel_rfl), knVal]

/-- A kind stored where it will be answered. -/
abbrev putK (wy : World) (t : Nat) (M N : ByteArray) (V : Value) : World := ((wy.setCell ⟨t, 0, none⟩ (.string M)).setCell ⟨t, 1, none⟩ (.string N)).setCell ⟨t, 2, none⟩ V

theorem putK_facts {w wy : World} {t B n : Nat} {M N a m : ByteArray} {V v : Value} {xs : List Value} (hwt : w.heap.size ≤ t) (htr : Tri wy t a m v) (hb : Below w.heap.size w wy) (hown : wy.ownsRow B 43 2 V n xs) (hB : t < B) :
    Tri (putK wy t M N V) t M N V ∧ Below w.heap.size w (putK wy t M N V) ∧ (putK wy t M N V).ownsRow w.heap.size 43 2 V n xs ∧ (∀ g, g ≠ t → (putK wy t M N V).heap[g]? = wy.heap[g]?) ∧ (putK wy t M N V).heap.size = wy.heap.size := by
  have hne : V.ownBlock ≠ some t := fun e => by have := (hown.lt t e).1; omega
  refine ⟨htr.set, ?_, ?_, fun g hg => ?_, by simp⟩
  · exact ((hb.setCell (p := ⟨t, 0, none⟩) hwt _).setCell (p := ⟨t, 1, none⟩) hwt _).setCell (p := ⟨t, 2, none⟩) hwt _
  · exact own_base (own_apD (own_apD (own_apD hown hne) hne) hne) (by omega)
  · rw [heap_setCell_other _ _ _ _ hg, heap_setCell_other _ _ _ _ hg, heap_setCell_other _ _ _ _ hg]

theorem read_fin {w wy : World} {t B n cap : Nat} {M N a m BB : ByteArray} {V v : Value} {xs : List Value} (hwt : w.heap.size ≤ t) (htr : Tri wy t a m v) (hb : Below w.heap.size w wy) (hown : wy.ownsRow B 43 2 V n xs) (hB : t < B) (h1 : BB.size ≤ cap) (h2 : cap ≤ maxLen) :
    let F := ((putK wy t M N V).alloc (.cells (bytesRow BB cap) 5 ((bytesRow BB cap).size, (bytesRow BB cap).size + 1))).drew
    F.rangeAt t 0 [.string M, .string N, V] ∧ Below w.heap.size w F ∧ F.ownsRow w.heap.size 43 2 V n xs ∧ NewB w.heap.size F (.slice (some ⟨wy.heap.size, 0, none⟩) BB.size cap) BB.data.toList := by
  obtain ⟨k1, k2, k3, k4, k5⟩ := putK_facts (M := M) (N := N) hwt htr hb hown hB
  have hbF : Below (putK wy t M N V).heap.size (putK wy t M N V) ((putK wy t M N V).alloc (.cells (bytesRow BB cap) 5 ((bytesRow BB cap).size, (bytesRow BB cap).size + 1))).drew := ((Below.refl _ _).alloc (Nat.le_refl _) _).drew
  intro F
  refine ⟨(k1.kept hbF).range, below2 k2 hbF, ownsRow_same k3 fun g hg => hbF.block g (k3.lt g hg).2, wy.heap.size, cap, by rw [← Lib.size_eq], hb.size, by rw [← Lib.size_eq]; exact h1, h2, ?_⟩
  rw [mba_self]
  have := heap_alloc_new (putK wy t M N V) (.cells (bytesRow BB cap) 5 ((bytesRow BB cap).size, (bytesRow BB cap).size + 1))
  rw [k5] at this
  exact this

theorem read_fin2 {w wy : World} {t B n cap g0 : Nat} {M N a m BB : ByteArray} {V v : Value} {xs : List Value} (hwt : w.heap.size ≤ t) (htr : Tri wy t a m v) (hb : Below w.heap.size w wy) (hown : wy.ownsRow B 43 2 V n xs) (hB : t < B) (h1 : BB.size ≤ cap) (h2 : cap ≤ maxLen)
    (hg : t < g0) (hrow : wy.heap[g0]? = some (.cells (bytesRow BB cap) 5 ((bytesRow BB cap).size, (bytesRow BB cap).size + 1))) :
    (putK wy t M N V).rangeAt t 0 [.string M, .string N, V] ∧ Below w.heap.size w (putK wy t M N V) ∧ (putK wy t M N V).ownsRow w.heap.size 43 2 V n xs ∧ NewB w.heap.size (putK wy t M N V) (.slice (some ⟨g0, 0, none⟩) BB.size cap) BB.data.toList := by
  obtain ⟨k1, k2, k3, k4, k5⟩ := putK_facts (M := M) (N := N) hwt htr hb hown hB
  refine ⟨k1.range, k2, k3, g0, cap, by rw [← Lib.size_eq], by omega, by rw [← Lib.size_eq]; exact h1, h2, ?_⟩
  rw [mba_self, k4 g0 (by omega)]
  exact hrow

set_option maxHeartbeats 4000000 in
set_option maxRecDepth 100000 in
theorem read_d (u : Adr) (pv : Value) (w : World) (hg : Gd w) (hG : G5 w) (hf : Fine u) (hp : PathAt w pv u.path) :
    Calls Tryz.prog 13 #[adrVal u pv] w (RdPost u w) := by
  have hsl : IsSl pv := by
    rcases hp with ⟨rfl, _⟩ | ⟨b, cap, rfl, _⟩
    · exact ⟨_, _, _, rfl⟩
    · exact ⟨_, _, _, rfl⟩
  have HTx := hid (fun w => textOf_e u pv hsl w)
  have HCh := hid (fun (cu p1 q1 p2 q2 p3 q3 : Nat) (w : World) (hg : Gd w) (hG : G5 w) (hp : PathAt w pv u.path) => chain_d u pv cu p1 q1 p2 q2 p3 q3 w hg hG hf hp)
  obtain ⟨a0, n0, c0, rfl⟩ := hsl
  obtain ⟨x0, x1, x2, x3, x4, x5, x6, x8, x9, x10, x11, hx⟩ : ∃ x0 x1 x2 x3 x4 x5 x6 x8 x9 x10 x11, adrCells u (.slice a0 n0 c0) = [x0, x1, x2, x3, x4, x5, x6, .slice a0 n0 c0, x8, x9, x10, x11] := ⟨_, _, _, _, _, _, _, _, _, _, _, rfl⟩
  have hva : adrVal u (.slice a0 n0 c0) = .agg #[x0, x1, x2, x3, x4, x5, x6, .slice a0 n0 c0, x8, x9, x10, x11] := by unfold adrVal; rw [hx]
  have hX : AdrIn (w.alloc (.cells #[x0, x1, x2, x3, x4, x5, x6, .slice a0 n0 c0, x8, x9, x10, x11] 32)) w.heap.size u (.slice a0 n0 c0) := by
    have := heap_alloc_new w (.cells #[x0, x1, x2, x3, x4, x5, x6, .slice a0 n0 c0, x8, x9, x10, x11] 32)
    unfold AdrIn
    rw [hx]
    exact this
  have hb1 : Below w.heap.size w (w.alloc (.cells #[x0, x1, x2, x3, x4, x5, x6, .slice a0 n0 c0, x8, x9, x10, x11] 32)) := (Below.refl _ w).alloc (Nat.le_refl _) _
  obtain ⟨W1, hW1⟩ : ∃ W, W = w.alloc (.cells #[x0, x1, x2, x3, x4, x5, x6, .slice a0 n0 c0, x8, x9, x10, x11] 32) := ⟨_, rfl⟩
  have hz1 : W1.heap.size = w.heap.size + 1 := by rw [hW1]; simp
  rw [← hW1] at hX hb1
  have hb2 : Below W1.heap.size W1 (W1.alloc (.cells #[.string ⟨#[]⟩, .string ⟨#[]⟩, .slice none 0 0] 26)) := (Below.refl _ _).alloc (Nat.le_refl _) _
  have hT : Tri (W1.alloc (.cells #[.string ⟨#[]⟩, .string ⟨#[]⟩, .slice none 0 0] 26)) (w.heap.size + 1) ⟨#[]⟩ ⟨#[]⟩ (.slice none 0 0) := by
    have := heap_alloc_new W1 (.cells #[.string ⟨#[]⟩, .string ⟨#[]⟩, .slice none 0 0] 26)
    rw [hz1] at this
    exact this
  have hb3 := below2 hb1 hb2
  have hcs := adr_cells (hX.kept hb2)
  rw [hx] at hcs
  rw [hW1] at hcs hT hb3
  have y0 := hcs 0 _ rfl
  have y1 := hcs 1 _ rfl
  have y2 := hcs 2 _ rfl
  have y3 := hcs 3 _ rfl
  have y4 := hcs 4 _ rfl
  have y5 := hcs 5 _ rfl
  have y6 := hcs 6 _ rfl
  have y7 := hcs 7 _ rfl
  have y8 := hcs 8 _ rfl
  have y9 := hcs 9 _ rfl
  have y10 := hcs 10 _ rfl
  have y11 := hcs 11 _ rfl
  have HT := hid hT
  have HB := hid hb3
  have HG := hid hG
  have Hg := hid hg
  have HP := hid hp
  rw [hva] at HTx
  rw [hva]
  clear hcs hT hb3 hb2 hb1 hX hz1 hW1 hx hva hg hG hp W1
  go_enter Tryz.func13, Tryz.ntmps13
  go_wp2_with fail
  refine (HTx.out _).mono ?_
  rintro e w1 ⟨cu, rfl, hA, hb1⟩
  have HA1 := hid hA
  have HB1 := hid (below2 HB.out hb1)
  have HT1 := hid (HT.out.kept hb1)
  clear hA hb1 y0 y1 y2 y3 y4 y5 y6 y7 y8 y9 y10 y11
  go_wp2_with fail
  refine (then_e _ _ _ _ _ _ _).mono ?_
  rintro e w2 ⟨p1, q1, rfl, z1, z2, hb2⟩
  have HZ1 := hid z1
  have HZ2 := hid z2
  have HB2 := hid (below2 HB1.out hb2)
  have HA2 := hid (HA1.out.kept hb2)
  have HT2 := hid (HT1.out.kept hb2)
  clear hb2 z1 z2
  go_wp2_with fail
  refine (then_e _ _ _ _ _ _ _).mono ?_
  rintro e w3 ⟨p2, q2, rfl, z3, z4, hb3⟩
  have HZ3 := hid z3
  have HZ4 := hid z4
  have HZ1 := hid (Below.cellAt hb3 HZ1.out)
  have HZ2 := hid (Below.cellAt hb3 HZ2.out)
  have HB3 := hid (below2 HB2.out hb3)
  have HA3 := hid (HA2.out.kept hb3)
  have HT3 := hid (HT2.out.kept hb3)
  clear hb3 z3 z4
  go_wp2_with fail
  refine (then_e _ _ _ _ _ _ _).mono ?_
  rintro e w4 ⟨p3, q3, rfl, z5, z6, hb4⟩
  have HZ5 := hid z5
  have HZ6 := hid z6
  have HZ1 := hid (Below.cellAt hb4 HZ1.out)
  have HZ2 := hid (Below.cellAt hb4 HZ2.out)
  have HZ3 := hid (Below.cellAt hb4 HZ3.out)
  have HZ4 := hid (Below.cellAt hb4 HZ4.out)
  have HB4 := hid (below2 HB3.out hb4)
  have HA4 := hid (HA3.out.kept hb4)
  have HT4 := hid (HT3.out.kept hb4)
  clear hb4 z5 z6
  go_wp2_with fail
  refine (HCh.out cu p1 q1 p2 q2 p3 q3 w4 (Hg.out.kept HB4.out) (HG.out.kept HB4.out) (HP.out.kept HB4.out) HA4.out HZ1.out HZ2.out HZ3.out HZ4.out HZ5.out HZ6.out).mono ?_
  rintro e w5 ⟨K, B, rfl, hkb, hb5⟩
  unfold hdVal
  have HB5 := hid (below2 HB4.out hb5)
  have HT5 := hid (HT4.out.kept hb5)
  have HLt := hid HT5.out.lt
  have h6 : TwoD (w5.alloc (pObj (ba K) (ba B))) w5.heap.size (ba K) (ba B) := heap_alloc_new _ _
  have hb6 : Below w5.heap.size w5 (w5.alloc (pObj (ba K) (ba B))) := (Below.refl _ _).alloc (Nat.le_refl _) _
  have ht6 := HT5.out.kept hb6
  have HB6 := hid (below2 HB5.out hb6)
  obtain ⟨t0, t1, t2⟩ := ht6.cells
  have f0 := ht6.frozen 0
  have f1 := ht6.frozen 1
  have f2 := ht6.frozen 2
  obtain ⟨d0, d1, g0, g1⟩ := h6.cells
  have H6 := hid h6
  have HT6 := hid ht6
  clear h6 hb6 ht6 hb5 HT HT1 HT2 HT3 HT4 HT5 HB HB1 HB2 HB3 HB4 HA1 HA2 HA3 HA4 HZ1 HZ2 HZ3 HZ4 HZ5 HZ6 HCh
  obtain ⟨ok, hok⟩ : ∃ b, rdO u = b := ⟨_, rfl⟩
  rw [hok]
  cases ok with
  | false =>
    have HO := hid hok
    clear hok hkb
    go_wp2_with fail
    refine bodyPost_ret (results_k3 rfl _ _ (w.heap.size + 1) ⟨#[]⟩ ⟨#[]⟩ (.slice none 0 0) rfl HT6.out.set.range) rfl ⟨?_, .inl ⟨HO.out, rfl⟩⟩
    exact ((HB6.out.setCell (p := ⟨w.heap.size + 1, 0, none⟩) (Nat.le_succ _) _).setCell (p := ⟨w.heap.size + 1, 1, none⟩) (Nat.le_succ _) _).setCell (p := ⟨w.heap.size + 1, 2, none⟩) (Nat.le_succ _) _
  | true =>
    obtain ⟨rfl, rfl⟩ := hkb hok
    have HO := hid hok
    have hk := txtD_le u hf
    have hk2 := cutK_le (txtD u)
    have hk3 := unK_le (cutK (txtD u))
    have hk4 := comK_le (unK (cutK (txtD u)))
    have HTy := hid (fun X hG => typeOf_d (ba (rdK u)) X hG (by rw [ba_size]; unfold rdK; omega))
    have hrb := rdB_le u hf
    clear hok hkb hk hk2 hk3 hk4 hf
    obtain ⟨KB, hKB⟩ : ∃ X, ba (rdK u) = X := ⟨_, rfl⟩
    obtain ⟨BB, hBB⟩ : ∃ X, ba (rdB u) = X := ⟨_, rfl⟩
    have HKl := hid (show rdK u = KB.data.toList by rw [← hKB]; rfl)
    have HBl := hid (show rdB u = BB.data.toList by rw [← hBB]; rfl)
    have HBs := hid (show BB.size ≤ maxLen by rw [← hBB, ba_size]; exact Nat.le_trans hrb (by decide))
    have HL5 := hid (show w.heap.size + 1 < w5.heap.size from HLt.out)
    rw [hKB] at HTy
    rw [hKB, hBB] at HT6 HB6 H6 t0 t1 t2 f0 f1 f2 d0 d1 g0 g1 ⊢
    have hlt : w.heap.size + 1 < w5.heap.size := HLt.out
    have HNe := hid (show w5.heap.size ≠ w.heap.size + 1 by omega)
    have HNe' := hid (show w.heap.size + 1 ≠ w5.heap.size by omega)
    have HG6 := hid (HG.out.kept HB6.out)
    obtain ⟨W6, hW6⟩ : ∃ W, w5.alloc (pObj KB BB) = W := ⟨_, rfl⟩
    have HW := hid hW6
    rw [hW6] at HT6 HB6 H6 d0 d1 HG6
    have HY : Hid (∀ Y : World, Below W6.heap.size W6 Y → (Y.cell? ⟨w5.heap.size, 0, none⟩ = some (.string KB) ∧ Y.cell? ⟨w5.heap.size, 1, none⟩ = some (.string BB)) ∧ Tri Y (w.heap.size + 1) ⟨#[]⟩ ⟨#[]⟩ (.slice none 0 0) ∧ Below w.heap.size w Y ∧ w.heap.size + 1 < Y.heap.size ∧ G5 Y) := fun Y hY => by
      have hc := (H6.out.kept hY).cells
      exact ⟨⟨hc.1, hc.2.1⟩, HT6.out.kept hY, below2 HB6.out hY, (HT6.out.kept hY).lt, HG6.out.kept hY⟩
    have HQ0 : Hid (Below W6.heap.size W6 W6.drew) := (Below.refl _ _).drew
    have HQ1 : Hid (∀ o, Below W6.heap.size W6 (W6.drew.drew.alloc o)) := fun o => (Below.refl _ _).drew.drew.alloc (Nat.le_refl _) _
    have HKp : Hid (∀ (X : World) (o : Obj), (X.cell? ⟨w5.heap.size, 0, none⟩ = some (.string KB) ∧ X.cell? ⟨w5.heap.size, 1, none⟩ = some (.string BB)) → ((X.alloc o).drew.cell? ⟨w5.heap.size, 0, none⟩ = some (.string KB) ∧ (X.alloc o).drew.cell? ⟨w5.heap.size, 1, none⟩ = some (.string BB))) := fun X o h => ⟨Below.cellAt ((Below.refl _ X).alloc (Nat.le_refl _) o).drew h.1, Below.cellAt ((Below.refl _ X).alloc (Nat.le_refl _) o).drew h.2⟩
    have HKd : Hid (∀ (X : World) (o : Obj), (X.cell? ⟨w5.heap.size, 0, none⟩ = some (.string KB) ∧ X.cell? ⟨w5.heap.size, 1, none⟩ = some (.string BB)) → ((X.alloc o).drew.drew.cell? ⟨w5.heap.size, 0, none⟩ = some (.string KB) ∧ (X.alloc o).drew.drew.cell? ⟨w5.heap.size, 1, none⟩ = some (.string BB))) := fun X o h => ⟨Below.cellAt ((Below.refl _ X).alloc (Nat.le_refl _) o).drew.drew h.1, Below.cellAt ((Below.refl _ X).alloc (Nat.le_refl _) o).drew.drew h.2⟩
    have HKs : Hid (∀ (X : World) (x0 x1 x2 : Value), (X.cell? ⟨w5.heap.size, 0, none⟩ = some (.string KB) ∧ X.cell? ⟨w5.heap.size, 1, none⟩ = some (.string BB)) → ((((X.setCell ⟨w.heap.size + 1, 0, none⟩ x0).setCell ⟨w.heap.size + 1, 1, none⟩ x1).setCell ⟨w.heap.size + 1, 2, none⟩ x2).cell? ⟨w5.heap.size, 0, none⟩ = some (.string KB) ∧ (((X.setCell ⟨w.heap.size + 1, 0, none⟩ x0).setCell ⟨w.heap.size + 1, 1, none⟩ x1).setCell ⟨w.heap.size + 1, 2, none⟩ x2).cell? ⟨w5.heap.size, 1, none⟩ = some (.string BB))) := fun X x0 x1 x2 h => by
      refine ⟨?_, ?_⟩
      · rw [World.cell?_setCell_far _ _ _ _ HNe'.out, World.cell?_setCell_far _ _ _ _ HNe'.out, World.cell?_setCell_far _ _ _ _ HNe'.out]; exact h.1
      · rw [World.cell?_setCell_far _ _ _ _ HNe'.out, World.cell?_setCell_far _ _ _ _ HNe'.out, World.cell?_setCell_far _ _ _ _ HNe'.out]; exact h.2
    have HQ2 : Hid (∀ o, Below W6.heap.size W6 ((W6.alloc o).drew.drew)) := fun o => ((Below.refl _ _).alloc (Nat.le_refl _) _).drew.drew
    have HQ3 : Hid (∀ o, Below W6.heap.size W6 ((W6.alloc o).drew)) := fun o => ((Below.refl _ _).alloc (Nat.le_refl _) _).drew
    have hcv : ∀ X : World, (convert 9 27 (.string BB)).run Tryz.prog X = .ok (.slice (some ⟨X.heap.size, 0, none⟩) BB.size (grownCap X BB.size 0 5)) (X.drew.alloc (.cells (bytesRow BB (grownCap X BB.size 0 5)) 5 ((bytesRow BB (grownCap X BB.size 0 5)).size, (bytesRow BB (grownCap X BB.size 0 5)).size + 1))) := fun X =>
      run_bytes_of_string (P := Tryz.prog) X 9 27 5 BB Tryz.underlying9 Tryz.underlying27 Tryz.underlying5
    have HS6 := hid (show w5.heap.size + 1 = W6.heap.size by rw [← hW6]; simp)
    clear t0 t1 t2 f0 f1 f2 g0 g1 d0 d1 hlt hW6 hrb
    go_wp2_with fail
    rw [HW.out]
    go_region_held_law (fun wx => wx.cell? ⟨w5.heap.size, 0, none⟩ = some (.string KB) ∧ wx.cell? ⟨w5.heap.size, 1, none⟩ = some (.string BB))
      (first
        | with_reducible exact (HY.out _ HQ0.out).1
        | with_reducible exact (HY.out _ (HQ2.out _)).1
        | with_reducible exact (HY.out _ (by assumption)).1
        | with_reducible exact HKp.out _ _ (by first | assumption | exact ⟨by assumption, by assumption⟩)
        | with_reducible exact HKd.out _ _ (by first | assumption | exact ⟨by assumption, by assumption⟩)
        | with_reducible exact HKs.out _ _ _ _ (by first | assumption | exact ⟨by assumption, by assumption⟩)
        | with_reducible exact HKp.out _ _ (HKs.out _ _ _ _ (by first | assumption | exact ⟨by assumption, by assumption⟩))
        | with_reducible exact HKs.out _ _ _ _ (HKp.out _ _ (by first | assumption | exact ⟨by assumption, by assumption⟩)))
      (first
        | (go_at_call 30; refine (HTy.out _ (by first | with_reducible exact (HY.out _ HQ0.out).2.2.2.2 | with_reducible exact (HY.out _ (HQ2.out _)).2.2.2.2)).mono ?_; rintro e wy ⟨v, rfl, hown, hby⟩; have hbY : Below W6.heap.size W6 wy := (by first | with_reducible exact below2 HQ0.out hby | with_reducible exact below2 (HQ2.out _) hby); obtain ⟨⟨s0, s1⟩, htr, hbw, hlt, hgy⟩ := HY.out wy hbY; obtain ⟨t0, t1, t2⟩ := htr.cells; have f0 := htr.frozen 0; have f1 := htr.frozen 1; have f2 := htr.frozen 2; have HTR := hid htr; have HOW := hid hown; have HBW := hid hbw; have HLT := hid hlt; have HBY := hid hby; unfold knVal; obtain ⟨vx, vn, vc, rfl⟩ := own_slice hown; clear htr hown hbw hgy hby))
    all_goals
      (try dsimp only at *)
      go_wp2_with fail
    · have hB : w.heap.size + 1 < W6.drew.heap.size := by have h1 := HL5.out; have h2 := HS6.out; show _ < W6.heap.size; omega
      obtain ⟨r1, r2, r3, r4⟩ := read_fin (M := ba (typV KB.data.toList).major) (N := ba (typV KB.data.toList).minor) (Nat.le_succ _) HTR.out HBW.out HOW.out hB (grownCap_ge wy BB.size 0 5) (grownCap_le_maxLen wy BB.size 0 5 HBs.out)
      refine bodyPost_ret (results_k3 rfl _ _ (w.heap.size + 1) (ba (typV KB.data.toList).major) (ba (typV KB.data.toList).minor) (.slice vx vn vc) rfl r1) rfl ?_
      refine ⟨r2, .inr ⟨HO.out, .slice vx vn vc, .slice (some ⟨wy.heap.size, 0, none⟩) BB.size (grownCap wy BB.size 0 5), ?_, ?_, ?_⟩⟩
      · rw [HKl.out]; rfl
      · rw [HKl.out]; exact r3
      · rw [HBl.out]; exact r4
    · have hB : w.heap.size + 1 < W6.drew.heap.size := by have h1 := HL5.out; have h2 := HS6.out; show _ < W6.heap.size; omega
      obtain ⟨c9, hc9⟩ : ∃ c, c = grownCap (putK wy (w.heap.size + 1) (ba (typV KB.data.toList).major) (ba (typV KB.data.toList).minor) (.slice vx vn vc)) BB.size 0 5 := ⟨_, rfl⟩
      have k1 : BB.size ≤ c9 := by rw [hc9]; exact grownCap_ge _ BB.size 0 5
      have k2 : c9 ≤ maxLen := by rw [hc9]; exact grownCap_le_maxLen _ BB.size 0 5 HBs.out
      obtain ⟨r1, r2, r3, r4⟩ := read_fin (M := ba (typV KB.data.toList).major) (N := ba (typV KB.data.toList).minor) (Nat.le_succ _) HTR.out HBW.out HOW.out hB k1 k2
      rw [← hc9]
      refine bodyPost_ret (results_k3 rfl _ _ (w.heap.size + 1) (ba (typV KB.data.toList).major) (ba (typV KB.data.toList).minor) (.slice vx vn vc) rfl r1) rfl ?_
      refine ⟨r2, .inr ⟨HO.out, .slice vx vn vc, .slice (some ⟨wy.heap.size, 0, none⟩) BB.size c9, ?_, ?_, ?_⟩⟩
      · rw [HKl.out]; rfl
      · rw [HKl.out]; exact r3
      · rw [HBl.out]; exact r4
    · obtain ⟨c9, hc9⟩ : ∃ c, c = grownCap W6.drew BB.size 0 5 := ⟨_, rfl⟩
      have k1 : BB.size ≤ c9 := by rw [hc9]; exact grownCap_ge _ BB.size 0 5
      have k2 : c9 ≤ maxLen := by rw [hc9]; exact grownCap_le_maxLen _ BB.size 0 5 HBs.out
      rw [← hc9] at HOW HBY ⊢
      have hg6 : w.heap.size + 1 < W6.heap.size := by have h1 := HL5.out; have h2 := HS6.out; omega
      have hrow0 : ((W6.alloc (.cells (bytesRow BB c9) 5 ((bytesRow BB c9).size, (bytesRow BB c9).size + 1))).drew.drew).heap[W6.heap.size]? = some (.cells (bytesRow BB c9) 5 ((bytesRow BB c9).size, (bytesRow BB c9).size + 1)) := heap_alloc_new W6 _
      have hz : ((W6.alloc (.cells (bytesRow BB c9) 5 ((bytesRow BB c9).size, (bytesRow BB c9).size + 1))).drew.drew).heap.size = W6.heap.size + 1 := by simp
      have hrow : wy.heap[W6.heap.size]? = some (.cells (bytesRow BB c9) 5 ((bytesRow BB c9).size, (bytesRow BB c9).size + 1)) := (HBY.out.block W6.heap.size (by omega)).trans hrow0
      have hB : w.heap.size + 1 < ((W6.alloc (.cells (bytesRow BB c9) 5 ((bytesRow BB c9).size, (bytesRow BB c9).size + 1))).drew.drew).heap.size := by omega
      obtain ⟨r1, r2, r3, r4⟩ := read_fin2 (M := ba (typV KB.data.toList).major) (N := ba (typV KB.data.toList).minor) (Nat.le_succ _) HTR.out HBW.out HOW.out hB k1 k2 hg6 hrow
      refine bodyPost_ret (results_k3 rfl _ _ (w.heap.size + 1) (ba (typV KB.data.toList).major) (ba (typV KB.data.toList).minor) (.slice vx vn vc) rfl r1) rfl ?_
      refine ⟨r2, .inr ⟨HO.out, .slice vx vn vc, .slice (some ⟨W6.heap.size, 0, none⟩) BB.size c9, ?_, ?_, ?_⟩⟩
      · rw [HKl.out]; rfl
      · rw [HKl.out]; exact r3
      · rw [HBl.out]; exact r4

end Go.Proofs.YtjmkccnjjofmeaaGreatDoor

namespace Go.Proofs.YtjmkccnjjofmeaaGreatDoor
open Go.RowKit

theorem inSet_outer (c set : Int) (h : ¬ (1 ≤ set ∧ set ≤ 6)) : inSetI c set = false := by
  have : ¬ inSetP c set := fun h' => h h'.1
  simp [inSetI, this]

set_option maxHeartbeats 1000000 in
theorem rin_2 (c : Int) (w : World) :
    Calls Tryz.prog 111 #[.int .u8 c, .int .i64 2] w fun e w' => e = .returned (.bool (inSetI c 2)) ∧ w = w' := by
  have HF := hid (setL_in c 2 (by omega))
  have hc : c < 32 ∨ (32 ≤ c ∧ 126 < c) ∨ (32 ≤ c ∧ c ≤ 126) := by omega
  rcases hc with hc | ⟨hc1, hc2⟩ | ⟨hc1, hc2⟩
  all_goals
    go_enter Tryz.func111, Tryz.ntmps111
    go_wp2
    generalize hT : ByteArray.mk #[32, 34, 60, 62, 96] = t
    have hts : t.size ≤ 19 := by rw [← hT]; decide
    have HA : Hid (inTo c t.data.toList t.size = inSetI c 2) := hid ((inTo_all c t).trans (by rw [← hT]; exact HF.out))
    clear hT HF
    go_loop [5, 7] (fun o j => ∃ m : Nat, m ≤ t.size ∧ j = .int .i64 m ∧ o = .bool (inTo c t.data.toList m)) (fun _ j => t.size - (intOf j).toNat)
    case atStart => exact ⟨0, by omega, rfl, by rw [inTo_zero] <;> (try congr 1) <;> (try simp) <;> omega⟩
    case round =>
      obtain ⟨m, hm, rfl, rfl⟩ := hrel
      by_cases hlt : m < t.size
      · have HS := hid (inTo_succ c t m hlt)
        have hot : inTo c t.data.toList m = true ∨ inTo c t.data.toList m = false := by cases inTo c t.data.toList m <;> simp
        rcases hot with hot | hot
        all_goals
          go_wp2
          go_round
          case rel => exact ⟨m + 1, by omega, by go_num, by rw [HS.out, hot]; simp⟩
          case measure => simp [intOf]; omega
      · obtain rfl : m = t.size := by omega
        go_wp2
        go_ret
        exact ⟨ret_bool HA.out, rfl⟩

set_option maxHeartbeats 1000000 in
theorem rin_3 (c : Int) (w : World) :
    Calls Tryz.prog 111 #[.int .u8 c, .int .i64 3] w fun e w' => e = .returned (.bool (inSetI c 3)) ∧ w = w' := by
  have HF := hid (setL_in c 3 (by omega))
  have hc : c < 32 ∨ (32 ≤ c ∧ 126 < c) ∨ (32 ≤ c ∧ c ≤ 126) := by omega
  rcases hc with hc | ⟨hc1, hc2⟩ | ⟨hc1, hc2⟩
  all_goals
    go_enter Tryz.func111, Tryz.ntmps111
    go_wp2
    generalize hT : ByteArray.mk #[32, 34, 35, 60, 62] = t
    have hts : t.size ≤ 19 := by rw [← hT]; decide
    have HA : Hid (inTo c t.data.toList t.size = inSetI c 3) := hid ((inTo_all c t).trans (by rw [← hT]; exact HF.out))
    clear hT HF
    go_loop [5, 7] (fun o j => ∃ m : Nat, m ≤ t.size ∧ j = .int .i64 m ∧ o = .bool (inTo c t.data.toList m)) (fun _ j => t.size - (intOf j).toNat)
    case atStart => exact ⟨0, by omega, rfl, by rw [inTo_zero] <;> (try congr 1) <;> (try simp) <;> omega⟩
    case round =>
      obtain ⟨m, hm, rfl, rfl⟩ := hrel
      by_cases hlt : m < t.size
      · have HS := hid (inTo_succ c t m hlt)
        have hot : inTo c t.data.toList m = true ∨ inTo c t.data.toList m = false := by cases inTo c t.data.toList m <;> simp
        rcases hot with hot | hot
        all_goals
          go_wp2
          go_round
          case rel => exact ⟨m + 1, by omega, by go_num, by rw [HS.out, hot]; simp⟩
          case measure => simp [intOf]; omega
      · obtain rfl : m = t.size := by omega
        go_wp2
        go_ret
        exact ⟨ret_bool HA.out, rfl⟩

set_option maxHeartbeats 1000000 in
theorem rin_4 (c : Int) (w : World) :
    Calls Tryz.prog 111 #[.int .u8 c, .int .i64 4] w fun e w' => e = .returned (.bool (inSetI c 4)) ∧ w = w' := by
  have HF := hid (setL_in c 4 (by omega))
  have hc : c < 32 ∨ (32 ≤ c ∧ 126 < c) ∨ (32 ≤ c ∧ c ≤ 126) := by omega
  rcases hc with hc | ⟨hc1, hc2⟩ | ⟨hc1, hc2⟩
  all_goals
    go_enter Tryz.func111, Tryz.ntmps111
    go_wp2
    generalize hT : ByteArray.mk #[32, 34, 35, 60, 62, 39] = t
    have hts : t.size ≤ 19 := by rw [← hT]; decide
    have HA : Hid (inTo c t.data.toList t.size = inSetI c 4) := hid ((inTo_all c t).trans (by rw [← hT]; exact HF.out))
    clear hT HF
    go_loop [5, 7] (fun o j => ∃ m : Nat, m ≤ t.size ∧ j = .int .i64 m ∧ o = .bool (inTo c t.data.toList m)) (fun _ j => t.size - (intOf j).toNat)
    case atStart => exact ⟨0, by omega, rfl, by rw [inTo_zero] <;> (try congr 1) <;> (try simp) <;> omega⟩
    case round =>
      obtain ⟨m, hm, rfl, rfl⟩ := hrel
      by_cases hlt : m < t.size
      · have HS := hid (inTo_succ c t m hlt)
        have hot : inTo c t.data.toList m = true ∨ inTo c t.data.toList m = false := by cases inTo c t.data.toList m <;> simp
        rcases hot with hot | hot
        all_goals
          go_wp2
          go_round
          case rel => exact ⟨m + 1, by omega, by go_num, by rw [HS.out, hot]; simp⟩
          case measure => simp [intOf]; omega
      · obtain rfl : m = t.size := by omega
        go_wp2
        go_ret
        exact ⟨ret_bool HA.out, rfl⟩

set_option maxHeartbeats 1000000 in
theorem rin_5 (c : Int) (w : World) :
    Calls Tryz.prog 111 #[.int .u8 c, .int .i64 5] w fun e w' => e = .returned (.bool (inSetI c 5)) ∧ w = w' := by
  have HF := hid (setL_in c 5 (by omega))
  have hc : c < 32 ∨ (32 ≤ c ∧ 126 < c) ∨ (32 ≤ c ∧ c ≤ 126) := by omega
  rcases hc with hc | ⟨hc1, hc2⟩ | ⟨hc1, hc2⟩
  all_goals
    go_enter Tryz.func111, Tryz.ntmps111
    go_wp2
    generalize hT : ByteArray.mk #[32, 34, 35, 60, 62, 63, 94, 96, 123, 125] = t
    have hts : t.size ≤ 19 := by rw [← hT]; decide
    have HA : Hid (inTo c t.data.toList t.size = inSetI c 5) := hid ((inTo_all c t).trans (by rw [← hT]; exact HF.out))
    clear hT HF
    go_loop [5, 7] (fun o j => ∃ m : Nat, m ≤ t.size ∧ j = .int .i64 m ∧ o = .bool (inTo c t.data.toList m)) (fun _ j => t.size - (intOf j).toNat)
    case atStart => exact ⟨0, by omega, rfl, by rw [inTo_zero] <;> (try congr 1) <;> (try simp) <;> omega⟩
    case round =>
      obtain ⟨m, hm, rfl, rfl⟩ := hrel
      by_cases hlt : m < t.size
      · have HS := hid (inTo_succ c t m hlt)
        have hot : inTo c t.data.toList m = true ∨ inTo c t.data.toList m = false := by cases inTo c t.data.toList m <;> simp
        rcases hot with hot | hot
        all_goals
          go_wp2
          go_round
          case rel => exact ⟨m + 1, by omega, by go_num, by rw [HS.out, hot]; simp⟩
          case measure => simp [intOf]; omega
      · obtain rfl : m = t.size := by omega
        go_wp2
        go_ret
        exact ⟨ret_bool HA.out, rfl⟩

set_option maxHeartbeats 1000000 in
theorem rin_6 (c : Int) (w : World) :
    Calls Tryz.prog 111 #[.int .u8 c, .int .i64 6] w fun e w' => e = .returned (.bool (inSetI c 6)) ∧ w = w' := by
  have HF := hid (setL_in c 6 (by omega))
  have hc : c < 32 ∨ (32 ≤ c ∧ 126 < c) ∨ (32 ≤ c ∧ c ≤ 126) := by omega
  rcases hc with hc | ⟨hc1, hc2⟩ | ⟨hc1, hc2⟩
  all_goals
    go_enter Tryz.func111, Tryz.ntmps111
    go_wp2
    generalize hT : ByteArray.mk #[32, 34, 35, 60, 62, 63, 94, 96, 123, 125, 47, 58, 59, 61, 64, 91, 92, 93, 124] = t
    have hts : t.size ≤ 19 := by rw [← hT]; decide
    have HA : Hid (inTo c t.data.toList t.size = inSetI c 6) := hid ((inTo_all c t).trans (by rw [← hT]; exact HF.out))
    clear hT HF
    go_loop [5, 7] (fun o j => ∃ m : Nat, m ≤ t.size ∧ j = .int .i64 m ∧ o = .bool (inTo c t.data.toList m)) (fun _ j => t.size - (intOf j).toNat)
    case atStart => exact ⟨0, by omega, rfl, by rw [inTo_zero] <;> (try congr 1) <;> (try simp) <;> omega⟩
    case round =>
      obtain ⟨m, hm, rfl, rfl⟩ := hrel
      by_cases hlt : m < t.size
      · have HS := hid (inTo_succ c t m hlt)
        have hot : inTo c t.data.toList m = true ∨ inTo c t.data.toList m = false := by cases inTo c t.data.toList m <;> simp
        rcases hot with hot | hot
        all_goals
          go_wp2
          go_round
          case rel => exact ⟨m + 1, by omega, by go_num, by rw [HS.out, hot]; simp⟩
          case measure => simp [intOf]; omega
      · obtain rfl : m = t.size := by omega
        go_wp2
        go_ret
        exact ⟨ret_bool HA.out, rfl⟩

set_option maxHeartbeats 1000000 in
theorem rin_any (c set : Int) (w : World) :
    Calls Tryz.prog 111 #[.int .u8 c, .int .i64 set] w fun e w' => e = .returned (.bool (inSetI c set)) ∧ w = w' := by
  by_cases hset : 1 ≤ set ∧ set ≤ 6
  · have h' : set = 1 ∨ set = 2 ∨ set = 3 ∨ set = 4 ∨ set = 5 ∨ set = 6 := by omega
    rcases h' with rfl | rfl | rfl | rfl | rfl | rfl
    · exact rin_1 c w
    · exact rin_2 c w
    · exact rin_3 c w
    · exact rin_4 c w
    · exact rin_5 c w
    · exact rin_6 c w
  · have HN := hid (inSet_outer c set hset)
    have h1 : (set == 1) = false := by simp; omega
    have h2 : (set == 2) = false := by simp; omega
    have h3 : (set == 3) = false := by simp; omega
    have h4 : (set == 4) = false := by simp; omega
    have h5 : (set == 5) = false := by simp; omega
    have h6 : (set == 6) = false := by simp; omega
    clear hset
    have hc : c < 32 ∨ (32 ≤ c ∧ 126 < c) ∨ (32 ≤ c ∧ c ≤ 126) := by omega
    rcases hc with hc | ⟨hc1, hc2⟩ | ⟨hc1, hc2⟩
    all_goals
      go_enter Tryz.func111, Tryz.ntmps111
      go_wp2
      go_ret
      exact ⟨ret_bool HN.out.symm, rfl⟩

set_option maxHeartbeats 1000000 in
theorem rpctS_any (s : ByteArray) (set : Int) (w : World) (hs : s.size ≤ 1000000) :
    Calls Tryz.prog 76 #[.string s, .int .i64 set] w fun e w' => e = .returned (.string ⟨(pct set s.data.toList).toArray⟩) ∧ Below w.heap.size w w' := by
  go_enter Tryz.func76, Tryz.ntmps76
  go_wp2
  go_loopw [5, 6] (fun o i wr => ∃ (k : Nat) (t : ByteArray), k ≤ s.size ∧ i = .int .i64 k ∧ o = .string t ∧ t.data.toList = pct set (s.data.toList.take k) ∧ Below w.heap.size w wr) (fun _ i _ => s.size - (intOf i).toNat)
  case atStart => exact ⟨0, _, Nat.zero_le _, rfl, rfl, rfl, Below.refl _ w⟩
  case round =>
    obtain ⟨k, t, hk, rfl, rfl, ht, hbw⟩ := hrel
    have htl : t.size ≤ 3 * k := by
      rw [Lib.size_eq, ht]
      have := pct_le set (s.data.toList.take k)
      simp at this
      omega
    have HT := hid ht
    clear ht
    by_cases hlt : k < s.size
    · have HS := hid (take_snoc s k hlt)
      have HP := hid (pct_snoc set (s.data.toList.take k) s[k])
      by_cases hin : inSetI (s[k].toNat : Int) set = true
      · go_wp2_with (first | (go_at_call 111; refine (rin_any _ _ _).mono ?_; rintro e w' ⟨rfl, rfl⟩))
        refine (rescape_any s[k] wr).mono ?_
        rintro e w1 ⟨rfl, hb1⟩
        have hes : (ByteArray.mk (esc s[k]).toArray).size = 3 := rfl
        go_wp2
        go_roundw
        case rel =>
          refine ⟨k + 1, _, by omega, by go_num, rfl, ?_, hbw.trans (hb1.mono hbw.size)⟩
          rw [ByteArray.data_append, Array.toList_append, HT.out, HS.out, HP.out, pct1, if_pos hin]
        case measure => simp [intOf]; omega
      · have hin' : inSetI (s[k].toNat : Int) set = false := by simpa using hin
        clear hin
        go_wp2_with (first | (go_at_call 111; refine (rin_any _ _ _).mono ?_; rintro e w' ⟨rfl, rfl⟩))
        go_roundw
        case rel =>
          refine ⟨k + 1, _, by omega, by go_num, rfl, ?_, hbw⟩
          rw [ByteArray.data_append, Array.toList_append, HT.out, HS.out, HP.out, pct1, hin', extract_at s k hlt]
          rfl
        case measure => simp [intOf]; omega
    · have ht := HT.out
      rw [take_all s k hlt] at ht
      have HT2 := hid ht
      clear ht HT
      go_wp2
      go_ret
      exact ⟨ret_str HT2.out, hbw⟩

set_option maxHeartbeats 400000 in
theorem rletter_any (c : Int) (w : World) :
    Calls Tryz.prog 77 #[.int .u8 c] w fun e w' => e = .returned (.bool (letterI c)) ∧ w = w' := by
  go_enter Tryz.func77, Tryz.ntmps77
  go_wp2
  all_goals
    go_ret
    exact ⟨ret_bool (by rw [Bool.eq_iff_iff]; simp [letterI]; omega), rfl⟩

set_option maxHeartbeats 1000000 in
theorem rint_any (s : ByteArray) (w : World) (hs : s.size ≤ 140737488351232) :
    Calls Tryz.prog 139 #[.string s] w fun e w' => e = .returned (.tuple #[.int .i64 (intV s.data.toList), .bool (intOk s.data.toList)]) ∧ w = w' := by
  go_enter Tryz.func139, Tryz.ntmps139
  go_wp2
  go_loop [4, 5] (fun n i => ∃ k : Nat, k ≤ s.size ∧ i = .int .i64 k ∧ (s.data.toList.take k).all digP = true ∧ n = .int .i64 (numI (s.data.toList.take k))) (fun _ i => s.size - (intOf i).toNat)
  case atStart => exact ⟨0, Nat.zero_le _, rfl, rfl, rfl⟩
  case round =>
    obtain ⟨k, hk, rfl, hall, rfl⟩ := hrel
    have hr := numI_range _ hall
    have HA := hid hall
    clear hall
    by_cases hlt : k < s.size
    · have HT := hid (take_snoc s k hlt)
      have HN := hid (numI_snoc (s.data.toList.take k) s[k])
      generalize numI (s.data.toList.take k) = n at *
      obtain ⟨hr1, hr2⟩ := hr
      by_cases hd : digitI (s[k].toNat : Int) = true
      · have hd2 : 48 ≤ (s[k].toNat : Int) ∧ (s[k].toNat : Int) ≤ 57 := by simp [digitI] at hd; omega
        obtain ⟨hd3, hd4⟩ := hd2
        by_cases hbig : (9223372036854775807 - ((s[k].toNat : Int) - 48)) / 10 < n
        · have HT2 := hid (show ten n ((s[k].toNat : Int) - 48) = 9223372036854775807 by unfold ten; rw [if_pos hbig])
          go_wp2_with (go_at_call 78; refine (rdigit_any _ _).mono ?_; rintro e w' ⟨rfl, rfl⟩)
          go_round
          case rel => exact ⟨k + 1, by omega, by go_num, by rw [HT.out, List.all_append, HA.out]; simp [digP, hd], by rw [HT.out, HN.out, HT2.out]⟩
          case measure => simp [intOf]; omega
        · have HT2 := hid (show ten n ((s[k].toNat : Int) - 48) = n * 10 + ((s[k].toNat : Int) - 48) by unfold ten; rw [if_neg hbig])
          have hbig' : n ≤ (9223372036854775807 - ((s[k].toNat : Int) - 48)) / 10 := by omega
          clear hbig
          go_wp2_with (go_at_call 78; refine (rdigit_any _ _).mono ?_; rintro e w' ⟨rfl, rfl⟩)
          go_round
          case rel => exact ⟨k + 1, by omega, by go_num, by rw [HT.out, List.all_append, HA.out]; simp [digP, hd], by rw [HT.out, HN.out, HT2.out]⟩
          case measure => simp [intOf]; omega
      · have hd' : digitI (s[k].toNat : Int) = false := by simpa using hd
        clear hd
        go_wp2_with (go_at_call 78; refine (rdigit_any _ _).mono ?_; rintro e w' ⟨rfl, rfl⟩)
        go_ret2
        have : s.data.toList.all digP = false := by
          rw [List.all_eq_false]
          refine ⟨s[k], ?_, by simp [digP, hd']⟩
          have : s[k] = s.data.toList[k]'(by simpa using hlt) := rfl
          rw [this]; exact List.getElem_mem _
        exact ⟨ret_ib (by simp [intV, this]) (by simp [intOk, this]), rfl⟩
    · have ha := HA.out
      rw [take_all s k hlt] at ha ⊢
      have ha' := hid ha
      clear ha
      by_cases h0 : s.size = 0
      · have hl : s.data.toList = [] := List.eq_nil_of_length_eq_zero (by simpa using h0)
        have HL := hid hl
        clear hl
        go_wp2
        go_ret2
        exact ⟨ret_ib (by rw [HL.out]; rfl) (by rw [HL.out]; simp [intOk]), rfl⟩
      · have hl : s.data.toList.isEmpty = false := by
          rw [List.isEmpty_eq_false_iff]
          intro h
          apply h0
          have := congrArg List.length h
          simpa using this
        have HL := hid hl
        clear hl
        have h0' : (0 : Int) < (s.size : Int) := by omega
        go_wp2
        go_ret2
        exact ⟨ret_ib (by simp [intV, ha'.out, HL.out]) (by simp [intOk, ha'.out, HL.out]; try omega), rfl⟩

end Go.Proofs.YtjmkccnjjofmeaaGreatDoor
