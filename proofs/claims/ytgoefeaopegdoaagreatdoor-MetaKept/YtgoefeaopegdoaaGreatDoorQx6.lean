/-
  Walks and plain facts that this claim leans on, put together out of 4 texts: Vi, Vk, Vl, Vm.
-/
import Derived.Test.YtgoefeaopegdoaaGreatDoorProg
import Derived.Test.YtgoefeaopegdoaaGreatDoorQx1
import Derived.Test.YtgoefeaopegdoaaGreatDoorQx2
import Derived.Test.YtgoefeaopegdoaaGreatDoorQx3
import Derived.Test.YtgoefeaopegdoaaGreatDoorQx5
import Derived.Lib.IndexMore
import Derived.Lib.Join
import Derived.Lib.LastIndexByte
import Derived.WalkKit
import Derived.Lib.Strings
import Derived.Lib.UnsafeStr
import Derived.Laws.IdiomStrings
import Derived.Laws.AppendOwn
import Derived.Laws.BitsAllLaws
import Derived.Lib.Bytealg
import Derived.Lib.BufferMore
import Derived.Shelf.Strings.Builder1
import Derived.Shelf.Strings.Builder2
import Derived.Shelf.Strings.OnBuilder
import Derived.Shelf.Strings.Trim
import Derived.Shelf.Small.Utf8
import Derived.Shelf.Small.Bits
import Derived.Shelf.Small.Strs
import Derived.Shelf.Small.Wraps
import Derived.Shelf.Strings.BuilderF
import Derived.Shelf.Strings.BuilderK
import Derived.Shelf.Strings.BuilderRune
import Derived.Shelf.Utf8.AppendRune
import Derived.Shelf.Utf8.AppendRunePlain
import Derived.Shelf.Strings.Builder2Cap
import Derived.Shelf.Strconv.Itoa0
import Derived.Shelf.Strconv.Itoa1
import Derived.Shelf.LaysM
import Derived.Shelf.Strconv.Itoa2
import Derived.Shelf.Strconv.Itoa3
import Derived.Shelf.Strings.Search1
import Derived.Shelf.Strings.Search2
import Derived.Shelf.Strings.Search3
import Derived.Shelf.Strings.Cut
import Derived.Shelf.Strings.Count
import Derived.Shelf.Strings.Shaped
import Derived.Shelf.Strings.LastIndex
import Derived.Shelf.Strings.Prefix
import Derived.Shelf.Strings.Split
import Derived.Shelf.Strings.Replace
import Derived.Shelf.Strings.Runes
import Derived.Shelf.Strings.IndexAny
import Derived.Shelf.Strings.AsciiSet
import Derived.Shelf.Strings.IndexAnyAll
import Derived.Shelf.Unicode.DecodeSlow
import Derived.Ground.Names2Prog
import Derived.Shelf.Slices.Clone
import Derived.Shelf.Slices.In.SortNone
import Derived.Ground.SlgnProg
import Derived.Shelf.SlicesE.Clone
import Derived.WalkSpells
import Derived.WalkLawsBesides
import Derived.Lib.AppendIntMem
import Derived.Lib.SmallJoins
import Derived.WalkSmall
import Derived.WalkMore
import Derived.Deep.LoopGhost
import Derived.OwnWalk
import Derived.Laws.CopyOwn
import Derived.Laws.ResultCell
import Derived.Deep.MidRow
import Derived.Lib.FrozenHead2
import Derived.Lib.OthersKept
import Derived.Lib.Builder
import Derived.Deep.RegionWith
set_option linter.unusedSimpArgs false
set_option linter.unusedVariables false

namespace Go.Proofs.YtgoefeaopegdoaaGreatDoor
open Go.RowKit

def zero8 : List Nat := [0, 0, 0, 0, 0, 0, 0, 0]

def agg8 (x : List Nat) : Value := .agg (cells16 x).toArray

theorem sixV_no1 {l : List UInt8} (h : piecesV (Lib.cut l [58, 58]).1 (!(Lib.cut l [58, 58]).2.2) = none) : sixV l = none := by rw [sixV, h]

theorem sixV_no2 {l : List UInt8} (h : piecesV (Lib.cut l [58, 58]).2.1 true = none) : sixV l = none := by
 rw [sixV, h]; split <;> simp_all

theorem sixV_no3 {l : List UInt8} {a b : List Nat} (h1 : piecesV (Lib.cut l [58, 58]).1 (!(Lib.cut l [58, 58]).2.2) = some a) (h2 : piecesV (Lib.cut l [58, 58]).2.1 true = some b) (h : ¬ (a.length + b.length ≤ 8 ∧ ((Lib.cut l [58, 58]).2.2 = true ↔ a.length + b.length < 8))) : sixV l = none := by
 rw [sixV, h1, h2]; simp only; rw [if_neg h]

theorem sixV_yes {l : List UInt8} {a b : List Nat} (h1 : piecesV (Lib.cut l [58, 58]).1 (!(Lib.cut l [58, 58]).2.2) = some a) (h2 : piecesV (Lib.cut l [58, 58]).2.1 true = some b) (h : a.length + b.length ≤ 8 ∧ ((Lib.cut l [58, 58]).2.2 = true ↔ a.length + b.length < 8)) : sixV l = some (a ++ List.replicate (8 - a.length - b.length) 0 ++ b) := by
 rw [sixV, h1, h2]; simp only; rw [if_pos h]

theorem row_kept {w w' : World} {g : Nat} {o : Obj} (h : w.heap[g]? = some o) (hb : Below w.heap.size w w') : w'.heap[g]? = some o := by
 have hlt : g < w.heap.size := by
  rcases Nat.lt_or_ge g w.heap.size with h' | h'
  ·exact h'
  ·rw [Array.getElem?_eq_none h'] at h; cases h
 rw [hb.block g hlt]; exact h

theorem there_row {w : World} {g n : Nat} {cs : Array Value} {t : TypeId} (h : w.heap[g]? = some (.cells cs t (0, 0))) (hn : n ≤ cs.size) : w.there g 0 n := by
 intro j hj
 constructor
 ·rw [cell_of_row w g _ cs t _ h]; simp; omega
 ·simp [World.frozen?, h]

theorem range_row {w : World} {g : Nat} {cs : List Value} {t : TypeId} {f : Nat × Nat} (h : w.heap[g]? = some (.cells cs.toArray t f)) : w.rangeAt g 0 cs := by
 intro j v hv
 rw [Nat.zero_add, cell_of_row w g j _ t _ h]
 simpa using hv

theorem below_setCells {B b : Nat} (hb : B ≤ b) {w0 : World} : ∀ (vs : List Value) (o : Nat) (w : World), Below B w0 w → Below B w0 (w.setCells b o vs)
 | [], _, _, h => h
 | v :: r, o, w, h => by
  rw [World.setCells]
  exact below_setCells hb r (o + 1) _ (h.setCell (p := ⟨b, o, none⟩) hb v)

theorem results_six {fn : Func} {p u : Tmp} {ty : TypeId} (h : fn.results = #[.cell p ty, .tmp u]) (tmps : Array Value) (P : Program) (w : World) (b : Nat) (cs : List Value) (d : TypeDesc) (hp : tmps.getD p undef = .pointer (some ⟨b, 0, none⟩)) (hc : w.rangeAt b 0 cs)
  (hu : P.underlying ty = some d) (hd : d.isRow = true) (hi : (P.info? ty).map (·.size) = some cs.length) : (results fn tmps).run P w = .ok (.tuple #[.agg cs.toArray, tmps.getD u undef]) w := by
 rw [results_cell_tmp h, hp]
 simp [asAddr, Result.andThen, run_loadVar_mid w b 0 ty cs d hc hu hd hi]

theorem own_src {w w' : World} {base : Nat} {e : TypeId} {a : Option Addr} {cap : Nat} {o : List Nat} (h : w.ownsRow base e 1 (.slice a o.length cap) o.length (cells16 o)) (h0 : 0 < o.length) (hb : Below w.heap.size w w') :
  ∃ ad, a = some ad ∧ ∀ j v, (cells16 o)[j]? = some v → w'.cell? (ad.add j) = some v := by
 rcases h.2 with ⟨hv, hn⟩ | ⟨g, cap', cur, hv, _⟩
 ·omega
 ·cases hv
  refine ⟨⟨g, 0, none⟩, rfl, fun j v hj => ?_⟩
  have hc := h.cells (g := g) rfl j v hj
  have hlt := World.block_lt_of_cell? w _ hc
  rw [hb.cell hlt]
  exact hc

def cutAd (b k : Nat) : Addr := if k = 0 then ⟨b, 0, none⟩ else ⟨b, 8 - k, none⟩

theorem slice8_from (b k : Nat) (hk : k ≤ 8) (w : World) : (Instr.sliceAt 280 (.pointer (some ⟨b, 0, none⟩)) (some (.int .i64 (8 - (k : Int)))) none none).run Tryz.prog w = .ok (.slice (some (cutAd b k)) k k) w := by
 have e8 : Tryz.prog.arrayLen 280 = 8 := by kernel_rfl
 have es : (sizeOf (Tryz.prog.elem 280)).run Tryz.prog w = .ok 1 w := by kernel_rfl
 rw [run_sliceAt_array_l w 280 ⟨b, 0, none⟩ (by kernel_rfl) .i64 _ (by omega) (by rw [e8]; omega), es, e8]
 simp only [Result.andThen, slicedAt]
 have e1 : (8 - (k : Int)).toNat = 8 - k := by omega
 have e2 : 8 - (8 - k) = k := by omega
 have e3 : (if 8 = 8 - k then (⟨b, 0, none⟩ : Addr) else (⟨b, 0, none⟩ : Addr).add ((8 - k) * 1)) = cutAd b k := by
  unfold cutAd
  by_cases h0 : k = 0
  ·subst h0; rfl
  ·rw [if_neg (by omega), if_neg h0, Addr.add_mid]; simp
 rw [e1, e2, e3]

theorem size8 : (Tryz.prog.info? 280).map (·.size) = some 8 := by kernel_rfl

theorem cells16_one (x : List Nat) : ∀ v ∈ cells16 x, v.oneCell' = true := by
 intro v hv
 obtain ⟨n, _, rfl⟩ := List.mem_map.1 hv
 rfl

theorem splice16 (a b : List Nat) (h : a.length + b.length ≤ 8) : splice (splice (cells16 zero8) 0 (cells16 a)) (8 - b.length) (cells16 b) = cells16 (a ++ List.replicate (8 - a.length - b.length) 0 ++ b) := by
 have hz : cells16 zero8 = List.replicate 8 (Value.int .u16 0) := rfl
 have e1 : splice (cells16 zero8) 0 (cells16 a) = cells16 a ++ List.replicate (8 - a.length) (Value.int .u16 0) := by
  unfold splice
  rw [hz, List.take_zero, List.nil_append, Nat.zero_add, cells16_len, List.drop_replicate]
 rw [e1]
 unfold splice
 rw [cells16_app, cells16_app, cells16_len, List.take_append, List.take_of_length_le (by rw [cells16_len]; omega), cells16_len, List.take_replicate, List.append_assoc, List.append_assoc]
 congr 1
 have e2 : min (8 - b.length - a.length) (8 - a.length) = 8 - a.length - b.length := by omega
 have e3 : (cells16 a ++ List.replicate (8 - a.length) (Value.int IntKind.u16 0)).drop (8 - b.length + b.length) = [] := by
  apply List.drop_eq_nil_of_le
  rw [List.length_append, cells16_len, List.length_replicate]; omega
 rw [e2, e3, List.append_nil]
 congr 1
 simp [cells16]

theorem ret_six {a : List Value} {o : Option (List Nat)} {x : Int} {l : List Nat} (h : cells16 l = a) (hl : l = o.getD zero8) (g : x = er o) : Ending.returned (.tuple #[.agg a.toArray, .int .i64 x]) = .returned (.tuple #[agg8 (o.getD zero8), .int .i64 (er o)]) := by
 rw [g, ← h, hl]; rfl

set_option maxHeartbeats 4000000 in
set_option maxRecDepth 100000 in
theorem six_any (s : ByteArray) (w : World) (hg : Gd w) (hs : s.size ≤ 4000000000) :
  Calls Tryz.prog 332 #[.string s] w fun e w' => e = .returned (.tuple #[agg8 ((sixV s.data.toList).getD zero8), .int .i64 (er (sixV s.data.toList))]) ∧ Below w.heap.size w w' := by
 obtain ⟨⟨p, q, gap⟩, hc⟩ : ∃ x, Lib.cut s.data.toList [58, 58] = x := ⟨_, rfl⟩
 have hcl := cut_le s.data.toList [58, 58]
 rw [hc] at hcl
 obtain ⟨hal, hbl⟩ := hcl
 simp only at hal hbl
 have hps : (⟨p.toArray⟩ : ByteArray).size ≤ 4000000000 := by show p.toArray.size ≤ _; simp at hal ⊢; omega
 have hqs : (⟨q.toArray⟩ : ByteArray).size ≤ 4000000000 := by show q.toArray.size ≤ _; simp at hbl ⊢; omega
 have HC := hid hc
 have HG0 := hid hg
 clear hc hg hal hbl
 go_enter Tryz.func332, Tryz.ntmps332
 go_wp2_with fail
 refine (cut_any _ _ _ (HG0.out.kept ((Below.refl _ w).alloc (Nat.le_refl _) _)) hs).mono ?_
 rintro e w1 ⟨rfl, hb1⟩
 rw [show (⟨#[58, 58]⟩ : ByteArray).data.toList = [58, 58] from rfl, HC.out]
 dsimp only
 have HR1 := hid (row_kept (heap_alloc_new w _) hb1)
 have HB1 := hid (below2 ((Below.refl _ w).alloc (Nat.le_refl _) _) hb1)
 clear hb1
 go_wp2_with fail
 refine (readPieces_any _ _ _ (HG0.out.kept HB1.out) hps).mono ?_
 rintro e w2 ⟨a1, cap1, o1, rfl, hown1, hl1, hpp1, hb2⟩
 have HO1 := hid hown1
 have HP1 := hid hpp1
 have HR2 := hid (row_kept HR1.out hb2)
 have HB2 := hid (below2 HB1.out hb2)
 clear hown1 hpp1 hb2
 go_wp2_with fail
 refine (readPieces_any _ _ _ (HG0.out.kept HB2.out) hqs).mono ?_
 rintro e w3 ⟨a2, cap2, o2, rfl, hown2, hl2, hpp2, hb3⟩
 have HO2 := hid hown2
 have HP2 := hid hpp2
 have HR3 := hid (row_kept HR2.out hb3)
 have HO1' := hid (own_kept HO1.out hb3)
 have HB3 := hid (below2 HB2.out hb3)
 clear hown2 hpp2 hb3
 rw [show (⟨q.toArray⟩ : ByteArray).data.toList = q from rfl]
 cases h1 : piecesV p (!gap) with
 | none =>
  have HN := hid (sixV_no1 (l := s.data.toList) (by rw [HC.out]; exact h1))
  clear h1
  go_wp2_with (refine wpList_store_mid rfl 280 (.tmp 2) (.tmp 53) rfl w.heap.size 0 (cells16 zero8).toArray rfl rfl (there_row HR3.out (by decide)) size8 (all_oneCell_toArray (cells16_one _)) ?_)
  refine bodyPost_ret (results_six rfl _ _ _ w.heap.size (cells16 zero8) _ rfl (World.rangeAt_setCells_same _ _ _ _ (there_row HR3.out (by decide))) Tryz.underlying280 rfl size8) rfl ⟨ret_six rfl (by rw [HN.out]; rfl) (er_none HN.out).symm, below_setCells (Nat.le_refl _) _ _ _ HB3.out⟩
 | some a =>
  obtain rfl := (HP1.out a h1)
  have H1 := hid h1
  clear h1
  cases h2 : piecesV q true with
  | none =>
   have HN := hid (sixV_no2 (l := s.data.toList) (by rw [HC.out]; exact h2))
   clear h2
   go_wp2_with (refine wpList_store_mid rfl 280 (.tmp 2) (.tmp 53) rfl w.heap.size 0 (cells16 zero8).toArray rfl rfl (there_row HR3.out (by decide)) size8 (all_oneCell_toArray (cells16_one _)) ?_)
   refine bodyPost_ret (results_six rfl _ _ _ w.heap.size (cells16 zero8) _ rfl (World.rangeAt_setCells_same _ _ _ _ (there_row HR3.out (by decide))) Tryz.underlying280 rfl size8) rfl ⟨ret_six rfl (by rw [HN.out]; rfl) (er_none HN.out).symm, below_setCells (Nat.le_refl _) _ _ _ HB3.out⟩
  | some b =>
   obtain rfl := (HP2.out b h2)
   have H2 := hid h2
   clear h2
   by_cases h8 : 8 < o1.length + o2.length
   ·have HN := hid (sixV_no3 (l := s.data.toList) (a := o1) (b := o2) (by rw [HC.out]; exact H1.out) (by rw [HC.out]; exact H2.out) (by omega))
    have h8' : (8 : Int) - (o1.length : Int) - (o2.length : Int) < 0 := by omega
    go_wp2_with (refine wpList_store_mid rfl 280 (.tmp 2) (.tmp 53) rfl w.heap.size 0 (cells16 zero8).toArray rfl rfl (there_row HR3.out (by decide)) size8 (all_oneCell_toArray (cells16_one _)) ?_)
    refine bodyPost_ret (results_six rfl _ _ _ w.heap.size (cells16 zero8) _ rfl (World.rangeAt_setCells_same _ _ _ _ (there_row HR3.out (by decide))) Tryz.underlying280 rfl size8) rfl ⟨ret_six rfl (by rw [HN.out]; rfl) (er_none HN.out).symm, below_setCells (Nat.le_refl _) _ _ _ HB3.out⟩
   ·have h8' : ¬ ((8 : Int) - (o1.length : Int) - (o2.length : Int) < 0) := by omega
    have h8d := decide_eq_false h8'
    by_cases hgp : (gap = true ↔ o1.length + o2.length < 8)
    ·have HN := hid (sixV_yes (l := s.data.toList) (a := o1) (b := o2) (by rw [HC.out]; exact H1.out) (by rw [HC.out]; exact H2.out) (by rw [HC.out]; exact ⟨by omega, hgp⟩))
     have hn1 : (cells16 o1).length = o1.length := cells16_len _
     have hn2 : (cells16 o2).length = o2.length := cells16_len _
     have hcase : (gap = true ∧ (0 : Int) < 8 - (o1.length : Int) - (o2.length : Int)) ∨ (gap = false ∧ ¬ ((0 : Int) < 8 - (o1.length : Int) - (o2.length : Int))) := by
      cases gap
      ·right; simp at hgp ⊢; omega
      ·left; simp at hgp ⊢; omega
     clear hgp
     obtain ⟨X, hXe⟩ : ∃ X, X = o1 ++ List.replicate (8 - o1.length - o2.length) 0 ++ o2 := ⟨_, rfl⟩
     have hX8 : (cells16 X).length = 8 := by rw [cells16_len, hXe]; simp; omega
     have HXe := hid hXe
     clear hXe
     rcases hcase with ⟨rfl, hq⟩ | ⟨rfl, hq⟩
     ·have hqd : decide ((o2.length : Int) < 8 - (o1.length : Int)) = true := decide_eq_true (by omega)
      go_wp2_with ((refine wpList_copy_splice rfl _ _ 291 291 rfl 279 Tryz.underlying291 (by kernel_rfl) _ _ _ _ _ _ rfl rfl w3.heap.size 0 (cells16 zero8) 280 (heap_alloc_new w3 _) (cells16 o1) ?n1 ?n2 ?n3 (cells16_one _) w3.heap.size w3 ((Below.refl _ w3).alloc (Nat.le_refl _) _) (Nat.le_refl _) ?_))
      case n1 => rw [hn1]; exact (Nat.min_eq_left (by omega)).symm
      case n2 => exact fun h => own_src HO1'.out (by rw [hn1] at *; omega) ((Below.refl _ w3).alloc (Nat.le_refl _) _)
      case n3 => rw [hn1]; show 0 + o1.length ≤ 8; omega
      intro w4 HX hb4
      have hsl := slice8_from w3.heap.size o2.length (by omega) w4
      have HO2' := hid (own_kept HO2.out hb4)
      have HR4 := hid (row_kept HR3.out hb4)
      have HB4 := hid (below2 HB3.out hb4)
      clear h8d hqd
      go_wp2_with (refine wpList_copy_splice rfl _ _ 291 291 rfl 279 Tryz.underlying291 (by kernel_rfl) _ _ _ _ _ _ rfl rfl w3.heap.size (8 - o2.length) (splice (cells16 zero8) 0 (cells16 o1)) 280 HX.out (cells16 o2) ?m1 ?m2 ?m3 (cells16_one _) w3.heap.size w3 hb4 (Nat.le_refl _) ?_)
      case m1 => rw [hn2]; exact (Nat.min_self _).symm
      case m2 =>
       intro h
       rw [hn2] at h
       refine ⟨by rw [cutAd, if_neg (by omega)], own_src HO2.out h hb4⟩
      case m3 => rw [hn2, length_splice _ _ _ (by rw [hn1]; show 0 + o1.length ≤ 8; omega)]; show 8 - o2.length + o2.length ≤ 8; omega
      intro w5 HX2 hb5
      have HX3 := hid (show w5.heap[w3.heap.size]? = some (.cells (cells16 X).toArray 280 (0, 0)) by rw [HXe.out, ← splice16 o1 o2 (by omega)]; exact HX2.out)
      have HR5 := hid (row_kept HR3.out hb5)
      have HB5 := hid (below2 HB3.out hb5)
      have hi8 : (Tryz.prog.info? 280).map (·.size) = some (cells16 X).length := by rw [hX8]; exact size8
      have hi8' : (Tryz.prog.info? 280).map (·.size) = some (cells16 X).toArray.size := by rw [List.size_toArray, hX8]; exact size8
      have hth : w5.there w.heap.size 0 (cells16 X).toArray.size := there_row HR5.out (by rw [List.size_toArray, hX8]; decide)
      have hth2 : w5.there w.heap.size 0 (cells16 X).length := by rw [hX8]; exact there_row HR5.out (by decide)
      clear HX2
      go_wp2_with (first | refine wpList_load_mid rfl 280 (.tmp 12) rfl w3.heap.size 0 rfl (cells16 X) _ (range_row HX3.out) Tryz.underlying280 rfl hi8 ?_ | refine wpList_store_mid rfl 280 (.tmp 2) (.tmp 63) rfl w.heap.size 0 (cells16 X).toArray rfl rfl hth hi8' (all_oneCell_toArray (cells16_one _)) ?_)
      refine bodyPost_ret (results_six rfl _ _ _ w.heap.size (cells16 X) _ rfl (World.rangeAt_setCells_same _ _ _ _ hth2) Tryz.underlying280 rfl hi8) rfl ⟨ret_six rfl (by rw [HN.out, HXe.out]; rfl) (er_some HN.out).symm, below_setCells (Nat.le_refl _) _ _ _ HB5.out⟩
     ·have hqd : decide ((o2.length : Int) < 8 - (o1.length : Int)) = false := decide_eq_false (by omega)
      go_wp2_with ((refine wpList_copy_splice rfl _ _ 291 291 rfl 279 Tryz.underlying291 (by kernel_rfl) _ _ _ _ _ _ rfl rfl w3.heap.size 0 (cells16 zero8) 280 (heap_alloc_new w3 _) (cells16 o1) ?n1b ?n2b ?n3b (cells16_one _) w3.heap.size w3 ((Below.refl _ w3).alloc (Nat.le_refl _) _) (Nat.le_refl _) ?_))
      case n1b => rw [hn1]; exact (Nat.min_eq_left (by omega)).symm
      case n2b => exact fun h => own_src HO1'.out (by rw [hn1] at *; omega) ((Below.refl _ w3).alloc (Nat.le_refl _) _)
      case n3b => rw [hn1]; show 0 + o1.length ≤ 8; omega
      intro w4 HX hb4
      have hsl := slice8_from w3.heap.size o2.length (by omega) w4
      have HO2' := hid (own_kept HO2.out hb4)
      have HR4 := hid (row_kept HR3.out hb4)
      have HB4 := hid (below2 HB3.out hb4)
      clear h8d hqd
      go_wp2_with (refine wpList_copy_splice rfl _ _ 291 291 rfl 279 Tryz.underlying291 (by kernel_rfl) _ _ _ _ _ _ rfl rfl w3.heap.size (8 - o2.length) (splice (cells16 zero8) 0 (cells16 o1)) 280 HX.out (cells16 o2) ?m1b ?m2b ?m3b (cells16_one _) w3.heap.size w3 hb4 (Nat.le_refl _) ?_)
      case m1b => rw [hn2]; exact (Nat.min_self _).symm
      case m2b =>
       intro h
       rw [hn2] at h
       refine ⟨by rw [cutAd, if_neg (by omega)], own_src HO2.out h hb4⟩
      case m3b => rw [hn2, length_splice _ _ _ (by rw [hn1]; show 0 + o1.length ≤ 8; omega)]; show 8 - o2.length + o2.length ≤ 8; omega
      intro w5 HX2 hb5
      have HX3 := hid (show w5.heap[w3.heap.size]? = some (.cells (cells16 X).toArray 280 (0, 0)) by rw [HXe.out, ← splice16 o1 o2 (by omega)]; exact HX2.out)
      have HR5 := hid (row_kept HR3.out hb5)
      have HB5 := hid (below2 HB3.out hb5)
      have hi8 : (Tryz.prog.info? 280).map (·.size) = some (cells16 X).length := by rw [hX8]; exact size8
      have hi8' : (Tryz.prog.info? 280).map (·.size) = some (cells16 X).toArray.size := by rw [List.size_toArray, hX8]; exact size8
      have hth : w5.there w.heap.size 0 (cells16 X).toArray.size := there_row HR5.out (by rw [List.size_toArray, hX8]; decide)
      have hth2 : w5.there w.heap.size 0 (cells16 X).length := by rw [hX8]; exact there_row HR5.out (by decide)
      clear HX2
      go_wp2_with (first | refine wpList_load_mid rfl 280 (.tmp 12) rfl w3.heap.size 0 rfl (cells16 X) _ (range_row HX3.out) Tryz.underlying280 rfl hi8 ?_ | refine wpList_store_mid rfl 280 (.tmp 2) (.tmp 63) rfl w.heap.size 0 (cells16 X).toArray rfl rfl hth hi8' (all_oneCell_toArray (cells16_one _)) ?_)
      refine bodyPost_ret (results_six rfl _ _ _ w.heap.size (cells16 X) _ rfl (World.rangeAt_setCells_same _ _ _ _ hth2) Tryz.underlying280 rfl hi8) rfl ⟨ret_six rfl (by rw [HN.out, HXe.out]; rfl) (er_some HN.out).symm, below_setCells (Nat.le_refl _) _ _ _ HB5.out⟩
    ·have HN := hid (sixV_no3 (l := s.data.toList) (a := o1) (b := o2) (by rw [HC.out]; exact H1.out) (by rw [HC.out]; exact H2.out) (by rw [HC.out]; exact fun h => hgp h.2))
     have hcase : (gap = true ∧ ¬ ((0 : Int) < 8 - (o1.length : Int) - (o2.length : Int))) ∨ (gap = false ∧ (0 : Int) < 8 - (o1.length : Int) - (o2.length : Int)) := by
      cases gap
      ·right; simp at hgp ⊢; omega
      ·left; simp at hgp ⊢; omega
     clear hgp
     rcases hcase with ⟨rfl, hq⟩ | ⟨rfl, hq⟩
     ·have hqd : decide ((o2.length : Int) < 8 - (o1.length : Int)) = false := decide_eq_false (by omega)
      go_wp2_with (refine wpList_store_mid rfl 280 (.tmp 2) (.tmp 53) rfl w.heap.size 0 (cells16 zero8).toArray rfl rfl (there_row HR3.out (by decide)) size8 (all_oneCell_toArray (cells16_one _)) ?_)
      refine bodyPost_ret (results_six rfl _ _ _ w.heap.size (cells16 zero8) _ rfl (World.rangeAt_setCells_same _ _ _ _ (there_row HR3.out (by decide))) Tryz.underlying280 rfl size8) rfl ⟨ret_six rfl (by rw [HN.out]; rfl) (er_none HN.out).symm, below_setCells (Nat.le_refl _) _ _ _ HB3.out⟩
     ·have hqd : decide ((o2.length : Int) < 8 - (o1.length : Int)) = true := decide_eq_true (by omega)
      go_wp2_with (refine wpList_store_mid rfl 280 (.tmp 2) (.tmp 53) rfl w.heap.size 0 (cells16 zero8).toArray rfl rfl (there_row HR3.out (by decide)) size8 (all_oneCell_toArray (cells16_one _)) ?_)
      refine bodyPost_ret (results_six rfl _ _ _ w.heap.size (cells16 zero8) _ rfl (World.rangeAt_setCells_same _ _ _ _ (there_row HR3.out (by decide))) Tryz.underlying280 rfl size8) rfl ⟨ret_six rfl (by rw [HN.out]; rfl) (er_none HN.out).symm, below_setCells (Nat.le_refl _) _ _ _ HB3.out⟩

end Go.Proofs.YtgoefeaopegdoaaGreatDoor

namespace Go.Proofs.YtgoefeaopegdoaaGreatDoor
open Go.RowKit

theorem infoStr : (Tryz.prog.info? 9).map (fun i => (i.zero, i.size, i.bytes)) = some (some (.string ByteArray.empty), 1, 16) := by kernel_rfl

def hexB (n : Nat) : ByteArray := ⟨(hex16 n).toArray⟩

def Strs (w : World) (g : Nat) (x : List Nat) (k : Nat) : Prop :=
 ∃ cur : Array Value, w.heap[g]? = some (.cells cur 9 (0, 0)) ∧ cur.size = x.length ∧ ∀ j (h : j < x.length), j < k → cur[j]? = some (.string (hexB x[j]))

theorem Strs.kept {w w' : World} {g : Nat} {x : List Nat} {k : Nat} (h : Strs w g x k) (hb : Below w.heap.size w w') : Strs w' g x k := by
 obtain ⟨cur, hg, h2⟩ := h
 exact ⟨cur, row_kept hg hb, h2⟩

theorem Strs.cell {w : World} {g : Nat} {x : List Nat} {k : Nat} (h : Strs w g x k) (j : Nat) (hj : j < x.length) : ∃ v, w.cell? ⟨g, j, none⟩ = some v := by
 obtain ⟨cur, hg, hs, _⟩ := h
 rw [cell_of_row w g j cur _ _ hg]
 exact ⟨cur[j], by simp [hs, hj]⟩

theorem Strs.frozen {w : World} {g : Nat} {x : List Nat} {k : Nat} (h : Strs w g x k) (j : Nat) : w.frozen? ⟨g, j, none⟩ = false := by
 obtain ⟨cur, hg, _⟩ := h
 simp [World.frozen?, hg]

theorem Strs.set {w : World} {g : Nat} {x : List Nat} {k : Nat} (h : Strs w g x k) (hk : k < x.length) : Strs (w.setCell ⟨g, k, none⟩ (.string (hexB x[k]))) g x (k + 1) := by
 obtain ⟨cur, hg, hs, hc⟩ := h
 refine ⟨_, Lib.heap_setCell_same hg _, by simpa using hs, ?_⟩
 intro j hj hj2
 by_cases e : k = j
 ·subst e
  have : k < cur.size := by omega
  simp [this]
 ·simp [Array.getElem?_setIfInBounds, e]
  exact hc j hj (by omega)

theorem hex16_le (n : Nat) : (hex16 n).length ≤ 5 := by
 have key : ∀ (f m : Nat) (acc : List UInt8), (digsN 16 f m acc).length ≤ acc.length + f := by
  intro f
  induction f with
  | zero => intro m acc; simp [digsN]
  | succ f ih =>
   intro m acc
   rw [digsN]
   split
   ·simp
   ·have := ih (m / 16) (digC (m % 16) :: acc)
    simp at this
    omega
 have := key 4 n []
 simp at this
 unfold hex16
 omega

theorem joined_le (x : List Nat) : (joined x).length ≤ 6 * x.length := by
 unfold joined
 induction x with
 | nil => simp [Lib.join, List.intercalate]
 | cons a x ih =>
  have ha := hex16_le a
  cases x with
  | nil => simp [Lib.join_one]; omega
  | cons b x =>
   have e : Lib.join ((a :: b :: x).map hex16) [58] = hex16 a ++ [58] ++ Lib.join ((b :: x).map hex16) [58] := by
    simp [Lib.join, List.intercalate, List.intersperse]
   rw [e]
   simp only [List.length_append, List.length_cons, List.length_nil] at ih ⊢
   omega

def Nums (w : World) (b o : Nat) (x : List Nat) : Prop := ∀ j (h : j < x.length), w.cell? ⟨b, o + j, none⟩ = some (.int .u16 (x[j] : Int))

theorem Nums.kept {w w' : World} {b o : Nat} {x : List Nat} (h : Nums w b o x) (hb : Below w.heap.size w w') : Nums w' b o x := fun j hj => by
 rw [hb.cell (World.block_lt_of_cell? w _ (h j hj))]; exact h j hj

set_option maxHeartbeats 2000000 in
set_option maxRecDepth 100000 in
theorem joined_any (b o cap : Nat) (x : List Nat) (w : World) (hg : Gd w) (hx : x.length ≤ 8) (hcap : x.length ≤ cap) (h16 : ∀ n ∈ x, n < 65536) (hc : Nums w b o x) :
  Calls Tryz.prog 354 #[.slice (some ⟨b, o, none⟩) x.length cap] w fun e w' => e = .returned (.string ⟨(joined x).toArray⟩) ∧ Below w.heap.size w w' := by
 obtain ⟨i0, hi, hz0, hz1, hz2⟩ := info_parts infoStr
 have HG := hid hg
 have HC := hid hc
 have H16 := hid h16
 clear hg hc h16
 go_enter Tryz.func354, Tryz.ntmps354
 go_wp2_with (at_make; refine wpList_make_full _ rfl _ _ 32 rfl w.heap.size 9 i0 (.string ByteArray.empty) 1 Tryz.underlying32 hi hz0 hz1 .i64 .i64 _ _ x.length rfl rfl rfl rfl (by rw [hz2]; omega) (by unfold maxLen; omega) (Nat.le_refl _) ?_)
 intro w0 hown0 hgrow0
 have hb0 : Below w.heap.size w w0 := (Below.refl _ w).grown hgrow0 (Nat.le_refl _) (fun k hk => by simp at hk)
 have hst : Strs w0 w.heap.size x 0 := by
  rcases hown0.2 with ⟨hv, _⟩ | ⟨g, cap', cur, hv, _, hcur, _, _, hsz, _⟩
  ·cases hv
  ·cases hv
   exact ⟨cur, hcur, by simpa using hsz, fun j _ h => absurd h (Nat.not_lt_zero _)⟩
 clear hown0 hgrow0
 have HS0 := hid hst
 clear hst
 go_wp2
 go_loopg [11] x.length (fun g iv wr => ∃ k : Nat, k + g = x.length ∧ iv = .int .i64 k ∧ Strs wr w.heap.size x k ∧ Below w.heap.size w wr)
 case atStart => exact ⟨0, by omega, rfl, HS0.out, hb0⟩
 case round =>
  obtain ⟨k, hkg, rfl, hS, hbw⟩ := hrel
  have HS := hid hS
  clear hS
  cases gk with
  | zero =>
   have hkx : ¬ ((k : Int) < (x.length : Int)) := by omega
   have hlen : (x.map hexB).length = x.length := by simp
   have hjn : Lib.join ((x.map hexB).map (·.data.toList)) (⟨#[58]⟩ : ByteArray).data.toList = joined x := by
    rw [List.map_map]; rfl
   have hbk : w.heap.size < wr.heap.size := by
    obtain ⟨cur, hg, _⟩ := HS.out
    rcases Nat.lt_or_ge w.heap.size wr.heap.size with h | h
    ·exact h
    ·rw [Array.getElem?_eq_none h] at hg; cases hg
   have hct := Tryz.strings_Join w.heap.size 0 x.length (x.map hexB) ⟨#[58]⟩ wr (by
    intro j t hj
    obtain ⟨cur, hg, hs, hcc⟩ := HS.out
    rw [Nat.zero_add, cell_of_row wr _ j cur _ _ hg]
    rw [List.getElem?_map] at hj
    obtain ⟨m, hm, rfl⟩ := Option.map_eq_some_iff.1 hj
    obtain ⟨hj2, rfl⟩ := List.getElem?_eq_some_iff.1 hm
    exact hcc j hj2 (by omega)) hbk (by rw [hlen]; omega) (by rw [hlen]; omega) (by rw [hjn]; have := joined_le x; omega)
   rw [hjn, hlen] at hct
   have HCt := hid hct
   clear hct hlen hjn
   go_wp2_with (go_at_call 90; refine HCt.out.mono ?_; rintro e w1 ⟨rfl, hb1⟩)
   go_ret
   exact ⟨rfl, below2 hbw hb1⟩
  | succ g =>
   have hk : k < x.length := by omega
   have hk' : (k : Int) < (x.length : Int) := by omega
   have hcell := (HC.out.kept hbw) k hk
   have hk16 := H16.out x[k] (List.getElem_mem hk)
   obtain ⟨m, hm⟩ : ∃ m, x[k] = m := ⟨_, rfl⟩
   rw [hm] at hcell hk16
   have HM := hid hm
   have HGw := hid (HG.out.kept hbw)
   clear hm
   go_wp2_with fail
   refine (formatUint16 _ _ HGw.out hk16).mono ?_
   rintro e w1 ⟨rfl, hb1⟩
   have HS1 := hid (HS.out.kept hb1)
   obtain ⟨v0, hc0⟩ := HS1.out.cell k hk
   have hfz := HS1.out.frozen k
   have HS2 := hid (show Strs (w1.setCell ⟨w.heap.size, k, none⟩ (.string ⟨(hex16 m).toArray⟩)) w.heap.size x (k + 1) by
    have := HS1.out.set hk
    rw [HM.out] at this
    exact this)
   have HB := hid ((below2 hbw hb1).setCell (p := ⟨w.heap.size, k, none⟩) (Nat.le_refl _) (.string ⟨(hex16 m).toArray⟩))
   clear hb1 hcell
   go_wp2
   go_roundg g
   case measure => omega
   case rel => exact ⟨k + 1, by omega, by go_num, HS2.out, HB.out⟩

end Go.Proofs.YtgoefeaopegdoaaGreatDoor

namespace Go.Proofs.YtgoefeaopegdoaaGreatDoor
open Go.RowKit

theorem nums_row {w : World} {g : Nat} {x : List Nat} {t : TypeId} {f : Nat × Nat} (h : w.heap[g]? = some (.cells (cells16 x).toArray t f)) : Nums w g 0 x := fun j hj => by
 rw [Nat.zero_add, cell_of_row w g j _ t f h]
 simp [cells16, hj]

theorem zeros_le (l : List Nat) : zeros l ≤ l.length := by
 induction l with
 | nil => simp [zeros]
 | cons a l ih => rw [zeros]; split <;> simp <;> omega

theorem zeros_hit {l : List Nat} {e : Nat} (h : e < l.length) (h0 : l[e] = 0) : zeros (l.drop e) = zeros (l.drop (e + 1)) + 1 := by
 rw [List.drop_eq_getElem_cons h, zeros, if_pos h0]

theorem zeros_miss {l : List Nat} {e : Nat} (h : e < l.length) (h0 : l[e] ≠ 0) : zeros (l.drop e) = 0 := by
 rw [List.drop_eq_getElem_cons h, zeros, if_neg h0]

theorem lrunN_take {i fr tu : Nat} {x : List Nat} (h : i < x.length) (hz : max (tu - fr) 1 < zeros (x.drop i)) : lrunN 0 i fr tu (x.drop i) = lrunN 0 (i + 1) i (i + zeros (x.drop i)) (x.drop (i + 1)) := by
 rw [List.drop_eq_getElem_cons h] at hz ⊢
 rw [lrunN, if_pos hz]

theorem lrunN_skip {i fr tu : Nat} {x : List Nat} (h : i < x.length) (hz : ¬ max (tu - fr) 1 < zeros (x.drop i)) : lrunN 0 i fr tu (x.drop i) = lrunN 0 (i + 1) fr tu (x.drop (i + 1)) := by
 rw [List.drop_eq_getElem_cons h] at hz ⊢
 rw [lrunN, if_neg hz]

theorem ret_ii {a b c d : Int} (h : a = b) (g : c = d) : Ending.returned (.tuple #[.int .i64 a, .int .i64 c]) = .returned (.tuple #[.int .i64 b, .int .i64 d]) := by rw [h, g]

set_option maxHeartbeats 2000000 in
set_option maxRecDepth 100000 in
theorem longestRun_any (x : List Nat) (w : World) (h8 : x.length = 8) :
  Calls Tryz.prog 353 #[agg8 x] w fun e w' => e = .returned (.tuple #[.int .i64 ((lrun x).1 : Nat), .int .i64 ((lrun x).2 : Nat)]) ∧ Below w.heap.size w w' := by
 have HN0 := hid (nums_row (x := x) (heap_alloc_new w (.cells (cells16 x).toArray 280 (0, 0))))
 unfold agg8
 go_enter Tryz.func353, Tryz.ntmps353
 go_wp2
 have HB0 := hid ((Below.refl _ w).alloc (Nat.le_refl _) (.cells (cells16 x).toArray 280 (0, 0)))
 go_loopg [4, 5, 8] 8 (fun g fv tv iv wr => ∃ i fr tu : Nat, i + g = 8 ∧ fv = .int .i64 fr ∧ tv = .int .i64 tu ∧ iv = .int .i64 i ∧ fr ≤ tu ∧ tu ≤ 8 ∧ lrunN 0 i fr tu (x.drop i) = lrun x ∧ Nums wr w.heap.size 0 x ∧ Below w.heap.size w wr)
 case atStart => exact ⟨0, 0, 0, by omega, rfl, rfl, rfl, by omega, by omega, rfl, HN0.out, HB0.out⟩
 case round =>
  obtain ⟨i, fr, tu, hig, rfl, rfl, rfl, hft, ht8, hlr, hnums, hbw⟩ := hrel
  have HL := hid hlr
  have HN := hid hnums
  clear hlr hnums
  cases gk with
  | zero =>
   have HR := hid (show lrun x = (fr, tu) by rw [← HL.out, List.drop_eq_nil_of_le (by omega)]; rfl)
   go_wp2
   go_ret2
   exact ⟨ret_ii (by rw [HR.out]) (by rw [HR.out]), hbw⟩
  | succ g =>
   have hi8 : (i : Int) < 8 := by omega
   go_wp2
   go_loopg [7] (8 - i) (fun h ev wx => ∃ e : Nat, i ≤ e ∧ e + h = 8 ∧ ev = .int .i64 e ∧ e + zeros (x.drop e) = i + zeros (x.drop i) ∧ wx = wr)
   case atStart => exact ⟨i, by omega, by omega, rfl, rfl, rfl⟩
   case round =>
    obtain ⟨e, hie, heh, rfl, hze, rfl⟩ := hrel
    have HZ := hid hze
    clear hze
    by_cases hstop : e < 8 ∧ x.getD e 0 = 0
    ·obtain ⟨he8, hx0⟩ := hstop
     have hex : e < x.length := by omega
     have hx0' : x[e] = 0 := by simpa [List.getD, hex] using hx0
     have hcell := HN.out e hex
     rw [hx0', Nat.zero_add] at hcell
     have HZ2 := hid (show e + 1 + zeros (x.drop (e + 1)) = i + zeros (x.drop i) by rw [← HZ.out, zeros_hit hex hx0']; omega)
     have he8' : (e : Int) < 8 := by omega
     clear hx0 hx0'
     go_wp2
     go_roundg (8 - (e + 1))
     case measure => omega
     case rel => exact ⟨e + 1, by omega, by omega, by go_num, HZ2.out, rfl⟩
    ·have hz0 : zeros (x.drop e) = 0 := by
      by_cases he8 : e < 8
      ·have hex : e < x.length := by omega
       refine zeros_miss hex (fun h => hstop ⟨he8, ?_⟩)
       simp [List.getD, hex, h]
      ·rw [List.drop_eq_nil_of_le (by omega)]; rfl
     have hend : e = i + zeros (x.drop i) := by rw [← HZ.out, hz0]; omega
     have hei : e - i = zeros (x.drop i) := by omega
     have hte : e ≤ 8 := by omega
     by_cases hA : max (tu - fr) 1 < zeros (x.drop i)
     ·have HT := hid (show lrunN 0 (i + 1) i e (x.drop (i + 1)) = lrun x by
       have h := lrunN_take (x := x) (i := i) (fr := fr) (tu := tu) (by omega) hA
       rw [HL.out, ← hend] at h
       exact h.symm)
      have hA1 : (tu : Int) - (fr : Int) < (e : Int) - (i : Int) := by omega
      have hA2 : (1 : Int) < (e : Int) - (i : Int) := by omega
      have hA' : max ((tu : Int) - (fr : Int)) 1 < (e : Int) - (i : Int) := by omega
      clear hend hei hz0 hA
      by_cases he8 : e < 8
      ·have hex : e < x.length := by omega
       have hcell := HN.out e hex
       have hx0 : ((x[e] : Int) == 0) = false := by
        rw [beq_eq_false_iff_ne]
        intro h
        apply hstop
        refine ⟨he8, ?_⟩
        simp [List.getD, hex]; omega
       rw [Nat.zero_add] at hcell
       generalize x[e] = xe at hcell hx0
       have he8' : (e : Int) < 8 := by omega
       clear hstop
       go_wp2
       go_roundg g
       case measure => omega
       case rel => exact ⟨i + 1, i, e, by omega, rfl, rfl, by go_num, hie, by omega, HT.out, HN.out, hbw⟩
      ·have he8' : decide ((e : Int) < 8) = false := decide_eq_false (by omega)
       clear hstop
       go_wp2
       go_roundg g
       case measure => omega
       case rel => exact ⟨i + 1, i, e, by omega, rfl, rfl, by go_num, hie, by omega, HT.out, HN.out, hbw⟩
     ·have HT := hid (show lrunN 0 (i + 1) fr tu (x.drop (i + 1)) = lrun x by
       have h := lrunN_skip (x := x) (i := i) (fr := fr) (tu := tu) (by omega) hA
       rw [HL.out] at h
       exact h.symm)
      have hA' : ¬ (max ((tu : Int) - (fr : Int)) 1 < (e : Int) - (i : Int)) := by omega
      clear hend hei hz0 hA
      by_cases he8 : e < 8
      ·have hex : e < x.length := by omega
       have hcell := HN.out e hex
       have hx0 : ((x[e] : Int) == 0) = false := by
        rw [beq_eq_false_iff_ne]
        intro h
        apply hstop
        refine ⟨he8, ?_⟩
        simp [List.getD, hex]; omega
       rw [Nat.zero_add] at hcell
       generalize x[e] = xe at hcell hx0
       have he8' : (e : Int) < 8 := by omega
       clear hstop
       go_wp2
       go_roundg g
       case measure => omega
       case rel => exact ⟨i + 1, fr, tu, by omega, rfl, rfl, by go_num, hft, ht8, HT.out, HN.out, hbw⟩
      ·have he8' : decide ((e : Int) < 8) = false := decide_eq_false (by omega)
       clear hstop
       go_wp2
       go_roundg g
       case measure => omega
       case rel => exact ⟨i + 1, fr, tu, by omega, rfl, rfl, by go_num, hft, ht8, HT.out, HN.out, hbw⟩

end Go.Proofs.YtgoefeaopegdoaaGreatDoor

namespace Go.Proofs.YtgoefeaopegdoaaGreatDoor
open Go.RowKit

theorem lrunN_le : ∀ (l : List Nat) (i fr tu : Nat), fr ≤ tu → tu ≤ i + l.length → (lrunN 0 i fr tu l).1 ≤ (lrunN 0 i fr tu l).2 ∧ (lrunN 0 i fr tu l).2 ≤ i + l.length
 | [], i, fr, tu, h, h2 => ⟨h, h2⟩
 | n :: l, i, fr, tu, h, h2 => by
  rw [lrunN]
  have hz := zeros_le (n :: l)
  simp only [List.length_cons] at hz h2 ⊢
  split
  ·have := lrunN_le l (i + 1) i (i + zeros (n :: l)) (by omega) (by omega)
   omega
  ·have := lrunN_le l (i + 1) fr tu h (by omega)
   omega

theorem lrun_le (x : List Nat) : (lrun x).1 ≤ (lrun x).2 ∧ (lrun x).2 ≤ x.length := by
 have := lrunN_le x 0 0 0 (by omega) (by omega)
 rw [Nat.zero_add] at this
 exact this

theorem slice8_to (b k : Nat) (hk : k ≤ 8) (w : World) : (Instr.sliceAt 280 (.pointer (some ⟨b, 0, none⟩)) none (some (.int .i64 (k : Int))) none).run Tryz.prog w = .ok (.slice (some ⟨b, 0, none⟩) k 8) w := by
 have e8 : Tryz.prog.arrayLen 280 = 8 := by kernel_rfl
 have es : (sizeOf (Tryz.prog.elem 280)).run Tryz.prog w = .ok 1 w := by kernel_rfl
 rw [run_sliceAt_array_h w 280 ⟨b, 0, none⟩ (by kernel_rfl) .i64 _ (by omega) (by rw [e8]; omega), es, e8]
 simp only [Result.andThen, slicedAt]
 simp [Addr.add_mid]

def fromAd (b k : Nat) : Addr := if k = 8 then ⟨b, 0, none⟩ else ⟨b, k, none⟩

theorem slice8_rest (b k : Nat) (hk : k ≤ 8) (w : World) : (Instr.sliceAt 280 (.pointer (some ⟨b, 0, none⟩)) (some (.int .i64 (k : Int))) none none).run Tryz.prog w = .ok (.slice (some (fromAd b k)) (8 - k) (8 - k)) w := by
 have e8 : Tryz.prog.arrayLen 280 = 8 := by kernel_rfl
 have es : (sizeOf (Tryz.prog.elem 280)).run Tryz.prog w = .ok 1 w := by kernel_rfl
 rw [run_sliceAt_array_l w 280 ⟨b, 0, none⟩ (by kernel_rfl) .i64 _ (by omega) (by rw [e8]; omega), es, e8]
 simp only [Result.andThen, slicedAt]
 have e3 : (if 8 = (k : Int).toNat then (⟨b, 0, none⟩ : Addr) else (⟨b, 0, none⟩ : Addr).add ((k : Int).toNat * 1)) = fromAd b k := by
  unfold fromAd
  by_cases h : k = 8
  ·subst h; rfl
  ·rw [if_neg (by omega), if_neg h, Addr.add_mid]; simp
 rw [e3]
 simp

theorem Nums.take {w : World} {b : Nat} {x : List Nat} (h : Nums w b 0 x) (k : Nat) : Nums w b 0 (x.take k) := fun j hj => by
 have hj' : j < x.length := by simp at hj; omega
 rw [List.getElem_take]; exact h j hj'

theorem Nums.drop {w : World} {b : Nat} {x : List Nat} (h : Nums w b 0 x) (k : Nat) : Nums w b k (x.drop k) := fun j hj => by
 have hj' : k + j < x.length := by simp at hj; omega
 rw [List.getElem_drop]
 have := h (k + j) hj'
 rwa [Nat.zero_add] at this

theorem text6_same {x : List Nat} (h : (lrun x).1 = (lrun x).2) : text6 x = joined x := by rw [text6, if_pos h]

theorem text6_run {x : List Nat} (h : (lrun x).1 ≠ (lrun x).2) : text6 x = joined (x.take (lrun x).1) ++ ([58, 58] ++ joined (x.drop (lrun x).2)) := by rw [text6, if_neg h]

set_option maxHeartbeats 2000000 in
set_option maxRecDepth 100000 in
theorem text6_any (x : List Nat) (w : World) (hg : Gd w) (h8 : x.length = 8) (h16 : ∀ n ∈ x, n < 65536) :
  Calls Tryz.prog 333 #[agg8 x] w fun e w' => e = .returned (.string ⟨(text6 x).toArray⟩) ∧ Below w.heap.size w w' := by
 have hrow := heap_alloc_new w (.cells (cells16 x).toArray 280 (0, 0))
 have hi8 : (Tryz.prog.info? 280).map (·.size) = some (cells16 x).length := by rw [cells16_len, h8]; exact size8
 have HR0 := hid hrow
 have HG0 := hid (hg.kept ((Below.refl _ w).alloc (Nat.le_refl _) (.cells (cells16 x).toArray 280 (0, 0))))
 have HB0 := hid ((Below.refl _ w).alloc (Nat.le_refl _) (.cells (cells16 x).toArray 280 (0, 0)))
 have H16 := hid h16
 clear hg hrow h16
 unfold agg8
 go_enter Tryz.func333, Tryz.ntmps333
 go_wp2_with (refine wpList_load_mid rfl 280 (.tmp 1) rfl w.heap.size 0 rfl (cells16 x) _ (range_row HR0.out) Tryz.underlying280 rfl hi8 ?_)
 refine (longestRun_any x _ h8).mono ?_
 rintro e w1 ⟨rfl, hb1⟩
 have HN1 := hid ((nums_row HR0.out).kept hb1)
 have HG1 := hid (HG0.out.kept hb1)
 have HB1 := hid (below2 HB0.out hb1)
 clear hb1
 obtain ⟨hle1, hle2⟩ := lrun_le x
 obtain ⟨fr, hfr⟩ : ∃ fr, fr = (lrun x).1 := ⟨_, rfl⟩
 obtain ⟨tu, hto⟩ : ∃ tu, tu = (lrun x).2 := ⟨_, rfl⟩
 rw [← hfr, ← hto] at hle1
 rw [← hto, h8] at hle2
 rw [← hfr, ← hto]
 have HFr := hid hfr
 have HTo := hid hto
 clear hfr hto
 by_cases hft : fr = tu
 ·have HT := hid (text6_same (x := x) (by rw [← HFr.out, ← HTo.out]; exact hft))
  have hft' : ((fr : Int) == (tu : Int)) = true := by rw [hft]; simp
  have HJ := hid (show Calls Tryz.prog 354 #[.slice (some ⟨w.heap.size, 0, none⟩) 8 8] w1 fun e w' => e = .returned (.string ⟨(joined x).toArray⟩) ∧ Below w1.heap.size w1 w' by
   have := joined_any w.heap.size 0 8 x w1 HG1.out (by omega) (by omega) H16.out HN1.out
   rw [h8] at this
   exact this)
  go_wp2_with (go_at_call 354; refine HJ.out.mono ?_; rintro e w2 ⟨rfl, hb2⟩)
  go_ret
  rw [HT.out]
  exact ⟨rfl, below2 HB1.out hb2⟩
 ·have HT := hid (text6_run (x := x) (by rw [← HFr.out, ← HTo.out]; exact hft))
  rw [← HFr.out, ← HTo.out] at HT
  have hft' : ((fr : Int) == (tu : Int)) = false := by rw [beq_eq_false_iff_ne]; omega
  have HJ1 := hid (show ∀ W, Below w1.heap.size w1 W → Calls Tryz.prog 354 #[.slice (some ⟨w.heap.size, 0, none⟩) fr 8] W fun e w' => e = .returned (.string ⟨(joined (x.take fr)).toArray⟩) ∧ Below W.heap.size W w' by
   intro W hW
   have hl : (x.take fr).length = fr := by simp; omega
   have := joined_any w.heap.size 0 8 (x.take fr) W (HG1.out.kept hW) (by omega) (by omega) (fun n hn => H16.out n (List.mem_of_mem_take hn)) ((HN1.out.kept hW).take fr)
   rw [hl] at this
   exact this)
  have HJ2 := hid (show ∀ W, Below w1.heap.size w1 W → Calls Tryz.prog 354 #[.slice (some (fromAd w.heap.size tu)) (8 - tu) (8 - tu)] W fun e w' => e = .returned (.string ⟨(joined (x.drop tu)).toArray⟩) ∧ Below W.heap.size W w' by
   intro W hW
   have hl : (x.drop tu).length = 8 - tu := by simp; omega
   by_cases ht : tu = 8
   ·have hx0 : x.drop tu = [] := List.drop_eq_nil_of_le (by omega)
    have := joined_any w.heap.size 0 0 ([] : List Nat) W (HG1.out.kept hW) (by simp) (by simp) (by simp) (by intro j hj; simp at hj)
    rw [hx0, fromAd, if_pos ht, ht]
    exact this
   ·have := joined_any w.heap.size tu (8 - tu) (x.drop tu) W (HG1.out.kept hW) (by omega) (by omega) (fun n hn => H16.out n (List.mem_of_mem_drop hn)) ((HN1.out.kept hW).drop tu)
    rw [hl] at this
    rw [fromAd, if_neg ht]
    exact this)
  have hs1 := slice8_to w.heap.size fr (by omega)
  have hs2 := slice8_rest w.heap.size tu (by omega)
  have hj1 := joined_le (x.take fr)
  have hj2 := joined_le (x.drop tu)
  have hl1 : (x.take fr).length ≤ 8 := by simp; omega
  have hl2 : (x.drop tu).length ≤ 8 := by simp; omega
  have hj1' : (joined (x.take fr)).length ≤ 48 := by omega
  have hj2' : (joined (x.drop tu)).length ≤ 48 := by omega
  clear hj1 hj2 hl1 hl2
  generalize joined (x.take fr) = A at *
  generalize joined (x.drop tu) = B at *
  generalize fromAd w.heap.size tu = ad2 at *
  generalize 8 - tu = r2 at *
  go_wp2
  go_region_with (first | (go_at_call 354; refine (HJ2.out _ ((Below.refl _ w1).drew.trans (hb2.mono (Nat.le_refl _)))).mono ?_; rintro e w3 ⟨rfl, hb3⟩) | (go_at_call 354; refine (HJ1.out _ (Below.refl _ w1).drew).mono ?_; rintro e w2 ⟨rfl, hb2⟩))
  all_goals
   go_wp2
   go_ret
   rw [HT.out]
   refine ⟨?_, below2 (below2 (below2 HB1.out ((Below.refl _ w1).drew)) hb2) hb3⟩
   have e : (⟨A.toArray⟩ : ByteArray) ++ ⟨#[58, 58]⟩ ++ ⟨B.toArray⟩ = ⟨(A ++ ([58, 58] ++ B)).toArray⟩ := by
    rw [show (⟨#[58, 58]⟩ : ByteArray) = ⟨[58, 58].toArray⟩ from rfl, ba_app, ba_app, List.append_assoc]
   rw [← e]
   rfl

end Go.Proofs.YtgoefeaopegdoaaGreatDoor
