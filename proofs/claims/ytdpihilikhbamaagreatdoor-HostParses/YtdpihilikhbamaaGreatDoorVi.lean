/-
  The walk of host.Six.
-/
import Derived.Test.YtdpihilikhbamaaGreatDoorVh
import Derived.Laws.CopyOwn
import Derived.Laws.ResultCell
import Derived.Deep.MidRow
set_option linter.unusedSimpArgs false
set_option linter.unusedVariables false
namespace Go.Proofs.YtdpihilikhbamaaGreatDoor
open Go.RowKit

def zero8 : List Nat := [0, 0, 0, 0, 0, 0, 0, 0]
def agg8 (x : List Nat) : Value := .agg (cells16 x).toArray

theorem sixV_no1 {l : List UInt8} (h : piecesV (Lib.cut l [58, 58]).1 (!(Lib.cut l [58, 58]).2.2) = none) : sixV l = none := by rw [sixV, h]
theorem sixV_no2 {l : List UInt8} (h : piecesV (Lib.cut l [58, 58]).2.1 true = none) : sixV l = none := by
  rw [sixV, h]; split <;> simp_all
theorem sixV_no3 {l : List UInt8} {a b : List Nat} (h1 : piecesV (Lib.cut l [58, 58]).1 (!(Lib.cut l [58, 58]).2.2) = some a) (h2 : piecesV (Lib.cut l [58, 58]).2.1 true = some b) (h : ¬ (a.length + b.length ≤ 8 ∧ ((Lib.cut l [58, 58]).2.2 = true ↔ a.length + b.length < 8))) : sixV l = none := by
  rw [sixV, h1, h2]; simp only; rw [if_neg h]
theorem sixV_yes {l : List UInt8} {a b : List Nat} (h1 : piecesV (Lib.cut l [58, 58]).1 (!(Lib.cut l [58, 58]).2.2) = some a) (h2 : piecesV (Lib.cut l [58, 58]).2.1 true = some b) (h : a.length + b.length ≤ 8 ∧ ((Lib.cut l [58, 58]).2.2 = true ↔ a.length + b.length < 8)) : sixV l = some (a ++ List.replicate (8 - a.length - b.length) 0 ++ b) := by
  rw [sixV, h1, h2]; simp only; rw [if_pos h]

theorem row_kept {w w' : World} {g : Nat} {o : Obj} (h : w.heap[g]? = some o) (hb : Below w.heap.size w w') : w'.heap[g]? = some o := by
  have hlt : g < w.heap.size := by
    rcases Nat.lt_or_ge g w.heap.size with h' | h'
    · exact h'
    · rw [Array.getElem?_eq_none h'] at h; cases h
  rw [hb.block g hlt]; exact h

theorem there_row {w : World} {g n : Nat} {cs : Array Value} {t : TypeId} (h : w.heap[g]? = some (.cells cs t (0, 0))) (hn : n ≤ cs.size) : w.there g 0 n := by
  intro j hj
  constructor
  · rw [cell_of_row w g _ cs t _ h]; simp; omega
  · simp [World.frozen?, h]

theorem range_row {w : World} {g : Nat} {cs : List Value} {t : TypeId} {f : Nat × Nat} (h : w.heap[g]? = some (.cells cs.toArray t f)) : w.rangeAt g 0 cs := by
  intro j v hv
  rw [Nat.zero_add, cell_of_row w g j _ t _ h]
  simpa using hv

theorem below_setCells {B b : Nat} (hb : B ≤ b) {w0 : World} : ∀ (vs : List Value) (o : Nat) (w : World), Below B w0 w → Below B w0 (w.setCells b o vs)
  | [], _, _, h => h
  | v :: r, o, w, h => by
    rw [World.setCells]
    exact below_setCells hb r (o + 1) _ (h.setCell (p := ⟨b, o, none⟩) hb v)

theorem results_six {fn : Func} {p u : Tmp} {ty : TypeId} (h : fn.results = #[.cell p ty, .tmp u]) (tmps : Array Value) (P : Program) (w : World) (b : Nat) (cs : List Value) (d : TypeDesc) (hp : tmps.getD p undef = .pointer (some ⟨b, 0, none⟩)) (hc : w.rangeAt b 0 cs)
    (hu : P.underlying ty = some d) (hd : d.isRow = true) (hi : (P.info? ty).map (·.size) = some cs.length) : (results fn tmps).run P w = .ok (.tuple #[.agg cs.toArray, tmps.getD u undef]) w := by
  rw [results_cell_tmp h, hp]
  simp [asAddr, Result.andThen, run_loadVar_mid w b 0 ty cs d hc hu hd hi]

theorem own_src {w w' : World} {base : Nat} {e : TypeId} {a : Option Addr} {cap : Nat} {o : List Nat} (h : w.ownsRow base e 1 (.slice a o.length cap) o.length (cells16 o)) (h0 : 0 < o.length) (hb : Below w.heap.size w w') :
    ∃ ad, a = some ad ∧ ∀ j v, (cells16 o)[j]? = some v → w'.cell? (ad.add j) = some v := by
  rcases h.2 with ⟨hv, hn⟩ | ⟨g, cap', cur, hv, _⟩
  · omega
  · cases hv
    refine ⟨⟨g, 0, none⟩, rfl, fun j v hj => ?_⟩
    have hc := h.cells (g := g) rfl j v hj
    have hlt := World.block_lt_of_cell? w _ hc
    rw [hb.cell hlt]
    exact hc

def cutAd (b k : Nat) : Addr := if k = 0 then ⟨b, 0, none⟩ else ⟨b, 8 - k, none⟩

theorem slice8_from (b k : Nat) (hk : k ≤ 8) (w : World) : (Instr.sliceAt 34 (.pointer (some ⟨b, 0, none⟩)) (some (.int .i64 (8 - (k : Int)))) none none).run Tryz.prog w = .ok (.slice (some (cutAd b k)) k k) w := by
  have e8 : Tryz.prog.arrayLen 34 = 8 := by kernel_rfl
  have es : (sizeOf (Tryz.prog.elem 34)).run Tryz.prog w = .ok 1 w := by kernel_rfl
  rw [run_sliceAt_array_l w 34 ⟨b, 0, none⟩ (by kernel_rfl) .i64 _ (by omega) (by rw [e8]; omega), es, e8]
  simp only [Result.andThen, slicedAt]
  have e1 : (8 - (k : Int)).toNat = 8 - k := by omega
  have e2 : 8 - (8 - k) = k := by omega
  have e3 : (if 8 = 8 - k then (⟨b, 0, none⟩ : Addr) else (⟨b, 0, none⟩ : Addr).add ((8 - k) * 1)) = cutAd b k := by
    unfold cutAd
    by_cases h0 : k = 0
    · subst h0; rfl
    · rw [if_neg (by omega), if_neg h0, Addr.add_mid]; simp
  rw [e1, e2, e3]

theorem size8 : (Tryz.prog.info? 34).map (·.size) = some 8 := by kernel_rfl

theorem cells16_one (x : List Nat) : ∀ v ∈ cells16 x, v.oneCell' = true := by
  intro v hv
  obtain ⟨n, _, rfl⟩ := List.mem_map.1 hv
  rfl

theorem splice16 (a b : List Nat) (h : a.length + b.length ≤ 8) : splice (splice (cells16 zero8) 0 (cells16 a)) (8 - b.length) (cells16 b) = cells16 (a ++ List.replicate (8 - a.length - b.length) 0 ++ b) := by
  have hz : cells16 zero8 = List.replicate 8 (Value.int .u16 0) := rfl
  have e1 : splice (cells16 zero8) 0 (cells16 a) = cells16 a ++ List.replicate (8 - a.length) (Value.int .u16 0) := by
    unfold splice
    rw [hz, List.take_zero, List.nil_append, Nat.zero_add, cells16_len, List.drop_replicate]
  rw [e1]
  unfold splice
  rw [cells16_app, cells16_app, cells16_len, List.take_append, List.take_of_length_le (by rw [cells16_len]; omega), cells16_len, List.take_replicate, List.append_assoc, List.append_assoc]
  congr 1
  have e2 : min (8 - b.length - a.length) (8 - a.length) = 8 - a.length - b.length := by omega
  have e3 : (cells16 a ++ List.replicate (8 - a.length) (Value.int IntKind.u16 0)).drop (8 - b.length + b.length) = [] := by
    apply List.drop_eq_nil_of_le
    rw [List.length_append, cells16_len, List.length_replicate]; omega
  rw [e2, e3, List.append_nil]
  congr 1
  simp [cells16]

theorem ret_six {a : List Value} {o : Option (List Nat)} {x : Int} {l : List Nat} (h : cells16 l = a) (hl : l = o.getD zero8) (g : x = er o) : Ending.returned (.tuple #[.agg a.toArray, .int .i64 x]) = .returned (.tuple #[agg8 (o.getD zero8), .int .i64 (er o)]) := by
  rw [g, ← h, hl]; rfl

set_option maxHeartbeats 4000000 in
set_option maxRecDepth 100000 in
theorem six_any (s : ByteArray) (w : World) (hg : Gd w) (hs : s.size ≤ 4000000000) :
    Calls Tryz.prog 9 #[.string s] w fun e w' => e = .returned (.tuple #[agg8 ((sixV s.data.toList).getD zero8), .int .i64 (er (sixV s.data.toList))]) ∧ Below w.heap.size w w' := by
  obtain ⟨⟨p, q, gap⟩, hc⟩ : ∃ x, Lib.cut s.data.toList [58, 58] = x := ⟨_, rfl⟩
  have hcl := cut_le s.data.toList [58, 58]
  rw [hc] at hcl
  obtain ⟨hal, hbl⟩ := hcl
  simp only at hal hbl
  have hps : (⟨p.toArray⟩ : ByteArray).size ≤ 4000000000 := by show p.toArray.size ≤ _; simp at hal ⊢; omega
  have hqs : (⟨q.toArray⟩ : ByteArray).size ≤ 4000000000 := by show q.toArray.size ≤ _; simp at hbl ⊢; omega
  have HC := hid hc
  have HG0 := hid hg
  clear hc hg hal hbl
  go_enter Tryz.func9, Tryz.ntmps9
  go_wp2_with fail
  refine (cut_any _ _ _ (HG0.out.kept ((Below.refl _ w).alloc (Nat.le_refl _) _)) hs).mono ?_
  rintro e w1 ⟨rfl, hb1⟩
  rw [show (⟨#[58, 58]⟩ : ByteArray).data.toList = [58, 58] from rfl, HC.out]
  dsimp only
  have HR1 := hid (row_kept (heap_alloc_new w _) hb1)
  have HB1 := hid (below2 ((Below.refl _ w).alloc (Nat.le_refl _) _) hb1)
  clear hb1
  go_wp2_with fail
  refine (readPieces_any _ _ _ (HG0.out.kept HB1.out) hps).mono ?_
  rintro e w2 ⟨a1, cap1, o1, rfl, hown1, hl1, hpp1, hb2⟩
  have HO1 := hid hown1
  have HP1 := hid hpp1
  have HR2 := hid (row_kept HR1.out hb2)
  have HB2 := hid (below2 HB1.out hb2)
  clear hown1 hpp1 hb2
  go_wp2_with fail
  refine (readPieces_any _ _ _ (HG0.out.kept HB2.out) hqs).mono ?_
  rintro e w3 ⟨a2, cap2, o2, rfl, hown2, hl2, hpp2, hb3⟩
  have HO2 := hid hown2
  have HP2 := hid hpp2
  have HR3 := hid (row_kept HR2.out hb3)
  have HO1' := hid (own_kept HO1.out hb3)
  have HB3 := hid (below2 HB2.out hb3)
  clear hown2 hpp2 hb3
  rw [show (⟨q.toArray⟩ : ByteArray).data.toList = q from rfl]
  cases h1 : piecesV p (!gap) with
  | none =>
    have HN := hid (sixV_no1 (l := s.data.toList) (by rw [HC.out]; exact h1))
    clear h1
    go_wp2_with (refine wpList_store_mid rfl 34 (.tmp 2) (.tmp 53) rfl w.heap.size 0 (cells16 zero8).toArray rfl rfl (there_row HR3.out (by decide)) size8 (all_oneCell_toArray (cells16_one _)) ?_)
    refine bodyPost_ret (results_six rfl _ _ _ w.heap.size (cells16 zero8) _ rfl (World.rangeAt_setCells_same _ _ _ _ (there_row HR3.out (by decide))) Tryz.underlying34 rfl size8) rfl ⟨ret_six rfl (by rw [HN.out]; rfl) (er_none HN.out).symm, below_setCells (Nat.le_refl _) _ _ _ HB3.out⟩
  | some a =>
    obtain rfl := (HP1.out a h1)
    have H1 := hid h1
    clear h1
    cases h2 : piecesV q true with
    | none =>
      have HN := hid (sixV_no2 (l := s.data.toList) (by rw [HC.out]; exact h2))
      clear h2
      go_wp2_with (refine wpList_store_mid rfl 34 (.tmp 2) (.tmp 53) rfl w.heap.size 0 (cells16 zero8).toArray rfl rfl (there_row HR3.out (by decide)) size8 (all_oneCell_toArray (cells16_one _)) ?_)
      refine bodyPost_ret (results_six rfl _ _ _ w.heap.size (cells16 zero8) _ rfl (World.rangeAt_setCells_same _ _ _ _ (there_row HR3.out (by decide))) Tryz.underlying34 rfl size8) rfl ⟨ret_six rfl (by rw [HN.out]; rfl) (er_none HN.out).symm, below_setCells (Nat.le_refl _) _ _ _ HB3.out⟩
    | some b =>
      obtain rfl := (HP2.out b h2)
      have H2 := hid h2
      clear h2
      by_cases h8 : 8 < o1.length + o2.length
      · have HN := hid (sixV_no3 (l := s.data.toList) (a := o1) (b := o2) (by rw [HC.out]; exact H1.out) (by rw [HC.out]; exact H2.out) (by omega))
        have h8' : (8 : Int) - (o1.length : Int) - (o2.length : Int) < 0 := by omega
        go_wp2_with (refine wpList_store_mid rfl 34 (.tmp 2) (.tmp 53) rfl w.heap.size 0 (cells16 zero8).toArray rfl rfl (there_row HR3.out (by decide)) size8 (all_oneCell_toArray (cells16_one _)) ?_)
        refine bodyPost_ret (results_six rfl _ _ _ w.heap.size (cells16 zero8) _ rfl (World.rangeAt_setCells_same _ _ _ _ (there_row HR3.out (by decide))) Tryz.underlying34 rfl size8) rfl ⟨ret_six rfl (by rw [HN.out]; rfl) (er_none HN.out).symm, below_setCells (Nat.le_refl _) _ _ _ HB3.out⟩
      · have h8' : ¬ ((8 : Int) - (o1.length : Int) - (o2.length : Int) < 0) := by omega
        have h8d := decide_eq_false h8'
        by_cases hgp : (gap = true ↔ o1.length + o2.length < 8)
        · have HN := hid (sixV_yes (l := s.data.toList) (a := o1) (b := o2) (by rw [HC.out]; exact H1.out) (by rw [HC.out]; exact H2.out) (by rw [HC.out]; exact ⟨by omega, hgp⟩))
          have hn1 : (cells16 o1).length = o1.length := cells16_len _
          have hn2 : (cells16 o2).length = o2.length := cells16_len _
          have hcase : (gap = true ∧ (0 : Int) < 8 - (o1.length : Int) - (o2.length : Int)) ∨ (gap = false ∧ ¬ ((0 : Int) < 8 - (o1.length : Int) - (o2.length : Int))) := by
            cases gap
            · right; simp at hgp ⊢; omega
            · left; simp at hgp ⊢; omega
          clear hgp
          obtain ⟨X, hXe⟩ : ∃ X, X = o1 ++ List.replicate (8 - o1.length - o2.length) 0 ++ o2 := ⟨_, rfl⟩
          have hX8 : (cells16 X).length = 8 := by rw [cells16_len, hXe]; simp; omega
          have HXe := hid hXe
          clear hXe
          rcases hcase with ⟨rfl, hq⟩ | ⟨rfl, hq⟩
          · have hqd : decide ((o2.length : Int) < 8 - (o1.length : Int)) = true := decide_eq_true (by omega)
            go_wp2_with ((refine wpList_copy_splice rfl _ _ 59 59 rfl 33 Tryz.underlying59 (by kernel_rfl) _ _ _ _ _ _ rfl rfl w3.heap.size 0 (cells16 zero8) 34 (heap_alloc_new w3 _) (cells16 o1) ?n1 ?n2 ?n3 (cells16_one _) w3.heap.size w3 ((Below.refl _ w3).alloc (Nat.le_refl _) _) (Nat.le_refl _) ?_))
            case n1 => rw [hn1]; exact (Nat.min_eq_left (by omega)).symm
            case n2 => exact fun h => own_src HO1'.out (by rw [hn1] at *; omega) ((Below.refl _ w3).alloc (Nat.le_refl _) _)
            case n3 => rw [hn1]; show 0 + o1.length ≤ 8; omega
            intro w4 HX hb4
            have hsl := slice8_from w3.heap.size o2.length (by omega) w4
            have HO2' := hid (own_kept HO2.out hb4)
            have HR4 := hid (row_kept HR3.out hb4)
            have HB4 := hid (below2 HB3.out hb4)
            clear h8d hqd
            go_wp2_with (refine wpList_copy_splice rfl _ _ 59 59 rfl 33 Tryz.underlying59 (by kernel_rfl) _ _ _ _ _ _ rfl rfl w3.heap.size (8 - o2.length) (splice (cells16 zero8) 0 (cells16 o1)) 34 HX.out (cells16 o2) ?m1 ?m2 ?m3 (cells16_one _) w3.heap.size w3 hb4 (Nat.le_refl _) ?_)
            case m1 => rw [hn2]; exact (Nat.min_self _).symm
            case m2 =>
              intro h
              rw [hn2] at h
              refine ⟨by rw [cutAd, if_neg (by omega)], own_src HO2.out h hb4⟩
            case m3 => rw [hn2, length_splice _ _ _ (by rw [hn1]; show 0 + o1.length ≤ 8; omega)]; show 8 - o2.length + o2.length ≤ 8; omega
            intro w5 HX2 hb5
            have HX3 := hid (show w5.heap[w3.heap.size]? = some (.cells (cells16 X).toArray 34 (0, 0)) by rw [HXe.out, ← splice16 o1 o2 (by omega)]; exact HX2.out)
            have HR5 := hid (row_kept HR3.out hb5)
            have HB5 := hid (below2 HB3.out hb5)
            have hi8 : (Tryz.prog.info? 34).map (·.size) = some (cells16 X).length := by rw [hX8]; exact size8
            have hi8' : (Tryz.prog.info? 34).map (·.size) = some (cells16 X).toArray.size := by rw [List.size_toArray, hX8]; exact size8
            have hth : w5.there w.heap.size 0 (cells16 X).toArray.size := there_row HR5.out (by rw [List.size_toArray, hX8]; decide)
            have hth2 : w5.there w.heap.size 0 (cells16 X).length := by rw [hX8]; exact there_row HR5.out (by decide)
            clear HX2
            go_wp2_with (first | refine wpList_load_mid rfl 34 (.tmp 12) rfl w3.heap.size 0 rfl (cells16 X) _ (range_row HX3.out) Tryz.underlying34 rfl hi8 ?_ | refine wpList_store_mid rfl 34 (.tmp 2) (.tmp 63) rfl w.heap.size 0 (cells16 X).toArray rfl rfl hth hi8' (all_oneCell_toArray (cells16_one _)) ?_)
            refine bodyPost_ret (results_six rfl _ _ _ w.heap.size (cells16 X) _ rfl (World.rangeAt_setCells_same _ _ _ _ hth2) Tryz.underlying34 rfl hi8) rfl ⟨ret_six rfl (by rw [HN.out, HXe.out]; rfl) (er_some HN.out).symm, below_setCells (Nat.le_refl _) _ _ _ HB5.out⟩
          · have hqd : decide ((o2.length : Int) < 8 - (o1.length : Int)) = false := decide_eq_false (by omega)
            go_wp2_with ((refine wpList_copy_splice rfl _ _ 59 59 rfl 33 Tryz.underlying59 (by kernel_rfl) _ _ _ _ _ _ rfl rfl w3.heap.size 0 (cells16 zero8) 34 (heap_alloc_new w3 _) (cells16 o1) ?n1b ?n2b ?n3b (cells16_one _) w3.heap.size w3 ((Below.refl _ w3).alloc (Nat.le_refl _) _) (Nat.le_refl _) ?_))
            case n1b => rw [hn1]; exact (Nat.min_eq_left (by omega)).symm
            case n2b => exact fun h => own_src HO1'.out (by rw [hn1] at *; omega) ((Below.refl _ w3).alloc (Nat.le_refl _) _)
            case n3b => rw [hn1]; show 0 + o1.length ≤ 8; omega
            intro w4 HX hb4
            have hsl := slice8_from w3.heap.size o2.length (by omega) w4
            have HO2' := hid (own_kept HO2.out hb4)
            have HR4 := hid (row_kept HR3.out hb4)
            have HB4 := hid (below2 HB3.out hb4)
            clear h8d hqd
            go_wp2_with (refine wpList_copy_splice rfl _ _ 59 59 rfl 33 Tryz.underlying59 (by kernel_rfl) _ _ _ _ _ _ rfl rfl w3.heap.size (8 - o2.length) (splice (cells16 zero8) 0 (cells16 o1)) 34 HX.out (cells16 o2) ?m1b ?m2b ?m3b (cells16_one _) w3.heap.size w3 hb4 (Nat.le_refl _) ?_)
            case m1b => rw [hn2]; exact (Nat.min_self _).symm
            case m2b =>
              intro h
              rw [hn2] at h
              refine ⟨by rw [cutAd, if_neg (by omega)], own_src HO2.out h hb4⟩
            case m3b => rw [hn2, length_splice _ _ _ (by rw [hn1]; show 0 + o1.length ≤ 8; omega)]; show 8 - o2.length + o2.length ≤ 8; omega
            intro w5 HX2 hb5
            have HX3 := hid (show w5.heap[w3.heap.size]? = some (.cells (cells16 X).toArray 34 (0, 0)) by rw [HXe.out, ← splice16 o1 o2 (by omega)]; exact HX2.out)
            have HR5 := hid (row_kept HR3.out hb5)
            have HB5 := hid (below2 HB3.out hb5)
            have hi8 : (Tryz.prog.info? 34).map (·.size) = some (cells16 X).length := by rw [hX8]; exact size8
            have hi8' : (Tryz.prog.info? 34).map (·.size) = some (cells16 X).toArray.size := by rw [List.size_toArray, hX8]; exact size8
            have hth : w5.there w.heap.size 0 (cells16 X).toArray.size := there_row HR5.out (by rw [List.size_toArray, hX8]; decide)
            have hth2 : w5.there w.heap.size 0 (cells16 X).length := by rw [hX8]; exact there_row HR5.out (by decide)
            clear HX2
            go_wp2_with (first | refine wpList_load_mid rfl 34 (.tmp 12) rfl w3.heap.size 0 rfl (cells16 X) _ (range_row HX3.out) Tryz.underlying34 rfl hi8 ?_ | refine wpList_store_mid rfl 34 (.tmp 2) (.tmp 63) rfl w.heap.size 0 (cells16 X).toArray rfl rfl hth hi8' (all_oneCell_toArray (cells16_one _)) ?_)
            refine bodyPost_ret (results_six rfl _ _ _ w.heap.size (cells16 X) _ rfl (World.rangeAt_setCells_same _ _ _ _ hth2) Tryz.underlying34 rfl hi8) rfl ⟨ret_six rfl (by rw [HN.out, HXe.out]; rfl) (er_some HN.out).symm, below_setCells (Nat.le_refl _) _ _ _ HB5.out⟩
        · have HN := hid (sixV_no3 (l := s.data.toList) (a := o1) (b := o2) (by rw [HC.out]; exact H1.out) (by rw [HC.out]; exact H2.out) (by rw [HC.out]; exact fun h => hgp h.2))
          have hcase : (gap = true ∧ ¬ ((0 : Int) < 8 - (o1.length : Int) - (o2.length : Int))) ∨ (gap = false ∧ (0 : Int) < 8 - (o1.length : Int) - (o2.length : Int)) := by
            cases gap
            · right; simp at hgp ⊢; omega
            · left; simp at hgp ⊢; omega
          clear hgp
          rcases hcase with ⟨rfl, hq⟩ | ⟨rfl, hq⟩
          · have hqd : decide ((o2.length : Int) < 8 - (o1.length : Int)) = false := decide_eq_false (by omega)
            go_wp2_with (refine wpList_store_mid rfl 34 (.tmp 2) (.tmp 53) rfl w.heap.size 0 (cells16 zero8).toArray rfl rfl (there_row HR3.out (by decide)) size8 (all_oneCell_toArray (cells16_one _)) ?_)
            refine bodyPost_ret (results_six rfl _ _ _ w.heap.size (cells16 zero8) _ rfl (World.rangeAt_setCells_same _ _ _ _ (there_row HR3.out (by decide))) Tryz.underlying34 rfl size8) rfl ⟨ret_six rfl (by rw [HN.out]; rfl) (er_none HN.out).symm, below_setCells (Nat.le_refl _) _ _ _ HB3.out⟩
          · have hqd : decide ((o2.length : Int) < 8 - (o1.length : Int)) = true := decide_eq_true (by omega)
            go_wp2_with (refine wpList_store_mid rfl 34 (.tmp 2) (.tmp 53) rfl w.heap.size 0 (cells16 zero8).toArray rfl rfl (there_row HR3.out (by decide)) size8 (all_oneCell_toArray (cells16_one _)) ?_)
            refine bodyPost_ret (results_six rfl _ _ _ w.heap.size (cells16 zero8) _ rfl (World.rangeAt_setCells_same _ _ _ _ (there_row HR3.out (by decide))) Tryz.underlying34 rfl size8) rfl ⟨ret_six rfl (by rw [HN.out]; rfl) (er_none HN.out).symm, below_setCells (Nat.le_refl _) _ _ _ HB3.out⟩

end Go.Proofs.YtdpihilikhbamaaGreatDoor
