/-
  The walk of digest's folded, at 64 bits.
-/
import Derived.Test.YtbdlicomkpnalaaDoorZLf6
import Derived.Test.YtbdlicomkpnalaaDoorZ0
import Derived.Test.YtbdlicomkpnalaaDoorZLhl6
import Derived.Test.YtbdlicomkpnalaaDoorZLhm6
import Derived.BigQuiet
import Derived.Deep.QuietTactic
set_option linter.unusedSimpArgs false
set_option linter.unusedVariables false
namespace Go.Proofs.YtbdlicomkpnalaaDoor
open Go.RowKit

/-- What the rounds leave beside the words: the kind, the state, room for the answer, the schedule, the roots. -/
def Fld6 (w wr : World) (q : Nat) (S L : List Nat) : Prop :=
  wr.heap[w.heap.size]? = some (.cells #[.int .u64 64, .int .i64 80, .int .u64 1, .int .u64 8, .int .u64 7, .int .u64 19, .int .u64 61, .int .u64 6, .int .u64 28, .int .u64 34, .int .u64 39, .int .u64 14, .int .u64 18, .int .u64 41] 73 (0, 0)) ∧ Rw wr (w.heap.size + 1) .u64 77 S ∧ Rw wr (w.heap.size + 1 + 1) .u64 77 (List.replicate 8 0) ∧ Rw wr q .u64 61 L ∧ Gt wr ∧ Below w.heap.size w wr

theorem Fld6.kept {w wr X : World} {q : Nat} {S L : List Nat} (h : Fld6 w wr q S L) (hb : Below wr.heap.size wr X) : Fld6 w X q S L := by
  obtain ⟨h1, h2, h3, h4, h5, h6⟩ := h
  exact ⟨row_kept h1 hb, h2.kept hb, h3.kept hb, h4.kept hb, h5.kept hb, h6.trans (hb.mono h6.size)⟩

set_option maxHeartbeats 4000000 in
set_option maxRecDepth 100000 in
theorem folded64 (a b c d e f g h : Nat) (x : Addr) (cap : Nat) (l : List UInt8) (w : World) (hg : Gt w) (hc : ∀ j (h : j < l.length), w.cell? (x.add j) = some (.int .u8 (l[j].toNat : Int))) (hl : l.length = 128) (hcap : 128 ≤ cap)
    (hbd : BdS (2 ^ 64) ⟨a, b, c, d, e, f, g, h⟩) :
    Calls Tryd.prog 86 #[.agg #[.int .u64 64, .int .i64 80, .int .u64 1, .int .u64 8, .int .u64 7, .int .u64 19, .int .u64 61, .int .u64 6, .int .u64 28, .int .u64 34, .int .u64 39, .int .u64 14, .int .u64 18, .int .u64 41], .agg #[.int .u64 (a : Int), .int .u64 (b : Int), .int .u64 (c : Int), .int .u64 (d : Int), .int .u64 (e : Int), .int .u64 (f : Int), .int .u64 (g : Int), .int .u64 (h : Int)], .slice (some x) 128 cap] w fun e' w' => e' = .returned (.agg (cW .u64 (foldV wid cbr ⟨a, b, c, d, e, f, g, h⟩ l).list).toArray) ∧ Below w.heap.size w w' := by
  obtain ⟨L, hL⟩ : ∃ L, L = w80V wid l := ⟨_, rfl⟩
  have HL80 := hid (show L.length = 80 by rw [hL]; exact w80_len _ _ (by decide) (by decide))
  have HLB := hid (show ∀ i, L.getD i 0 < 2 ^ 64 by intro i; rw [hL]; exact w80_lt wid l i (by decide) (by decide) (by decide))
  have HL := hid hL
  obtain ⟨F, hF⟩ : ∃ F, F = rdsV wid (cbr.take 80) L ⟨a, b, c, d, e, f, g, h⟩ := ⟨_, rfl⟩
  have HF := hid hF
  have HFO := hid (show foldV wid cbr ⟨a, b, c, d, e, f, g, h⟩ l = addV wid ⟨a, b, c, d, e, f, g, h⟩ F by
    rw [hF, hL]
    exact (congrArg (addV wid _) (rds_w80 wid cbr l _ (by decide))).symm)
  obtain ⟨Z, hZ⟩ : ∃ Z, Z = (addV wid ⟨a, b, c, d, e, f, g, h⟩ F).list := ⟨_, rfl⟩
  have HZE := hid hZ
  rw [HFO.out, ← hZ]
  clear hZ
  have HBD := hid hbd
  have HG := hid hg
  have HC := hid hc
  have HLL := hid hl
  clear hL hF hc hl hbd hg
  go_enter Tryd.func86, Tryd.ntmps86
  go_wp2_with fail
  refine (schedule64 x cap l _ ?_ HLL.out hcap).mono ?_
  · intro j hj
    have := HC.out j hj
    exact kept_cell this ((((Below.refl _ w).alloc (Nat.le_refl _) _).alloc (by simp) _).alloc (by simp; omega) _)
  rintro e1 w1 ⟨rfl, hb1⟩
  rw [← HL.out]
  have HB1 := hid (below2 ((((Below.refl _ w).alloc (Nat.le_refl _) _).alloc (by simp) _).alloc (by simp; omega) _) hb1)
  have HA := hid (row_kept (row_kept (row_kept (heap_alloc_new w _) ((Below.refl _ _).alloc (Nat.le_refl _) _)) ((Below.refl _ _).alloc (Nat.le_refl _) _)) hb1)
  have HR := hid (((Rw.laid (l := [a, b, c, d, e, f, g, h]) (K := .u64) (World.size_alloc _ _).symm (by rfl)).more _).kept hb1)
  have HS := hid ((Rw.laid (g := w.heap.size + 1 + 1) (l := List.replicate 8 0) (K := .u64) (by simp) (by rfl)).kept hb1)
  clear hb1
  have hone := all_oneCell_toArray (cW_one .u64 L)
  have hi8 := size80a_6 L HL80.out
  have HZ := hid (Rw.new w1 .u64 61 (List.replicate 80 0))
  have HH := hid (HZ.out.there (cW .u64 L).toArray.size (by rw [List.size_toArray, cW_len, HL80.out]; rfl))
  go_wp2_with (refine wpList_store_mid rfl 61 (.tmp 7) (.tmp 23) rfl w1.heap.size 0 (cW .u64 L).toArray rfl rfl HH.out hi8 hone ?_)
  generalize hW2 : (w1.alloc _).setCells w1.heap.size 0 (cW .u64 L) = W2
  have hBW : Below w1.heap.size w1 W2 := by rw [← hW2]; exact below_setCells (Nat.le_refl _) _ _ _ ((Below.refl _ _).alloc (Nat.le_refl _) _)
  have hQ : Rw W2 w1.heap.size .u64 61 L := by rw [← hW2]; exact HZ.out.put L (by rw [HL80.out]; rfl)
  have HFL : Hid (Fld6 w W2 w1.heap.size [a, b, c, d, e, f, g, h] L) := ⟨row_kept HA.out hBW, HR.out.kept hBW, HS.out.kept hBW, hQ, (HG.out.kept HB1.out).kept hBW, below2 HB1.out hBW⟩
  obtain ⟨q, hq⟩ : ∃ q, q = w1.heap.size := ⟨_, rfl⟩
  rw [← hq] at HFL ⊢
  clear hQ hBW hW2 HZ HH HA HR HS HB1 HG hone hi8 hq
  have s0 : W2.cell? ⟨w.heap.size + 1, 0, none⟩ = some (.int .u64 (a : Int)) := HFL.out.2.1.cell 0 (by simp)
  have s1 : W2.cell? ⟨w.heap.size + 1, 1, none⟩ = some (.int .u64 (b : Int)) := HFL.out.2.1.cell 1 (by simp)
  have s2 : W2.cell? ⟨w.heap.size + 1, 2, none⟩ = some (.int .u64 (c : Int)) := HFL.out.2.1.cell 2 (by simp)
  have s3 : W2.cell? ⟨w.heap.size + 1, 3, none⟩ = some (.int .u64 (d : Int)) := HFL.out.2.1.cell 3 (by simp)
  have s4 : W2.cell? ⟨w.heap.size + 1, 4, none⟩ = some (.int .u64 (e : Int)) := HFL.out.2.1.cell 4 (by simp)
  have s5 : W2.cell? ⟨w.heap.size + 1, 5, none⟩ = some (.int .u64 (f : Int)) := HFL.out.2.1.cell 5 (by simp)
  have s6 : W2.cell? ⟨w.heap.size + 1, 6, none⟩ = some (.int .u64 (g : Int)) := HFL.out.2.1.cell 6 (by simp)
  have s7 : W2.cell? ⟨w.heap.size + 1, 7, none⟩ = some (.int .u64 (h : Int)) := HFL.out.2.1.cell 7 (by simp)
  have r1 : W2.cell? ⟨w.heap.size, 1, none⟩ = some (.int .i64 80) := Lib.cell_of_heap HFL.out.1 1
  simp only [Act.put]
  go_region
  go_wp2_with fail
  go_region
  go_wp2_with fail
  have HB2 := hid (show Below W2.heap.size W2 W2.drew.drew from ((Below.refl _ W2).drew).drew)
  refine wp_cut0 (rounds6 w.heap.size q a b c d e f g h L F W2.drew.drew _ _ _ _ _ _ _ _ _ _ _ _ _ _ _ _ _ _ _ _ _ _ _ _ _ _ _ _ _ _ _ _ _ _ _ _ _ _ _ _ _ _ _ _ _ _ _ _ _ _ _ _ _ _ _ _ _ _ _ _ _ _ _ _ _ _ _ _ _ _ _ _ _ _ _ _ _ _ _ _ _ _ _ _ _ _ _ _ _ _ _ _ _ _ _ _ _ _ _ _ _ _ _ (HFL.out.kept HB2.out).1 (HFL.out.kept HB2.out).2.2.2.1 (HFL.out.kept HB2.out).2.2.2.2.1 HL80 HLB HBD HF ?_)
  intro u16 u17 u18 u42 u43 u44 u45 u46 u47 u48 u49 u50 u51 u52 u53 u54 u55 u56 u57 u58 u59 u60 u61 u62 u63 u64 u65 u66 u67 u68 u69 u70 u71 u72 u73 u74 u75 u76 u77 u78 u79 u80 u81 u82 u83 u84 u85 u86 u87 u88 u89 u90 u91 u92 W3 hb3
  have HZ8 := hid (show Z.length = 8 by rw [HZE.out]; rfl)
  have HFL3 := hid ((HFL.out.kept HB2.out).kept hb3)
  have HZ := hid (show ∀ j, j < 8 → Z.getD j 0 = ([a, b, c, d, e, f, g, h].getD j 0 + [F.a, F.b, F.c, F.d, F.e, F.f, F.g, F.h].getD j 0) % 18446744073709551616 by
    intro j hj
    rw [HZE.out, add_eq]
    rcases (show j = 0 ∨ j = 1 ∨ j = 2 ∨ j = 3 ∨ j = 4 ∨ j = 5 ∨ j = 6 ∨ j = 7 by omega) with rfl | rfl | rfl | rfl | rfl | rfl | rfl | rfl <;> rfl)
  clear s0 s1 s2 s3 s4 s5 s6 s7 r1 hb3 HFL HB2
  go_wp2_with fail
  refine wp_cut2 (adds6 F.a F.b F.c F.d F.e F.f F.g F.h [a, b, c, d, e, f, g, h] Z w W3 _ _ _ _ _ _ _ _ _ _ _ _ _ _ _ _ _ _ _ _ _ _ _ _ _ _ _ _ _ _ _ _ _ _ _ _ _ _ _ _ _ _ _ _ _ _ _ _ _ _ _ _ _ _ _ _ _ _ _ _ _ _ _ _ _ _ _ _ _ _ _ _ _ _ _ _ _ _ _ _ _ _ _ _ _ _ _ _ _ _ _ _ _ _ _ _ _ _ _ _ _ _ _ _ _ _ _ _ _ _ _ _ ⟨HFL3.out.2.1, HFL3.out.2.2.1, HFL3.out.2.2.2.2.2⟩ rfl HZ8 HZ ?_)
  intro x19 x20 x102 x103 x104 x105 x106 x107 x108 x109 x110 x111 x112 W4 hM
  have hR := hM.2.1
  have HT := hid (hR.put Z (by rw [HZ8.out]; rfl))
  have HBT := hid (below_setCells (b := w.heap.size + 1 + 1) (by omega) (cW .u64 Z) 0 W4 hM.2.2)
  have HH := hid (hR.there (cW .u64 Z).toArray.size (by rw [List.size_toArray, cW_len, HZ8.out]; rfl))
  have HRG := hid hM.1.range
  have hone := all_oneCell_toArray (cW_one .u64 Z)
  have hi8 := size8_6 Z HZ8.out
  have hi8' := size8a_6 Z HZ8.out
  clear hR hM
  go_wp2_with (first | refine wpList_load_mid rfl 77 (.tmp 4) rfl (w.heap.size + 1) 0 rfl (cW .u64 Z) _ HRG.out Tryd.underlying77 rfl hi8 ?_ | refine wpList_store_mid rfl 77 (.tmp 6) (.tmp 113) rfl (w.heap.size + 1 + 1) 0 (cW .u64 Z).toArray rfl rfl HH.out hi8' hone ?_)
  exact bodyPost_ret (Rw.result rfl _ _ (w.heap.size + 1 + 1) .u64 77 Z rfl HT.out Tryd.underlying77 rfl hi8) rfl ⟨rfl, HBT.out⟩

end Go.Proofs.YtbdlicomkpnalaaDoor
