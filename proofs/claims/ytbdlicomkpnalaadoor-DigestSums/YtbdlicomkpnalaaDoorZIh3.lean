/-
  The walk of ostiaryref8's block, at 32 bits.
-/
import Derived.Test.YtbdlicomkpnalaaDoorZ0
import Derived.Test.YtbdlicomkpnalaaDoorZIhs3
import Derived.Test.YtbdlicomkpnalaaDoorZIhl3
set_option linter.unusedSimpArgs false
set_option linter.unusedVariables false
namespace Go.Proofs.YtbdlicomkpnalaaDoor
open Go.RowKit

theorem rds_bd3 : ∀ (Ks ws : List Nat) (s : St), BdS (2 ^ 32) s → BdS (2 ^ 32) (rdsV nar Ks ws s)
  | [], _, s, h => by unfold rdsV; exact h
  | _ :: _, [], s, h => by unfold rdsV; exact h
  | K :: Ks, w :: ws, s, h => by rw [rdsV]; exact rds_bd3 Ks ws _ (rnd_bd (k := nar) h)

theorem size8w3 (l : List Nat) (hl : l.length = 8) : (Tryd.prog.info? 77).map (·.size) = some (cW .u64 l).length := by rw [cW_len, hl]; kernel_rfl
theorem size8v3 (l : List Nat) (hl : l.length = 8) : (Tryd.prog.info? 77).map (·.size) = some (cW .u64 l).toArray.size := by rw [List.size_toArray]; exact size8w3 l hl

theorem bd_all3 {a b c d e f g h : Nat} (hb : BdS (2 ^ 32) ⟨a, b, c, d, e, f, g, h⟩) (j : Nat) : [a, b, c, d, e, f, g, h].getD j 0 < 4294967296 := bd_get (n := 2 ^ 32) hb j

set_option maxHeartbeats 4000000 in
set_option maxRecDepth 100000 in
theorem rblock3 (T a b c d e f g h : Nat) (x : Addr) (cap : Nat) (l : List UInt8) (w : World) (hTB : ∀ k, k < 80 → w.cell? ⟨T, k, none⟩ = some (.int .u64 (cbr.getD k 0 : Nat))) (hc : ∀ j (h : j < l.length), w.cell? (x.add j) = some (.int .u8 (l[j].toNat : Int))) (hl : l.length = 64) (hcap : 64 ≤ cap)
    (hbd : BdS (2 ^ 32) ⟨a, b, c, d, e, f, g, h⟩) :
    Calls Tryd.prog 36 #[.pointer (some ⟨T, 0, none⟩), .agg #[.int .u64 32], .agg #[.int .u64 (a : Int), .int .u64 (b : Int), .int .u64 (c : Int), .int .u64 (d : Int), .int .u64 (e : Int), .int .u64 (f : Int), .int .u64 (g : Int), .int .u64 (h : Int)], .slice (some x) 64 cap] w fun e' w' => e' = .returned (.agg (cW .u64 (foldV nar cbr ⟨a, b, c, d, e, f, g, h⟩ l).list).toArray) ∧ Below w.heap.size w w' := by
  obtain ⟨L, hL⟩ : ∃ L, L = w80V nar l := ⟨_, rfl⟩
  have HL80 := hid (show L.length = 80 by rw [hL]; exact w80_len _ _ (by decide) (by decide))
  have HLB := hid (show ∀ i, L.getD i 0 < 2 ^ 32 by intro i; rw [hL]; exact w80_lt nar l i (by decide) (by decide) (by decide))
  have HLW := hid (show ∀ i, i < 16 → L.getD i 0 = wordV 4 l i by intro i hi; rw [hL]; exact w80_low nar l i (by decide) hi)
  have HLN := hid (show ∀ k, 16 ≤ k → k < 64 → L.getD k 0 = nxtV nar L k by intro k h1 h2; rw [hL]; exact w80_nxt nar l k (by decide) h1 h2)
  have HLF := hid (show fillV L 64 80 = L by rw [hL]; exact w80_fill nar l (by decide))
  obtain ⟨F, hF⟩ : ∃ F, F = rdsV nar (cbr.take 64) L ⟨a, b, c, d, e, f, g, h⟩ := ⟨_, rfl⟩
  have HF := hid hF
  have HFO := hid (show foldV nar cbr ⟨a, b, c, d, e, f, g, h⟩ l = addV nar ⟨a, b, c, d, e, f, g, h⟩ F by
    rw [hF, hL]
    exact (congrArg (addV nar _) (rds_w80 nar cbr l _ (by decide))).symm)
  have HFB := hid (show ∀ j, F.list.getD j 0 < 4294967296 by
    have h := rds_bd3 (cbr.take 64) L _ hbd
    rw [← hF] at h
    intro j
    exact bd_all3 (a := F.a) (b := F.b) (c := F.c) (d := F.d) (e := F.e) (f := F.f) (g := F.g) (h := F.h) h j)
  obtain ⟨Z, hZ⟩ : ∃ Z, Z = (addV nar ⟨a, b, c, d, e, f, g, h⟩ F).list := ⟨_, rfl⟩
  have HZE := hid hZ
  rw [HFO.out, ← hZ]
  clear hZ
  have HBD := hid hbd
  have HTB := hid hTB
  have HC := hid hc
  have HLL := hid hl
  clear hL hF hc hl hbd hTB
  go_enter Tryd.func36, Tryd.ntmps36
  go_wp2_with fail
  refine wp_cut0 (rwords3 x cap l w.heap.size (w.heap.size + 1) (w.heap.size + 1 + 1) (w.heap.size + 1 + 1 + 1) (w.heap.size + 1 + 1 + 1 + 1) [a, b, c, d, e, f, g, h] L w _ _ _ _ _ _ _ _ _ _ _ _ _ _ _ _ _ _ _ _ _ _ _ _ _ _ _ _ _ _ _ _ _ _ _ _ _ _ _ _ _ _ _ _ _ _ _ _ _ _ _ _ _ _ _ _ _ _ _ _ _ _ _ _ _ _ _ _ _ _ _ _ _ _ _ _ _ _ _ _ _ _ _ _ _ _ _ _ _ _ _ _ _ _ _ _ _ _ _ _ _ _ _ _ _ _ _ _ _ _ _ _ _ _ _ _ _ _ _ _ _ _ _ _ _ _ _ _ _ _ _ _ _ _ _ _ _ _ _ _ _ _ _ _ _ _ _ _ _ _ _ _ _ _ _ _ _ _ _ _ _ _ _ _ _ _ _ _ _ _ _ _ _ _ _ _ _ _ _ _ _ _ _ _ _ _ _ _ _ _ _ _ _ _ _ _ _ _ _ _ _ _ _ _ _ _ _ _ _ _ _ _ _ ?hm HL80 HLW HC HLL hcap ?_)
  case hm =>
    rw [fill_zero]
    have hal : ∀ (X : World) (o : Obj), Below X.heap.size X (X.alloc o) := fun X o => (Below.refl _ X).alloc (Nat.le_refl _) o
    refine ⟨⟨by omega, by omega, by omega, by omega, by omega⟩, ?_, ?_, ?_, ?_, ?_, ?_⟩
    · exact row_kept (row_kept (row_kept (row_kept (heap_alloc_new w _) (hal _ _)) (hal _ _)) (hal _ _)) (hal _ _)
    · exact (((Rw.laid (l := [a, b, c, d, e, f, g, h]) (K := .u64) (World.size_alloc _ _).symm (by rfl)).more _).more _).more _
    · exact ((Rw.laid (g := w.heap.size + 1 + 1) (l := zrs 8) (K := .u64) (by simp) (by rfl)).more _).more _
    · exact (Rw.laid (g := w.heap.size + 1 + 1 + 1) (l := SL3) (K := .u64) (by simp) (by rfl)).more _
    · exact Rw.laid (g := w.heap.size + 1 + 1 + 1 + 1) (l := List.replicate 80 0) (K := .u64) (by simp) (by rfl)
    · exact below2 (below2 (below2 (below2 (hal _ _) (hal _ _)) (hal _ _)) (hal _ _)) (hal _ _)
  intro u13 u14 u30 u31 u32 u33 u34 u35 u36 u37 u38 u39 u40 u41 u42 u43 u44 u45 u46 u47 u48 u49 u50 u51 u52 u53 u54 w2 hM2
  have HM2 := hid hM2
  clear hM2
  go_wp2_with fail
  refine wp_cut4_3 (rsch3 w.heap.size (w.heap.size + 1) (w.heap.size + 1 + 1) (w.heap.size + 1 + 1 + 1) (w.heap.size + 1 + 1 + 1 + 1) [a, b, c, d, e, f, g, h] L w w2 _ _ _ _ _ _ _ _ _ _ _ _ _ _ _ _ _ _ _ _ _ _ _ _ _ _ _ _ _ _ _ _ _ _ _ _ _ _ _ _ _ _ _ _ _ _ _ _ _ _ _ _ _ _ _ _ _ _ _ _ _ _ _ _ _ _ _ _ _ _ _ _ _ _ _ _ _ _ _ _ _ _ _ _ _ _ _ _ _ _ _ _ _ _ _ _ _ _ _ _ _ _ _ _ _ _ _ _ _ _ _ _ _ _ _ _ _ _ _ _ _ _ _ _ _ _ _ _ _ _ _ _ _ _ _ _ _ _ _ _ _ _ _ _ _ _ _ _ _ _ _ _ _ _ _ _ _ _ _ _ _ _ _ _ _ _ _ _ _ _ _ _ _ _ _ _ _ _ _ _ _ _ _ _ _ _ _ _ _ _ _ _ _ _ _ _ _ _ _ _ _ _ _ _ _ _ _ _ _ _ _ HM2 HL80 HLB HLN ?_)
  intro x15 x55 x56 x57 x58 x59 x60 x61 x62 x63 x64 x65 x66 x67 x68 x69 x70 x71 x72 x73 x74 x75 x76 x77 x78 x79 x80 x81 x82 x83 x84 x85 x86 x87 x88 x89 x90 x91 x92 x93 x94 x95 x96 x97 x98 w3 hM3
  rw [HLF.out] at hM3
  have HM3 := hid hM3
  have hR3 := hM3.2.2.1
  have s0 : w3.cell? ⟨w.heap.size + 1, 0, none⟩ = some (.int .u64 (a : Int)) := hR3.cell 0 (by simp)
  have s1 : w3.cell? ⟨w.heap.size + 1, 1, none⟩ = some (.int .u64 (b : Int)) := hR3.cell 1 (by simp)
  have s2 : w3.cell? ⟨w.heap.size + 1, 2, none⟩ = some (.int .u64 (c : Int)) := hR3.cell 2 (by simp)
  have s3 : w3.cell? ⟨w.heap.size + 1, 3, none⟩ = some (.int .u64 (d : Int)) := hR3.cell 3 (by simp)
  have s4 : w3.cell? ⟨w.heap.size + 1, 4, none⟩ = some (.int .u64 (e : Int)) := hR3.cell 4 (by simp)
  have s5 : w3.cell? ⟨w.heap.size + 1, 5, none⟩ = some (.int .u64 (f : Int)) := hR3.cell 5 (by simp)
  have s6 : w3.cell? ⟨w.heap.size + 1, 6, none⟩ = some (.int .u64 (g : Int)) := hR3.cell 6 (by simp)
  have s7 : w3.cell? ⟨w.heap.size + 1, 7, none⟩ = some (.int .u64 (h : Int)) := hR3.cell 7 (by simp)
  obtain ⟨q, hq⟩ : ∃ q, q = w3.heap.size := ⟨_, rfl⟩
  have hq4 : w.heap.size + 1 + 1 + 1 + 1 < q := by rw [hq]; exact hM3.2.2.2.2.2.1.lt
  have HQ := hid hq
  have HQ4 := hid hq4
  clear hM3 hR3 HM2 hq hq4
  go_wp2_with fail
  clear s0 s1 s2 s3 s4 s5 s6 s7
  refine wp_cut6_3 (rrounds3 T w.heap.size (w.heap.size + 1) (w.heap.size + 1 + 1) (w.heap.size + 1 + 1 + 1) (w.heap.size + 1 + 1 + 1 + 1) w3.heap.size a b c d e f g h [a, b, c, d, e, f, g, h] L F w _ _ _ _ _ _ _ _ _ _ _ _ _ _ _ _ _ _ _ _ _ _ _ _ _ _ _ _ _ _ _ _ _ _ _ _ _ _ _ _ _ _ _ _ _ _ _ _ _ _ _ _ _ _ _ _ _ _ _ _ _ _ _ _ _ _ _ _ _ _ _ _ _ _ _ _ _ _ _ _ _ _ _ _ _ _ _ _ _ _ _ _ _ _ _ _ _ _ _ _ _ _ _ _ _ _ _ _ _ _ _ _ _ _ _ _ _ _ _ _ _ _ _ _ _ _ _ _ _ _ _ _ _ _ _ _ _ _ _ _ _ _ _ _ _ _ _ _ _ _ _ _ _ _ _ _ _ _ _ _ _ _ _ _ _ _ _ _ _ _ _ _ _ _ _ _ _ _ _ _ _ _ _ _ _ _ _ _ _ _ _ _ _ _ _ _ _ _ _ _ _ _ _ _ _ _ _ _ _ ?hm (Rw.laid rfl (by rfl)) (HQ.out ▸ HQ4.out) HTB HL80 HLB HBD HF ?_)
  case hm => exact HM3.out.kept ((Below.refl _ w3).alloc (Nat.le_refl _) _)
  rw [← HQ.out]
  intro y17 y18 y19 y20 y100 y101 y102 y103 y104 y105 y106 y107 y108 y109 y110 y111 y112 y113 y114 y115 y116 y117 y118 y119 y120 y121 y122 y123 y124 y125 y126 y127 y128 y129 y130 y131 y132 y133 y134 y135 y136 y137 y138 y139 y140 y141 y142 y143 y144 y145 y146 y147 y148 y149 y150 y151 y152 y153 y154 y155 y156 y157 y158 y159 y160 y161 y162 y163 y164 y165 y166 y167 y168 y169 y170 y171 y172 y173 y174 y175 y176 y177 y178 y179 y180 y181 y182 y183 y184 y185 y186 y187 y188 y189 y190 y191 y192 y193 y194 y195 y196 y197 y198 w4 hM4 hV4
  have HM4 := hid hM4
  have HV4 := hid hV4
  have hq4 := HQ4.out
  clear hM4 hV4 HM3
  have HZ8 := hid (show Z.length = 8 by rw [HZE.out]; rfl)
  have HZJ := hid (show ∀ j, j < 8 → Z.getD j 0 = ([a, b, c, d, e, f, g, h].getD j 0 + F.list.getD j 0) % 4294967296 by
    intro j hj
    rw [HZE.out, add_eq]
    rcases (show j = 0 ∨ j = 1 ∨ j = 2 ∨ j = 3 ∨ j = 4 ∨ j = 5 ∨ j = 6 ∨ j = 7 by omega) with rfl | rfl | rfl | rfl | rfl | rfl | rfl | rfl <;> rfl)
  go_wp2_with fail
  refine wp_cut8_3 (radds3 w.heap.size (w.heap.size + 1) (w.heap.size + 1 + 1) (w.heap.size + 1 + 1 + 1) (w.heap.size + 1 + 1 + 1 + 1) q [a, b, c, d, e, f, g, h] F.list Z L w w4 _ _ _ _ _ _ _ _ _ _ _ _ _ _ _ _ _ _ _ _ _ _ _ _ _ _ _ _ _ _ _ _ _ _ _ _ _ _ _ _ _ _ _ _ _ _ _ _ _ _ _ _ _ _ _ _ _ _ _ _ _ _ _ _ _ _ _ _ _ _ _ _ _ _ _ _ _ _ _ _ _ _ _ _ _ _ _ _ _ _ _ _ _ _ _ _ _ _ _ _ _ _ _ _ _ _ _ _ _ _ _ _ _ _ _ _ _ _ _ _ _ _ _ _ _ _ _ _ _ _ _ _ _ _ _ _ _ _ _ _ _ _ _ _ _ _ _ _ _ _ _ _ _ _ _ _ _ _ _ _ _ _ _ _ _ _ _ _ _ _ _ _ _ _ _ _ _ _ _ _ _ _ _ _ _ _ _ _ _ _ _ _ _ _ _ _ _ _ _ _ _ _ _ _ _ _ _ _ _ _ _ _ HM4 HV4 hq4 rfl rfl HZ8 (bd_all3 HBD.out) HFB HZJ ?_)
  intro z21 z199 z200 z201 z202 z203 z204 z205 z206 z207 z208 z209 z210 z211 z212 z213 w5 hM
  have hR := hM.2.2.2.1
  have HT := hid (hR.put Z (by rw [HZ8.out]; rfl))
  have HBT := hid (below_setCells (b := w.heap.size + 1 + 1) (by omega) (cW .u64 Z) 0 w5 hM.2.2.2.2.2.2)
  have HH := hid (hR.there (cW .u64 Z).toArray.size (by rw [List.size_toArray, cW_len, HZ8.out]; rfl))
  have HRG := hid hM.2.2.1.range
  have hone := all_oneCell_toArray (cW_one .u64 Z)
  have hi8 := size8w3 Z HZ8.out
  have hi8' := size8v3 Z HZ8.out
  clear hR hM HM4 HV4
  go_wp2_with (first | refine wpList_load_mid rfl 77 (.tmp 6) rfl (w.heap.size + 1) 0 rfl (cW .u64 Z) _ HRG.out Tryd.underlying77 rfl hi8 ?_ | refine wpList_store_mid rfl 77 (.tmp 8) (.tmp 214) rfl (w.heap.size + 1 + 1) 0 (cW .u64 Z).toArray rfl rfl HH.out hi8' hone ?_)
  exact bodyPost_ret (Rw.result rfl _ _ (w.heap.size + 1 + 1) .u64 77 Z rfl HT.out Tryd.underlying77 rfl hi8) rfl ⟨rfl, HBT.out⟩

end Go.Proofs.YtbdlicomkpnalaaDoor
