/-
  Walks and plain facts that this claim leans on, put together out of 5 texts: Yw, Yx, La, Oa, Lm.
-/
import Derived.Test.YtkhpemjjholneaaGreatDoorProg
import Derived.Test.YtkhpemjjholneaaGreatDoorQa1
import Derived.Test.YtkhpemjjholneaaGreatDoorQa2
import Derived.Test.YtkhpemjjholneaaGreatDoorQa3
import Derived.Test.YtkhpemjjholneaaGreatDoorQa4
import Derived.Test.YtkhpemjjholneaaGreatDoorQa5
import Derived.Test.YtkhpemjjholneaaGreatDoorQa6
import Derived.Test.YtkhpemjjholneaaGreatDoorQa7
import Derived.Test.YtkhpemjjholneaaGreatDoorQa8
import Derived.Test.YtkhpemjjholneaaGreatDoorQa9
import Derived.Test.YtkhpemjjholneaaGreatDoorQa10
import Derived.Test.YtkhpemjjholneaaGreatDoorQa11
import Derived.Test.YtkhpemjjholneaaGreatDoorQa12
import Derived.Test.YtkhpemjjholneaaGreatDoorQa13
import Derived.Test.YtkhpemjjholneaaGreatDoorQa14
import Derived.Test.YtkhpemjjholneaaGreatDoorQa15
import Derived.Test.YtkhpemjjholneaaGreatDoorQa16
import Derived.Test.YtkhpemjjholneaaGreatDoorQa17
import Derived.Test.YtkhpemjjholneaaGreatDoorQa18
import Derived.Test.YtkhpemjjholneaaGreatDoorQa19
import Derived.Test.YtkhpemjjholneaaGreatDoorQa20
import Derived.Test.YtkhpemjjholneaaGreatDoorQa21
import Derived.Test.YtkhpemjjholneaaGreatDoorQa22
import Derived.Test.YtkhpemjjholneaaGreatDoorQa23
import Derived.Test.YtkhpemjjholneaaGreatDoorQa24
import Derived.Test.YtkhpemjjholneaaGreatDoorQa25
import Derived.Test.YtkhpemjjholneaaGreatDoorQa26
import Derived.Test.YtkhpemjjholneaaGreatDoorQa27
import Derived.Test.YtkhpemjjholneaaGreatDoorQa28
import Derived.Test.YtkhpemjjholneaaGreatDoorQa29
import Derived.Test.YtkhpemjjholneaaGreatDoorQa30
import Derived.Test.YtkhpemjjholneaaGreatDoorQa31
import Derived.Test.YtkhpemjjholneaaGreatDoorQn1
import Derived.WalkKit
import Derived.WalkSpells
import Derived.WalkLawsBesides
import Derived.Laws.Runes
import Derived.Laws.RangeAny
import Derived.Lib.DecodeN
import Derived.Lib.OthersKept
import Derived.Deep.LoopGhost
import Derived.RegionTactic
import Derived.Deep.RegionWith
import Derived.Deep.QuietTactic
import Derived.BigQuiet
import Derived.Lib.FrozenHead2
import Derived.Lib.Builder
import Derived.Deep.RegionHeldLaw
import Derived.Laws.AppendOwnNone
import Derived.Scope
import Derived.ScopeJumps
import Derived.WalkMore
import Derived.Lib.AppendIntMem
import Derived.Deep.WholeRow
import Derived.Lib.AppendStr
import Derived.LoopN
import Derived.Maps.OwnSet
import Derived.Maps.OwnOps
import Derived.Maps.AppendAt
import Derived.StringKeys
import Derived.Lib.LastIndexByte
import Derived.Lib.Replace
import Derived.Lib.Bytealg
import Derived.Lib.TrimByte
import Derived.Lib.BufferRead
import Derived.Lib.RuneBytes
import Derived.Laws.BitsAllLaws
import Derived.Deep.RegionHeld
import Derived.Lib.IndexMore
import Derived.Lib.Join
import Derived.Laws.AppendOwn
import Derived.OwnWalk
import Derived.Deep.RegionLaw
import Derived.Deep.MidRow
import Derived.Lib.IndexAny
import Derived.Lib.ItoaNum
import Derived.Laws.OwnMore
import Derived.Below
import Derived.WalkSmall
import Derived.Lib.SmallJoins
import Derived.Lib.UnsafeStr
import Derived.BigRegion
import Derived.Deep.Cut
import Derived.Shelf.Strings.Builder1
import Derived.Shelf.Strings.Builder2
import Derived.Shelf.Strings.OnBuilder
import Derived.Shelf.Strings.Trim
import Derived.Shelf.Small.Utf8
import Derived.Shelf.Small.Bits
import Derived.Shelf.Small.Strs
import Derived.Shelf.Small.Wraps
import Derived.Shelf.Strings.BuilderF
import Derived.Shelf.Strings.BuilderK
import Derived.Shelf.Strings.BuilderRune
import Derived.Shelf.Utf8.AppendRune
import Derived.Shelf.Utf8.AppendRunePlain
import Derived.Shelf.Strings.Builder2Cap
import Derived.Shelf.Strconv.Itoa0
import Derived.Shelf.Strconv.Itoa1
import Derived.Shelf.LaysM
import Derived.Shelf.Strconv.Itoa2
import Derived.Shelf.Strconv.Itoa3
import Derived.Shelf.Strings.Search1
import Derived.Shelf.Strings.Search2
import Derived.Shelf.Strings.Search3
import Derived.Shelf.Strings.Cut
import Derived.Shelf.Strings.Count
import Derived.Shelf.Strings.Shaped
import Derived.Shelf.Sort.Plain
import Derived.Shelf.Strings.LastIndex
import Derived.Shelf.Strings.Prefix
import Derived.Shelf.Strings.Split
import Derived.Shelf.Strings.Replace
import Derived.Shelf.Strings.Runes
import Derived.Shelf.Strings.IndexAny
import Derived.Shelf.Strings.AsciiSet
import Derived.Shelf.Strings.IndexAnyAll
import Derived.Shelf.Unicode.DecodeSlow
import Derived.Shelf.Unicode.DecodeAny
import Derived.Shelf.Unicode.DecodeLast
import Derived.Shelf.Strings.FieldsFuncAny
import Derived.Shelf.Strings.FieldsFuncGrows
import Derived.Shelf.Slices.Equal
import Derived.Ground.Names2Prog
import Derived.Shelf.Slices.Clone
import Derived.Ground.SlgnProg
import Derived.Shelf.SlicesE.Equal
import Derived.Shelf.SlicesE.Clone
import Derived.Laws.IdiomStrings
import Derived.Laws.BytesString
import Derived.Shelf.Strings.SlTrimAscii
import Derived.Laws.CopyOwn
import Derived.Laws.ResultCell
import Derived.Lib.Strings
import Derived.Lib.BufferMore
import Derived.Lib.SlTrimSet
import Derived.Lib.FieldsP
set_option linter.unusedSimpArgs false
set_option linter.unusedVariables false

namespace Go.Proofs.YtkhpemjjholneaaGreatDoor
open Go.RowKit

theorem enters_path : ∀ args w, (callFunc 137 args).run Tryz.prog w = .ok (.enter 137 args) w := enters_of Tryz.func137 (by kernel_rfl) rfl

/-- Sizes that an address keeps to. -/
def Sized11 (u : Adr) : Prop := u.host.length ≤ 4000000000 ∧ ∀ x ∈ u.path, x.length ≤ 140737488351232

set_option maxHeartbeats 2000000 in
set_option maxRecDepth 100000 in
theorem readPath11_any (u : Adr) (uv : Value) (hops : Int) (w : World) (hg : Gd w) (hu : UrlAt w u uv) (hz : Sized11 u) :
    Calls Tryz.prog 88 #[adrVal u uv, .int .i64 hops] w (MkPost11 (pathM hops u) w) := by
  have hmf : ∀ (fn : Fn) (first cap : Array Value) (w : World), (Instr.makeFunc fn first cap).run Tryz.prog w = .ok (.func fn first cap) w := fun _ _ _ _ => rfl
  obtain ⟨ua, un, uc, rfl⟩ := hu.sl
  obtain ⟨u0, u1, u2, u3, u4, u5, u6, u8, u9, u10, u11, hx, -, -, -, -⟩ := adr_named u ua un uc
  have hva : adrVal u (.slice ua un uc) = .agg #[.string u0, .string u1, .string u2, .string u3, .bool u4, .int .i64 u5, .bool u6, .slice ua un uc, .string u8, .string u9, .bool u10, .bool u11] := by unfold adrVal; rw [hx]
  rw [hva]
  obtain ⟨W1, hW1⟩ : ∃ W1, (w.alloc (.cells #[.string u0, .string u1, .string u2, .string u3, .bool u4, .int .i64 u5, .bool u6, .slice ua un uc, .string u8, .string u9, .bool u10, .bool u11] 45)) = W1 := ⟨_, rfl⟩
  have hb1 : Below w.heap.size w W1 := by rw [← hW1]; exact (Below.refl _ w).alloc (Nat.le_refl _) _
  have hs1 : W1.heap.size = w.heap.size + 1 := by rw [← hW1]; simp
  have hA1 : AdrIn W1 w.heap.size u (.slice ua un uc) := by
    unfold AdrIn
    rw [hx, ← hW1]
    exact heap_alloc_new w _
  obtain ⟨W2, hW2⟩ : ∃ W2, (W1.alloc (.cells #[.int .i64 hops] 3)) = W2 := ⟨_, rfl⟩
  have hb2 : Below W1.heap.size W1 W2 := by rw [← hW2]; exact (Below.refl _ W1).alloc (Nat.le_refl _) _
  have hA2 := hA1.kept hb2
  have hI2 : W2.cell? ⟨w.heap.size + 1, 0, none⟩ = some (.int .i64 hops) := by
    have := heap_alloc_new W1 (.cells #[.int .i64 hops] 3)
    rw [hW2, hs1] at this
    rw [Lib.cell_of_heap this]; rfl
  have hB2 := below2 hb1 hb2
  have hfl : ∀ j v, (adrCells u (.slice ua un uc))[j]? = some v → W2.cell? ⟨w.heap.size, j, none⟩ = some v := fun j v h => hA2.cell j v h
  rw [hx] at hfl
  have y7 := hfl 7 _ rfl
  have HG2 := hid (hg.kept hB2)
  have HU2 := hid (hu.kept hB2)
  have HA2 := hid hA2
  have HI2 := hid hI2
  have HB2 := hid hB2
  have HUn := hid (fun (w : World) (h : PathAt w (.slice ua un uc) u.path) => unpercented_any (.slice ua un uc) u.path w h (by have := hu.2.1; omega) hz.2)
  have HL := hid (show u.path.length ≤ 5000000000 by have := hu.2.1; omega)
  unfold TxPost at HUn
  obtain ⟨n, hn⟩ : ∃ n, n = (u.path.map unpct).length := ⟨_, rfl⟩
  have HNN := hid hn
  rw [← hn] at HUn
  clear hb1 hA1 hb2 hA2 hI2 hB2 hfl hg hu hz hx hva hn
  go_enter Tryz.func88, Tryz.ntmps88
  go_wp2_with fail
  refine (HUn.out _ HU2.out.1).mono ?_
  rintro e w3 ⟨g, cap, rfl, hown, hb3⟩
  have HB3 := hid (below2 HB2.out hb3)
  have HB23 := hid hb3
  have HO := hid hown
  clear hb3 hown
  go_wp2_with fail
  go_ret
  obtain ⟨W4, hW4⟩ : ∃ W4, W4 = w3.alloc (.cells #[.slice (some ⟨g, 0, none⟩) n cap] 43) := ⟨_, rfl⟩
  rw [← hW4]
  have hb4 : Below w3.heap.size w3 W4 := by rw [hW4]; exact (Below.refl _ w3).alloc (Nat.le_refl _) _
  have hcell : W4.cell? ⟨w3.heap.size, 0, none⟩ = some (.slice (some ⟨g, 0, none⟩) n cap) := by
    have := heap_alloc_new w3 (.cells #[.slice (some ⟨g, 0, none⟩) n cap] 43)
    rw [← hW4] at this
    rw [Lib.cell_of_heap this]; rfl
  have h24 := below2 HB23.out hb4
  have hO := HO.out
  have hnn := HNN.out
  rw [hnn] at hO hcell
  obtain ⟨t1, t2, t3⟩ := own_txS hO
  refine ⟨_, rfl, ⟨_, _, rfl, enters_path, fun X s hX hs => ?_⟩, below2 HB3.out hb4⟩
  exact pathC_any u (.slice ua un uc) hops (w.heap.size + 1) w.heap.size w3.heap.size g cap s X ((HG2.out.kept h24).kept hX) ((HA2.out.kept h24).kept hX) (keptC (keptC HI2.out h24) hX) (keptC hcell hX) ((t1.kept hb4).kept hX) t2 HL.out hs

set_option maxHeartbeats 4000000 in
set_option maxRecDepth 100000 in
theorem meaning_any (u p : Adr) (uv pv : Value) (hops : Int) (w : World) (hg : Gd w) (hu : UrlAt w u uv) (hp : UrlAt w p pv) (hz : Sized11 u) :
    Calls Tryz.prog 58 #[adrVal u uv, adrVal p pv, .int .i64 hops] w (MkPost11 (oneV u p hops) w) := by
  obtain ⟨ua, un, uc, rfl⟩ := hu.sl
  obtain ⟨pa, pn, pc, rfl⟩ := hp.sl
  have H1 := hid (fun (w : World) (hg : Gd w) (hu : UrlAt w u (.slice ua un uc)) => readPath11_any u (.slice ua un uc) hops w hg hu hz)
  have H2 := hid (fun (nv : Value) (q : List UInt8 → Bool) (w : World) (hr : Rdr11 w nv q) => readPort11_any u (.slice ua un uc) ⟨_, _, _, rfl⟩ nv q w hr)
  have H3 := hid (fun (nv : Value) (q : List UInt8 → Bool) (w : World) (hr : Rdr11 w nv q) => readHost_any u (.slice ua un uc) ⟨_, _, _, rfl⟩ hz.1 nv q w hr)
  have H4 := hid (fun (nv : Value) (q : List UInt8 → Bool) (w : World) (hg : Gd w) (hr : Rdr11 w nv q) => readScheme_any u p (.slice ua un uc) (.slice pa pn pc) ⟨_, _, _, rfl⟩ ⟨_, _, _, rfl⟩ nv q w hg hr)
  have H5 := hid (fun (nv : Value) (q : List UInt8 → Bool) (w : World) (hg : Gd w) (hu : UrlAt w u (.slice ua un uc)) (hp : UrlAt w p (.slice pa pn pc)) (hr : Rdr11 w nv q) => readWord_any u p (.slice ua un uc) (.slice pa pn pc) nv q w hg hu hp hr)
  obtain ⟨u0, u1, u2, u3, u4, u5, u6, u8, u9, u10, u11, hx, -, -, -, -⟩ := adr_named u ua un uc
  obtain ⟨p0, p1, p2, p3, p4, p5, p6, p8, p9, p10, p11, hy, -, -, -, -⟩ := adr_named p pa pn pc
  have hva : adrVal u (.slice ua un uc) = .agg #[.string u0, .string u1, .string u2, .string u3, .bool u4, .int .i64 u5, .bool u6, .slice ua un uc, .string u8, .string u9, .bool u10, .bool u11] := by unfold adrVal; rw [hx]
  have hvb : adrVal p (.slice pa pn pc) = .agg #[.string p0, .string p1, .string p2, .string p3, .bool p4, .int .i64 p5, .bool p6, .slice pa pn pc, .string p8, .string p9, .bool p10, .bool p11] := by unfold adrVal; rw [hy]
  rw [hva] at H1 H2 H3 ⊢
  rw [hva, hvb] at H4 H5
  rw [hvb]
  obtain ⟨W1, hW1⟩ : ∃ W1, (w.alloc (.cells #[.string u0, .string u1, .string u2, .string u3, .bool u4, .int .i64 u5, .bool u6, .slice ua un uc, .string u8, .string u9, .bool u10, .bool u11] 45)) = W1 := ⟨_, rfl⟩
  have hb1 : Below w.heap.size w W1 := by rw [← hW1]; exact (Below.refl _ w).alloc (Nat.le_refl _) _
  have hs1 : W1.heap.size = w.heap.size + 1 := by rw [← hW1]; simp
  have hA1 : AdrIn W1 w.heap.size u (.slice ua un uc) := by
    unfold AdrIn
    rw [hx, ← hW1]
    exact heap_alloc_new w _
  obtain ⟨W2, hW2⟩ : ∃ W2, (W1.alloc (.cells #[.string p0, .string p1, .string p2, .string p3, .bool p4, .int .i64 p5, .bool p6, .slice pa pn pc, .string p8, .string p9, .bool p10, .bool p11] 45)) = W2 := ⟨_, rfl⟩
  have hb2 : Below W1.heap.size W1 W2 := by rw [← hW2]; exact (Below.refl _ W1).alloc (Nat.le_refl _) _
  have hA2 := hA1.kept hb2
  have hP2 : AdrIn W2 (w.heap.size + 1) p (.slice pa pn pc) := by
    unfold AdrIn
    rw [hy, ← hW2, ← hs1]
    exact heap_alloc_new W1 _
  have hB2 := below2 hb1 hb2
  have HG2 := hid (hg.kept hB2)
  have HU2 := hid (hu.kept hB2)
  have HP2 := hid (hp.kept hB2)
  have HB2 := hid hB2
  have HRu := hid (show ∀ Z, Below W2.heap.size W2 Z → Z.rangeAt w.heap.size 0 [.string u0, .string u1, .string u2, .string u3, .bool u4, .int .i64 u5, .bool u6, .slice ua un uc, .string u8, .string u9, .bool u10, .bool u11] from fun Z hZ => by
    have := range_row (show Z.heap[w.heap.size]? = some (.cells (adrCells u (.slice ua un uc)).toArray 45 (0, 0)) from hA2.kept hZ)
    rw [hx] at this
    exact this)
  have HRp := hid (show ∀ Z, Below W2.heap.size W2 Z → Z.rangeAt (w.heap.size + 1) 0 [.string p0, .string p1, .string p2, .string p3, .bool p4, .int .i64 p5, .bool p6, .slice pa pn pc, .string p8, .string p9, .bool p10, .bool p11] from fun Z hZ => by
    have := range_row (show Z.heap[w.heap.size + 1]? = some (.cells (adrCells p (.slice pa pn pc)).toArray 45 (0, 0)) from hP2.kept hZ)
    rw [hy] at this
    exact this)
  clear hb1 hb2 hA1 hA2 hP2 hB2 hg hu hp hx hy hz hva hvb
  go_enter Tryz.func58, Tryz.ntmps58
  go_wp2_with fail
  have HQ0 := hid ((Below.refl W2.heap.size W2).drew)
  refine wp_region_held_drew (S := (fun wx => Below W2.heap.size W2 wx)) (by kernel_rfl) HQ0.out (fun hHeld => ?_)
  refine wpAnyH_take (i := 0) rfl (by kernel_rfl) (by kernel_rfl) (by kernel_rfl) (fun _ _ _ h => h) (yieldsIf_load_mid (by kernel_rfl) 45 (.tmp 3) rfl w.heap.size 0 rfl [.string u0, .string u1, .string u2, .string u3, .bool u4, .int .i64 u5, .bool u6, .slice ua un uc, .string u8, .string u9, .bool u10, .bool u11] _ HRu.out Tryz.underlying45 rfl sizeU) (by assumption) ?_
  (try simp only [Act.put, List.setIfInBounds_toArray, List.set_cons_zero, List.set_cons_succ])
  refine wpAnyH_take (i := 1) rfl (by kernel_rfl) (by kernel_rfl) (by kernel_rfl) (fun _ _ _ h => h) (yieldsIf_load_mid (by kernel_rfl) 45 (.tmp 4) rfl (w.heap.size + 1) 0 rfl [.string p0, .string p1, .string p2, .string p3, .bool p4, .int .i64 p5, .bool p6, .slice pa pn pc, .string p8, .string p9, .bool p10, .bool p11] _ HRp.out Tryz.underlying45 rfl sizeU) (by assumption) ?_
  (try simp only [Act.put, List.setIfInBounds_toArray, List.set_cons_zero, List.set_cons_succ])
  refine wpAnyH_take (i := 2) rfl (by kernel_rfl) (by kernel_rfl) (by kernel_rfl) (fun _ _ _ h => h) (yieldsIf_load_mid (by kernel_rfl) 45 (.tmp 3) rfl w.heap.size 0 rfl [.string u0, .string u1, .string u2, .string u3, .bool u4, .int .i64 u5, .bool u6, .slice ua un uc, .string u8, .string u9, .bool u10, .bool u11] _ HRu.out Tryz.underlying45 rfl sizeU) (by assumption) ?_
  (try simp only [Act.put, List.setIfInBounds_toArray, List.set_cons_zero, List.set_cons_succ])
  refine wpAnyH_take (i := 3) rfl (by kernel_rfl) (by kernel_rfl) (by kernel_rfl) (fun _ _ _ h => h) (yieldsIf_load_mid (by kernel_rfl) 45 (.tmp 4) rfl (w.heap.size + 1) 0 rfl [.string p0, .string p1, .string p2, .string p3, .bool p4, .int .i64 p5, .bool p6, .slice pa pn pc, .string p8, .string p9, .bool p10, .bool p11] _ HRp.out Tryz.underlying45 rfl sizeU) (by assumption) ?_
  (try simp only [Act.put, List.setIfInBounds_toArray, List.set_cons_zero, List.set_cons_succ])
  refine wpAnyH_take (i := 4) rfl (by kernel_rfl) (by kernel_rfl) (by kernel_rfl) (fun _ _ _ h => h) (yieldsIf_load_mid (by kernel_rfl) 45 (.tmp 3) rfl w.heap.size 0 rfl [.string u0, .string u1, .string u2, .string u3, .bool u4, .int .i64 u5, .bool u6, .slice ua un uc, .string u8, .string u9, .bool u10, .bool u11] _ HRu.out Tryz.underlying45 rfl sizeU) (by assumption) ?_
  (try simp only [Act.put, List.setIfInBounds_toArray, List.set_cons_zero, List.set_cons_succ])
  refine wpAnyH_take (i := 5) rfl (by kernel_rfl) (by kernel_rfl) (by kernel_rfl) (fun _ _ _ h => h) (yieldsIf_load_mid (by kernel_rfl) 45 (.tmp 3) rfl w.heap.size 0 rfl [.string u0, .string u1, .string u2, .string u3, .bool u4, .int .i64 u5, .bool u6, .slice ua un uc, .string u8, .string u9, .bool u10, .bool u11] _ HRu.out Tryz.underlying45 rfl sizeU) (by assumption) ?_
  (try simp only [Act.put, List.setIfInBounds_toArray, List.set_cons_zero, List.set_cons_succ])
  refine wpAnyH_take (i := 6) rfl (by kernel_rfl) (by kernel_rfl) (by kernel_rfl) (fun _ _ _ h => h) (yieldsIf_load_mid (by kernel_rfl) 45 (.tmp 3) rfl w.heap.size 0 rfl [.string u0, .string u1, .string u2, .string u3, .bool u4, .int .i64 u5, .bool u6, .slice ua un uc, .string u8, .string u9, .bool u10, .bool u11] _ HRu.out Tryz.underlying45 rfl sizeU) (by assumption) ?_
  (try simp only [Act.put, List.setIfInBounds_toArray, List.set_cons_zero, List.set_cons_succ])
  refine' wpAnyH_take (i := 7) (oi := ⟨some 14, _, _, _, _, _⟩) (v := _) rfl (by kernel_rfl) (by kernel_rfl) (by kernel_rfl) (fun _ _ _ h => h) (Or.inl ⟨by kernel_rfl, ?hy7⟩) (by assumption) ?rest7
  case hy7 => (intro w hSw; (try dsimp only at hSw); go_simp; first | done | with_reducible rfl)
  (try simp only [Act.put, List.setIfInBounds_toArray, List.set_cons_zero, List.set_cons_succ])
  refine wpAnyH_ready (rs := [8]) (by kernel_rfl) (by simp) ?_
  refine AllReadyH.cons rfl (fun K hK => ?_) AllReadyH.nil
  rw [if_pos (by kernel_rfl)]
  go_simp
  go_wp2_with (go_at_call 88; refine (H1.out _ (HG2.out.kept HQ0.out) (HU2.out.kept HQ0.out)).mono ?_; rintro e x1 ⟨v1, rfl, hr1, hbx1⟩)
  have HR1 := hid hr1
  have HQ1 := hid (below2 HQ0.out hbx1)
  clear hr1 hbx1
  refine hK.out _ _ HQ1.out (fun hHeld2 => ?_)
  clear hK K hHeld
  rename _ => hHeld
  refine wpAnyH_ready (rs := [9]) (by kernel_rfl) (by simp) ?_
  refine AllReadyH.cons rfl (fun K hK => ?_) AllReadyH.nil
  rw [if_pos (by kernel_rfl)]
  go_simp
  go_wp2_with (go_at_call 87; refine (H2.out _ _ _ HR1.out).mono ?_; rintro e x2 ⟨v2, rfl, hr2, hbx2⟩)
  have HR2 := hid hr2
  have HQ2 := hid (below2 HQ1.out hbx2)
  clear hr2 hbx2
  refine hK.out _ _ HQ2.out (fun hHeld2 => ?_)
  clear hK K hHeld
  rename _ => hHeld
  refine wpAnyH_ready (rs := [10]) (by kernel_rfl) (by simp) ?_
  refine AllReadyH.cons rfl (fun K hK => ?_) AllReadyH.nil
  rw [if_pos (by kernel_rfl)]
  go_simp
  go_wp2_with (go_at_call 86; refine (H3.out _ _ _ HR2.out).mono ?_; rintro e x3 ⟨v3, rfl, hr3, hbx3⟩)
  have HR3 := hid hr3
  have HQ3 := hid (below2 HQ2.out hbx3)
  clear hr3 hbx3
  refine hK.out _ _ HQ3.out (fun hHeld2 => ?_)
  clear hK K hHeld
  rename _ => hHeld
  refine wpAnyH_ready (rs := [11]) (by kernel_rfl) (by simp) ?_
  refine AllReadyH.cons rfl (fun K hK => ?_) AllReadyH.nil
  rw [if_pos (by kernel_rfl)]
  go_simp
  go_wp2_with (go_at_call 85; refine (H4.out _ _ _ (HG2.out.kept HQ3.out) HR3.out).mono ?_; rintro e x4 ⟨v4, rfl, hr4, hbx4⟩)
  have HR4 := hid hr4
  have HQ4 := hid (below2 HQ3.out hbx4)
  clear hr4 hbx4
  refine hK.out _ _ HQ4.out (fun hHeld2 => ?_)
  clear hK K hHeld
  rename _ => hHeld
  refine wpAnyH_ready (rs := [12]) (by kernel_rfl) (by simp) ?_
  refine AllReadyH.cons rfl (fun K hK => ?_) AllReadyH.nil
  rw [if_pos (by kernel_rfl)]
  go_simp
  go_wp2_with (go_at_call 84; refine (H5.out _ _ _ (HG2.out.kept HQ4.out) (HU2.out.kept HQ4.out) (HP2.out.kept HQ4.out) HR4.out).mono ?_; rintro e x5 ⟨v5, rfl, hr5, hbx5⟩)
  have HR5 := hid hr5
  have HQ5 := hid (below2 HQ4.out hbx5)
  clear hr5 hbx5
  refine hK.out _ _ HQ5.out (fun hHeld2 => ?_)
  clear hK K hHeld
  rename _ => hHeld
  refine' wpAnyH_take (i := 13) (oi := ⟨some 6, _, _, _, _, _⟩) (v := _) rfl (by kernel_rfl) (by kernel_rfl) (by kernel_rfl) (fun _ _ _ h => h) (Or.inl ⟨by kernel_rfl, ?hy13⟩) (by assumption) ?rest13
  case hy13 => (intro w hSw; (try dsimp only at hSw); go_simp; first | done | with_reducible rfl)
  (try simp only [Act.put, List.setIfInBounds_toArray, List.set_cons_zero, List.set_cons_succ])
  refine wpAnyH_done (by kernel_rfl) ?_ _
  have HB5 := hid (below2 HB2.out HQ5.out)
  clear HQ0 HQ1 HQ2 HQ3 HQ4 HQ5 hHeld HRu HRp
  go_wp2
  go_ret
  exact ⟨v5, by first | rfl | simp, HR5.out, HB5.out⟩

end Go.Proofs.YtkhpemjjholneaaGreatDoor

namespace Go.Proofs.YtkhpemjjholneaaGreatDoor
open Go.RowKit

set_option maxHeartbeats 4000000 in
set_option maxRecDepth 100000 in
theorem one11_any (s : ByteArray) (u p : Adr) (uv pv : Value) (hops : Int) (w : World) (hg : Gd w) (hu : UrlAt w u uv) (hp : UrlAt w p pv) (hz : Sized11 u) (hs : s.size ≤ 4000000000) :
    Calls Tryz.prog 34 #[.string s, adrVal u uv, adrVal p pv, .int .i64 hops] w fun e w' => e = .returned (.bool (oneV u p hops s.data.toList)) ∧ Below w.heap.size w w' := by
  obtain ⟨ua, un, uc, rfl⟩ := hu.sl
  obtain ⟨pa, pn, pc, rfl⟩ := hp.sl
  have HM := hid (fun (w : World) (hg : Gd w) (hu : UrlAt w u (.slice ua un uc)) (hp : UrlAt w p (.slice pa pn pc)) => meaning_any u p (.slice ua un uc) (.slice pa pn pc) hops w hg hu hp hz)
  obtain ⟨u0, u1, u2, u3, u4, u5, u6, u8, u9, u10, u11, hx, -, -, -, -⟩ := adr_named u ua un uc
  obtain ⟨p0, p1, p2, p3, p4, p5, p6, p8, p9, p10, p11, hy, -, -, -, -⟩ := adr_named p pa pn pc
  have hva : adrVal u (.slice ua un uc) = .agg #[.string u0, .string u1, .string u2, .string u3, .bool u4, .int .i64 u5, .bool u6, .slice ua un uc, .string u8, .string u9, .bool u10, .bool u11] := by unfold adrVal; rw [hx]
  have hvb : adrVal p (.slice pa pn pc) = .agg #[.string p0, .string p1, .string p2, .string p3, .bool p4, .int .i64 p5, .bool p6, .slice pa pn pc, .string p8, .string p9, .bool p10, .bool p11] := by unfold adrVal; rw [hy]
  rw [hva, hvb] at HM ⊢
  obtain ⟨W1, hW1⟩ : ∃ W1, (w.alloc (.cells #[.string u0, .string u1, .string u2, .string u3, .bool u4, .int .i64 u5, .bool u6, .slice ua un uc, .string u8, .string u9, .bool u10, .bool u11] 45)) = W1 := ⟨_, rfl⟩
  have hb1 : Below w.heap.size w W1 := by rw [← hW1]; exact (Below.refl _ w).alloc (Nat.le_refl _) _
  have hs1 : W1.heap.size = w.heap.size + 1 := by rw [← hW1]; simp
  have hA1 : AdrIn W1 w.heap.size u (.slice ua un uc) := by
    unfold AdrIn
    rw [hx, ← hW1]
    exact heap_alloc_new w _
  obtain ⟨W2, hW2⟩ : ∃ W2, (W1.alloc (.cells #[.string p0, .string p1, .string p2, .string p3, .bool p4, .int .i64 p5, .bool p6, .slice pa pn pc, .string p8, .string p9, .bool p10, .bool p11] 45)) = W2 := ⟨_, rfl⟩
  have hb2 : Below W1.heap.size W1 W2 := by rw [← hW2]; exact (Below.refl _ W1).alloc (Nat.le_refl _) _
  have hA2 := hA1.kept hb2
  have hP2 : AdrIn W2 (w.heap.size + 1) p (.slice pa pn pc) := by
    unfold AdrIn
    rw [hy, ← hW2, ← hs1]
    exact heap_alloc_new W1 _
  have hB2 := below2 hb1 hb2
  have HG2 := hid (hg.kept hB2)
  have HU2 := hid (hu.kept hB2)
  have HP2 := hid (hp.kept hB2)
  have HB2 := hid hB2
  have HRu := hid (show W2.rangeAt w.heap.size 0 [.string u0, .string u1, .string u2, .string u3, .bool u4, .int .i64 u5, .bool u6, .slice ua un uc, .string u8, .string u9, .bool u10, .bool u11] by
    have := range_row (show W2.heap[w.heap.size]? = some (.cells (adrCells u (.slice ua un uc)).toArray 45 (0, 0)) from hA2)
    rw [hx] at this
    exact this)
  have HRp := hid (show W2.rangeAt (w.heap.size + 1) 0 [.string p0, .string p1, .string p2, .string p3, .bool p4, .int .i64 p5, .bool p6, .slice pa pn pc, .string p8, .string p9, .bool p10, .bool p11] by
    have := range_row (show W2.heap[w.heap.size + 1]? = some (.cells (adrCells p (.slice pa pn pc)).toArray 45 (0, 0)) from hP2)
    rw [hy] at this
    exact this)
  clear hb1 hb2 hA1 hA2 hP2 hB2 hg hu hp hx hy hz hva hvb
  go_enter Tryz.func34, Tryz.ntmps34
  go_wp2_with (first | refine wpList_load_mid rfl 45 (.tmp 5) rfl w.heap.size 0 rfl [.string u0, .string u1, .string u2, .string u3, .bool u4, .int .i64 u5, .bool u6, .slice ua un uc, .string u8, .string u9, .bool u10, .bool u11] _ HRu.out Tryz.underlying45 rfl sizeU ?_ | refine wpList_load_mid rfl 45 (.tmp 6) rfl (w.heap.size + 1) 0 rfl [.string p0, .string p1, .string p2, .string p3, .bool p4, .int .i64 p5, .bool p6, .slice pa pn pc, .string p8, .string p9, .bool p10, .bool p11] _ HRp.out Tryz.underlying45 rfl sizeU ?_)
  refine (HM.out _ HG2.out HU2.out HP2.out).mono ?_
  rintro e w3 ⟨v, rfl, ⟨f, lb, rfl, eg, hc⟩, hb3⟩
  have HC := hid (hc w3 s (Below.refl _ _) hs)
  have HB3 := hid (below2 HB2.out hb3)
  clear hc hb3
  go_wp2_with fail
  refine HC.out.mono ?_
  rintro e w4 ⟨rfl, hb4⟩
  have HB4 := hid (below2 HB3.out hb4)
  clear hb4
  go_wp2
  go_ret
  exact ⟨rfl, HB4.out⟩

/-- What the statements' own one tells. -/
def lawOne (s u p : List UInt8) (hops : Int) : Bool := match urlV u, urlV p with
  | .ok a, .ok b => oneV a b hops s
  | _, _ => false

theorem lawOne_ok {s u p : List UInt8} {hops : Int} {a b : Adr} (h1 : urlV u = .ok a) (h2 : urlV p = .ok b) : lawOne s u p hops = oneV a b hops s := by unfold lawOne; rw [h1, h2]

theorem lawOne_no1 {s u p : List UInt8} {hops : Int} (h1 : isOk (urlV u) = false) : lawOne s u p hops = false := by
  unfold lawOne
  cases h : urlV u with
  | ok a => rw [h] at h1; cases h1
  | error e => rfl

theorem lawOne_no2 {s u p : List UInt8} {hops : Int} (h1 : isOk (urlV p) = false) : lawOne s u p hops = false := by
  unfold lawOne
  cases h : urlV p with
  | ok a => rw [h] at h1; cases h1
  | error e => cases urlV u <;> rfl

theorem slim_at {w : World} {B : Nat} {u : Adr} {pv : Value} {s : List UInt8} (e : readV s none = .ok u) (h : w.ownsRow B 9 1 pv u.path.length (cellsS u.path)) : UrlAt w u pv ∧ Sized11 u := by
  obtain ⟨h1, h2, h3, h4, h5, h6, h7, h8⟩ := parse_slim e
  have a1 := slL_len u.path
  have a2 := slL_flat u.path
  refine ⟨⟨own_path h, by omega, by omega⟩, by omega, fun x hx => ?_⟩
  have : x.length ≤ u.path.flatten.length := by
    obtain ⟨a, b, e⟩ := List.append_of_mem hx
    rw [e]; simp; omega
  omega

theorem slim_zero {w : World} {B : Nat} {pv : Value} (h : w.ownsRow B 9 1 pv Adr.zero.path.length (cellsS Adr.zero.path)) : UrlAt w Adr.zero pv ∧ Sized11 Adr.zero :=
  ⟨⟨own_path h, by decide, by decide⟩, by decide, fun x hx => by cases hx⟩

theorem slim_any {w : World} {B : Nat} {pv : Value} {s : List UInt8} (h : w.ownsRow B 9 1 pv (adrOf (urlV s)).path.length (cellsS (adrOf (urlV s)).path)) : UrlAt w (adrOf (urlV s)) pv ∧ Sized11 (adrOf (urlV s)) := by
  cases e : urlV s with
  | ok u => rw [e] at h; exact slim_at e h
  | error x => rw [e] at h; exact slim_zero h

set_option maxHeartbeats 4000000 in
set_option maxRecDepth 100000 in
theorem lawOne_any (s u p : ByteArray) (hops : Int) (w : World) (hg : Gd w) (hs : s.size ≤ 4000000000) (hu : u.size ≤ 9223372036854775807) (hp : p.size ≤ 9223372036854775807) :
    Calls Tryz.prog 30 #[.string s, .string u, .string p, .int .i64 hops] w fun e w' => e = .returned (.bool (lawOne s.data.toList u.data.toList p.data.toList hops)) ∧ Below w.heap.size w w' := by
  have HU := hid (fun w => url_k u w hu)
  have HP := hid (fun w => url_k p w hp)
  have HSu := hid (fun (w : World) (B : Nat) (pv : Value) (h : w.ownsRow B 9 1 pv (adrOf (urlV u.data.toList)).path.length (cellsS (adrOf (urlV u.data.toList)).path)) => slim_any h)
  have HSp := hid (fun (w : World) (B : Nat) (pv : Value) (h : w.ownsRow B 9 1 pv (adrOf (urlV p.data.toList)).path.length (cellsS (adrOf (urlV p.data.toList)).path)) => slim_any h)
  have HV1 : Hid (isOk (urlV u.data.toList) = true → isOk (urlV p.data.toList) = true → lawOne s.data.toList u.data.toList p.data.toList hops = oneV (adrOf (urlV u.data.toList)) (adrOf (urlV p.data.toList)) hops s.data.toList) := fun h1 h2 => by
    cases ha : urlV u.data.toList with
    | error x => rw [ha] at h1; cases h1
    | ok a =>
      cases hb : urlV p.data.toList with
      | error x => rw [hb] at h2; cases h2
      | ok b => exact lawOne_ok ha hb
  have HV2 : Hid (isOk (urlV u.data.toList) = false → lawOne s.data.toList u.data.toList p.data.toList hops = false) := fun h => lawOne_no1 h
  have HV3 : Hid (isOk (urlV p.data.toList) = false → lawOne s.data.toList u.data.toList p.data.toList hops = false) := fun h => lawOne_no2 h
  obtain ⟨r1, hr1⟩ : ∃ r, urlV u.data.toList = r := ⟨_, rfl⟩
  obtain ⟨r2, hr2⟩ : ∃ r, urlV p.data.toList = r := ⟨_, rfl⟩
  rw [hr1] at HU HSu HV1 HV2
  rw [hr2] at HP HSp HV1 HV3
  obtain ⟨o1, ho1⟩ : ∃ b, isOk r1 = b := ⟨_, rfl⟩
  obtain ⟨o2, ho2⟩ : ∃ b, isOk r2 = b := ⟨_, rfl⟩
  unfold UPost at HU HP
  rw [ho1] at HU HV1 HV2
  rw [ho2] at HP HV1 HV3
  obtain ⟨A, hA⟩ : ∃ A, adrOf r1 = A := ⟨_, rfl⟩
  obtain ⟨B, hB⟩ : ∃ A, adrOf r2 = A := ⟨_, rfl⟩
  rw [hA] at HU HSu HV1
  rw [hB] at HP HSp HV1
  have HG := hid hg
  obtain ⟨lo, hlo⟩ : ∃ b, lawOne s.data.toList u.data.toList p.data.toList hops = b := ⟨_, rfl⟩
  rw [hlo] at HV1 HV2 HV3
  rw [hlo]
  clear hr1 hr2 ho1 ho2 hA hB hg hu hp hlo
  go_enter Tryz.func30, Tryz.ntmps30
  go_wp2_with fail
  refine (HU.out _).mono ?_
  rintro e w1 ⟨uv, rfl, hown1, hb1⟩
  have hS1 := HSu.out _ _ _ hown1
  obtain ⟨ua, un, uc, rfl⟩ := hS1.1.sl
  obtain ⟨u0, u1, u2, u3, u4, u5, u6, u8, u9, u10, u11, hx, -, -, -, -⟩ := adr_named A ua un uc
  have hva : adrVal A (.slice ua un uc) = .agg #[.string u0, .string u1, .string u2, .string u3, .bool u4, .int .i64 u5, .bool u6, .slice ua un uc, .string u8, .string u9, .bool u10, .bool u11] := by unfold adrVal; rw [hx]
  rw [hva]
  obtain ⟨W2, hW2⟩ : ∃ W2, (w1.alloc (.cells #[.string u0, .string u1, .string u2, .string u3, .bool u4, .int .i64 u5, .bool u6, .slice ua un uc, .string u8, .string u9, .bool u10, .bool u11] 45)) = W2 := ⟨_, rfl⟩
  have hb2 : Below w1.heap.size w1 W2 := by rw [← hW2]; exact (Below.refl _ w1).alloc (Nat.le_refl _) _
  have hA2 : AdrIn W2 w1.heap.size A (.slice ua un uc) := by
    unfold AdrIn
    rw [hx, ← hW2]
    exact heap_alloc_new w1 _
  have HA2 := hid hA2
  have HX := hid hx
  have HVA := hid hva
  have HS1 := hid (And.intro (hS1.1.kept hb2) hS1.2)
  have HB2 := hid (below2 hb1 hb2)
  clear hS1 hown1 hb1 hb2 hA2 hx hva
  go_wp2_with fail
  refine (HP.out _).mono ?_
  rintro e w3 ⟨pv, rfl, hown3, hb3⟩
  have hS3 := HSp.out _ _ _ hown3
  obtain ⟨pa, pn, pc, rfl⟩ := hS3.1.sl
  obtain ⟨p0, p1, p2, p3, p4, p5, p6, p8, p9, p10, p11, hy, -, -, -, -⟩ := adr_named B pa pn pc
  have hvb : adrVal B (.slice pa pn pc) = .agg #[.string p0, .string p1, .string p2, .string p3, .bool p4, .int .i64 p5, .bool p6, .slice pa pn pc, .string p8, .string p9, .bool p10, .bool p11] := by unfold adrVal; rw [hy]
  rw [hvb]
  obtain ⟨W4, hW4⟩ : ∃ W4, (w3.alloc (.cells #[.string p0, .string p1, .string p2, .string p3, .bool p4, .int .i64 p5, .bool p6, .slice pa pn pc, .string p8, .string p9, .bool p10, .bool p11] 45)) = W4 := ⟨_, rfl⟩
  have hb4 : Below w3.heap.size w3 W4 := by rw [← hW4]; exact (Below.refl _ w3).alloc (Nat.le_refl _) _
  have hA4 : AdrIn W4 w3.heap.size B (.slice pa pn pc) := by
    unfold AdrIn
    rw [hy, ← hW4]
    exact heap_alloc_new w3 _
  have hb34 := below2 hb3 hb4
  have HB4 := hid (below2 HB2.out hb34)
  have hA24 := HA2.out.kept hb34
  have HU4 := hid (HS1.out.1.kept hb34)
  have HP4 := hid (hS3.1.kept hb4)
  have HRu := hid (show W4.rangeAt w1.heap.size 0 [.string u0, .string u1, .string u2, .string u3, .bool u4, .int .i64 u5, .bool u6, .slice ua un uc, .string u8, .string u9, .bool u10, .bool u11] by
    have := range_row (show W4.heap[w1.heap.size]? = some (.cells (adrCells A (.slice ua un uc)).toArray 45 (0, 0)) from hA24)
    rw [HX.out] at this
    exact this)
  have HRp := hid (show W4.rangeAt w3.heap.size 0 [.string p0, .string p1, .string p2, .string p3, .bool p4, .int .i64 p5, .bool p6, .slice pa pn pc, .string p8, .string p9, .bool p10, .bool p11] by
    have := range_row (show W4.heap[w3.heap.size]? = some (.cells (adrCells B (.slice pa pn pc)).toArray 45 (0, 0)) from hA4)
    rw [hy] at this
    exact this)
  have HOne := hid (one11_any s A B (.slice ua un uc) (.slice pa pn pc) hops W4 (HG.out.kept HB4.out) HU4.out HP4.out HS1.out.2 hs)
  rw [HVA.out, hvb] at HOne
  clear hS3 hown3 hb3 hb4 hA4 hb34 hA24 hy hvb
  have f1 : ∀ j v, [.string u0, .string u1, .string u2, .string u3, .bool u4, .int .i64 u5, .bool u6, .slice ua un uc, .string u8, .string u9, .bool u10, .bool u11][j]? = some v → W4.cell? ⟨w1.heap.size, j, none⟩ = some v := fun j v h => by
    have := HRu.out j v h
    rwa [Nat.zero_add] at this
  have f2 : ∀ j v, [.string p0, .string p1, .string p2, .string p3, .bool p4, .int .i64 p5, .bool p6, .slice pa pn pc, .string p8, .string p9, .bool p10, .bool p11][j]? = some v → W4.cell? ⟨w3.heap.size, j, none⟩ = some v := fun j v h => by
    have := HRp.out j v h
    rwa [Nat.zero_add] at this
  have y0 := f1 0 _ rfl
  have z0 := f2 0 _ rfl
  have y1 := f1 1 _ rfl
  have z1 := f2 1 _ rfl
  have y2 := f1 2 _ rfl
  have z2 := f2 2 _ rfl
  have y3 := f1 3 _ rfl
  have z3 := f2 3 _ rfl
  have y4 := f1 4 _ rfl
  have z4 := f2 4 _ rfl
  have y5 := f1 5 _ rfl
  have z5 := f2 5 _ rfl
  have y6 := f1 6 _ rfl
  have z6 := f2 6 _ rfl
  have y7 := f1 7 _ rfl
  have z7 := f2 7 _ rfl
  have y8 := f1 8 _ rfl
  have z8 := f2 8 _ rfl
  have y9 := f1 9 _ rfl
  have z9 := f2 9 _ rfl
  have y10 := f1 10 _ rfl
  have z10 := f2 10 _ rfl
  have y11 := f1 11 _ rfl
  have z11 := f2 11 _ rfl
  clear f1 f2
  cases o1 with
  | false =>
    go_wp2
    go_ret
    exact ⟨ret_bool (by rw [HV2.out (by first | rfl | trivial)] <;> rfl), HB4.out⟩
  | true =>
    cases o2 with
    | false =>
      go_wp2
      go_ret
      exact ⟨ret_bool (by rw [HV3.out (by first | rfl | trivial)] <;> rfl), HB4.out⟩
    | true =>
      go_wp2_with (go_at_call 34; refine HOne.out.mono ?_; rintro e w5 ⟨rfl, hb5⟩)
      go_ret
      exact ⟨ret_bool (by rw [HV1.out (by first | rfl | trivial) (by first | rfl | trivial)] <;> rfl), below2 HB4.out hb5⟩

end Go.Proofs.YtkhpemjjholneaaGreatDoor

namespace Go.Proofs.YtkhpemjjholneaaGreatDoor
open Go.RowKit

structure Three where
  (a b c : Nat)

/-- What sets words of one size apart from those of the other. -/
structure Kd where
  W : Nat
  R : Nat
  s0 : Three
  s1 : Three
  g0 : Three
  g1 : Three

structure St where
  (a b c d e f g h : Nat)

def St.list (s : St) : List Nat := [s.a, s.b, s.c, s.d, s.e, s.f, s.g, s.h]

def Kd.B (k : Kd) : Nat := k.W / 8

def Kd.size (k : Kd) : Nat := 16 * k.B

end Go.Proofs.YtkhpemjjholneaaGreatDoor

namespace Go.Proofs.YtkhpemjjholneaaGreatDoor
open Go.RowKit

theorem index_one_none9 (l : List UInt8) (c : UInt8) (h : c ∉ l) : Lib.index l [c] = -1 := by
  induction l with
  | nil => rfl
  | cons a l ih =>
    have ha : a ≠ c := fun e => h (by simp [e])
    have hl : c ∉ l := fun e => h (by simp [e])
    unfold Lib.index
    rw [ih hl]
    have : [c].isPrefixOf (a :: l) = false := by simp [List.isPrefixOf]; exact fun e => ha e.symm
    rw [this]; rfl

theorem index_one_some9 (a r : List UInt8) (c : UInt8) (h : c ∉ a) : Lib.index (a ++ c :: r) [c] = a.length := by
  induction a with
  | nil => unfold Lib.index; simp [List.isPrefixOf]
  | cons x a ih =>
    have hx : x ≠ c := fun e => h (by simp [e])
    have ha : c ∉ a := fun e => h (by simp [e])
    rw [List.cons_append]
    unfold Lib.index
    rw [ih ha]
    have : [c].isPrefixOf (x :: (a ++ c :: r)) = false := by simp [List.isPrefixOf]; exact fun e => hx e.symm
    rw [this]
    have h1 : ((a.length : Int) == -1) = false := by rw [beq_eq_false_iff_ne]; omega
    simp [h1]

theorem cut_none9 (l : List UInt8) (c : UInt8) (h : c ∉ l) : Lib.cut l [c] = (l, [], false) := by
  unfold Lib.cut
  rw [index_one_none9 l c h]; rfl

theorem cut_some9 (a r : List UInt8) (c : UInt8) (h : c ∉ a) : Lib.cut (a ++ c :: r) [c] = (a, r, true) := by
  unfold Lib.cut
  rw [index_one_some9 a r c h]
  simp

theorem first_split9 (c : UInt8) : ∀ l : List UInt8, c ∉ l ∨ ∃ a r, c ∉ a ∧ l = a ++ c :: r
  | [] => .inl (by simp)
  | x :: l => by
    by_cases hx : x = c
    · exact .inr ⟨[], l, by simp, by simp [hx]⟩
    · rcases first_split9 c l with h | ⟨a, r, ha, rfl⟩
      · exact .inl (by simp [h]; exact fun e => hx e.symm)
      · exact .inr ⟨x :: a, r, by simp [ha]; exact fun e => hx e.symm, rfl⟩

def part9 (c : UInt8) : List UInt8 → List UInt8 × List UInt8 × Bool
  | [] => ([], [], false)
  | x :: l => if x = c then ([], l, true) else (x :: (part9 c l).1, (part9 c l).2.1, (part9 c l).2.2)

theorem part_none9 (c : UInt8) : ∀ l : List UInt8, c ∉ l → part9 c l = (l, [], false)
  | [], _ => rfl
  | x :: l, h => by
    have hx : x ≠ c := fun e => h (by simp [e])
    have hl : c ∉ l := fun e => h (by simp [e])
    rw [part9, if_neg hx, part_none9 c l hl]

theorem part_some9 (c : UInt8) : ∀ (a r : List UInt8), c ∉ a → part9 c (a ++ c :: r) = (a, r, true)
  | [], r, _ => by rw [List.nil_append, part9, if_pos rfl]
  | x :: a, r, h => by
    have hx : x ≠ c := fun e => h (by simp [e])
    have hl : c ∉ a := fun e => h (by simp [e])
    rw [List.cons_append, part9, if_neg hx, part_some9 c a r hl]

theorem cut_part9 (c : UInt8) (l : List UInt8) : Lib.cut l [c] = part9 c l := by
  rcases first_split9 c l with h | ⟨a, r, h, rfl⟩
  · rw [cut_none9 l c h, part_none9 c l h]
  · rw [cut_some9 a r c h, part_some9 c a r h]

theorem cut_le9 (l sep : List UInt8) : (Lib.cut l sep).1.length ≤ l.length ∧ (Lib.cut l sep).2.1.length ≤ l.length := by
  unfold Lib.cut
  split
  · simp
    omega
  · simp

theorem part_le9 (c : UInt8) (l : List UInt8) : (part9 c l).1.length ≤ l.length ∧ (part9 c l).2.1.length ≤ l.length := by
  rw [← cut_part9]; exact cut_le9 l [c]

theorem o9get_bang (s : ByteArray) (i : Nat) (h : i < s.size) : s.get! i = s[i] := by
  show s.data[i]! = s.data[i]
  exact getElem!_pos s.data i h

set_option maxRecDepth 100000 in
theorem o9decode_skip (s : ByteArray) (i : Nat) (h : i < s.size) (ha : 128 ≤ (s[i]'h).toNat) : ∃ r n, Utf8.decode s i = (r, n) ∧ 128 ≤ r ∧ r ≤ 1114111 ∧ 1 ≤ n ∧ i + n ≤ s.size ∧ ∀ j, i ≤ j → j < i + n → 128 ≤ (s.get! j).toNat := by
  have h0 : 128 ≤ (s.get! i).toNat := by rw [o9get_bang s i h]; exact ha
  rw [Lib.decode_at]
  unfold Lib.decodeN
  rw [if_neg (by omega)]
  have one : ∀ j, i ≤ j → j < i + 1 → 128 ≤ (s.get! j).toNat := fun j h1 h2 => by
    have : j = i := by omega
    rw [this]; exact h0
  split
  · split
    · refine ⟨_, _, rfl, by omega, by omega, by omega, by omega, fun j h1 h2 => ?_⟩
      have : j = i ∨ j = i + 1 := by omega
      rcases this with rfl | rfl
      · exact h0
      · omega
    · exact ⟨_, _, rfl, by omega, by omega, by omega, by omega, one⟩
  · split
    · split
      · refine ⟨_, _, rfl, by omega, by omega, by omega, by omega, fun j h1 h2 => ?_⟩
        have : j = i ∨ j = i + 1 ∨ j = i + 2 := by omega
        rcases this with rfl | rfl | rfl
        · exact h0
        · omega
        · omega
      · exact ⟨_, _, rfl, by omega, by omega, by omega, by omega, one⟩
    · split
      · split
        · refine ⟨_, _, rfl, by omega, by omega, by omega, by omega, fun j h1 h2 => ?_⟩
          have : j = i ∨ j = i + 1 ∨ j = i + 2 ∨ j = i + 3 := by omega
          rcases this with rfl | rfl | rfl | rfl
          · exact h0
          · omega
          · omega
          · omega
        · exact ⟨_, _, rfl, by omega, by omega, by omega, by omega, one⟩
      · exact ⟨_, _, rfl, by omega, by omega, by omega, by omega, one⟩

/-- One of the five blanks. -/
def p9 (r : Nat) : Bool := r == 9 || r == 10 || r == 12 || r == 13 || r == 32

def bl9 (c : UInt8) : Bool := p9 c.toNat

/-- The words of a text, behind what was read of the first one. -/
def wdsF : List UInt8 → List UInt8 → List (List UInt8)
  | [], cur => if cur = [] then [] else [cur]
  | c :: r, cur => if bl9 c then (if cur = [] then wdsF r [] else cur :: wdsF r []) else wdsF r (cur ++ [c])

def words9 (l : List UInt8) : List (List UInt8) := wdsF l []

theorem wds_skip : ∀ (x r cur : List UInt8), (∀ c ∈ x, bl9 c = false) → wdsF (x ++ r) cur = wdsF r (cur ++ x)
  | [], r, cur, _ => by simp
  | c :: x, r, cur, h => by
    rw [List.cons_append, wdsF, if_neg (by rw [h c (by simp)]; decide), wds_skip x r _ (fun d hd => h d (by simp [hd]))]
    simp

theorem p9_high (r : Nat) (h : 128 ≤ r) : p9 r = false := by
  unfold p9
  simp
  omega

def ext9 (s : ByteArray) (x : Nat × Nat) : List UInt8 := (s.data.toList.drop x.1).take (x.2 - x.1)

def cur9 (s : ByteArray) (pos : Nat) : Option Nat → List UInt8
  | some a => (s.data.toList.drop a).take (pos - a)
  | none => []

theorem cur_more (s : ByteArray) (a pos n : Nat) (ha : a ≤ pos) : (s.data.toList.drop a).take (pos + n - a) = (s.data.toList.drop a).take (pos - a) ++ (s.data.toList.drop pos).take n := by
  rw [show pos + n - a = (pos - a) + n by omega, List.take_add, List.drop_drop, show a + (pos - a) = pos by omega]

theorem spans_end (s : ByteArray) (pos : Nat) (st : Option Nat) (acc : List (Nat × Nat)) (hp : s.size ≤ pos) (hpos : pos ≤ s.size) (hst : ∀ a, st = some a → a < pos) :
    (Lib.closeSpans s (acc, st)).map (ext9 s) = acc.map (ext9 s) ++ wdsF (s.data.toList.drop pos) (cur9 s pos st) := by
  have hsz : s.data.toList.length = s.size := (Lib.size_eq s).symm
  rw [List.drop_eq_nil_of_le (by omega)]
  obtain rfl : pos = s.size := by omega
  cases st with
  | none => simp [Lib.closeSpans, wdsF, cur9]
  | some a =>
    have ha := hst a rfl
    have hne : (s.data.toList.drop a).take (s.size - a) ≠ [] := by
      intro h
      have := congrArg List.length h
      rw [List.length_take, List.length_drop, hsz] at this
      simp at this
      omega
    simp only [Lib.closeSpans, List.map_append, List.map_cons, List.map_nil]
    unfold wdsF cur9
    rw [if_neg hne]
    rfl

theorem spans_words (s : ByteArray) : ∀ (f pos : Nat) (st : Option Nat) (acc : List (Nat × Nat)), s.size - pos ≤ f → pos ≤ s.size → (∀ a, st = some a → a < pos) →
    (Lib.closeSpans s (Lib.spansFromP p9 s f pos st acc)).map (ext9 s) = acc.map (ext9 s) ++ wdsF (s.data.toList.drop pos) (cur9 s pos st)
  | 0, pos, st, acc, hf, hpos, hst => spans_end s pos st acc (by omega) hpos hst
  | f + 1, pos, st, acc, hf, hpos, hst => by
    by_cases hlt : pos < s.size
    · have hsz : s.data.toList.length = s.size := (Lib.size_eq s).symm
      have hd : s.data.toList.drop pos = s[pos] :: s.data.toList.drop (pos + 1) := by
        rw [List.drop_eq_getElem_cons (by omega)]
        rfl
      unfold Lib.spansFromP
      rw [if_pos hlt]
      by_cases hb : s[pos].toNat < 128
      · have hdec : Utf8.decode s pos = (s[pos].toNat, 1) := by
          rw [Lib.decode_at, o9get_bang s pos hlt]
          simp [Lib.decodeN, hb]
        rw [hdec]
        dsimp only
        by_cases hbl : p9 s[pos].toNat = true
        · rw [if_pos hbl]
          cases st with
          | none =>
            dsimp only
            rw [spans_words s f (pos + 1) none acc (by omega) (by omega) (fun a h => by cases h), hd, wdsF, if_pos (show bl9 s[pos] = true from hbl)]
            simp [cur9]
          | some a =>
            dsimp only
            have ha := hst a rfl
            have hne : (s.data.toList.drop a).take (pos - a) ≠ [] := by
              intro h
              have := congrArg List.length h
              rw [List.length_take, List.length_drop, hsz] at this
              simp at this
              omega
            rw [spans_words s f (pos + 1) none (acc ++ [(a, pos)]) (by omega) (by omega) (fun a h => by cases h), hd, wdsF, if_pos (show bl9 s[pos] = true from hbl)]
            unfold cur9
            rw [if_neg hne, List.map_append, List.append_assoc]
            rfl
        · rw [if_neg hbl]
          have hbf : bl9 s[pos] = false := by simpa [bl9] using hbl
          have hstep : ∀ a, a ≤ pos → wdsF (s.data.toList.drop pos) ((s.data.toList.drop a).take (pos - a)) = wdsF (s.data.toList.drop (pos + 1)) ((s.data.toList.drop a).take (pos + 1 - a)) := fun a ha => by
            rw [cur_more s a pos 1 ha, hd, wdsF, if_neg (by rw [hbf]; decide)]
            rfl
          cases st with
          | none =>
            dsimp only
            rw [spans_words s f (pos + 1) (some pos) acc (by omega) (by omega) (fun a h => by cases h; omega)]
            have := hstep pos (Nat.le_refl _)
            rw [Nat.sub_self, List.take_zero] at this
            unfold cur9
            rw [this]
          | some a =>
            dsimp only
            have ha := hst a rfl
            rw [spans_words s f (pos + 1) (some a) acc (by omega) (by omega) (fun b h => by cases h; omega)]
            unfold cur9
            rw [hstep a (by omega)]
      · obtain ⟨r, n, hdec, hr, _, hn1, hn2, hj⟩ := o9decode_skip s pos hlt (by omega)
        rw [hdec]
        dsimp only
        rw [if_neg (by rw [p9_high r hr]; decide)]
        have hx : ∀ c ∈ (s.data.toList.drop pos).take n, bl9 c = false := by
          intro c hc
          obtain ⟨k, hk, rfl⟩ := List.getElem_of_mem hc
          rw [List.length_take, List.length_drop, hsz] at hk
          have h1 := hj (pos + k) (by omega) (by omega)
          rw [o9get_bang s (pos + k) (by omega)] at h1
          unfold bl9
          rw [List.getElem_take, List.getElem_drop]
          exact p9_high _ h1
        have hstep : ∀ a, a ≤ pos → wdsF (s.data.toList.drop pos) ((s.data.toList.drop a).take (pos - a)) = wdsF (s.data.toList.drop (pos + n)) ((s.data.toList.drop a).take (pos + n - a)) := fun a ha => by
          rw [cur_more s a pos n ha, ← wds_skip _ _ _ hx, ← List.drop_drop, List.take_append_drop]
        cases st with
        | none =>
          dsimp only
          rw [spans_words s f (pos + n) (some pos) acc (by omega) (by omega) (fun a h => by cases h; omega)]
          have := hstep pos (Nat.le_refl _)
          rw [Nat.sub_self, List.take_zero] at this
          unfold cur9
          rw [this]
        | some a =>
          dsimp only
          have ha := hst a rfl
          rw [spans_words s f (pos + n) (some a) acc (by omega) (by omega) (fun b h => by cases h; omega)]
          unfold cur9
          rw [hstep a (by omega)]
    · rw [Lib.spansFromP_end p9 s (f + 1) pos st acc hlt]
      exact spans_end s pos st acc (by omega) hpos hst

theorem fields_words (s : ByteArray) : Lib.goFieldsP p9 s = (words9 s.data.toList).map fun x => ⟨x.toArray⟩ := by
  have h := spans_words s s.size 0 none [] (by omega) (by omega) (fun a h => by cases h)
  rw [List.drop_zero] at h
  have h2 : words9 s.data.toList = (Lib.spansOfP p9 s).map (ext9 s) := by
    rw [Lib.spansOfP, h]; rfl
  rw [h2, List.map_map]
  unfold Lib.goFieldsP
  apply List.map_congr_left
  intro x _
  show s.extract x.1 x.2 = ⟨(ext9 s x).toArray⟩
  rw [← Lib.mk_data (s.extract x.1 x.2)]
  congr 2
  rw [← ByteArray.toList_eq, Lib.extract_toList]
  rfl

theorem wds_len : ∀ (l cur : List UInt8), (wdsF l cur).length ≤ l.length + 1 ∧ ∀ x ∈ wdsF l cur, x.length ≤ cur.length + l.length
  | [], cur => by
    unfold wdsF
    split
    · simp
    · simp
  | c :: r, cur => by
    unfold wdsF
    split
    · split
      · have := wds_len r []
        refine ⟨by have := this.1; simp only [List.length_cons]; omega, fun x hx => ?_⟩
        have := this.2 x hx
        simp only [List.length_cons, List.length_nil] at this ⊢
        omega
      · have := wds_len r []
        refine ⟨by have := this.1; simp only [List.length_cons]; omega, fun x hx => ?_⟩
        rcases List.mem_cons.1 hx with rfl | hx
        · simp only [List.length_cons]; omega
        · have := this.2 x hx
          simp only [List.length_cons, List.length_nil] at this ⊢
          omega
    · have := wds_len r (cur ++ [c])
      refine ⟨by have := this.1; simp only [List.length_cons]; omega, fun x hx => ?_⟩
      have := this.2 x hx
      simp only [List.length_append, List.length_cons, List.length_nil] at this ⊢
      omega

structure It where
  bits : Int
  want : List UInt8
  opt : List UInt8

def sha2 : List UInt8 := [115, 104, 97, 50, 53, 54]

def sha3 : List UInt8 := [115, 104, 97, 51, 56, 52]

def sha5 : List UInt8 := [115, 104, 97, 53, 49, 50]

/-- Of a name; 0: none. -/
def bitsV (n : List UInt8) : Int := if low n = sha2 then 256 else if low n = sha3 then 384 else if low n = sha5 then 512 else 0

def nameV9 (x : List UInt8) : List UInt8 := (part9 45 (part9 63 x).1).1

def wantV9 (x : List UInt8) : List UInt8 := (part9 45 (part9 63 x).1).2.1

def optV9 (x : List UInt8) : List UInt8 := (part9 63 x).2.1

def okV9 (x : List UInt8) : Bool := (part9 45 (part9 63 x).1).2.2 && bitsV (nameV9 x) != 0

def itemV (x : List UInt8) : Option It := if okV9 x then some ⟨bitsV (nameV9 x), wantV9 x, optV9 x⟩ else none

def parse9 (l : List UInt8) : List It := (words9 l).filterMap itemV

theorem bits_cases (n : List UInt8) : bitsV n = 256 ∨ bitsV n = 384 ∨ bitsV n = 512 ∨ bitsV n = 0 := by
  unfold bitsV
  split
  · exact .inl rfl
  · split
    · exact .inr (.inl rfl)
    · split
      · exact .inr (.inr (.inl rfl))
      · exact .inr (.inr (.inr rfl))

theorem parse_bits (l : List UInt8) : ∀ x ∈ parse9 l, x.bits = 256 ∨ x.bits = 384 ∨ x.bits = 512 := by
  intro x hx
  obtain ⟨y, _, hy⟩ := List.mem_filterMap.1 hx
  unfold itemV at hy
  split at hy
  · rename_i h
    obtain rfl := Option.some.inj hy
    dsimp only
    unfold okV9 at h
    rw [Bool.and_eq_true, bne_iff_ne] at h
    rcases bits_cases (nameV9 y) with h' | h' | h' | h'
    · exact .inl h'
    · exact .inr (.inl h')
    · exact .inr (.inr h')
    · exact absurd h' h.2
  · cases hy

end Go.Proofs.YtkhpemjjholneaaGreatDoor

namespace Go.Proofs.YtkhpemjjholneaaGreatDoor
open Go.RowKit

theorem kept_cell {w w' : World} {a : Addr} {v : Value} (h : w.cell? a = some v) (hb : Below w.heap.size w w') : w'.cell? a = some v := (hb.cell (World.block_lt_of_cell? w _ h)).trans h

end Go.Proofs.YtkhpemjjholneaaGreatDoor
