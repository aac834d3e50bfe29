/-
  Walks and plain facts that this claim leans on, put together out of 3 texts: Yw, Yx, Yk.
-/
import Derived.Test.YtkhpemjjholneaaGreatDoorProg
import Derived.Test.YtkhpemjjholneaaGreatDoorQa1
import Derived.Test.YtkhpemjjholneaaGreatDoorQa2
import Derived.Test.YtkhpemjjholneaaGreatDoorQa3
import Derived.Test.YtkhpemjjholneaaGreatDoorQa4
import Derived.Test.YtkhpemjjholneaaGreatDoorQa5
import Derived.Test.YtkhpemjjholneaaGreatDoorQa6
import Derived.Test.YtkhpemjjholneaaGreatDoorQa7
import Derived.Test.YtkhpemjjholneaaGreatDoorQa8
import Derived.Test.YtkhpemjjholneaaGreatDoorQa9
import Derived.Test.YtkhpemjjholneaaGreatDoorQa10
import Derived.Test.YtkhpemjjholneaaGreatDoorQa11
import Derived.Test.YtkhpemjjholneaaGreatDoorQa12
import Derived.Test.YtkhpemjjholneaaGreatDoorQa13
import Derived.Test.YtkhpemjjholneaaGreatDoorQa14
import Derived.Test.YtkhpemjjholneaaGreatDoorQa15
import Derived.Test.YtkhpemjjholneaaGreatDoorQa16
import Derived.Test.YtkhpemjjholneaaGreatDoorQa17
import Derived.Test.YtkhpemjjholneaaGreatDoorQa18
import Derived.Test.YtkhpemjjholneaaGreatDoorQa19
import Derived.Test.YtkhpemjjholneaaGreatDoorQa20
import Derived.Test.YtkhpemjjholneaaGreatDoorQa21
import Derived.Test.YtkhpemjjholneaaGreatDoorQa22
import Derived.Test.YtkhpemjjholneaaGreatDoorQa23
import Derived.Test.YtkhpemjjholneaaGreatDoorQa24
import Derived.Test.YtkhpemjjholneaaGreatDoorQa25
import Derived.Test.YtkhpemjjholneaaGreatDoorQa26
import Derived.Test.YtkhpemjjholneaaGreatDoorQa27
import Derived.Test.YtkhpemjjholneaaGreatDoorQa28
import Derived.Test.YtkhpemjjholneaaGreatDoorQa29
import Derived.Test.YtkhpemjjholneaaGreatDoorQa30
import Derived.Test.YtkhpemjjholneaaGreatDoorQa31
import Derived.Laws.RangeAny
import Derived.Lib.DecodeN
import Derived.Lib.OthersKept
import Derived.Deep.LoopGhost
import Derived.RegionTactic
import Derived.Deep.RegionWith
import Derived.Deep.QuietTactic
import Derived.BigQuiet
import Derived.OwnWalk
import Derived.Laws.IdiomStrings
import Derived.Laws.BytesString
import Derived.Lib.IndexAny
import Derived.Lib.TrimByte
import Derived.Deep.RegionHeld
import Derived.Laws.CopyOwn
import Derived.Laws.ResultCell
import Derived.Deep.MidRow
import Derived.WalkKit
import Derived.Lib.UnsafeStr
import Derived.Lib.Strings
import Derived.Laws.AppendOwn
import Derived.WalkSpells
import Derived.WalkLawsBesides
import Derived.Laws.Runes
import Derived.Lib.AppendStr
import Derived.Lib.Replace
import Derived.Lib.BufferRead
import Derived.Lib.RuneBytes
import Derived.Lib.SlTrimSet
import Derived.Lib.Join
import Derived.Lib.IndexMore
import Derived.Scope
import Derived.ScopeJumps
import Derived.WalkMore
import Derived.BigRegion
import Derived.Laws.OwnMore
import Derived.Below
import Derived.WalkSmall
import Derived.Lib.SmallJoins
import Derived.Lib.LastIndexByte
import Derived.Deep.RegionLaw
import Derived.Deep.RegionHeldLaw
import Derived.Lib.BufferMore
import Derived.Laws.BitsAllLaws
import Derived.LoopN
import Derived.Lib.AppendIntMem
import Derived.Shelf.Strings.SlTrimAscii
import Derived.Shelf.Strings.Builder1
import Derived.Shelf.Strings.Builder2
import Derived.Shelf.Strings.OnBuilder
import Derived.Shelf.Strings.Trim
import Derived.Shelf.Small.Utf8
import Derived.Shelf.Small.Bits
import Derived.Shelf.Small.Strs
import Derived.Shelf.Small.Wraps
import Derived.Shelf.Strings.BuilderF
import Derived.Shelf.Strings.BuilderK
import Derived.Shelf.Strings.BuilderRune
import Derived.Shelf.Utf8.AppendRune
import Derived.Shelf.Utf8.AppendRunePlain
import Derived.Shelf.Strings.Builder2Cap
import Derived.Shelf.Strconv.Itoa0
import Derived.Shelf.Strconv.Itoa1
import Derived.Shelf.LaysM
import Derived.Shelf.Strconv.Itoa2
import Derived.Shelf.Strconv.Itoa3
import Derived.Shelf.Strings.Search1
import Derived.Shelf.Strings.Search2
import Derived.Shelf.Strings.Search3
import Derived.Shelf.Strings.Cut
import Derived.Shelf.Strings.Count
import Derived.Shelf.Strings.Shaped
import Derived.Shelf.Sort.Plain
import Derived.Shelf.Strings.LastIndex
import Derived.Shelf.Strings.Prefix
import Derived.Shelf.Strings.Split
import Derived.Shelf.Strings.Replace
import Derived.Shelf.Strings.Runes
import Derived.Shelf.Strings.IndexAny
import Derived.Shelf.Strings.AsciiSet
import Derived.Shelf.Strings.IndexAnyAll
import Derived.Shelf.Unicode.DecodeSlow
import Derived.Shelf.Unicode.DecodeAny
import Derived.Shelf.Unicode.DecodeLast
import Derived.Shelf.Strings.FieldsFuncAny
import Derived.Shelf.Strings.FieldsFuncGrows
import Derived.Shelf.Slices.Equal
import Derived.Ground.Names2Prog
import Derived.Shelf.Slices.Clone
import Derived.Ground.SlgnProg
import Derived.Shelf.SlicesE.Equal
import Derived.Shelf.SlicesE.Clone
import Derived.Lib.FrozenHead2
import Derived.Lib.Builder
import Derived.Lib.Bytealg
import Derived.Deep.WholeRow
import Derived.Maps.OwnSet
import Derived.Maps.OwnOps
import Derived.Maps.AppendAt
import Derived.StringKeys
import Derived.Laws.AppendOwnNone
import Derived.Lib.ItoaNum
import Derived.Deep.Cut
set_option linter.unusedSimpArgs false
set_option linter.unusedVariables false

namespace Go.Proofs.YtkhpemjjholneaaGreatDoor
open Go.RowKit

theorem enters_path : ∀ args w, (callFunc 137 args).run Tryz.prog w = .ok (.enter 137 args) w := enters_of Tryz.func137 (by kernel_rfl) rfl

/-- Sizes that an address keeps to. -/
def Sized11 (u : Adr) : Prop := u.host.length ≤ 4000000000 ∧ ∀ x ∈ u.path, x.length ≤ 140737488351232

set_option maxHeartbeats 2000000 in
set_option maxRecDepth 100000 in
theorem readPath11_any (u : Adr) (uv : Value) (hops : Int) (w : World) (hg : Gd w) (hu : UrlAt w u uv) (hz : Sized11 u) :
    Calls Tryz.prog 88 #[adrVal u uv, .int .i64 hops] w (MkPost11 (pathM hops u) w) := by
  have hmf : ∀ (fn : Fn) (first cap : Array Value) (w : World), (Instr.makeFunc fn first cap).run Tryz.prog w = .ok (.func fn first cap) w := fun _ _ _ _ => rfl
  obtain ⟨ua, un, uc, rfl⟩ := hu.sl
  obtain ⟨u0, u1, u2, u3, u4, u5, u6, u8, u9, u10, u11, hx, -, -, -, -⟩ := adr_named u ua un uc
  have hva : adrVal u (.slice ua un uc) = .agg #[.string u0, .string u1, .string u2, .string u3, .bool u4, .int .i64 u5, .bool u6, .slice ua un uc, .string u8, .string u9, .bool u10, .bool u11] := by unfold adrVal; rw [hx]
  rw [hva]
  obtain ⟨W1, hW1⟩ : ∃ W1, (w.alloc (.cells #[.string u0, .string u1, .string u2, .string u3, .bool u4, .int .i64 u5, .bool u6, .slice ua un uc, .string u8, .string u9, .bool u10, .bool u11] 45)) = W1 := ⟨_, rfl⟩
  have hb1 : Below w.heap.size w W1 := by rw [← hW1]; exact (Below.refl _ w).alloc (Nat.le_refl _) _
  have hs1 : W1.heap.size = w.heap.size + 1 := by rw [← hW1]; simp
  have hA1 : AdrIn W1 w.heap.size u (.slice ua un uc) := by
    unfold AdrIn
    rw [hx, ← hW1]
    exact heap_alloc_new w _
  obtain ⟨W2, hW2⟩ : ∃ W2, (W1.alloc (.cells #[.int .i64 hops] 3)) = W2 := ⟨_, rfl⟩
  have hb2 : Below W1.heap.size W1 W2 := by rw [← hW2]; exact (Below.refl _ W1).alloc (Nat.le_refl _) _
  have hA2 := hA1.kept hb2
  have hI2 : W2.cell? ⟨w.heap.size + 1, 0, none⟩ = some (.int .i64 hops) := by
    have := heap_alloc_new W1 (.cells #[.int .i64 hops] 3)
    rw [hW2, hs1] at this
    rw [Lib.cell_of_heap this]; rfl
  have hB2 := below2 hb1 hb2
  have hfl : ∀ j v, (adrCells u (.slice ua un uc))[j]? = some v → W2.cell? ⟨w.heap.size, j, none⟩ = some v := fun j v h => hA2.cell j v h
  rw [hx] at hfl
  have y7 := hfl 7 _ rfl
  have HG2 := hid (hg.kept hB2)
  have HU2 := hid (hu.kept hB2)
  have HA2 := hid hA2
  have HI2 := hid hI2
  have HB2 := hid hB2
  have HUn := hid (fun (w : World) (h : PathAt w (.slice ua un uc) u.path) => unpercented_any (.slice ua un uc) u.path w h (by have := hu.2.1; omega) hz.2)
  have HL := hid (show u.path.length ≤ 5000000000 by have := hu.2.1; omega)
  unfold TxPost at HUn
  obtain ⟨n, hn⟩ : ∃ n, n = (u.path.map unpct).length := ⟨_, rfl⟩
  have HNN := hid hn
  rw [← hn] at HUn
  clear hb1 hA1 hb2 hA2 hI2 hB2 hfl hg hu hz hx hva hn
  go_enter Tryz.func88, Tryz.ntmps88
  go_wp2_with fail
  refine (HUn.out _ HU2.out.1).mono ?_
  rintro e w3 ⟨g, cap, rfl, hown, hb3⟩
  have HB3 := hid (below2 HB2.out hb3)
  have HB23 := hid hb3
  have HO := hid hown
  clear hb3 hown
  go_wp2_with fail
  go_ret
  obtain ⟨W4, hW4⟩ : ∃ W4, W4 = w3.alloc (.cells #[.slice (some ⟨g, 0, none⟩) n cap] 43) := ⟨_, rfl⟩
  rw [← hW4]
  have hb4 : Below w3.heap.size w3 W4 := by rw [hW4]; exact (Below.refl _ w3).alloc (Nat.le_refl _) _
  have hcell : W4.cell? ⟨w3.heap.size, 0, none⟩ = some (.slice (some ⟨g, 0, none⟩) n cap) := by
    have := heap_alloc_new w3 (.cells #[.slice (some ⟨g, 0, none⟩) n cap] 43)
    rw [← hW4] at this
    rw [Lib.cell_of_heap this]; rfl
  have h24 := below2 HB23.out hb4
  have hO := HO.out
  have hnn := HNN.out
  rw [hnn] at hO hcell
  obtain ⟨t1, t2, t3⟩ := own_txS hO
  refine ⟨_, rfl, ⟨_, _, rfl, enters_path, fun X s hX hs => ?_⟩, below2 HB3.out hb4⟩
  exact pathC_any u (.slice ua un uc) hops (w.heap.size + 1) w.heap.size w3.heap.size g cap s X ((HG2.out.kept h24).kept hX) ((HA2.out.kept h24).kept hX) (keptC (keptC HI2.out h24) hX) (keptC hcell hX) ((t1.kept hb4).kept hX) t2 HL.out hs

set_option maxHeartbeats 4000000 in
set_option maxRecDepth 100000 in
theorem meaning_any (u p : Adr) (uv pv : Value) (hops : Int) (w : World) (hg : Gd w) (hu : UrlAt w u uv) (hp : UrlAt w p pv) (hz : Sized11 u) :
    Calls Tryz.prog 58 #[adrVal u uv, adrVal p pv, .int .i64 hops] w (MkPost11 (oneV u p hops) w) := by
  obtain ⟨ua, un, uc, rfl⟩ := hu.sl
  obtain ⟨pa, pn, pc, rfl⟩ := hp.sl
  have H1 := hid (fun (w : World) (hg : Gd w) (hu : UrlAt w u (.slice ua un uc)) => readPath11_any u (.slice ua un uc) hops w hg hu hz)
  have H2 := hid (fun (nv : Value) (q : List UInt8 → Bool) (w : World) (hr : Rdr11 w nv q) => readPort11_any u (.slice ua un uc) ⟨_, _, _, rfl⟩ nv q w hr)
  have H3 := hid (fun (nv : Value) (q : List UInt8 → Bool) (w : World) (hr : Rdr11 w nv q) => readHost_any u (.slice ua un uc) ⟨_, _, _, rfl⟩ hz.1 nv q w hr)
  have H4 := hid (fun (nv : Value) (q : List UInt8 → Bool) (w : World) (hg : Gd w) (hr : Rdr11 w nv q) => readScheme_any u p (.slice ua un uc) (.slice pa pn pc) ⟨_, _, _, rfl⟩ ⟨_, _, _, rfl⟩ nv q w hg hr)
  have H5 := hid (fun (nv : Value) (q : List UInt8 → Bool) (w : World) (hg : Gd w) (hu : UrlAt w u (.slice ua un uc)) (hp : UrlAt w p (.slice pa pn pc)) (hr : Rdr11 w nv q) => readWord_any u p (.slice ua un uc) (.slice pa pn pc) nv q w hg hu hp hr)
  obtain ⟨u0, u1, u2, u3, u4, u5, u6, u8, u9, u10, u11, hx, -, -, -, -⟩ := adr_named u ua un uc
  obtain ⟨p0, p1, p2, p3, p4, p5, p6, p8, p9, p10, p11, hy, -, -, -, -⟩ := adr_named p pa pn pc
  have hva : adrVal u (.slice ua un uc) = .agg #[.string u0, .string u1, .string u2, .string u3, .bool u4, .int .i64 u5, .bool u6, .slice ua un uc, .string u8, .string u9, .bool u10, .bool u11] := by unfold adrVal; rw [hx]
  have hvb : adrVal p (.slice pa pn pc) = .agg #[.string p0, .string p1, .string p2, .string p3, .bool p4, .int .i64 p5, .bool p6, .slice pa pn pc, .string p8, .string p9, .bool p10, .bool p11] := by unfold adrVal; rw [hy]
  rw [hva] at H1 H2 H3 ⊢
  rw [hva, hvb] at H4 H5
  rw [hvb]
  obtain ⟨W1, hW1⟩ : ∃ W1, (w.alloc (.cells #[.string u0, .string u1, .string u2, .string u3, .bool u4, .int .i64 u5, .bool u6, .slice ua un uc, .string u8, .string u9, .bool u10, .bool u11] 45)) = W1 := ⟨_, rfl⟩
  have hb1 : Below w.heap.size w W1 := by rw [← hW1]; exact (Below.refl _ w).alloc (Nat.le_refl _) _
  have hs1 : W1.heap.size = w.heap.size + 1 := by rw [← hW1]; simp
  have hA1 : AdrIn W1 w.heap.size u (.slice ua un uc) := by
    unfold AdrIn
    rw [hx, ← hW1]
    exact heap_alloc_new w _
  obtain ⟨W2, hW2⟩ : ∃ W2, (W1.alloc (.cells #[.string p0, .string p1, .string p2, .string p3, .bool p4, .int .i64 p5, .bool p6, .slice pa pn pc, .string p8, .string p9, .bool p10, .bool p11] 45)) = W2 := ⟨_, rfl⟩
  have hb2 : Below W1.heap.size W1 W2 := by rw [← hW2]; exact (Below.refl _ W1).alloc (Nat.le_refl _) _
  have hA2 := hA1.kept hb2
  have hP2 : AdrIn W2 (w.heap.size + 1) p (.slice pa pn pc) := by
    unfold AdrIn
    rw [hy, ← hW2, ← hs1]
    exact heap_alloc_new W1 _
  have hB2 := below2 hb1 hb2
  have HG2 := hid (hg.kept hB2)
  have HU2 := hid (hu.kept hB2)
  have HP2 := hid (hp.kept hB2)
  have HB2 := hid hB2
  have HRu := hid (show ∀ Z, Below W2.heap.size W2 Z → Z.rangeAt w.heap.size 0 [.string u0, .string u1, .string u2, .string u3, .bool u4, .int .i64 u5, .bool u6, .slice ua un uc, .string u8, .string u9, .bool u10, .bool u11] from fun Z hZ => by
    have := range_row (show Z.heap[w.heap.size]? = some (.cells (adrCells u (.slice ua un uc)).toArray 45 (0, 0)) from hA2.kept hZ)
    rw [hx] at this
    exact this)
  have HRp := hid (show ∀ Z, Below W2.heap.size W2 Z → Z.rangeAt (w.heap.size + 1) 0 [.string p0, .string p1, .string p2, .string p3, .bool p4, .int .i64 p5, .bool p6, .slice pa pn pc, .string p8, .string p9, .bool p10, .bool p11] from fun Z hZ => by
    have := range_row (show Z.heap[w.heap.size + 1]? = some (.cells (adrCells p (.slice pa pn pc)).toArray 45 (0, 0)) from hP2.kept hZ)
    rw [hy] at this
    exact this)
  clear hb1 hb2 hA1 hA2 hP2 hB2 hg hu hp hx hy hz hva hvb
  go_enter Tryz.func58, Tryz.ntmps58
  go_wp2_with fail
  have HQ0 := hid ((Below.refl W2.heap.size W2).drew)
  refine wp_region_held_drew (S := (fun wx => Below W2.heap.size W2 wx)) (by kernel_rfl) HQ0.out (fun hHeld => ?_)
  refine wpAnyH_take (i := 0) rfl (by kernel_rfl) (by kernel_rfl) (by kernel_rfl) (fun _ _ _ h => h) (yieldsIf_load_mid (by kernel_rfl) 45 (.tmp 3) rfl w.heap.size 0 rfl [.string u0, .string u1, .string u2, .string u3, .bool u4, .int .i64 u5, .bool u6, .slice ua un uc, .string u8, .string u9, .bool u10, .bool u11] _ HRu.out Tryz.underlying45 rfl sizeU) (by assumption) ?_
  (try simp only [Act.put, List.setIfInBounds_toArray, List.set_cons_zero, List.set_cons_succ])
  refine wpAnyH_take (i := 1) rfl (by kernel_rfl) (by kernel_rfl) (by kernel_rfl) (fun _ _ _ h => h) (yieldsIf_load_mid (by kernel_rfl) 45 (.tmp 4) rfl (w.heap.size + 1) 0 rfl [.string p0, .string p1, .string p2, .string p3, .bool p4, .int .i64 p5, .bool p6, .slice pa pn pc, .string p8, .string p9, .bool p10, .bool p11] _ HRp.out Tryz.underlying45 rfl sizeU) (by assumption) ?_
  (try simp only [Act.put, List.setIfInBounds_toArray, List.set_cons_zero, List.set_cons_succ])
  refine wpAnyH_take (i := 2) rfl (by kernel_rfl) (by kernel_rfl) (by kernel_rfl) (fun _ _ _ h => h) (yieldsIf_load_mid (by kernel_rfl) 45 (.tmp 3) rfl w.heap.size 0 rfl [.string u0, .string u1, .string u2, .string u3, .bool u4, .int .i64 u5, .bool u6, .slice ua un uc, .string u8, .string u9, .bool u10, .bool u11] _ HRu.out Tryz.underlying45 rfl sizeU) (by assumption) ?_
  (try simp only [Act.put, List.setIfInBounds_toArray, List.set_cons_zero, List.set_cons_succ])
  refine wpAnyH_take (i := 3) rfl (by kernel_rfl) (by kernel_rfl) (by kernel_rfl) (fun _ _ _ h => h) (yieldsIf_load_mid (by kernel_rfl) 45 (.tmp 4) rfl (w.heap.size + 1) 0 rfl [.string p0, .string p1, .string p2, .string p3, .bool p4, .int .i64 p5, .bool p6, .slice pa pn pc, .string p8, .string p9, .bool p10, .bool p11] _ HRp.out Tryz.underlying45 rfl sizeU) (by assumption) ?_
  (try simp only [Act.put, List.setIfInBounds_toArray, List.set_cons_zero, List.set_cons_succ])
  refine wpAnyH_take (i := 4) rfl (by kernel_rfl) (by kernel_rfl) (by kernel_rfl) (fun _ _ _ h => h) (yieldsIf_load_mid (by kernel_rfl) 45 (.tmp 3) rfl w.heap.size 0 rfl [.string u0, .string u1, .string u2, .string u3, .bool u4, .int .i64 u5, .bool u6, .slice ua un uc, .string u8, .string u9, .bool u10, .bool u11] _ HRu.out Tryz.underlying45 rfl sizeU) (by assumption) ?_
  (try simp only [Act.put, List.setIfInBounds_toArray, List.set_cons_zero, List.set_cons_succ])
  refine wpAnyH_take (i := 5) rfl (by kernel_rfl) (by kernel_rfl) (by kernel_rfl) (fun _ _ _ h => h) (yieldsIf_load_mid (by kernel_rfl) 45 (.tmp 3) rfl w.heap.size 0 rfl [.string u0, .string u1, .string u2, .string u3, .bool u4, .int .i64 u5, .bool u6, .slice ua un uc, .string u8, .string u9, .bool u10, .bool u11] _ HRu.out Tryz.underlying45 rfl sizeU) (by assumption) ?_
  (try simp only [Act.put, List.setIfInBounds_toArray, List.set_cons_zero, List.set_cons_succ])
  refine wpAnyH_take (i := 6) rfl (by kernel_rfl) (by kernel_rfl) (by kernel_rfl) (fun _ _ _ h => h) (yieldsIf_load_mid (by kernel_rfl) 45 (.tmp 3) rfl w.heap.size 0 rfl [.string u0, .string u1, .string u2, .string u3, .bool u4, .int .i64 u5, .bool u6, .slice ua un uc, .string u8, .string u9, .bool u10, .bool u11] _ HRu.out Tryz.underlying45 rfl sizeU) (by assumption) ?_
  (try simp only [Act.put, List.setIfInBounds_toArray, List.set_cons_zero, List.set_cons_succ])
  refine' wpAnyH_take (i := 7) (oi := ⟨some 14, _, _, _, _, _⟩) (v := _) rfl (by kernel_rfl) (by kernel_rfl) (by kernel_rfl) (fun _ _ _ h => h) (Or.inl ⟨by kernel_rfl, ?hy7⟩) (by assumption) ?rest7
  case hy7 => (intro w hSw; (try dsimp only at hSw); go_simp; first | done | with_reducible rfl)
  (try simp only [Act.put, List.setIfInBounds_toArray, List.set_cons_zero, List.set_cons_succ])
  refine wpAnyH_ready (rs := [8]) (by kernel_rfl) (by simp) ?_
  refine AllReadyH.cons rfl (fun K hK => ?_) AllReadyH.nil
  rw [if_pos (by kernel_rfl)]
  go_simp
  go_wp2_with (go_at_call 88; refine (H1.out _ (HG2.out.kept HQ0.out) (HU2.out.kept HQ0.out)).mono ?_; rintro e x1 ⟨v1, rfl, hr1, hbx1⟩)
  have HR1 := hid hr1
  have HQ1 := hid (below2 HQ0.out hbx1)
  clear hr1 hbx1
  refine hK.out _ _ HQ1.out (fun hHeld2 => ?_)
  clear hK K hHeld
  rename _ => hHeld
  refine wpAnyH_ready (rs := [9]) (by kernel_rfl) (by simp) ?_
  refine AllReadyH.cons rfl (fun K hK => ?_) AllReadyH.nil
  rw [if_pos (by kernel_rfl)]
  go_simp
  go_wp2_with (go_at_call 87; refine (H2.out _ _ _ HR1.out).mono ?_; rintro e x2 ⟨v2, rfl, hr2, hbx2⟩)
  have HR2 := hid hr2
  have HQ2 := hid (below2 HQ1.out hbx2)
  clear hr2 hbx2
  refine hK.out _ _ HQ2.out (fun hHeld2 => ?_)
  clear hK K hHeld
  rename _ => hHeld
  refine wpAnyH_ready (rs := [10]) (by kernel_rfl) (by simp) ?_
  refine AllReadyH.cons rfl (fun K hK => ?_) AllReadyH.nil
  rw [if_pos (by kernel_rfl)]
  go_simp
  go_wp2_with (go_at_call 86; refine (H3.out _ _ _ HR2.out).mono ?_; rintro e x3 ⟨v3, rfl, hr3, hbx3⟩)
  have HR3 := hid hr3
  have HQ3 := hid (below2 HQ2.out hbx3)
  clear hr3 hbx3
  refine hK.out _ _ HQ3.out (fun hHeld2 => ?_)
  clear hK K hHeld
  rename _ => hHeld
  refine wpAnyH_ready (rs := [11]) (by kernel_rfl) (by simp) ?_
  refine AllReadyH.cons rfl (fun K hK => ?_) AllReadyH.nil
  rw [if_pos (by kernel_rfl)]
  go_simp
  go_wp2_with (go_at_call 85; refine (H4.out _ _ _ (HG2.out.kept HQ3.out) HR3.out).mono ?_; rintro e x4 ⟨v4, rfl, hr4, hbx4⟩)
  have HR4 := hid hr4
  have HQ4 := hid (below2 HQ3.out hbx4)
  clear hr4 hbx4
  refine hK.out _ _ HQ4.out (fun hHeld2 => ?_)
  clear hK K hHeld
  rename _ => hHeld
  refine wpAnyH_ready (rs := [12]) (by kernel_rfl) (by simp) ?_
  refine AllReadyH.cons rfl (fun K hK => ?_) AllReadyH.nil
  rw [if_pos (by kernel_rfl)]
  go_simp
  go_wp2_with (go_at_call 84; refine (H5.out _ _ _ (HG2.out.kept HQ4.out) (HU2.out.kept HQ4.out) (HP2.out.kept HQ4.out) HR4.out).mono ?_; rintro e x5 ⟨v5, rfl, hr5, hbx5⟩)
  have HR5 := hid hr5
  have HQ5 := hid (below2 HQ4.out hbx5)
  clear hr5 hbx5
  refine hK.out _ _ HQ5.out (fun hHeld2 => ?_)
  clear hK K hHeld
  rename _ => hHeld
  refine' wpAnyH_take (i := 13) (oi := ⟨some 6, _, _, _, _, _⟩) (v := _) rfl (by kernel_rfl) (by kernel_rfl) (by kernel_rfl) (fun _ _ _ h => h) (Or.inl ⟨by kernel_rfl, ?hy13⟩) (by assumption) ?rest13
  case hy13 => (intro w hSw; (try dsimp only at hSw); go_simp; first | done | with_reducible rfl)
  (try simp only [Act.put, List.setIfInBounds_toArray, List.set_cons_zero, List.set_cons_succ])
  refine wpAnyH_done (by kernel_rfl) ?_ _
  have HB5 := hid (below2 HB2.out HQ5.out)
  clear HQ0 HQ1 HQ2 HQ3 HQ4 HQ5 hHeld HRu HRp
  go_wp2
  go_ret
  exact ⟨v5, by first | rfl | simp, HR5.out, HB5.out⟩

end Go.Proofs.YtkhpemjjholneaaGreatDoor

namespace Go.Proofs.YtkhpemjjholneaaGreatDoor
open Go.RowKit

set_option maxHeartbeats 4000000 in
set_option maxRecDepth 100000 in
theorem one11_any (s : ByteArray) (u p : Adr) (uv pv : Value) (hops : Int) (w : World) (hg : Gd w) (hu : UrlAt w u uv) (hp : UrlAt w p pv) (hz : Sized11 u) (hs : s.size ≤ 4000000000) :
    Calls Tryz.prog 34 #[.string s, adrVal u uv, adrVal p pv, .int .i64 hops] w fun e w' => e = .returned (.bool (oneV u p hops s.data.toList)) ∧ Below w.heap.size w w' := by
  obtain ⟨ua, un, uc, rfl⟩ := hu.sl
  obtain ⟨pa, pn, pc, rfl⟩ := hp.sl
  have HM := hid (fun (w : World) (hg : Gd w) (hu : UrlAt w u (.slice ua un uc)) (hp : UrlAt w p (.slice pa pn pc)) => meaning_any u p (.slice ua un uc) (.slice pa pn pc) hops w hg hu hp hz)
  obtain ⟨u0, u1, u2, u3, u4, u5, u6, u8, u9, u10, u11, hx, -, -, -, -⟩ := adr_named u ua un uc
  obtain ⟨p0, p1, p2, p3, p4, p5, p6, p8, p9, p10, p11, hy, -, -, -, -⟩ := adr_named p pa pn pc
  have hva : adrVal u (.slice ua un uc) = .agg #[.string u0, .string u1, .string u2, .string u3, .bool u4, .int .i64 u5, .bool u6, .slice ua un uc, .string u8, .string u9, .bool u10, .bool u11] := by unfold adrVal; rw [hx]
  have hvb : adrVal p (.slice pa pn pc) = .agg #[.string p0, .string p1, .string p2, .string p3, .bool p4, .int .i64 p5, .bool p6, .slice pa pn pc, .string p8, .string p9, .bool p10, .bool p11] := by unfold adrVal; rw [hy]
  rw [hva, hvb] at HM ⊢
  obtain ⟨W1, hW1⟩ : ∃ W1, (w.alloc (.cells #[.string u0, .string u1, .string u2, .string u3, .bool u4, .int .i64 u5, .bool u6, .slice ua un uc, .string u8, .string u9, .bool u10, .bool u11] 45)) = W1 := ⟨_, rfl⟩
  have hb1 : Below w.heap.size w W1 := by rw [← hW1]; exact (Below.refl _ w).alloc (Nat.le_refl _) _
  have hs1 : W1.heap.size = w.heap.size + 1 := by rw [← hW1]; simp
  have hA1 : AdrIn W1 w.heap.size u (.slice ua un uc) := by
    unfold AdrIn
    rw [hx, ← hW1]
    exact heap_alloc_new w _
  obtain ⟨W2, hW2⟩ : ∃ W2, (W1.alloc (.cells #[.string p0, .string p1, .string p2, .string p3, .bool p4, .int .i64 p5, .bool p6, .slice pa pn pc, .string p8, .string p9, .bool p10, .bool p11] 45)) = W2 := ⟨_, rfl⟩
  have hb2 : Below W1.heap.size W1 W2 := by rw [← hW2]; exact (Below.refl _ W1).alloc (Nat.le_refl _) _
  have hA2 := hA1.kept hb2
  have hP2 : AdrIn W2 (w.heap.size + 1) p (.slice pa pn pc) := by
    unfold AdrIn
    rw [hy, ← hW2, ← hs1]
    exact heap_alloc_new W1 _
  have hB2 := below2 hb1 hb2
  have HG2 := hid (hg.kept hB2)
  have HU2 := hid (hu.kept hB2)
  have HP2 := hid (hp.kept hB2)
  have HB2 := hid hB2
  have HRu := hid (show W2.rangeAt w.heap.size 0 [.string u0, .string u1, .string u2, .string u3, .bool u4, .int .i64 u5, .bool u6, .slice ua un uc, .string u8, .string u9, .bool u10, .bool u11] by
    have := range_row (show W2.heap[w.heap.size]? = some (.cells (adrCells u (.slice ua un uc)).toArray 45 (0, 0)) from hA2)
    rw [hx] at this
    exact this)
  have HRp := hid (show W2.rangeAt (w.heap.size + 1) 0 [.string p0, .string p1, .string p2, .string p3, .bool p4, .int .i64 p5, .bool p6, .slice pa pn pc, .string p8, .string p9, .bool p10, .bool p11] by
    have := range_row (show W2.heap[w.heap.size + 1]? = some (.cells (adrCells p (.slice pa pn pc)).toArray 45 (0, 0)) from hP2)
    rw [hy] at this
    exact this)
  clear hb1 hb2 hA1 hA2 hP2 hB2 hg hu hp hx hy hz hva hvb
  go_enter Tryz.func34, Tryz.ntmps34
  go_wp2_with (first | refine wpList_load_mid rfl 45 (.tmp 5) rfl w.heap.size 0 rfl [.string u0, .string u1, .string u2, .string u3, .bool u4, .int .i64 u5, .bool u6, .slice ua un uc, .string u8, .string u9, .bool u10, .bool u11] _ HRu.out Tryz.underlying45 rfl sizeU ?_ | refine wpList_load_mid rfl 45 (.tmp 6) rfl (w.heap.size + 1) 0 rfl [.string p0, .string p1, .string p2, .string p3, .bool p4, .int .i64 p5, .bool p6, .slice pa pn pc, .string p8, .string p9, .bool p10, .bool p11] _ HRp.out Tryz.underlying45 rfl sizeU ?_)
  refine (HM.out _ HG2.out HU2.out HP2.out).mono ?_
  rintro e w3 ⟨v, rfl, ⟨f, lb, rfl, eg, hc⟩, hb3⟩
  have HC := hid (hc w3 s (Below.refl _ _) hs)
  have HB3 := hid (below2 HB2.out hb3)
  clear hc hb3
  go_wp2_with fail
  refine HC.out.mono ?_
  rintro e w4 ⟨rfl, hb4⟩
  have HB4 := hid (below2 HB3.out hb4)
  clear hb4
  go_wp2
  go_ret
  exact ⟨rfl, HB4.out⟩

/-- What the statements' own one tells. -/
def lawOne (s u p : List UInt8) (hops : Int) : Bool := match urlV u, urlV p with
  | .ok a, .ok b => oneV a b hops s
  | _, _ => false

theorem lawOne_ok {s u p : List UInt8} {hops : Int} {a b : Adr} (h1 : urlV u = .ok a) (h2 : urlV p = .ok b) : lawOne s u p hops = oneV a b hops s := by unfold lawOne; rw [h1, h2]

theorem lawOne_no1 {s u p : List UInt8} {hops : Int} (h1 : isOk (urlV u) = false) : lawOne s u p hops = false := by
  unfold lawOne
  cases h : urlV u with
  | ok a => rw [h] at h1; cases h1
  | error e => rfl

theorem lawOne_no2 {s u p : List UInt8} {hops : Int} (h1 : isOk (urlV p) = false) : lawOne s u p hops = false := by
  unfold lawOne
  cases h : urlV p with
  | ok a => rw [h] at h1; cases h1
  | error e => cases urlV u <;> rfl

theorem slim_at {w : World} {B : Nat} {u : Adr} {pv : Value} {s : List UInt8} (e : readV s none = .ok u) (h : w.ownsRow B 9 1 pv u.path.length (cellsS u.path)) : UrlAt w u pv ∧ Sized11 u := by
  obtain ⟨h1, h2, h3, h4, h5, h6, h7, h8⟩ := parse_slim e
  have a1 := slL_len u.path
  have a2 := slL_flat u.path
  refine ⟨⟨own_path h, by omega, by omega⟩, by omega, fun x hx => ?_⟩
  have : x.length ≤ u.path.flatten.length := by
    obtain ⟨a, b, e⟩ := List.append_of_mem hx
    rw [e]; simp; omega
  omega

theorem slim_zero {w : World} {B : Nat} {pv : Value} (h : w.ownsRow B 9 1 pv Adr.zero.path.length (cellsS Adr.zero.path)) : UrlAt w Adr.zero pv ∧ Sized11 Adr.zero :=
  ⟨⟨own_path h, by decide, by decide⟩, by decide, fun x hx => by cases hx⟩

theorem slim_any {w : World} {B : Nat} {pv : Value} {s : List UInt8} (h : w.ownsRow B 9 1 pv (adrOf (urlV s)).path.length (cellsS (adrOf (urlV s)).path)) : UrlAt w (adrOf (urlV s)) pv ∧ Sized11 (adrOf (urlV s)) := by
  cases e : urlV s with
  | ok u => rw [e] at h; exact slim_at e h
  | error x => rw [e] at h; exact slim_zero h

set_option maxHeartbeats 4000000 in
set_option maxRecDepth 100000 in
theorem lawOne_any (s u p : ByteArray) (hops : Int) (w : World) (hg : Gd w) (hs : s.size ≤ 4000000000) (hu : u.size ≤ 9223372036854775807) (hp : p.size ≤ 9223372036854775807) :
    Calls Tryz.prog 30 #[.string s, .string u, .string p, .int .i64 hops] w fun e w' => e = .returned (.bool (lawOne s.data.toList u.data.toList p.data.toList hops)) ∧ Below w.heap.size w w' := by
  have HU := hid (fun w => url_k u w hu)
  have HP := hid (fun w => url_k p w hp)
  have HSu := hid (fun (w : World) (B : Nat) (pv : Value) (h : w.ownsRow B 9 1 pv (adrOf (urlV u.data.toList)).path.length (cellsS (adrOf (urlV u.data.toList)).path)) => slim_any h)
  have HSp := hid (fun (w : World) (B : Nat) (pv : Value) (h : w.ownsRow B 9 1 pv (adrOf (urlV p.data.toList)).path.length (cellsS (adrOf (urlV p.data.toList)).path)) => slim_any h)
  have HV1 : Hid (isOk (urlV u.data.toList) = true → isOk (urlV p.data.toList) = true → lawOne s.data.toList u.data.toList p.data.toList hops = oneV (adrOf (urlV u.data.toList)) (adrOf (urlV p.data.toList)) hops s.data.toList) := fun h1 h2 => by
    cases ha : urlV u.data.toList with
    | error x => rw [ha] at h1; cases h1
    | ok a =>
      cases hb : urlV p.data.toList with
      | error x => rw [hb] at h2; cases h2
      | ok b => exact lawOne_ok ha hb
  have HV2 : Hid (isOk (urlV u.data.toList) = false → lawOne s.data.toList u.data.toList p.data.toList hops = false) := fun h => lawOne_no1 h
  have HV3 : Hid (isOk (urlV p.data.toList) = false → lawOne s.data.toList u.data.toList p.data.toList hops = false) := fun h => lawOne_no2 h
  obtain ⟨r1, hr1⟩ : ∃ r, urlV u.data.toList = r := ⟨_, rfl⟩
  obtain ⟨r2, hr2⟩ : ∃ r, urlV p.data.toList = r := ⟨_, rfl⟩
  rw [hr1] at HU HSu HV1 HV2
  rw [hr2] at HP HSp HV1 HV3
  obtain ⟨o1, ho1⟩ : ∃ b, isOk r1 = b := ⟨_, rfl⟩
  obtain ⟨o2, ho2⟩ : ∃ b, isOk r2 = b := ⟨_, rfl⟩
  unfold UPost at HU HP
  rw [ho1] at HU HV1 HV2
  rw [ho2] at HP HV1 HV3
  obtain ⟨A, hA⟩ : ∃ A, adrOf r1 = A := ⟨_, rfl⟩
  obtain ⟨B, hB⟩ : ∃ A, adrOf r2 = A := ⟨_, rfl⟩
  rw [hA] at HU HSu HV1
  rw [hB] at HP HSp HV1
  have HG := hid hg
  obtain ⟨lo, hlo⟩ : ∃ b, lawOne s.data.toList u.data.toList p.data.toList hops = b := ⟨_, rfl⟩
  rw [hlo] at HV1 HV2 HV3
  rw [hlo]
  clear hr1 hr2 ho1 ho2 hA hB hg hu hp hlo
  go_enter Tryz.func30, Tryz.ntmps30
  go_wp2_with fail
  refine (HU.out _).mono ?_
  rintro e w1 ⟨uv, rfl, hown1, hb1⟩
  have hS1 := HSu.out _ _ _ hown1
  obtain ⟨ua, un, uc, rfl⟩ := hS1.1.sl
  obtain ⟨u0, u1, u2, u3, u4, u5, u6, u8, u9, u10, u11, hx, -, -, -, -⟩ := adr_named A ua un uc
  have hva : adrVal A (.slice ua un uc) = .agg #[.string u0, .string u1, .string u2, .string u3, .bool u4, .int .i64 u5, .bool u6, .slice ua un uc, .string u8, .string u9, .bool u10, .bool u11] := by unfold adrVal; rw [hx]
  rw [hva]
  obtain ⟨W2, hW2⟩ : ∃ W2, (w1.alloc (.cells #[.string u0, .string u1, .string u2, .string u3, .bool u4, .int .i64 u5, .bool u6, .slice ua un uc, .string u8, .string u9, .bool u10, .bool u11] 45)) = W2 := ⟨_, rfl⟩
  have hb2 : Below w1.heap.size w1 W2 := by rw [← hW2]; exact (Below.refl _ w1).alloc (Nat.le_refl _) _
  have hA2 : AdrIn W2 w1.heap.size A (.slice ua un uc) := by
    unfold AdrIn
    rw [hx, ← hW2]
    exact heap_alloc_new w1 _
  have HA2 := hid hA2
  have HX := hid hx
  have HVA := hid hva
  have HS1 := hid (And.intro (hS1.1.kept hb2) hS1.2)
  have HB2 := hid (below2 hb1 hb2)
  clear hS1 hown1 hb1 hb2 hA2 hx hva
  go_wp2_with fail
  refine (HP.out _).mono ?_
  rintro e w3 ⟨pv, rfl, hown3, hb3⟩
  have hS3 := HSp.out _ _ _ hown3
  obtain ⟨pa, pn, pc, rfl⟩ := hS3.1.sl
  obtain ⟨p0, p1, p2, p3, p4, p5, p6, p8, p9, p10, p11, hy, -, -, -, -⟩ := adr_named B pa pn pc
  have hvb : adrVal B (.slice pa pn pc) = .agg #[.string p0, .string p1, .string p2, .string p3, .bool p4, .int .i64 p5, .bool p6, .slice pa pn pc, .string p8, .string p9, .bool p10, .bool p11] := by unfold adrVal; rw [hy]
  rw [hvb]
  obtain ⟨W4, hW4⟩ : ∃ W4, (w3.alloc (.cells #[.string p0, .string p1, .string p2, .string p3, .bool p4, .int .i64 p5, .bool p6, .slice pa pn pc, .string p8, .string p9, .bool p10, .bool p11] 45)) = W4 := ⟨_, rfl⟩
  have hb4 : Below w3.heap.size w3 W4 := by rw [← hW4]; exact (Below.refl _ w3).alloc (Nat.le_refl _) _
  have hA4 : AdrIn W4 w3.heap.size B (.slice pa pn pc) := by
    unfold AdrIn
    rw [hy, ← hW4]
    exact heap_alloc_new w3 _
  have hb34 := below2 hb3 hb4
  have HB4 := hid (below2 HB2.out hb34)
  have hA24 := HA2.out.kept hb34
  have HU4 := hid (HS1.out.1.kept hb34)
  have HP4 := hid (hS3.1.kept hb4)
  have HRu := hid (show W4.rangeAt w1.heap.size 0 [.string u0, .string u1, .string u2, .string u3, .bool u4, .int .i64 u5, .bool u6, .slice ua un uc, .string u8, .string u9, .bool u10, .bool u11] by
    have := range_row (show W4.heap[w1.heap.size]? = some (.cells (adrCells A (.slice ua un uc)).toArray 45 (0, 0)) from hA24)
    rw [HX.out] at this
    exact this)
  have HRp := hid (show W4.rangeAt w3.heap.size 0 [.string p0, .string p1, .string p2, .string p3, .bool p4, .int .i64 p5, .bool p6, .slice pa pn pc, .string p8, .string p9, .bool p10, .bool p11] by
    have := range_row (show W4.heap[w3.heap.size]? = some (.cells (adrCells B (.slice pa pn pc)).toArray 45 (0, 0)) from hA4)
    rw [hy] at this
    exact this)
  have HOne := hid (one11_any s A B (.slice ua un uc) (.slice pa pn pc) hops W4 (HG.out.kept HB4.out) HU4.out HP4.out HS1.out.2 hs)
  rw [HVA.out, hvb] at HOne
  clear hS3 hown3 hb3 hb4 hA4 hb34 hA24 hy hvb
  have f1 : ∀ j v, [.string u0, .string u1, .string u2, .string u3, .bool u4, .int .i64 u5, .bool u6, .slice ua un uc, .string u8, .string u9, .bool u10, .bool u11][j]? = some v → W4.cell? ⟨w1.heap.size, j, none⟩ = some v := fun j v h => by
    have := HRu.out j v h
    rwa [Nat.zero_add] at this
  have f2 : ∀ j v, [.string p0, .string p1, .string p2, .string p3, .bool p4, .int .i64 p5, .bool p6, .slice pa pn pc, .string p8, .string p9, .bool p10, .bool p11][j]? = some v → W4.cell? ⟨w3.heap.size, j, none⟩ = some v := fun j v h => by
    have := HRp.out j v h
    rwa [Nat.zero_add] at this
  have y0 := f1 0 _ rfl
  have z0 := f2 0 _ rfl
  have y1 := f1 1 _ rfl
  have z1 := f2 1 _ rfl
  have y2 := f1 2 _ rfl
  have z2 := f2 2 _ rfl
  have y3 := f1 3 _ rfl
  have z3 := f2 3 _ rfl
  have y4 := f1 4 _ rfl
  have z4 := f2 4 _ rfl
  have y5 := f1 5 _ rfl
  have z5 := f2 5 _ rfl
  have y6 := f1 6 _ rfl
  have z6 := f2 6 _ rfl
  have y7 := f1 7 _ rfl
  have z7 := f2 7 _ rfl
  have y8 := f1 8 _ rfl
  have z8 := f2 8 _ rfl
  have y9 := f1 9 _ rfl
  have z9 := f2 9 _ rfl
  have y10 := f1 10 _ rfl
  have z10 := f2 10 _ rfl
  have y11 := f1 11 _ rfl
  have z11 := f2 11 _ rfl
  clear f1 f2
  cases o1 with
  | false =>
    go_wp2
    go_ret
    exact ⟨ret_bool (by rw [HV2.out (by first | rfl | trivial)] <;> rfl), HB4.out⟩
  | true =>
    cases o2 with
    | false =>
      go_wp2
      go_ret
      exact ⟨ret_bool (by rw [HV3.out (by first | rfl | trivial)] <;> rfl), HB4.out⟩
    | true =>
      go_wp2_with (go_at_call 34; refine HOne.out.mono ?_; rintro e w5 ⟨rfl, hb5⟩)
      go_ret
      exact ⟨ret_bool (by rw [HV1.out (by first | rfl | trivial) (by first | rfl | trivial)] <;> rfl), below2 HB4.out hb5⟩

end Go.Proofs.YtkhpemjjholneaaGreatDoor

namespace Go.Proofs.YtkhpemjjholneaaGreatDoor
theorem w_drop_no (p : UInt8 → Bool) (l : List UInt8) (h : ∀ c ∈ l, p c = false) : l.dropWhile p = l := by
  cases l with
  | nil => rfl
  | cons c l => rw [List.dropWhile_cons, h c (by simp)]; rfl

theorem w_clean_id (l : List UInt8) (h : ∀ c ∈ l, 33 ≤ c.toNat) : cleanV l = l := by
  have hw : ∀ c ∈ l, wsC c = false := fun c hc => by unfold wsC; rw [decide_eq_false]; have := h c hc; omega
  unfold cleanV trimV
  rw [w_drop_no wsC l hw, w_drop_no wsC l.reverse (fun c hc => hw c (by simpa using hc)), List.reverse_reverse, List.filter_eq_self]
  intro c hc
  have := h c hc
  unfold eyeC
  simp only [Bool.not_eq_true', Bool.or_eq_false_iff, beq_eq_false_iff_ne]
  refine ⟨?_, ?_, ?_⟩ <;> (intro e; subst e; revert this; decide)

theorem w_take_yes (p : UInt8 → Bool) (l : List UInt8) (h : ∀ c ∈ l, p c = true) : l.takeWhile p = l := by
  induction l with
  | nil => rfl
  | cons c l ih => rw [List.takeWhile_cons, h c (by simp), if_pos rfl, ih fun d hd => h d (by simp [hd])]

theorem w_drop_yes (p : UInt8 → Bool) (l : List UInt8) (h : ∀ c ∈ l, p c = true) : l.dropWhile p = [] := by
  induction l with
  | nil => rfl
  | cons c l ih => rw [List.dropWhile_cons, h c (by simp), if_pos rfl, ih fun d hd => h d (by simp [hd])]

theorem ahead_all (ends l : List UInt8) (h : ∀ c ∈ l, c ∉ ends) : aheadV ends l = (l, []) := by
  have key : ∀ c ∈ l, (!ends.contains c) = true := fun c hc => by simp [h c hc]
  unfold aheadV
  rw [w_take_yes _ l key, w_drop_yes _ l key]

theorem ahead_at (ends a : List UInt8) (c : UInt8) (r : List UInt8) (h : ∀ c ∈ a, c ∉ ends) (hc : c ∈ ends) : aheadV ends (a ++ c :: r) = (a, c :: r) := by
  have hk : (!ends.contains c) = false := by simp [hc]
  have key : ∀ x ∈ a, (!ends.contains x) = true := fun x hx => by simp [h x hx]
  unfold aheadV
  congr 1
  · rw [takeWhile_stop _ c hk, w_take_yes _ a key]
  · induction a with
    | nil => rw [List.nil_append, List.dropWhile_cons, hk]; rfl
    | cons x a ih => rw [List.cons_append, List.dropWhile_cons, key x (by simp), if_pos rfl]; exact ih (fun d hd => h d (by simp [hd])) (fun d hd => key d (by simp [hd]))

theorem colN_plain : ∀ (l : List UInt8) (i k : Nat), (∀ c ∈ l, c ≠ 58 ∧ c ≠ 91) → colN false i k l = k
  | [], i, k, h => rfl
  | c :: l, i, k, h => by
    rw [colN, if_neg (h c (by simp)).1, if_neg (h c (by simp)).2]
    exact colN_plain l (i + 1) k fun d hd => h d (by simp [hd])

theorem colN_at11 : ∀ (a t : List UInt8) (i k : Nat), (∀ c ∈ a, c ≠ 58 ∧ c ≠ 91) → (∀ c ∈ t, c ≠ 58 ∧ c ≠ 91) → colN false i k (a ++ 58 :: t) = i + a.length
  | [], t, i, k, _, h => by
    rw [List.nil_append, colN, if_pos rfl, colN_plain t _ _ h]; rfl
  | c :: a, t, i, k, h1, h2 => by
    rw [List.cons_append, colN, if_neg (h1 c (by simp)).1, if_neg (h1 c (by simp)).2, colN_at11 a t (i + 1) k (fun d hd => h1 d (by simp [hd])) h2]
    simp; omega

/-- A byte that may stand in a plain authority. -/
def auC (c : UInt8) : Bool := decide (33 ≤ c.toNat) && (c != 35 && (c != 47 && (c != 63 && (c != 64 && (c != 92 && c != 91)))))

/-- A byte that may stand in a plain path. -/
def paC (c : UInt8) : Bool := decide (33 ≤ c.toNat) && (c != 35 && (c != 63 && c != 92))

theorem auC_facts {c : UInt8} (h : auC c = true) : 33 ≤ c.toNat ∧ c ≠ 35 ∧ c ≠ 47 ∧ c ≠ 63 ∧ c ≠ 64 ∧ c ≠ 92 ∧ c ≠ 91 := by
  unfold auC at h
  simpa [Bool.and_eq_true] using h

theorem paC_facts {c : UInt8} (h : paC c = true) : 33 ≤ c.toNat ∧ c ≠ 35 ∧ c ≠ 63 ∧ c ≠ 92 := by
  unfold paC at h
  simpa [Bool.and_eq_true] using h

/-- An address of a host, a port and a path. -/
def wAdr (sc h : List UInt8) (port : Int) (path : List (List UInt8)) : Adr := ⟨sc, [], [], h, true, port, false, path, [], [], false, false⟩

theorem web_auth (sc h pt H : List UInt8) (port : Int) (hsc : specV sc = true) (hau : ∀ c ∈ h ++ pt, auC c = true) (h0 : H ≠ []) (h58 : 58 ∉ h)
    (hpt : (pt = [] ∧ port = -1) ∨ ∃ t, pt = 58 :: t ∧ 58 ∉ t ∧ portV (ownV sc) t = some port) (hpv : parseV h true = some H) :
    authV sc (h ++ pt) = .ok ([], [], H, port) := by
  have hat : atV (h ++ pt) = ([], h ++ pt) := at_none _ fun e => (auC_facts (hau 64 e)).2.2.2.2.1 rfl
  have hh : ∀ c ∈ h, c ≠ 58 ∧ c ≠ 91 := fun c hc => ⟨fun e => h58 (e ▸ hc), (auC_facts (hau c (by simp [hc]))).2.2.2.2.2.2⟩
  have hcol : colV (h ++ pt) = h.length ∧ portV (ownV sc) (((h ++ pt).drop h.length).drop 1) = some port := by
    rcases hpt with ⟨rfl, rfl⟩ | ⟨t, rfl, ht, hp⟩
    · rw [List.append_nil, colV, colN_plain h _ _ hh]
      simp [portV]
    · have h2 : ∀ c ∈ t, c ≠ 58 ∧ c ≠ 91 := fun c hc => ⟨fun e => ht (e ▸ hc), (auC_facts (hau c (by simp [hc]))).2.2.2.2.2.2⟩
      rw [colV, colN_at11 h t 0 _ hh h2]
      simp [hp]
  unfold authV
  rw [hat]
  simp only
  rw [hcol.1, hcol.2]
  simp only
  rw [List.take_left, hsc, hpv]
  simp only
  rw [if_neg (fun e => h0 e.1)]
  rfl

theorem web_read (sc h pt p H : List UInt8) (port : Int) (hsc : sc = sHttp ∨ sc = sHttps) (hau : ∀ c ∈ h ++ pt, auC c = true) (hpa : ∀ c ∈ p, paC c = true) (hh0 : h ≠ []) (h0 : H ≠ []) (h58 : 58 ∉ h)
    (hpt : (pt = [] ∧ port = -1) ∨ ∃ t, pt = 58 :: t ∧ 58 ∉ t ∧ portV (ownV sc) t = some port) (hp : p = [] ∨ ∃ p', p = 47 :: p') (hpv : parseV h true = some H)
    (hl : h.length + pt.length + p.length ≤ 280) :
    readV (sc ++ 58 :: 47 :: 47 :: (h ++ (pt ++ p))) none = .ok (wAdr sc H port (pathV true [] p)) ∧ (sc ++ 58 :: 47 :: 47 :: (h ++ (pt ++ p))).length ≤ 300 := by
  have hspec : specV sc = true := by rcases hsc with rfl | rfl <;> decide
  have hs58 : 58 ∉ sc := by rcases hsc with rfl | rfl <;> decide
  have hs33 : ∀ c ∈ sc, paC c = true := by rcases hsc with rfl | rfl <;> decide
  have hslen : sc.length ≤ 5 := by rcases hsc with rfl | rfl <;> decide
  have hau2 : ∀ c, auC c = true → paC c = true := fun c hc => by
    have := auC_facts hc
    unfold paC
    simp [this.1, this.2.1, this.2.2.2.1, this.2.2.2.2.2.1]
  have hr : ∀ c ∈ h ++ (pt ++ p), paC c = true := fun c hc => by
    rcases List.mem_append.1 hc with hc | hc
    · exact hau2 c (hau c (by simp [hc]))
    · rcases List.mem_append.1 hc with hc | hc
      · exact hau2 c (hau c (by simp [hc]))
      · exact hpa c hc
  have hr2 : ∀ c ∈ 47 :: 47 :: (h ++ (pt ++ p)), paC c = true := fun c hc => by
    rcases List.mem_cons.1 hc with rfl | hc
    · decide
    · rcases List.mem_cons.1 hc with rfl | hc
      · decide
      · exact hr c hc
  have hall : ∀ c ∈ sc ++ 58 :: 47 :: 47 :: (h ++ (pt ++ p)), paC c = true := fun c hc => by
    rcases List.mem_append.1 hc with hc | hc
    · exact hs33 c hc
    · rcases List.mem_cons.1 hc with rfl | hc
      · decide
      · exact hr2 c hc
  have hlen : (sc ++ 58 :: 47 :: 47 :: (h ++ (pt ++ p))).length ≤ 300 := by simp; omega
  refine ⟨?_, hlen⟩
  have hcl := w_clean_id _ (fun c hc => (paC_facts (hall c hc)).1)
  have hp35 : part 35 (sc ++ 58 :: 47 :: 47 :: (h ++ (pt ++ p))) = (sc ++ 58 :: 47 :: 47 :: (h ++ (pt ++ p)), [], false) := part_none 35 _ (fun hm => (paC_facts (hall 35 hm)).2.1 rfl)
  have hp58 : part 58 (sc ++ 58 :: 47 :: 47 :: (h ++ (pt ++ p))) = (sc, 47 :: 47 :: (h ++ (pt ++ p)), true) := part_some 58 sc _ hs58
  have hsch : schemeV (sc ++ 58 :: 47 :: 47 :: (h ++ (pt ++ p))) = some (sc, 47 :: 47 :: (h ++ (pt ++ p))) := by
    unfold schemeV
    rw [hp58]
    simp only
    have e1 : schOk sc = true := by rcases hsc with rfl | rfl <;> decide
    have e2 : low sc = sc := by rcases hsc with rfl | rfl <;> decide
    rw [e1, e2]; rfl
  have hbe : beginU (sc ++ 58 :: 47 :: 47 :: (h ++ (pt ++ p))) = (⟨sc, [], [], [], false, -1, false, [], [], [], false, false⟩, 47 :: 47 :: (h ++ (pt ++ p))) := by
    unfold beginU
    simp only [hcl, hp35, hsch, Option.getD_some]
    rfl
  have hsl : slashV (47 :: 47 :: (h ++ (pt ++ p))) = 47 :: 47 :: (h ++ (pt ++ p)) := by
    unfold slashV
    rw [ahead_all [63] _ (fun c hc => by simp; exact (paC_facts (hr2 c hc)).2.2.1)]
    simp only
    rw [slC_none _ (fun e => (paC_facts (hr2 92 e)).2.2.2 rfl), List.append_nil]
  have hsk : skip47 (47 :: 47 :: (h ++ (pt ++ p))) = h ++ (pt ++ p) := by
    unfold skip47
    rw [List.dropWhile_cons, if_pos (by decide), List.dropWhile_cons, if_pos (by decide)]
    cases h with
    | nil => exact absurd rfl hh0
    | cons c h =>
      rw [List.cons_append, List.dropWhile_cons, if_neg]
      have := (auC_facts (hau c (by simp))).2.2.1
      simpa using this
  have hah : aheadV [47, 63] (h ++ (pt ++ p)) = (h ++ pt, p) := by
    have hno : ∀ c ∈ h ++ pt, c ∉ ([47, 63] : List UInt8) := fun c hc => by
      have := auC_facts (hau c hc)
      simp [this.2.2.1, this.2.2.2.1]
    rw [← List.append_assoc]
    rcases hp with rfl | ⟨p', rfl⟩
    · rw [List.append_nil]; exact ahead_all _ _ hno
    · exact ahead_at _ _ _ _ hno (by simp)
  have hq : aheadV [63] p = (p, []) := ahead_all [63] p (fun c hc => by simp; exact (paC_facts (hpa c hc)).2.2.1)
  unfold readV
  rw [if_neg (by omega), hbe]
  simp only
  have hne : sc ≠ [] := by rcases hsc with rfl | rfl <;> decide
  rw [if_neg hne]
  unfold startV
  simp only
  rw [hspec, if_pos rfl, hsl, hsk]
  unfold withAuth
  simp only
  rw [hah]
  simp only
  rw [web_auth sc h pt H port hspec hau h0 h58 hpt hpv]
  simp only
  unfold withPath withQuery
  simp only
  rw [hq, hspec]
  rfl

/-- Letters of either size, digits and the point. -/
def hnC (c : UInt8) : Bool := (decide (97 ≤ c.toNat) && decide (c.toNat ≤ 122)) || ((decide (65 ≤ c.toNat) && decide (c.toNat ≤ 90)) || ((decide (48 ≤ c.toNat) && decide (c.toNat ≤ 57)) || c == 46))

theorem hnC_facts (c : UInt8) (h : hnC c = true) : auC c = true ∧ c ≠ 58 ∧ c ≠ 37 ∧ c ≠ 91 ∧ c ≠ 45 ∧ nameB (lowC c) = true ∧ lowC c ≠ 45 := by
  have key : ∀ n < 256, hnC (UInt8.ofNat n) = true → auC (UInt8.ofNat n) = true ∧ UInt8.ofNat n ≠ 58 ∧ UInt8.ofNat n ≠ 37 ∧ UInt8.ofNat n ≠ 91 ∧ UInt8.ofNat n ≠ 45 ∧ nameB (lowC (UInt8.ofNat n)) = true ∧ lowC (UInt8.ofNat n) ≠ 45 := by decide +kernel
  have e : UInt8.ofNat c.toNat = c := by simp
  have := key c.toNat c.toNat_lt
  rw [e] at this
  exact this h

theorem parse_name (h : List UInt8) (h0 : h ≠ []) (hc : ∀ c ∈ h, hnC c = true) (hn : numberedV (low h) = false) : parseV h true = some (low h) := by
  have h37 : 37 ∉ h := fun e => (hnC_facts 37 (hc 37 e)).2.2.1 rfl
  have hb : Lib.hasPrefix h [91] = false := by
    cases h with
    | nil => exact absurd rfl h0
    | cons c r =>
      have := (hnC_facts c (hc c (by simp))).2.2.2.1
      simp [Lib.hasPrefix, List.isPrefixOf]
      exact fun e => this e.symm
  unfold parseV
  rw [hb, if_neg (by decide), if_pos rfl, unpct_plain h h37]
  unfold nameV
  have h1 : low h ≠ [] := by cases h with
    | nil => exact absurd rfl h0
    | cons c r => simp [low]
  have h2 : allN (low h) = true := by
    unfold allN low
    rw [List.all_map, List.all_eq_true]
    exact fun c hcc => (hnC_facts c (hc c hcc)).2.2.2.2.2.1
  have h3 : coded (low h) = false := coded_minus _ fun e => by
    obtain ⟨c, hcc, e⟩ := List.mem_map.1 e
    exact (hnC_facts c (hc c hcc)).2.2.2.2.2.2 e
  rw [if_neg (by simp [h1, h2, h3]), hn]
  rfl

/-- A name whose last label is no number. -/
theorem numbered_no (a b : List UInt8) (hb : 46 ∉ b) (h1 : b ≠ []) (hm : marked b = false) (hv : valV 10 b = none) : numberedV (a ++ 46 :: b) = false := by
  have hnd : noDot (a ++ 46 :: b) = a ++ 46 :: b := by
    unfold noDot Lib.trimSuffix
    rw [if_neg]
    intro e
    unfold Lib.hasSuffix at e
    rw [List.isSuffixOf_iff_suffix] at e
    obtain ⟨t, ht⟩ := e
    have hl : (a ++ 46 :: b).getLast? = some 46 := by rw [← ht]; simp
    cases hb2 : b.getLast? with
    | none => exact h1 (by simpa using hb2)
    | some x =>
      have : (a ++ 46 :: b).getLast? = some x := by
        rw [List.getLast?_append, List.getLast?_cons]
        simp [hb2]
      rw [this] at hl
      have hx := List.mem_of_getLast? hb2
      injection hl with hl
      exact hb (hl ▸ hx)
  have hll : lastLab (a ++ 46 :: b) = b := by
    rw [lastLab_app]
    unfold lastLab
    rw [w_take_yes _ b.reverse (fun c hc => by
      have : c ∈ b := by simpa using hc
      simp
      exact fun e => hb (e ▸ this)), List.reverse_reverse]
  unfold numberedV
  rw [hnd, hll, hm, hv]
  simp

end Go.Proofs.YtkhpemjjholneaaGreatDoor
