/-
  Walks and plain facts that this claim leans on, put together out of 6 texts: Yx, La, Oa, Lm, Ob, Oc.
-/
import Derived.Test.YtkhpemjjholneaaGreatDoorProg
import Derived.Test.YtkhpemjjholneaaGreatDoorQa1
import Derived.Test.YtkhpemjjholneaaGreatDoorQa2
import Derived.Test.YtkhpemjjholneaaGreatDoorQa3
import Derived.Test.YtkhpemjjholneaaGreatDoorQa4
import Derived.Test.YtkhpemjjholneaaGreatDoorQa5
import Derived.Test.YtkhpemjjholneaaGreatDoorQa6
import Derived.Test.YtkhpemjjholneaaGreatDoorQa7
import Derived.Test.YtkhpemjjholneaaGreatDoorQa8
import Derived.Test.YtkhpemjjholneaaGreatDoorQa9
import Derived.Test.YtkhpemjjholneaaGreatDoorQa10
import Derived.Test.YtkhpemjjholneaaGreatDoorQa11
import Derived.Test.YtkhpemjjholneaaGreatDoorQa12
import Derived.Test.YtkhpemjjholneaaGreatDoorQa13
import Derived.Test.YtkhpemjjholneaaGreatDoorQa14
import Derived.Test.YtkhpemjjholneaaGreatDoorQa15
import Derived.Test.YtkhpemjjholneaaGreatDoorQa16
import Derived.Test.YtkhpemjjholneaaGreatDoorQa17
import Derived.Test.YtkhpemjjholneaaGreatDoorQa18
import Derived.Test.YtkhpemjjholneaaGreatDoorQa19
import Derived.Test.YtkhpemjjholneaaGreatDoorQa20
import Derived.Test.YtkhpemjjholneaaGreatDoorQa21
import Derived.Test.YtkhpemjjholneaaGreatDoorQa22
import Derived.Test.YtkhpemjjholneaaGreatDoorQa23
import Derived.Test.YtkhpemjjholneaaGreatDoorQa24
import Derived.Test.YtkhpemjjholneaaGreatDoorQa25
import Derived.Test.YtkhpemjjholneaaGreatDoorQa26
import Derived.Test.YtkhpemjjholneaaGreatDoorQa27
import Derived.Test.YtkhpemjjholneaaGreatDoorQa28
import Derived.Test.YtkhpemjjholneaaGreatDoorQa29
import Derived.Test.YtkhpemjjholneaaGreatDoorQa30
import Derived.Test.YtkhpemjjholneaaGreatDoorQa31
import Derived.Test.YtkhpemjjholneaaGreatDoorQy1
import Derived.Test.YtkhpemjjholneaaGreatDoorQe1
import Derived.Deep.LoopGhost
import Derived.Lib.IndexAny
import Derived.Lib.Replace
import Derived.Lib.TrimByte
import Derived.Lib.ItoaNum
import Derived.Laws.Runes
import Derived.Laws.RangeAny
import Derived.Lib.DecodeN
import Derived.Lib.OthersKept
import Derived.RegionTactic
import Derived.Deep.RegionWith
import Derived.Deep.QuietTactic
import Derived.BigQuiet
import Derived.WalkKit
import Derived.WalkSpells
import Derived.WalkLawsBesides
import Derived.Lib.FrozenHead2
import Derived.Lib.Builder
import Derived.Laws.AppendOwn
import Derived.Laws.OwnMore
import Derived.Below
import Derived.WalkSmall
import Derived.Lib.SmallJoins
import Derived.Lib.AppendStr
import Derived.Lib.UnsafeStr
import Derived.Laws.CopyOwn
import Derived.Laws.ResultCell
import Derived.Deep.MidRow
import Derived.Shelf.Strings.Builder1
import Derived.Shelf.Strings.Builder2
import Derived.Shelf.Strings.OnBuilder
import Derived.Shelf.Strings.Trim
import Derived.Shelf.Small.Utf8
import Derived.Shelf.Small.Bits
import Derived.Shelf.Small.Strs
import Derived.Shelf.Small.Wraps
import Derived.Shelf.Strings.BuilderF
import Derived.Shelf.Strings.BuilderK
import Derived.Shelf.Strings.BuilderRune
import Derived.Shelf.Utf8.AppendRune
import Derived.Shelf.Utf8.AppendRunePlain
import Derived.Shelf.Strings.Builder2Cap
import Derived.Shelf.Strconv.Itoa0
import Derived.Shelf.Strconv.Itoa1
import Derived.Shelf.LaysM
import Derived.Shelf.Strconv.Itoa2
import Derived.Shelf.Strconv.Itoa3
import Derived.Shelf.Strings.Search1
import Derived.Shelf.Strings.Search2
import Derived.Shelf.Strings.Search3
import Derived.Shelf.Strings.Cut
import Derived.Shelf.Strings.Count
import Derived.Shelf.Strings.Shaped
import Derived.Shelf.Sort.Plain
import Derived.Shelf.Strings.LastIndex
import Derived.Shelf.Strings.Prefix
import Derived.Shelf.Strings.Split
import Derived.Shelf.Strings.Replace
import Derived.Shelf.Strings.Runes
import Derived.Shelf.Strings.IndexAny
import Derived.Shelf.Strings.AsciiSet
import Derived.Shelf.Strings.IndexAnyAll
import Derived.Shelf.Unicode.DecodeSlow
import Derived.Shelf.Unicode.DecodeAny
import Derived.Shelf.Unicode.DecodeLast
import Derived.Shelf.Strings.FieldsFuncAny
import Derived.Shelf.Strings.FieldsFuncGrows
import Derived.Shelf.Slices.Equal
import Derived.Ground.Names2Prog
import Derived.Shelf.Slices.Clone
import Derived.Ground.SlgnProg
import Derived.Shelf.SlicesE.Equal
import Derived.Shelf.SlicesE.Clone
import Derived.Lib.AppendIntMem
import Derived.Lib.SlTrimSet
import Derived.Lib.Join
import Derived.Lib.IndexMore
import Derived.Lib.Bytealg
import Derived.Lib.Strings
import Derived.Laws.IdiomStrings
import Derived.LoopN
import Derived.BigRegion
import Derived.Lib.BufferMore
import Derived.Deep.RegionHeldLaw
import Derived.Laws.AppendOwnNone
import Derived.Lib.BufferRead
import Derived.Lib.RuneBytes
import Derived.Shelf.Strings.SlTrimAscii
import Derived.OwnWalk
import Derived.Deep.RegionHeld
import Derived.Deep.Cut
import Derived.Laws.BytesString
import Derived.Deep.RegionLaw
import Derived.Scope
import Derived.ScopeJumps
import Derived.WalkMore
import Derived.Lib.LastIndexByte
import Derived.Laws.BitsAllLaws
import Derived.Deep.WholeRow
import Derived.Maps.OwnSet
import Derived.Maps.OwnOps
import Derived.Maps.AppendAt
import Derived.StringKeys
import Derived.Lib.FieldsP
import Derived.Shelf.GgClosure.GivesRunes
set_option linter.unusedSimpArgs false
set_option linter.unusedVariables false

namespace Go.Proofs.YtkhpemjjholneaaGreatDoor
open Go.RowKit

set_option maxHeartbeats 4000000 in
set_option maxRecDepth 100000 in
theorem one11_any (s : ByteArray) (u p : Adr) (uv pv : Value) (hops : Int) (w : World) (hg : Gd w) (hu : UrlAt w u uv) (hp : UrlAt w p pv) (hz : Sized11 u) (hs : s.size ≤ 4000000000) :
    Calls Tryz.prog 34 #[.string s, adrVal u uv, adrVal p pv, .int .i64 hops] w fun e w' => e = .returned (.bool (oneV u p hops s.data.toList)) ∧ Below w.heap.size w w' := by
  obtain ⟨ua, un, uc, rfl⟩ := hu.sl
  obtain ⟨pa, pn, pc, rfl⟩ := hp.sl
  have HM := hid (fun (w : World) (hg : Gd w) (hu : UrlAt w u (.slice ua un uc)) (hp : UrlAt w p (.slice pa pn pc)) => meaning_any u p (.slice ua un uc) (.slice pa pn pc) hops w hg hu hp hz)
  obtain ⟨u0, u1, u2, u3, u4, u5, u6, u8, u9, u10, u11, hx, -, -, -, -⟩ := adr_named u ua un uc
  obtain ⟨p0, p1, p2, p3, p4, p5, p6, p8, p9, p10, p11, hy, -, -, -, -⟩ := adr_named p pa pn pc
  have hva : adrVal u (.slice ua un uc) = .agg #[.string u0, .string u1, .string u2, .string u3, .bool u4, .int .i64 u5, .bool u6, .slice ua un uc, .string u8, .string u9, .bool u10, .bool u11] := by unfold adrVal; rw [hx]
  have hvb : adrVal p (.slice pa pn pc) = .agg #[.string p0, .string p1, .string p2, .string p3, .bool p4, .int .i64 p5, .bool p6, .slice pa pn pc, .string p8, .string p9, .bool p10, .bool p11] := by unfold adrVal; rw [hy]
  rw [hva, hvb] at HM ⊢
  obtain ⟨W1, hW1⟩ : ∃ W1, (w.alloc (.cells #[.string u0, .string u1, .string u2, .string u3, .bool u4, .int .i64 u5, .bool u6, .slice ua un uc, .string u8, .string u9, .bool u10, .bool u11] 45)) = W1 := ⟨_, rfl⟩
  have hb1 : Below w.heap.size w W1 := by rw [← hW1]; exact (Below.refl _ w).alloc (Nat.le_refl _) _
  have hs1 : W1.heap.size = w.heap.size + 1 := by rw [← hW1]; simp
  have hA1 : AdrIn W1 w.heap.size u (.slice ua un uc) := by
    unfold AdrIn
    rw [hx, ← hW1]
    exact heap_alloc_new w _
  obtain ⟨W2, hW2⟩ : ∃ W2, (W1.alloc (.cells #[.string p0, .string p1, .string p2, .string p3, .bool p4, .int .i64 p5, .bool p6, .slice pa pn pc, .string p8, .string p9, .bool p10, .bool p11] 45)) = W2 := ⟨_, rfl⟩
  have hb2 : Below W1.heap.size W1 W2 := by rw [← hW2]; exact (Below.refl _ W1).alloc (Nat.le_refl _) _
  have hA2 := hA1.kept hb2
  have hP2 : AdrIn W2 (w.heap.size + 1) p (.slice pa pn pc) := by
    unfold AdrIn
    rw [hy, ← hW2, ← hs1]
    exact heap_alloc_new W1 _
  have hB2 := below2 hb1 hb2
  have HG2 := hid (hg.kept hB2)
  have HU2 := hid (hu.kept hB2)
  have HP2 := hid (hp.kept hB2)
  have HB2 := hid hB2
  have HRu := hid (show W2.rangeAt w.heap.size 0 [.string u0, .string u1, .string u2, .string u3, .bool u4, .int .i64 u5, .bool u6, .slice ua un uc, .string u8, .string u9, .bool u10, .bool u11] by
    have := range_row (show W2.heap[w.heap.size]? = some (.cells (adrCells u (.slice ua un uc)).toArray 45 (0, 0)) from hA2)
    rw [hx] at this
    exact this)
  have HRp := hid (show W2.rangeAt (w.heap.size + 1) 0 [.string p0, .string p1, .string p2, .string p3, .bool p4, .int .i64 p5, .bool p6, .slice pa pn pc, .string p8, .string p9, .bool p10, .bool p11] by
    have := range_row (show W2.heap[w.heap.size + 1]? = some (.cells (adrCells p (.slice pa pn pc)).toArray 45 (0, 0)) from hP2)
    rw [hy] at this
    exact this)
  clear hb1 hb2 hA1 hA2 hP2 hB2 hg hu hp hx hy hz hva hvb
  go_enter Tryz.func34, Tryz.ntmps34
  go_wp2_with (first | refine wpList_load_mid rfl 45 (.tmp 5) rfl w.heap.size 0 rfl [.string u0, .string u1, .string u2, .string u3, .bool u4, .int .i64 u5, .bool u6, .slice ua un uc, .string u8, .string u9, .bool u10, .bool u11] _ HRu.out Tryz.underlying45 rfl sizeU ?_ | refine wpList_load_mid rfl 45 (.tmp 6) rfl (w.heap.size + 1) 0 rfl [.string p0, .string p1, .string p2, .string p3, .bool p4, .int .i64 p5, .bool p6, .slice pa pn pc, .string p8, .string p9, .bool p10, .bool p11] _ HRp.out Tryz.underlying45 rfl sizeU ?_)
  refine (HM.out _ HG2.out HU2.out HP2.out).mono ?_
  rintro e w3 ⟨v, rfl, ⟨f, lb, rfl, eg, hc⟩, hb3⟩
  have HC := hid (hc w3 s (Below.refl _ _) hs)
  have HB3 := hid (below2 HB2.out hb3)
  clear hc hb3
  go_wp2_with fail
  refine HC.out.mono ?_
  rintro e w4 ⟨rfl, hb4⟩
  have HB4 := hid (below2 HB3.out hb4)
  clear hb4
  go_wp2
  go_ret
  exact ⟨rfl, HB4.out⟩

/-- What the statements' own one tells. -/
def lawOne (s u p : List UInt8) (hops : Int) : Bool := match urlV u, urlV p with
  | .ok a, .ok b => oneV a b hops s
  | _, _ => false

theorem lawOne_ok {s u p : List UInt8} {hops : Int} {a b : Adr} (h1 : urlV u = .ok a) (h2 : urlV p = .ok b) : lawOne s u p hops = oneV a b hops s := by unfold lawOne; rw [h1, h2]

theorem lawOne_no1 {s u p : List UInt8} {hops : Int} (h1 : isOk (urlV u) = false) : lawOne s u p hops = false := by
  unfold lawOne
  cases h : urlV u with
  | ok a => rw [h] at h1; cases h1
  | error e => rfl

theorem lawOne_no2 {s u p : List UInt8} {hops : Int} (h1 : isOk (urlV p) = false) : lawOne s u p hops = false := by
  unfold lawOne
  cases h : urlV p with
  | ok a => rw [h] at h1; cases h1
  | error e => cases urlV u <;> rfl

theorem slim_at {w : World} {B : Nat} {u : Adr} {pv : Value} {s : List UInt8} (e : readV s none = .ok u) (h : w.ownsRow B 9 1 pv u.path.length (cellsS u.path)) : UrlAt w u pv ∧ Sized11 u := by
  obtain ⟨h1, h2, h3, h4, h5, h6, h7, h8⟩ := parse_slim e
  have a1 := slL_len u.path
  have a2 := slL_flat u.path
  refine ⟨⟨own_path h, by omega, by omega⟩, by omega, fun x hx => ?_⟩
  have : x.length ≤ u.path.flatten.length := by
    obtain ⟨a, b, e⟩ := List.append_of_mem hx
    rw [e]; simp; omega
  omega

theorem slim_zero {w : World} {B : Nat} {pv : Value} (h : w.ownsRow B 9 1 pv Adr.zero.path.length (cellsS Adr.zero.path)) : UrlAt w Adr.zero pv ∧ Sized11 Adr.zero :=
  ⟨⟨own_path h, by decide, by decide⟩, by decide, fun x hx => by cases hx⟩

theorem slim_any {w : World} {B : Nat} {pv : Value} {s : List UInt8} (h : w.ownsRow B 9 1 pv (adrOf (urlV s)).path.length (cellsS (adrOf (urlV s)).path)) : UrlAt w (adrOf (urlV s)) pv ∧ Sized11 (adrOf (urlV s)) := by
  cases e : urlV s with
  | ok u => rw [e] at h; exact slim_at e h
  | error x => rw [e] at h; exact slim_zero h

set_option maxHeartbeats 4000000 in
set_option maxRecDepth 100000 in
theorem lawOne_any (s u p : ByteArray) (hops : Int) (w : World) (hg : Gd w) (hs : s.size ≤ 4000000000) (hu : u.size ≤ 9223372036854775807) (hp : p.size ≤ 9223372036854775807) :
    Calls Tryz.prog 30 #[.string s, .string u, .string p, .int .i64 hops] w fun e w' => e = .returned (.bool (lawOne s.data.toList u.data.toList p.data.toList hops)) ∧ Below w.heap.size w w' := by
  have HU := hid (fun w => url_k u w hu)
  have HP := hid (fun w => url_k p w hp)
  have HSu := hid (fun (w : World) (B : Nat) (pv : Value) (h : w.ownsRow B 9 1 pv (adrOf (urlV u.data.toList)).path.length (cellsS (adrOf (urlV u.data.toList)).path)) => slim_any h)
  have HSp := hid (fun (w : World) (B : Nat) (pv : Value) (h : w.ownsRow B 9 1 pv (adrOf (urlV p.data.toList)).path.length (cellsS (adrOf (urlV p.data.toList)).path)) => slim_any h)
  have HV1 : Hid (isOk (urlV u.data.toList) = true → isOk (urlV p.data.toList) = true → lawOne s.data.toList u.data.toList p.data.toList hops = oneV (adrOf (urlV u.data.toList)) (adrOf (urlV p.data.toList)) hops s.data.toList) := fun h1 h2 => by
    cases ha : urlV u.data.toList with
    | error x => rw [ha] at h1; cases h1
    | ok a =>
      cases hb : urlV p.data.toList with
      | error x => rw [hb] at h2; cases h2
      | ok b => exact lawOne_ok ha hb
  have HV2 : Hid (isOk (urlV u.data.toList) = false → lawOne s.data.toList u.data.toList p.data.toList hops = false) := fun h => lawOne_no1 h
  have HV3 : Hid (isOk (urlV p.data.toList) = false → lawOne s.data.toList u.data.toList p.data.toList hops = false) := fun h => lawOne_no2 h
  obtain ⟨r1, hr1⟩ : ∃ r, urlV u.data.toList = r := ⟨_, rfl⟩
  obtain ⟨r2, hr2⟩ : ∃ r, urlV p.data.toList = r := ⟨_, rfl⟩
  rw [hr1] at HU HSu HV1 HV2
  rw [hr2] at HP HSp HV1 HV3
  obtain ⟨o1, ho1⟩ : ∃ b, isOk r1 = b := ⟨_, rfl⟩
  obtain ⟨o2, ho2⟩ : ∃ b, isOk r2 = b := ⟨_, rfl⟩
  unfold UPost at HU HP
  rw [ho1] at HU HV1 HV2
  rw [ho2] at HP HV1 HV3
  obtain ⟨A, hA⟩ : ∃ A, adrOf r1 = A := ⟨_, rfl⟩
  obtain ⟨B, hB⟩ : ∃ A, adrOf r2 = A := ⟨_, rfl⟩
  rw [hA] at HU HSu HV1
  rw [hB] at HP HSp HV1
  have HG := hid hg
  obtain ⟨lo, hlo⟩ : ∃ b, lawOne s.data.toList u.data.toList p.data.toList hops = b := ⟨_, rfl⟩
  rw [hlo] at HV1 HV2 HV3
  rw [hlo]
  clear hr1 hr2 ho1 ho2 hA hB hg hu hp hlo
  go_enter Tryz.func30, Tryz.ntmps30
  go_wp2_with fail
  refine (HU.out _).mono ?_
  rintro e w1 ⟨uv, rfl, hown1, hb1⟩
  have hS1 := HSu.out _ _ _ hown1
  obtain ⟨ua, un, uc, rfl⟩ := hS1.1.sl
  obtain ⟨u0, u1, u2, u3, u4, u5, u6, u8, u9, u10, u11, hx, -, -, -, -⟩ := adr_named A ua un uc
  have hva : adrVal A (.slice ua un uc) = .agg #[.string u0, .string u1, .string u2, .string u3, .bool u4, .int .i64 u5, .bool u6, .slice ua un uc, .string u8, .string u9, .bool u10, .bool u11] := by unfold adrVal; rw [hx]
  rw [hva]
  obtain ⟨W2, hW2⟩ : ∃ W2, (w1.alloc (.cells #[.string u0, .string u1, .string u2, .string u3, .bool u4, .int .i64 u5, .bool u6, .slice ua un uc, .string u8, .string u9, .bool u10, .bool u11] 45)) = W2 := ⟨_, rfl⟩
  have hb2 : Below w1.heap.size w1 W2 := by rw [← hW2]; exact (Below.refl _ w1).alloc (Nat.le_refl _) _
  have hA2 : AdrIn W2 w1.heap.size A (.slice ua un uc) := by
    unfold AdrIn
    rw [hx, ← hW2]
    exact heap_alloc_new w1 _
  have HA2 := hid hA2
  have HX := hid hx
  have HVA := hid hva
  have HS1 := hid (And.intro (hS1.1.kept hb2) hS1.2)
  have HB2 := hid (below2 hb1 hb2)
  clear hS1 hown1 hb1 hb2 hA2 hx hva
  go_wp2_with fail
  refine (HP.out _).mono ?_
  rintro e w3 ⟨pv, rfl, hown3, hb3⟩
  have hS3 := HSp.out _ _ _ hown3
  obtain ⟨pa, pn, pc, rfl⟩ := hS3.1.sl
  obtain ⟨p0, p1, p2, p3, p4, p5, p6, p8, p9, p10, p11, hy, -, -, -, -⟩ := adr_named B pa pn pc
  have hvb : adrVal B (.slice pa pn pc) = .agg #[.string p0, .string p1, .string p2, .string p3, .bool p4, .int .i64 p5, .bool p6, .slice pa pn pc, .string p8, .string p9, .bool p10, .bool p11] := by unfold adrVal; rw [hy]
  rw [hvb]
  obtain ⟨W4, hW4⟩ : ∃ W4, (w3.alloc (.cells #[.string p0, .string p1, .string p2, .string p3, .bool p4, .int .i64 p5, .bool p6, .slice pa pn pc, .string p8, .string p9, .bool p10, .bool p11] 45)) = W4 := ⟨_, rfl⟩
  have hb4 : Below w3.heap.size w3 W4 := by rw [← hW4]; exact (Below.refl _ w3).alloc (Nat.le_refl _) _
  have hA4 : AdrIn W4 w3.heap.size B (.slice pa pn pc) := by
    unfold AdrIn
    rw [hy, ← hW4]
    exact heap_alloc_new w3 _
  have hb34 := below2 hb3 hb4
  have HB4 := hid (below2 HB2.out hb34)
  have hA24 := HA2.out.kept hb34
  have HU4 := hid (HS1.out.1.kept hb34)
  have HP4 := hid (hS3.1.kept hb4)
  have HRu := hid (show W4.rangeAt w1.heap.size 0 [.string u0, .string u1, .string u2, .string u3, .bool u4, .int .i64 u5, .bool u6, .slice ua un uc, .string u8, .string u9, .bool u10, .bool u11] by
    have := range_row (show W4.heap[w1.heap.size]? = some (.cells (adrCells A (.slice ua un uc)).toArray 45 (0, 0)) from hA24)
    rw [HX.out] at this
    exact this)
  have HRp := hid (show W4.rangeAt w3.heap.size 0 [.string p0, .string p1, .string p2, .string p3, .bool p4, .int .i64 p5, .bool p6, .slice pa pn pc, .string p8, .string p9, .bool p10, .bool p11] by
    have := range_row (show W4.heap[w3.heap.size]? = some (.cells (adrCells B (.slice pa pn pc)).toArray 45 (0, 0)) from hA4)
    rw [hy] at this
    exact this)
  have HOne := hid (one11_any s A B (.slice ua un uc) (.slice pa pn pc) hops W4 (HG.out.kept HB4.out) HU4.out HP4.out HS1.out.2 hs)
  rw [HVA.out, hvb] at HOne
  clear hS3 hown3 hb3 hb4 hA4 hb34 hA24 hy hvb
  have f1 : ∀ j v, [.string u0, .string u1, .string u2, .string u3, .bool u4, .int .i64 u5, .bool u6, .slice ua un uc, .string u8, .string u9, .bool u10, .bool u11][j]? = some v → W4.cell? ⟨w1.heap.size, j, none⟩ = some v := fun j v h => by
    have := HRu.out j v h
    rwa [Nat.zero_add] at this
  have f2 : ∀ j v, [.string p0, .string p1, .string p2, .string p3, .bool p4, .int .i64 p5, .bool p6, .slice pa pn pc, .string p8, .string p9, .bool p10, .bool p11][j]? = some v → W4.cell? ⟨w3.heap.size, j, none⟩ = some v := fun j v h => by
    have := HRp.out j v h
    rwa [Nat.zero_add] at this
  have y0 := f1 0 _ rfl
  have z0 := f2 0 _ rfl
  have y1 := f1 1 _ rfl
  have z1 := f2 1 _ rfl
  have y2 := f1 2 _ rfl
  have z2 := f2 2 _ rfl
  have y3 := f1 3 _ rfl
  have z3 := f2 3 _ rfl
  have y4 := f1 4 _ rfl
  have z4 := f2 4 _ rfl
  have y5 := f1 5 _ rfl
  have z5 := f2 5 _ rfl
  have y6 := f1 6 _ rfl
  have z6 := f2 6 _ rfl
  have y7 := f1 7 _ rfl
  have z7 := f2 7 _ rfl
  have y8 := f1 8 _ rfl
  have z8 := f2 8 _ rfl
  have y9 := f1 9 _ rfl
  have z9 := f2 9 _ rfl
  have y10 := f1 10 _ rfl
  have z10 := f2 10 _ rfl
  have y11 := f1 11 _ rfl
  have z11 := f2 11 _ rfl
  clear f1 f2
  cases o1 with
  | false =>
    go_wp2
    go_ret
    exact ⟨ret_bool (by rw [HV2.out (by first | rfl | trivial)] <;> rfl), HB4.out⟩
  | true =>
    cases o2 with
    | false =>
      go_wp2
      go_ret
      exact ⟨ret_bool (by rw [HV3.out (by first | rfl | trivial)] <;> rfl), HB4.out⟩
    | true =>
      go_wp2_with (go_at_call 34; refine HOne.out.mono ?_; rintro e w5 ⟨rfl, hb5⟩)
      go_ret
      exact ⟨ret_bool (by rw [HV1.out (by first | rfl | trivial) (by first | rfl | trivial)] <;> rfl), below2 HB4.out hb5⟩

end Go.Proofs.YtkhpemjjholneaaGreatDoor

namespace Go.Proofs.YtkhpemjjholneaaGreatDoor
open Go.RowKit

structure Three where
  (a b c : Nat)

/-- What sets words of one size apart from those of the other. -/
structure Kd where
  W : Nat
  R : Nat
  s0 : Three
  s1 : Three
  g0 : Three
  g1 : Three

structure St where
  (a b c d e f g h : Nat)

def St.list (s : St) : List Nat := [s.a, s.b, s.c, s.d, s.e, s.f, s.g, s.h]

def Kd.B (k : Kd) : Nat := k.W / 8

def Kd.size (k : Kd) : Nat := 16 * k.B

end Go.Proofs.YtkhpemjjholneaaGreatDoor

namespace Go.Proofs.YtkhpemjjholneaaGreatDoor
open Go.RowKit

theorem index_one_none9 (l : List UInt8) (c : UInt8) (h : c ∉ l) : Lib.index l [c] = -1 := by
  induction l with
  | nil => rfl
  | cons a l ih =>
    have ha : a ≠ c := fun e => h (by simp [e])
    have hl : c ∉ l := fun e => h (by simp [e])
    unfold Lib.index
    rw [ih hl]
    have : [c].isPrefixOf (a :: l) = false := by simp [List.isPrefixOf]; exact fun e => ha e.symm
    rw [this]; rfl

theorem index_one_some9 (a r : List UInt8) (c : UInt8) (h : c ∉ a) : Lib.index (a ++ c :: r) [c] = a.length := by
  induction a with
  | nil => unfold Lib.index; simp [List.isPrefixOf]
  | cons x a ih =>
    have hx : x ≠ c := fun e => h (by simp [e])
    have ha : c ∉ a := fun e => h (by simp [e])
    rw [List.cons_append]
    unfold Lib.index
    rw [ih ha]
    have : [c].isPrefixOf (x :: (a ++ c :: r)) = false := by simp [List.isPrefixOf]; exact fun e => hx e.symm
    rw [this]
    have h1 : ((a.length : Int) == -1) = false := by rw [beq_eq_false_iff_ne]; omega
    simp [h1]

theorem cut_none9 (l : List UInt8) (c : UInt8) (h : c ∉ l) : Lib.cut l [c] = (l, [], false) := by
  unfold Lib.cut
  rw [index_one_none9 l c h]; rfl

theorem cut_some9 (a r : List UInt8) (c : UInt8) (h : c ∉ a) : Lib.cut (a ++ c :: r) [c] = (a, r, true) := by
  unfold Lib.cut
  rw [index_one_some9 a r c h]
  simp

theorem first_split9 (c : UInt8) : ∀ l : List UInt8, c ∉ l ∨ ∃ a r, c ∉ a ∧ l = a ++ c :: r
  | [] => .inl (by simp)
  | x :: l => by
    by_cases hx : x = c
    · exact .inr ⟨[], l, by simp, by simp [hx]⟩
    · rcases first_split9 c l with h | ⟨a, r, ha, rfl⟩
      · exact .inl (by simp [h]; exact fun e => hx e.symm)
      · exact .inr ⟨x :: a, r, by simp [ha]; exact fun e => hx e.symm, rfl⟩

def part9 (c : UInt8) : List UInt8 → List UInt8 × List UInt8 × Bool
  | [] => ([], [], false)
  | x :: l => if x = c then ([], l, true) else (x :: (part9 c l).1, (part9 c l).2.1, (part9 c l).2.2)

theorem part_none9 (c : UInt8) : ∀ l : List UInt8, c ∉ l → part9 c l = (l, [], false)
  | [], _ => rfl
  | x :: l, h => by
    have hx : x ≠ c := fun e => h (by simp [e])
    have hl : c ∉ l := fun e => h (by simp [e])
    rw [part9, if_neg hx, part_none9 c l hl]

theorem part_some9 (c : UInt8) : ∀ (a r : List UInt8), c ∉ a → part9 c (a ++ c :: r) = (a, r, true)
  | [], r, _ => by rw [List.nil_append, part9, if_pos rfl]
  | x :: a, r, h => by
    have hx : x ≠ c := fun e => h (by simp [e])
    have hl : c ∉ a := fun e => h (by simp [e])
    rw [List.cons_append, part9, if_neg hx, part_some9 c a r hl]

theorem cut_part9 (c : UInt8) (l : List UInt8) : Lib.cut l [c] = part9 c l := by
  rcases first_split9 c l with h | ⟨a, r, h, rfl⟩
  · rw [cut_none9 l c h, part_none9 c l h]
  · rw [cut_some9 a r c h, part_some9 c a r h]

theorem cut_le9 (l sep : List UInt8) : (Lib.cut l sep).1.length ≤ l.length ∧ (Lib.cut l sep).2.1.length ≤ l.length := by
  unfold Lib.cut
  split
  · simp
    omega
  · simp

theorem part_le9 (c : UInt8) (l : List UInt8) : (part9 c l).1.length ≤ l.length ∧ (part9 c l).2.1.length ≤ l.length := by
  rw [← cut_part9]; exact cut_le9 l [c]

theorem o9get_bang (s : ByteArray) (i : Nat) (h : i < s.size) : s.get! i = s[i] := by
  show s.data[i]! = s.data[i]
  exact getElem!_pos s.data i h

set_option maxRecDepth 100000 in
theorem o9decode_skip (s : ByteArray) (i : Nat) (h : i < s.size) (ha : 128 ≤ (s[i]'h).toNat) : ∃ r n, Utf8.decode s i = (r, n) ∧ 128 ≤ r ∧ r ≤ 1114111 ∧ 1 ≤ n ∧ i + n ≤ s.size ∧ ∀ j, i ≤ j → j < i + n → 128 ≤ (s.get! j).toNat := by
  have h0 : 128 ≤ (s.get! i).toNat := by rw [o9get_bang s i h]; exact ha
  rw [Lib.decode_at]
  unfold Lib.decodeN
  rw [if_neg (by omega)]
  have one : ∀ j, i ≤ j → j < i + 1 → 128 ≤ (s.get! j).toNat := fun j h1 h2 => by
    have : j = i := by omega
    rw [this]; exact h0
  split
  · split
    · refine ⟨_, _, rfl, by omega, by omega, by omega, by omega, fun j h1 h2 => ?_⟩
      have : j = i ∨ j = i + 1 := by omega
      rcases this with rfl | rfl
      · exact h0
      · omega
    · exact ⟨_, _, rfl, by omega, by omega, by omega, by omega, one⟩
  · split
    · split
      · refine ⟨_, _, rfl, by omega, by omega, by omega, by omega, fun j h1 h2 => ?_⟩
        have : j = i ∨ j = i + 1 ∨ j = i + 2 := by omega
        rcases this with rfl | rfl | rfl
        · exact h0
        · omega
        · omega
      · exact ⟨_, _, rfl, by omega, by omega, by omega, by omega, one⟩
    · split
      · split
        · refine ⟨_, _, rfl, by omega, by omega, by omega, by omega, fun j h1 h2 => ?_⟩
          have : j = i ∨ j = i + 1 ∨ j = i + 2 ∨ j = i + 3 := by omega
          rcases this with rfl | rfl | rfl | rfl
          · exact h0
          · omega
          · omega
          · omega
        · exact ⟨_, _, rfl, by omega, by omega, by omega, by omega, one⟩
      · exact ⟨_, _, rfl, by omega, by omega, by omega, by omega, one⟩

/-- One of the five blanks. -/
def p9 (r : Nat) : Bool := r == 9 || r == 10 || r == 12 || r == 13 || r == 32

def bl9 (c : UInt8) : Bool := p9 c.toNat

/-- The words of a text, behind what was read of the first one. -/
def wdsF : List UInt8 → List UInt8 → List (List UInt8)
  | [], cur => if cur = [] then [] else [cur]
  | c :: r, cur => if bl9 c then (if cur = [] then wdsF r [] else cur :: wdsF r []) else wdsF r (cur ++ [c])

def words9 (l : List UInt8) : List (List UInt8) := wdsF l []

theorem wds_skip : ∀ (x r cur : List UInt8), (∀ c ∈ x, bl9 c = false) → wdsF (x ++ r) cur = wdsF r (cur ++ x)
  | [], r, cur, _ => by simp
  | c :: x, r, cur, h => by
    rw [List.cons_append, wdsF, if_neg (by rw [h c (by simp)]; decide), wds_skip x r _ (fun d hd => h d (by simp [hd]))]
    simp

theorem p9_high (r : Nat) (h : 128 ≤ r) : p9 r = false := by
  unfold p9
  simp
  omega

def ext9 (s : ByteArray) (x : Nat × Nat) : List UInt8 := (s.data.toList.drop x.1).take (x.2 - x.1)

def cur9 (s : ByteArray) (pos : Nat) : Option Nat → List UInt8
  | some a => (s.data.toList.drop a).take (pos - a)
  | none => []

theorem cur_more (s : ByteArray) (a pos n : Nat) (ha : a ≤ pos) : (s.data.toList.drop a).take (pos + n - a) = (s.data.toList.drop a).take (pos - a) ++ (s.data.toList.drop pos).take n := by
  rw [show pos + n - a = (pos - a) + n by omega, List.take_add, List.drop_drop, show a + (pos - a) = pos by omega]

theorem spans_end (s : ByteArray) (pos : Nat) (st : Option Nat) (acc : List (Nat × Nat)) (hp : s.size ≤ pos) (hpos : pos ≤ s.size) (hst : ∀ a, st = some a → a < pos) :
    (Lib.closeSpans s (acc, st)).map (ext9 s) = acc.map (ext9 s) ++ wdsF (s.data.toList.drop pos) (cur9 s pos st) := by
  have hsz : s.data.toList.length = s.size := (Lib.size_eq s).symm
  rw [List.drop_eq_nil_of_le (by omega)]
  obtain rfl : pos = s.size := by omega
  cases st with
  | none => simp [Lib.closeSpans, wdsF, cur9]
  | some a =>
    have ha := hst a rfl
    have hne : (s.data.toList.drop a).take (s.size - a) ≠ [] := by
      intro h
      have := congrArg List.length h
      rw [List.length_take, List.length_drop, hsz] at this
      simp at this
      omega
    simp only [Lib.closeSpans, List.map_append, List.map_cons, List.map_nil]
    unfold wdsF cur9
    rw [if_neg hne]
    rfl

theorem spans_words (s : ByteArray) : ∀ (f pos : Nat) (st : Option Nat) (acc : List (Nat × Nat)), s.size - pos ≤ f → pos ≤ s.size → (∀ a, st = some a → a < pos) →
    (Lib.closeSpans s (Lib.spansFromP p9 s f pos st acc)).map (ext9 s) = acc.map (ext9 s) ++ wdsF (s.data.toList.drop pos) (cur9 s pos st)
  | 0, pos, st, acc, hf, hpos, hst => spans_end s pos st acc (by omega) hpos hst
  | f + 1, pos, st, acc, hf, hpos, hst => by
    by_cases hlt : pos < s.size
    · have hsz : s.data.toList.length = s.size := (Lib.size_eq s).symm
      have hd : s.data.toList.drop pos = s[pos] :: s.data.toList.drop (pos + 1) := by
        rw [List.drop_eq_getElem_cons (by omega)]
        rfl
      unfold Lib.spansFromP
      rw [if_pos hlt]
      by_cases hb : s[pos].toNat < 128
      · have hdec : Utf8.decode s pos = (s[pos].toNat, 1) := by
          rw [Lib.decode_at, o9get_bang s pos hlt]
          simp [Lib.decodeN, hb]
        rw [hdec]
        dsimp only
        by_cases hbl : p9 s[pos].toNat = true
        · rw [if_pos hbl]
          cases st with
          | none =>
            dsimp only
            rw [spans_words s f (pos + 1) none acc (by omega) (by omega) (fun a h => by cases h), hd, wdsF, if_pos (show bl9 s[pos] = true from hbl)]
            simp [cur9]
          | some a =>
            dsimp only
            have ha := hst a rfl
            have hne : (s.data.toList.drop a).take (pos - a) ≠ [] := by
              intro h
              have := congrArg List.length h
              rw [List.length_take, List.length_drop, hsz] at this
              simp at this
              omega
            rw [spans_words s f (pos + 1) none (acc ++ [(a, pos)]) (by omega) (by omega) (fun a h => by cases h), hd, wdsF, if_pos (show bl9 s[pos] = true from hbl)]
            unfold cur9
            rw [if_neg hne, List.map_append, List.append_assoc]
            rfl
        · rw [if_neg hbl]
          have hbf : bl9 s[pos] = false := by simpa [bl9] using hbl
          have hstep : ∀ a, a ≤ pos → wdsF (s.data.toList.drop pos) ((s.data.toList.drop a).take (pos - a)) = wdsF (s.data.toList.drop (pos + 1)) ((s.data.toList.drop a).take (pos + 1 - a)) := fun a ha => by
            rw [cur_more s a pos 1 ha, hd, wdsF, if_neg (by rw [hbf]; decide)]
            rfl
          cases st with
          | none =>
            dsimp only
            rw [spans_words s f (pos + 1) (some pos) acc (by omega) (by omega) (fun a h => by cases h; omega)]
            have := hstep pos (Nat.le_refl _)
            rw [Nat.sub_self, List.take_zero] at this
            unfold cur9
            rw [this]
          | some a =>
            dsimp only
            have ha := hst a rfl
            rw [spans_words s f (pos + 1) (some a) acc (by omega) (by omega) (fun b h => by cases h; omega)]
            unfold cur9
            rw [hstep a (by omega)]
      · obtain ⟨r, n, hdec, hr, _, hn1, hn2, hj⟩ := o9decode_skip s pos hlt (by omega)
        rw [hdec]
        dsimp only
        rw [if_neg (by rw [p9_high r hr]; decide)]
        have hx : ∀ c ∈ (s.data.toList.drop pos).take n, bl9 c = false := by
          intro c hc
          obtain ⟨k, hk, rfl⟩ := List.getElem_of_mem hc
          rw [List.length_take, List.length_drop, hsz] at hk
          have h1 := hj (pos + k) (by omega) (by omega)
          rw [o9get_bang s (pos + k) (by omega)] at h1
          unfold bl9
          rw [List.getElem_take, List.getElem_drop]
          exact p9_high _ h1
        have hstep : ∀ a, a ≤ pos → wdsF (s.data.toList.drop pos) ((s.data.toList.drop a).take (pos - a)) = wdsF (s.data.toList.drop (pos + n)) ((s.data.toList.drop a).take (pos + n - a)) := fun a ha => by
          rw [cur_more s a pos n ha, ← wds_skip _ _ _ hx, ← List.drop_drop, List.take_append_drop]
        cases st with
        | none =>
          dsimp only
          rw [spans_words s f (pos + n) (some pos) acc (by omega) (by omega) (fun a h => by cases h; omega)]
          have := hstep pos (Nat.le_refl _)
          rw [Nat.sub_self, List.take_zero] at this
          unfold cur9
          rw [this]
        | some a =>
          dsimp only
          have ha := hst a rfl
          rw [spans_words s f (pos + n) (some a) acc (by omega) (by omega) (fun b h => by cases h; omega)]
          unfold cur9
          rw [hstep a (by omega)]
    · rw [Lib.spansFromP_end p9 s (f + 1) pos st acc hlt]
      exact spans_end s pos st acc (by omega) hpos hst

theorem fields_words (s : ByteArray) : Lib.goFieldsP p9 s = (words9 s.data.toList).map fun x => ⟨x.toArray⟩ := by
  have h := spans_words s s.size 0 none [] (by omega) (by omega) (fun a h => by cases h)
  rw [List.drop_zero] at h
  have h2 : words9 s.data.toList = (Lib.spansOfP p9 s).map (ext9 s) := by
    rw [Lib.spansOfP, h]; rfl
  rw [h2, List.map_map]
  unfold Lib.goFieldsP
  apply List.map_congr_left
  intro x _
  show s.extract x.1 x.2 = ⟨(ext9 s x).toArray⟩
  rw [← Lib.mk_data (s.extract x.1 x.2)]
  congr 2
  rw [← ByteArray.toList_eq, Lib.extract_toList]
  rfl

theorem wds_len : ∀ (l cur : List UInt8), (wdsF l cur).length ≤ l.length + 1 ∧ ∀ x ∈ wdsF l cur, x.length ≤ cur.length + l.length
  | [], cur => by
    unfold wdsF
    split
    · simp
    · simp
  | c :: r, cur => by
    unfold wdsF
    split
    · split
      · have := wds_len r []
        refine ⟨by have := this.1; simp only [List.length_cons]; omega, fun x hx => ?_⟩
        have := this.2 x hx
        simp only [List.length_cons, List.length_nil] at this ⊢
        omega
      · have := wds_len r []
        refine ⟨by have := this.1; simp only [List.length_cons]; omega, fun x hx => ?_⟩
        rcases List.mem_cons.1 hx with rfl | hx
        · simp only [List.length_cons]; omega
        · have := this.2 x hx
          simp only [List.length_cons, List.length_nil] at this ⊢
          omega
    · have := wds_len r (cur ++ [c])
      refine ⟨by have := this.1; simp only [List.length_cons]; omega, fun x hx => ?_⟩
      have := this.2 x hx
      simp only [List.length_append, List.length_cons, List.length_nil] at this ⊢
      omega

structure It where
  bits : Int
  want : List UInt8
  opt : List UInt8

def sha2 : List UInt8 := [115, 104, 97, 50, 53, 54]

def sha3 : List UInt8 := [115, 104, 97, 51, 56, 52]

def sha5 : List UInt8 := [115, 104, 97, 53, 49, 50]

/-- Of a name; 0: none. -/
def bitsV (n : List UInt8) : Int := if low n = sha2 then 256 else if low n = sha3 then 384 else if low n = sha5 then 512 else 0

def nameV9 (x : List UInt8) : List UInt8 := (part9 45 (part9 63 x).1).1

def wantV9 (x : List UInt8) : List UInt8 := (part9 45 (part9 63 x).1).2.1

def optV9 (x : List UInt8) : List UInt8 := (part9 63 x).2.1

def okV9 (x : List UInt8) : Bool := (part9 45 (part9 63 x).1).2.2 && bitsV (nameV9 x) != 0

def itemV (x : List UInt8) : Option It := if okV9 x then some ⟨bitsV (nameV9 x), wantV9 x, optV9 x⟩ else none

def parse9 (l : List UInt8) : List It := (words9 l).filterMap itemV

end Go.Proofs.YtkhpemjjholneaaGreatDoor

namespace Go.Proofs.YtkhpemjjholneaaGreatDoor
open Go.RowKit

theorem kept_cell {w w' : World} {a : Addr} {v : Value} (h : w.cell? a = some v) (hb : Below w.heap.size w w') : w'.cell? a = some v := (hb.cell (World.block_lt_of_cell? w _ h)).trans h

end Go.Proofs.YtkhpemjjholneaaGreatDoor

namespace Go.Proofs.YtkhpemjjholneaaGreatDoor
open Go.RowKit

def itC (x : It) : List Value := [.int .i64 x.bits, .string ⟨x.want.toArray⟩, .string ⟨x.opt.toArray⟩]

def cellsI9 (L : List It) : List Value := L.flatMap itC

theorem cellsI_app9 (a b : List It) : cellsI9 (a ++ b) = cellsI9 a ++ cellsI9 b := by simp [cellsI9]

/-- The value v reads as the items L. -/
def ItAt (w : World) (v : Value) (L : List It) : Prop :=
  ∃ a cap, v = .slice a L.length cap ∧ L.length ≤ cap ∧ cap ≤ maxLen ∧ ∀ j (hj : j < L.length), ∃ b off, a = some ⟨b, off, none⟩ ∧ w.cell? ⟨b, off + j * 3, none⟩ = some (.int .i64 L[j].bits) ∧ w.cell? ⟨b, off + j * 3 + 1, none⟩ = some (.string ⟨L[j].want.toArray⟩) ∧ w.cell? ⟨b, off + j * 3 + 2, none⟩ = some (.string ⟨L[j].opt.toArray⟩)

theorem ItAt.view {w : World} {v : Value} {L : List It} (h : ItAt w v L) : ∃ a cap, v = .slice a L.length cap ∧ L.length ≤ cap ∧ cap ≤ maxLen ∧ ∀ j (hj : j < L.length), ∃ b off, a = some ⟨b, off, none⟩ ∧ w.cell? ⟨b, off + j * 3, none⟩ = some (.int .i64 L[j].bits) ∧ w.cell? ⟨b, off + j * 3 + 1, none⟩ = some (.string ⟨L[j].want.toArray⟩) ∧ w.cell? ⟨b, off + j * 3 + 2, none⟩ = some (.string ⟨L[j].opt.toArray⟩) := h

theorem ItAt.kept {w w' : World} {v : Value} {L : List It} (h : ItAt w v L) (hb : Below w.heap.size w w') : ItAt w' v L := by
  obtain ⟨a, cap, h1, h2, h3, h4⟩ := h
  refine ⟨a, cap, h1, h2, h3, fun j hj => ?_⟩
  obtain ⟨b, off, e, c1, c2, c3⟩ := h4 j hj
  exact ⟨b, off, e, kept_cell c1 hb, kept_cell c2 hb, kept_cell c3 hb⟩

def Gm (w : World) : Prop := ∃ m, w.cell? ⟨0, 0, none⟩ = some (.int .i64 m)

theorem Gm.kept {w w' : World} (h : Gm w) (hb : Below w.heap.size w w') : Gm w' := by
  obtain ⟨m, hm⟩ := h
  exact ⟨m, kept_cell hm hb⟩

theorem beq_no9 (a : ByteArray) (l : List UInt8) (h : a.data.toList ≠ l) : (a.toList == l) = false := by
  rw [Lib.toList_data, beq_eq_false_iff_ne]; exact h

theorem beq_yes9 (a : ByteArray) (l : List UInt8) (h : a.data.toList = l) : (a.toList == l) = true := by
  rw [Lib.toList_data, h]; exact beq_self_eq_true _

theorem cut9 (s : ByteArray) (c : UInt8) (w : World) (hg : Gm w) (hs : s.size ≤ 4000000000) :
    Calls Tryz.prog 47 #[.string s, .string ⟨#[c]⟩] w fun e w' => e = .returned (.tuple #[.string ⟨(part9 c s.data.toList).1.toArray⟩, .string ⟨(part9 c s.data.toList).2.1.toArray⟩, .bool (part9 c s.data.toList).2.2]) ∧ Below w.heap.size w w' := by
  obtain ⟨m, hm⟩ := hg
  have h := Tryz.strings_Cut s ⟨#[c]⟩ m w (by omega) hm
  rw [show (⟨#[c]⟩ : ByteArray).data.toList = [c] from rfl, cut_part9] at h
  refine h.mono ?_
  rintro e w' ⟨rfl, n, rfl⟩
  exact ⟨rfl, Go.below_drewN (Below.refl _ _) n⟩

set_option maxHeartbeats 400000 in
theorem blank9_any (x : Nat) (w : World) : Calls Tryz.prog 143 #[.int .i32 (x : Int)] w fun e w' => e = .returned (.bool (p9 x)) ∧ w = w' := by
  by_cases h : p9 x = true
  · have h' : x = 9 ∨ x = 10 ∨ x = 12 ∨ x = 13 ∨ x = 32 := by unfold p9 at h; simp at h; omega
    clear h
    rcases h' with rfl | rfl | rfl | rfl | rfl <;>
      (go_enter Tryz.func143, Tryz.ntmps143
       go_wp2
       go_ret
       exact ⟨rfl, rfl⟩)
  · have HP := hid (show p9 x = false by simpa using h)
    have h' : x ≠ 9 ∧ x ≠ 10 ∧ x ≠ 12 ∧ x ≠ 13 ∧ x ≠ 32 := by unfold p9 at h; simp at h; omega
    have e1 : ((x : Int) == 9) = false := by rw [beq_eq_false_iff_ne]; omega
    have e2 : ((x : Int) == 10) = false := by rw [beq_eq_false_iff_ne]; omega
    have e3 : ((x : Int) == 12) = false := by rw [beq_eq_false_iff_ne]; omega
    have e4 : ((x : Int) == 13) = false := by rw [beq_eq_false_iff_ne]; omega
    have e5 : ((x : Int) == 32) = false := by rw [beq_eq_false_iff_ne]; omega
    clear h h'
    go_enter Tryz.func143, Tryz.ntmps143
    go_wp2
    go_ret
    rw [HP.out]
    exact ⟨rfl, rfl⟩

theorem ret_nb9 {a b : Int} {x y : Bool} (h : a = b) (g : x = y) : Ending.returned (.tuple #[.int .i64 a, .bool x]) = .returned (.tuple #[.int .i64 b, .bool y]) := by rw [h, g]

set_option maxHeartbeats 1000000 in
theorem size9_any (s : ByteArray) (w : World) (hs : s.size ≤ 4000000000) :
    Calls Tryz.prog 186 #[.string s] w fun e w' => e = .returned (.tuple #[.int .i64 (bitsV s.data.toList), .bool (bitsV s.data.toList != 0)]) ∧ Below w.heap.size w w' := by
  obtain ⟨L, hL⟩ : ∃ L : ByteArray, L = ⟨(low s.data.toList).toArray⟩ := ⟨_, rfl⟩
  have HLw := hid (show Calls Tryz.prog 126 #[.string s] w fun e w' => e = .returned (.string L) ∧ Below w.heap.size w w' by rw [hL]; exact lower_any s w (by omega))
  have hLl : L.data.toList = low s.data.toList := by rw [hL]
  by_cases h1 : low s.data.toList = sha2
  · have HN := hid (show bitsV s.data.toList = 256 by unfold bitsV; rw [if_pos h1])
    have e1 := beq_yes9 L [115, 104, 97, 50, 53, 54] (hLl.trans h1)
    clear h1 hL hLl
    go_enter Tryz.func186, Tryz.ntmps186
    go_wp2_with fail
    refine HLw.out.mono ?_
    rintro e w1 ⟨rfl, hb⟩
    have HB := hid hb
    go_wp2_with fail
    go_ret2
    exact ⟨ret_nb9 HN.out.symm (by rw [HN.out]; rfl), HB.out⟩
  · have e1 := beq_no9 L [115, 104, 97, 50, 53, 54] (fun h => h1 (hLl.symm.trans h))
    by_cases h2 : low s.data.toList = sha3
    · have HN := hid (show bitsV s.data.toList = 384 by unfold bitsV; rw [if_neg h1, if_pos h2])
      have e2 := beq_yes9 L [115, 104, 97, 51, 56, 52] (hLl.trans h2)
      clear h1 h2 hL hLl
      go_enter Tryz.func186, Tryz.ntmps186
      go_wp2_with fail
      refine HLw.out.mono ?_
      rintro e w1 ⟨rfl, hb⟩
      have HB := hid hb
      go_wp2_with fail
      go_ret2
      exact ⟨ret_nb9 HN.out.symm (by rw [HN.out]; rfl), HB.out⟩
    · have e2 := beq_no9 L [115, 104, 97, 51, 56, 52] (fun h => h2 (hLl.symm.trans h))
      by_cases h3 : low s.data.toList = sha5
      · have HN := hid (show bitsV s.data.toList = 512 by unfold bitsV; rw [if_neg h1, if_neg h2, if_pos h3])
        have e3 := beq_yes9 L [115, 104, 97, 53, 49, 50] (hLl.trans h3)
        clear h1 h2 h3 hL hLl
        go_enter Tryz.func186, Tryz.ntmps186
        go_wp2_with fail
        refine HLw.out.mono ?_
        rintro e w1 ⟨rfl, hb⟩
        have HB := hid hb
        go_wp2_with fail
        go_ret2
        exact ⟨ret_nb9 HN.out.symm (by rw [HN.out]; rfl), HB.out⟩
      · have HN := hid (show bitsV s.data.toList = 0 by unfold bitsV; rw [if_neg h1, if_neg h2, if_neg h3])
        have e3 := beq_no9 L [115, 104, 97, 53, 49, 50] (fun h => h3 (hLl.symm.trans h))
        clear h1 h2 h3 hL hLl
        go_enter Tryz.func186, Tryz.ntmps186
        go_wp2_with fail
        refine HLw.out.mono ?_
        rintro e w1 ⟨rfl, hb⟩
        have HB := hid hb
        go_wp2_with fail
        go_ret2
        exact ⟨ret_nb9 HN.out.symm (by rw [HN.out]; rfl), HB.out⟩

def itVal (x : It) : Value := .agg (itC x).toArray

def ItmPost (l : List UInt8) (w : World) (e : Ending) (w' : World) : Prop :=
  e = .returned (.tuple #[(match itemV l with | some x => itVal x | none => .agg #[.int .i64 0, .string ⟨#[]⟩, .string ⟨#[]⟩]), .bool (itemV l).isSome]) ∧ Below w.heap.size w w'

def TriI (w : World) (b : Nat) (n : Int) (v o : ByteArray) : Prop := w.heap[b]? = some (.cells #[.int .i64 n, .string v, .string o] 108 (0, 0))

theorem TriI.lt {w : World} {b : Nat} {n : Int} {v o : ByteArray} (h : TriI w b n v o) : b < w.heap.size := (Array.getElem?_eq_some_iff.1 h).1

theorem TriI.range {w : World} {b : Nat} {n : Int} {v o : ByteArray} (h : TriI w b n v o) : w.rangeAt b 0 [.int .i64 n, .string v, .string o] := fun j u hu => by
  rw [Nat.zero_add, Lib.cell_of_heap h]
  match j, hu with
  | 0, hu => simpa using hu
  | 1, hu => simpa using hu
  | 2, hu => simpa using hu
  | j + 3, hu => simp at hu

theorem TriI.cells {w : World} {b : Nat} {n : Int} {v o : ByteArray} (h : TriI w b n v o) : w.cell? ⟨b, 0, none⟩ = some (.int .i64 n) ∧ w.cell? ⟨b, 1, none⟩ = some (.string v) ∧ w.cell? ⟨b, 2, none⟩ = some (.string o) ∧ w.frozen? ⟨b, 0, none⟩ = false ∧ w.frozen? ⟨b, 1, none⟩ = false ∧ w.frozen? ⟨b, 2, none⟩ = false :=
  ⟨by rw [Lib.cell_of_heap h]; rfl, by rw [Lib.cell_of_heap h]; rfl, by rw [Lib.cell_of_heap h]; rfl, Lib.frozen_of_heap h 0, Lib.frozen_of_heap h 1, Lib.frozen_of_heap h 2⟩

theorem TriI.kept {w w' : World} {b : Nat} {n : Int} {v o : ByteArray} (h : TriI w b n v o) (hb : Below w.heap.size w w') : TriI w' b n v o := row_kept h hb

theorem TriI.set {w : World} {b : Nat} {n n' : Int} {v v' o o' : ByteArray} (h : TriI w b n v o) : TriI (((w.setCell ⟨b, 0, none⟩ (.int .i64 n')).setCell ⟨b, 1, none⟩ (.string v')).setCell ⟨b, 2, none⟩ (.string o')) b n' v' o' := by
  have h1 := Lib.heap_setCell_same h (i := 0) (.int .i64 n')
  have h2 := Lib.heap_setCell_same h1 (i := 1) (.string v')
  have h3 := Lib.heap_setCell_same h2 (i := 2) (.string o')
  unfold TriI
  rw [h3]
  rfl

theorem below_set3 {B : Nat} {w0 w : World} {b : Nat} {x y z : Value} (h : Below B w0 w) (hb : B ≤ b) : Below B w0 (((w.setCell ⟨b, 0, none⟩ x).setCell ⟨b, 1, none⟩ y).setCell ⟨b, 2, none⟩ z) :=
  ((h.setCell (p := ⟨b, 0, none⟩) hb x).setCell (p := ⟨b, 1, none⟩) hb y).setCell (p := ⟨b, 2, none⟩) hb z

theorem results_i2 {fn : Func} {p q : Tmp} (h : fn.results = #[.cell p 108, .tmp q]) (tmps : Array Value) (w : World) (b : Nat) (n : Int) (v o : ByteArray) (hp : tmps.getD p undef = .pointer (some ⟨b, 0, none⟩)) (hc : w.rangeAt b 0 [.int .i64 n, .string v, .string o]) : (results fn tmps).run Tryz.prog w = .ok (.tuple #[.agg #[.int .i64 n, .string v, .string o], tmps.getD q undef]) w := by
  rw [Array.getD_eq_getD_getElem?] at hp
  simp only [results, h]
  simp [Sem.run_bind, Result.andThen, hp, asAddr, run_loadVar_mid w b 0 108 [.int .i64 n, .string v, .string o] _ hc Tryz.underlying108 rfl (by kernel_rfl)]

set_option maxHeartbeats 2000000 in
theorem item9_any (s : ByteArray) (w : World) (hg : Gm w) (hs : s.size ≤ 4000000000) :
    Calls Tryz.prog 144 #[.string s] w (ItmPost s.data.toList w) := by
  have hp1 := part_le9 63 s.data.toList
  have hp2 := part_le9 45 (part9 63 s.data.toList).1
  obtain ⟨A, hA⟩ : ∃ A : ByteArray, A = ⟨(part9 63 s.data.toList).1.toArray⟩ := ⟨_, rfl⟩
  obtain ⟨O, hO⟩ : ∃ A : ByteArray, A = ⟨(part9 63 s.data.toList).2.1.toArray⟩ := ⟨_, rfl⟩
  have hAl : A.data.toList = (part9 63 s.data.toList).1 := by rw [hA]
  obtain ⟨N, hN⟩ : ∃ A' : ByteArray, A' = ⟨(part9 45 A.data.toList).1.toArray⟩ := ⟨_, rfl⟩
  obtain ⟨V, hV⟩ : ∃ A' : ByteArray, A' = ⟨(part9 45 A.data.toList).2.1.toArray⟩ := ⟨_, rfl⟩
  obtain ⟨d, hd⟩ : ∃ d, d = (part9 45 A.data.toList).2.2 := ⟨_, rfl⟩
  have hNl : N.data.toList = nameV9 s.data.toList := by rw [hN]; show (part9 45 A.data.toList).1 = _; rw [hAl]; rfl
  have hAs : A.size ≤ 4000000000 := by rw [Lib.size_eq, hAl]; rw [Lib.size_eq] at hs; omega
  have hNs : N.size ≤ 4000000000 := by rw [Lib.size_eq, hN]; show (part9 45 A.data.toList).1.length ≤ _; rw [hAl]; rw [Lib.size_eq] at hs; omega
  obtain ⟨q, hq⟩ : ∃ q, q = (part9 63 s.data.toList).2.2 := ⟨_, rfl⟩
  have HC1 := hid (show ∀ X, Below w.heap.size w X → Calls Tryz.prog 47 #[.string s, .string ⟨#[63]⟩] X fun e w' => e = .returned (.tuple #[.string A, .string O, .bool q]) ∧ Below X.heap.size X w' from fun X hX => by rw [hA, hO, hq]; exact cut9 s 63 X (hg.kept hX) hs)
  have HC2 := hid (show ∀ X, Below w.heap.size w X → Calls Tryz.prog 47 #[.string A, .string ⟨#[45]⟩] X fun e w' => e = .returned (.tuple #[.string N, .string V, .bool d]) ∧ Below X.heap.size X w' from fun X hX => by rw [hN, hV, hd]; exact cut9 A 45 X (hg.kept hX) hAs)
  obtain ⟨b, hb⟩ : ∃ b, b = bitsV N.data.toList := ⟨_, rfl⟩
  obtain ⟨k, hk⟩ : ∃ k, k = (bitsV N.data.toList != 0) := ⟨_, rfl⟩
  have HSZ := hid (show ∀ X, Calls Tryz.prog 186 #[.string N] X fun e w' => e = .returned (.tuple #[.int .i64 b, .bool k]) ∧ Below X.heap.size X w' from fun X => by rw [hb, hk]; exact size9_any N X hNs)
  have HOK := hid (show okV9 s.data.toList = (d && k) by unfold okV9; rw [hd, hk, hNl, hAl])
  have HIT := hid (show (⟨bitsV (nameV9 s.data.toList), wantV9 s.data.toList, optV9 s.data.toList⟩ : It) = ⟨b, V.data.toList, O.data.toList⟩ by
    rw [hb, hNl, hV, hO, hAl]; rfl)
  clear hp1 hp2 hA hO hAl hN hV hd hNl hAs hNs hq hb hk hg
  have hfin : (d && k) = true ∨ (d && k) = false := by cases (d && k) <;> simp
  rcases hfin with hf | hf
  · have HI := hid (show itemV s.data.toList = some ⟨b, V.data.toList, O.data.toList⟩ by unfold itemV; rw [HOK.out, hf, if_pos rfl, HIT.out])
    obtain ⟨rfl, rfl⟩ : d = true ∧ k = true := by simpa using hf
    clear hf HOK HIT
    go_enter Tryz.func144, Tryz.ntmps144
    go_wp2_with fail
    refine (HC1.out _ ((Below.refl _ w).alloc (Nat.le_refl _) _)).mono ?_
    rintro e w1 ⟨rfl, hb1⟩
    have HB1 := hid (below2 ((Below.refl _ w).alloc (Nat.le_refl _) _) hb1)
    have HR1 := hid (row_kept (heap_alloc_new w _) hb1)
    clear hb1
    go_wp2_with fail
    refine (HC2.out _ HB1.out).mono ?_
    rintro e w2 ⟨rfl, hb2⟩
    have HB2 := hid (below2 HB1.out hb2)
    have HR2 := hid (row_kept HR1.out hb2)
    clear hb2 HR1
    go_wp2_with fail
    refine (HSZ.out _).mono ?_
    rintro e w3 ⟨rfl, hb3⟩
    have HB3 := hid (below2 HB2.out hb3)
    have HR3 := hid (row_kept HR2.out hb3)
    clear hb3 HR2
    obtain ⟨c0, c1, c2, z0, z1, z2⟩ := TriI.cells HR3.out
    go_wp2_with fail
    refine bodyPost_ret (results_i2 rfl _ _ w.heap.size b V O rfl (TriI.set HR3.out).range) rfl ⟨?_, below_set3 HB3.out (Nat.le_refl _)⟩
    rw [HI.out]
    show _ = Ending.returned (.tuple #[.agg #[.int .i64 b, .string ⟨V.data.toList.toArray⟩, .string ⟨O.data.toList.toArray⟩], .bool true])
    rw [Lib.mk_data, Lib.mk_data]
    rfl
  · have HI := hid (show itemV s.data.toList = none by unfold itemV; rw [HOK.out, hf]; rfl)
    clear HOK HIT
    cases d with
    | false =>
      clear hf
      go_enter Tryz.func144, Tryz.ntmps144
      go_wp2_with fail
      refine (HC1.out _ ((Below.refl _ w).alloc (Nat.le_refl _) _)).mono ?_
      rintro e w1 ⟨rfl, hb1⟩
      have HB1 := hid (below2 ((Below.refl _ w).alloc (Nat.le_refl _) _) hb1)
      have HR1 := hid (row_kept (heap_alloc_new w _) hb1)
      clear hb1
      go_wp2_with fail
      refine (HC2.out _ HB1.out).mono ?_
      rintro e w2 ⟨rfl, hb2⟩
      have HB2 := hid (below2 HB1.out hb2)
      have HR2 := hid (row_kept HR1.out hb2)
      clear hb2 HR1
      go_wp2_with fail
      refine (HSZ.out _).mono ?_
      rintro e w3 ⟨rfl, hb3⟩
      have HB3 := hid (below2 HB2.out hb3)
      have HR3 := hid (row_kept HR2.out hb3)
      clear hb3 HR2
      obtain ⟨c0, c1, c2, z0, z1, z2⟩ := TriI.cells HR3.out
      go_wp2_with fail
      refine bodyPost_ret (results_i2 rfl _ _ w.heap.size 0 ⟨#[]⟩ ⟨#[]⟩ rfl (TriI.set HR3.out).range) rfl ⟨?_, below_set3 HB3.out (Nat.le_refl _)⟩
      rw [HI.out]
      rfl
    | true =>
      obtain rfl : k = false := by simpa using hf
      clear hf
      go_enter Tryz.func144, Tryz.ntmps144
      go_wp2_with fail
      refine (HC1.out _ ((Below.refl _ w).alloc (Nat.le_refl _) _)).mono ?_
      rintro e w1 ⟨rfl, hb1⟩
      have HB1 := hid (below2 ((Below.refl _ w).alloc (Nat.le_refl _) _) hb1)
      have HR1 := hid (row_kept (heap_alloc_new w _) hb1)
      clear hb1
      go_wp2_with fail
      refine (HC2.out _ HB1.out).mono ?_
      rintro e w2 ⟨rfl, hb2⟩
      have HB2 := hid (below2 HB1.out hb2)
      have HR2 := hid (row_kept HR1.out hb2)
      clear hb2 HR1
      go_wp2_with fail
      refine (HSZ.out _).mono ?_
      rintro e w3 ⟨rfl, hb3⟩
      have HB3 := hid (below2 HB2.out hb3)
      have HR3 := hid (row_kept HR2.out hb3)
      clear hb3 HR2
      obtain ⟨c0, c1, c2, z0, z1, z2⟩ := TriI.cells HR3.out
      go_wp2_with fail
      refine bodyPost_ret (results_i2 rfl _ _ w.heap.size 0 ⟨#[]⟩ ⟨#[]⟩ rfl (TriI.set HR3.out).range) rfl ⟨?_, below_set3 HB3.out (Nat.le_refl _)⟩
      rw [HI.out]
      rfl

end Go.Proofs.YtkhpemjjholneaaGreatDoor

namespace Go.Proofs.YtkhpemjjholneaaGreatDoor
open Go.RowKit

theorem infoIt : (Tryz.prog.info? 108).map (fun i => (i.zero, i.size, i.bytes)) = some (some (.agg #[.int .i64 0, .string ByteArray.empty, .string ByteArray.empty]), 3, 40) := by kernel_rfl

theorem enters_blank : ∀ args w, (callFunc 143 args).run Tryz.prog w = .ok (.enter 143 args) w := enters_of Tryz.func143 (by kernel_rfl) rfl

theorem fields9 (s : ByteArray) (w : World) (hs : s.size ≤ 4294967296) :
    Calls Tryz.prog 142 #[.string s, .func (.func 143) #[] #[]] w fun e w' => ∃ A, e = .returned (.slice (some ⟨A, 0, none⟩) (words9 s.data.toList).length (words9 s.data.toList).length) ∧
      (∀ j (hj : j < (words9 s.data.toList).length), w'.cell? ⟨A, j, none⟩ = some (.string ⟨(words9 s.data.toList)[j].toArray⟩)) ∧ Below w.heap.size w w' := by
  have h := Tryz.strings_FieldsFunc_runes 143 #[] enters_blank p9 s w hs (fun W x hx hb => by
    refine (blank9_any x W).mono ?_
    rintro e w' ⟨rfl, rfl⟩
    exact ⟨rfl, 0, rfl⟩)
  rw [fields_words, List.length_map, List.map_map] at h
  refine h.mono ?_
  rintro e w' ⟨A, rfl, hA, hown, hb⟩
  refine ⟨A, rfl, fun j hj => ?_, hb⟩
  rw [hown.cellAt j (by omega)]
  simp [hj]

theorem own_lower9 {w : World} {B B' : Nat} {e : TypeId} {size : Nat} {v : Value} {n : Nat} {xs : List Value} (h : w.ownsRow B e size v n xs) (hB : B' ≤ B) : w.ownsRow B' e size v n xs := by
  refine ⟨h.1, ?_⟩
  rcases h.2 with h | ⟨g, cap, cur, hv, h1, h2⟩
  · exact .inl h
  · exact .inr ⟨g, cap, cur, hv, by omega, h2⟩

def ParsePost9 (l : List UInt8) (w : World) (e : Ending) (w' : World) : Prop :=
  ∃ v, e = .returned v ∧ w'.ownsRow w.heap.size 108 3 v (parse9 l).length (cellsI9 (parse9 l)) ∧ Below w.heap.size w w'

theorem words_at (l : List UInt8) (k : Nat) (hk : k < (words9 l).length) : (words9 l)[k].length ≤ l.length := by
  have := (wds_len l []).2 _ (List.getElem_mem hk)
  simpa using this

set_option maxHeartbeats 4000000 in
set_option maxRecDepth 100000 in
theorem parse9_any (s : ByteArray) (w : World) (hg : Gm w) (hs : s.size ≤ 1000000000) :
    Calls Tryz.prog 90 #[.string s] w (ParsePost9 s.data.toList w) := by
  obtain ⟨i0, hi, hz0, hz1, hz2⟩ := info_parts infoIt
  obtain ⟨W, hW⟩ : ∃ W, W = words9 s.data.toList := ⟨_, rfl⟩
  have HWL := hid (show W.length ≤ 1000000001 by rw [hW]; have := (wds_len s.data.toList []).1; rw [← Lib.size_eq] at this; unfold words9; omega)
  have HWA := hid (show ∀ k (hk : k < W.length), W[k].length ≤ 1000000000 by subst hW; intro k hk; have := words_at s.data.toList k hk; rw [← Lib.size_eq] at this; omega)
  have HPE := hid (show parse9 s.data.toList = W.filterMap itemV by rw [hW]; rfl)
  have HG := hid hg
  obtain ⟨n, hn⟩ : ∃ n, n = W.length := ⟨_, rfl⟩
  have HN := hid hn
  have HF := hid (show Calls Tryz.prog 142 #[.string s, .func (.func 143) #[] #[]] w fun e w' => ∃ A, e = .returned (.slice (some ⟨A, 0, none⟩) n n) ∧ (∀ j (hj : j < W.length), w'.cell? ⟨A, j, none⟩ = some (.string ⟨W[j].toArray⟩)) ∧ Below w.heap.size w w' by
    subst hW
    rw [hn]
    exact fields9 s w (by omega))
  rw [← hn] at HWL
  clear hW hg hn
  go_enter Tryz.func90, Tryz.ntmps90
  go_wp2_with fail
  refine HF.out.mono ?_
  rintro e w1 ⟨A, rfl, hA, hb1⟩
  have HA := hid hA
  have HB1 := hid hb1
  clear hA hb1 HF
  have hnb : n ≤ 1000000001 := HWL.out
  go_wp2_with fail
  go_loopw [3, 11] (fun v3 v11 wr => ∃ k m : Nat, k ≤ n ∧ m ≤ k ∧ v11 = .int .i64 k ∧ Hid (m = ((W.take k).filterMap itemV).length ∧ wr.ownsRow w1.heap.size 108 3 v3 m (cellsI9 ((W.take k).filterMap itemV)) ∧ Below w1.heap.size w1 wr ∧ Below w.heap.size w wr)) (fun _ v11 _ => n - (intOf v11).toNat)
  case atStart => exact ⟨0, 0, Nat.zero_le _, Nat.zero_le _, rfl, rfl, World.ownsRow_nil _ _ _ _, Below.refl _ _, HB1.out⟩
  case round =>
    obtain ⟨k, m, hk, hmk, rfl, HR⟩ := hrel
    by_cases hlt : k < n
    · have hkW : k < W.length := by have := HN.out; omega
      obtain ⟨X, hX⟩ : ∃ X : ByteArray, X = ⟨W[k].toArray⟩ := ⟨_, rfl⟩
      have cA : wr.cell? ⟨A, k, none⟩ = some (.string X) := by rw [hX]; exact kept_cell (HA.out k hkW) HR.out.2.2.1
      have hXs : X.size ≤ 4000000000 := by have := HWA.out k hkW; rw [Lib.size_eq, hX]; show W[k].length ≤ _; omega
      have HT := hid (show (W.take (k + 1)).filterMap itemV = (W.take k).filterMap itemV ++ (match itemV X.data.toList with | some x => [x] | none => []) by
        rw [List.take_succ_eq_append_getElem hkW, List.filterMap_append, hX]
        congr 1
        show List.filterMap itemV [W[k]] = _
        cases h : itemV W[k] <;> simp [h])
      have HI := hid (item9_any X wr (HG.out.kept HR.out.2.2.2) hXs)
      have hin : (k : Int) < (n : Int) := by omega
      clear hX hXs hkW
      rcases hiv : itemV X.data.toList with _ | x
      · have HV := hid hiv
        have HI2 := hid (show Calls Tryz.prog 144 #[.string X] wr fun e w' => e = .returned (.tuple #[.agg #[.int .i64 0, .string ⟨#[]⟩, .string ⟨#[]⟩], .bool false]) ∧ Below wr.heap.size wr w' by
          refine HI.out.mono ?_
          rintro e w' ⟨rfl, hb⟩
          rw [HV.out]
          exact ⟨rfl, hb⟩)
        rw [HV.out] at HT
        clear hiv HI
        go_wp2_with fail
        refine HI2.out.mono ?_
        rintro e w2 ⟨rfl, hb2⟩
        have HB2 := hid hb2
        clear hb2
        go_wp2_with fail
        go_roundw
        case rel =>
          have hbw : Below wr.heap.size wr (w2.alloc (.cells #[.int .i64 0, .string ⟨#[]⟩, .string ⟨#[]⟩] 108)) := below2 HB2.out ((Below.refl _ _).alloc (Nat.le_refl _) _)
          have e3 := HR.out
          have e4 : (m = ((W.take (k + 1)).filterMap itemV).length ∧ (w2.alloc (.cells #[.int .i64 0, .string ⟨#[]⟩, .string ⟨#[]⟩] 108)).ownsRow w1.heap.size 108 3 u3 m (cellsI9 ((W.take (k + 1)).filterMap itemV)) ∧ Below w1.heap.size w1 (w2.alloc (.cells #[.int .i64 0, .string ⟨#[]⟩, .string ⟨#[]⟩] 108)) ∧ Below w.heap.size w (w2.alloc (.cells #[.int .i64 0, .string ⟨#[]⟩, .string ⟨#[]⟩] 108))) := by
            rw [HT.out, List.append_nil]
            exact ⟨e3.1, own_kept e3.2.1 hbw, below2 e3.2.2.1 hbw, below2 e3.2.2.2 hbw⟩
          first
            | exact ⟨k + 1, m, by omega, by omega, by go_num, e4⟩
            | ((repeat apply Exists.intro); refine ⟨?_, rfl⟩; exact ⟨k + 1, m, by omega, by omega, by go_num, e4⟩)
            | ((repeat apply Exists.intro); exact ⟨⟨k + 1, m, by omega, by omega, by go_num, e4⟩, rfl⟩)
        case measure => simp [intOf]; omega
      · have HV := hid hiv
        obtain ⟨b, hbx⟩ : ∃ b, b = x.bits := ⟨_, rfl⟩
        obtain ⟨V, hVx⟩ : ∃ V : ByteArray, V = ⟨x.want.toArray⟩ := ⟨_, rfl⟩
        obtain ⟨O, hOx⟩ : ∃ V : ByteArray, V = ⟨x.opt.toArray⟩ := ⟨_, rfl⟩
        have HI2 := hid (show Calls Tryz.prog 144 #[.string X] wr fun e w' => e = .returned (.tuple #[.agg #[.int .i64 b, .string V, .string O], .bool true]) ∧ Below wr.heap.size wr w' by
          refine HI.out.mono ?_
          rintro e w' ⟨rfl, hb⟩
          rw [HV.out, hbx, hVx, hOx]
          exact ⟨rfl, hb⟩)
        have HCE := hid (show cellsI9 [x] = [.int .i64 b, .string V, .string O] by rw [hbx, hVx, hOx]; rfl)
        rw [HV.out] at HT
        clear hiv HI hbx hVx hOx
        go_wp2_with fail
        refine HI2.out.mono ?_
        rintro e w2 ⟨rfl, hb2⟩
        have HB2 := hid hb2
        clear hb2
        have HX3 := hid (show Below wr.heap.size wr (w2.alloc (.cells #[.int .i64 b, .string V, .string O] 108)) from below2 HB2.out ((Below.refl _ _).alloc (Nat.le_refl _) _))
        have HO3 := hid (own_kept HR.out.2.1 HX3.out)
        have HSZ := hid (show w1.heap.size ≤ w2.heap.size from Nat.le_trans HR.out.2.2.1.size HB2.out.size)
        go_wp2_with (at_builtin; refine wpList_append_own _ rfl _ _ 105 rfl w1.heap.size 108 i0 _ 3 40 Tryz.underlying105 hi hz0 hz1 hz2 rfl (by decide) _ _ _ rfl (HO3.out.alloc _) ⟨w2.heap.size + 1, 0, none⟩ 1 1 [.int .i64 b, .string V, .string O] rfl rfl ?c1 ?c2 (by unfold maxLen; omega) (by omega) (by have := HSZ.out; simp; omega) ?_)
        case c1 =>
          intro q u hq
          match q, hq with
          | 0, hq => simp at hq; subst hq; simp [Addr.add]
          | 1, hq => simp at hq; subst hq; simp [Addr.add]
          | 2, hq => simp at hq; subst hq; simp [Addr.add]
        case c2 => intro u hu; simp at hu; rcases hu with rfl | rfl | rfl <;> rfl
        intro v4 w4 hown hgrow hnil
        have HR4 := hid (show m + 1 = ((W.take (k + 1)).filterMap itemV).length ∧ w4.ownsRow w1.heap.size 108 3 v4 (m + 1) (cellsI9 ((W.take (k + 1)).filterMap itemV)) ∧ Below w1.heap.size w1 w4 ∧ Below w.heap.size w w4 by
          have e1 : Below w1.heap.size w1 w4 := ((below2 HR.out.2.2.1 HX3.out).alloc (by have := HSZ.out; simp; omega) _).grown hgrow (by have := HSZ.out; simp; omega) (fun k hk => (HO3.out.lt k hk).1)
          refine ⟨?_, ?_, e1, below2 HB1.out e1⟩
          · rw [HT.out, List.length_append, ← HR.out.1]; rfl
          · rw [HT.out, cellsI_app9, HCE.out]
            exact hown)
        go_wp2_with fail
        go_roundw
        case rel =>
          first
            | exact ⟨k + 1, m + 1, by omega, by omega, by go_num, HR4.out⟩
            | ((repeat apply Exists.intro); refine ⟨?_, rfl⟩; exact ⟨k + 1, m + 1, by omega, by omega, by go_num, HR4.out⟩)
            | ((repeat apply Exists.intro); exact ⟨⟨k + 1, m + 1, by omega, by omega, by go_num, HR4.out⟩, rfl⟩)
        case measure => simp [intOf]; omega
    · obtain rfl : k = n := by omega
      have HFN := hid (show wr.ownsRow w.heap.size 108 3 u3 (parse9 s.data.toList).length (cellsI9 (parse9 s.data.toList)) by
        have h := HR.out
        rw [List.take_of_length_le (by have := HN.out; omega), ← HPE.out] at h
        rw [← h.1]
        exact own_lower9 h.2.1 HB1.out.size)
      have HBF := hid HR.out.2.2.2
      clear HR hk hmk hlt
      go_wp2_with fail
      go_ret
      exact ⟨u3, rfl, HFN.out, HBF.out⟩

end Go.Proofs.YtkhpemjjholneaaGreatDoor
