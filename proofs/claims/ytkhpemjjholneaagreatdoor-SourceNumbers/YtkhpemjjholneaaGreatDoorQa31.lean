/-
  Walks and plain facts that this claim leans on, put together out of 3 texts: Yu, Yp, Yv.
-/
import Derived.Test.YtkhpemjjholneaaGreatDoorProg
import Derived.Test.YtkhpemjjholneaaGreatDoorQa1
import Derived.Test.YtkhpemjjholneaaGreatDoorQa2
import Derived.Test.YtkhpemjjholneaaGreatDoorQa3
import Derived.Test.YtkhpemjjholneaaGreatDoorQa4
import Derived.Test.YtkhpemjjholneaaGreatDoorQa5
import Derived.Test.YtkhpemjjholneaaGreatDoorQa6
import Derived.Test.YtkhpemjjholneaaGreatDoorQa7
import Derived.Test.YtkhpemjjholneaaGreatDoorQa8
import Derived.Test.YtkhpemjjholneaaGreatDoorQa9
import Derived.Test.YtkhpemjjholneaaGreatDoorQa10
import Derived.Test.YtkhpemjjholneaaGreatDoorQa11
import Derived.Test.YtkhpemjjholneaaGreatDoorQa12
import Derived.Test.YtkhpemjjholneaaGreatDoorQa13
import Derived.Test.YtkhpemjjholneaaGreatDoorQa14
import Derived.Test.YtkhpemjjholneaaGreatDoorQa15
import Derived.Test.YtkhpemjjholneaaGreatDoorQa16
import Derived.Test.YtkhpemjjholneaaGreatDoorQa17
import Derived.Test.YtkhpemjjholneaaGreatDoorQa18
import Derived.Test.YtkhpemjjholneaaGreatDoorQa19
import Derived.Test.YtkhpemjjholneaaGreatDoorQa20
import Derived.Test.YtkhpemjjholneaaGreatDoorQa21
import Derived.Test.YtkhpemjjholneaaGreatDoorQa22
import Derived.Test.YtkhpemjjholneaaGreatDoorQa23
import Derived.Test.YtkhpemjjholneaaGreatDoorQa24
import Derived.Test.YtkhpemjjholneaaGreatDoorQa25
import Derived.Test.YtkhpemjjholneaaGreatDoorQa26
import Derived.Test.YtkhpemjjholneaaGreatDoorQa27
import Derived.Test.YtkhpemjjholneaaGreatDoorQa28
import Derived.Test.YtkhpemjjholneaaGreatDoorQa29
import Derived.Test.YtkhpemjjholneaaGreatDoorQa30
import Derived.Laws.RangeAny
import Derived.Lib.DecodeN
import Derived.Lib.OthersKept
import Derived.Deep.LoopGhost
import Derived.RegionTactic
import Derived.Deep.RegionWith
import Derived.Deep.QuietTactic
import Derived.BigQuiet
import Derived.OwnWalk
import Derived.Laws.IdiomStrings
import Derived.Laws.BytesString
import Derived.Lib.IndexAny
import Derived.Lib.TrimByte
import Derived.Deep.RegionHeld
import Derived.Laws.CopyOwn
import Derived.Laws.ResultCell
import Derived.Deep.MidRow
import Derived.WalkKit
import Derived.Lib.UnsafeStr
import Derived.Lib.Strings
import Derived.Laws.AppendOwn
import Derived.WalkSpells
import Derived.WalkLawsBesides
import Derived.Laws.Runes
import Derived.Lib.AppendStr
import Derived.Lib.Replace
import Derived.Lib.BufferRead
import Derived.Lib.RuneBytes
import Derived.Lib.SlTrimSet
import Derived.Lib.Join
import Derived.Lib.IndexMore
import Derived.Scope
import Derived.ScopeJumps
import Derived.WalkMore
import Derived.BigRegion
import Derived.Laws.OwnMore
import Derived.Below
import Derived.WalkSmall
import Derived.Lib.SmallJoins
import Derived.Lib.LastIndexByte
import Derived.Deep.RegionLaw
import Derived.Deep.RegionHeldLaw
import Derived.Lib.BufferMore
import Derived.Laws.BitsAllLaws
import Derived.LoopN
import Derived.Lib.AppendIntMem
import Derived.Shelf.Strings.SlTrimAscii
import Derived.Shelf.Strings.Builder1
import Derived.Shelf.Strings.Builder2
import Derived.Shelf.Strings.OnBuilder
import Derived.Shelf.Strings.Trim
import Derived.Shelf.Small.Utf8
import Derived.Shelf.Small.Bits
import Derived.Shelf.Small.Strs
import Derived.Shelf.Small.Wraps
import Derived.Shelf.Strings.BuilderF
import Derived.Shelf.Strings.BuilderK
import Derived.Shelf.Strings.BuilderRune
import Derived.Shelf.Utf8.AppendRune
import Derived.Shelf.Utf8.AppendRunePlain
import Derived.Shelf.Strings.Builder2Cap
import Derived.Shelf.Strconv.Itoa0
import Derived.Shelf.Strconv.Itoa1
import Derived.Shelf.LaysM
import Derived.Shelf.Strconv.Itoa2
import Derived.Shelf.Strconv.Itoa3
import Derived.Shelf.Strings.Search1
import Derived.Shelf.Strings.Search2
import Derived.Shelf.Strings.Search3
import Derived.Shelf.Strings.Cut
import Derived.Shelf.Strings.Count
import Derived.Shelf.Strings.Shaped
import Derived.Shelf.Sort.Plain
import Derived.Shelf.Strings.LastIndex
import Derived.Shelf.Strings.Prefix
import Derived.Shelf.Strings.Split
import Derived.Shelf.Strings.Replace
import Derived.Shelf.Strings.Runes
import Derived.Shelf.Strings.IndexAny
import Derived.Shelf.Strings.AsciiSet
import Derived.Shelf.Strings.IndexAnyAll
import Derived.Shelf.Unicode.DecodeSlow
import Derived.Shelf.Unicode.DecodeAny
import Derived.Shelf.Unicode.DecodeLast
import Derived.Shelf.Strings.FieldsFuncAny
import Derived.Shelf.Strings.FieldsFuncGrows
import Derived.Shelf.Slices.Equal
import Derived.Ground.Names2Prog
import Derived.Shelf.Slices.Clone
import Derived.Ground.SlgnProg
import Derived.Shelf.SlicesE.Equal
import Derived.Shelf.SlicesE.Clone
import Derived.Lib.FrozenHead2
import Derived.Lib.Builder
import Derived.Lib.Bytealg
import Derived.Deep.WholeRow
import Derived.Maps.OwnSet
import Derived.Maps.OwnOps
import Derived.Maps.AppendAt
import Derived.StringKeys
import Derived.Laws.AppendOwnNone
import Derived.Lib.ItoaNum
import Derived.Deep.Cut
set_option linter.unusedSimpArgs false
set_option linter.unusedVariables false

namespace Go.Proofs.YtkhpemjjholneaaGreatDoor
open Go.RowKit

theorem enters_sch : ∀ args w, (callFunc 128 args).run Tryz.prog w = .ok (.enter 128 args) w := enters_of Tryz.func128 (by kernel_rfl) rfl

theorem enters_word : ∀ args w, (callFunc 124 args).run Tryz.prog w = .ok (.enter 124 args) w := enters_of Tryz.func124 (by kernel_rfl) rfl

/-- Three boxes in a row: an address, another one, a function. -/
theorem three_boxes (u p : Adr) (uv pv fv : Value) (w : World) : ∃ w', w' = ((w.alloc (.cells (adrCells u uv).toArray 45)).alloc (.cells (adrCells p pv).toArray 45)).alloc (.cells #[fv] 78) ∧ AdrIn w' w.heap.size u uv ∧ AdrIn w' (w.heap.size + 1) p pv ∧ w'.cell? ⟨w.heap.size + 2, 0, none⟩ = some fv ∧ Below w.heap.size w w' := by
  refine ⟨_, rfl, ?_, ?_, ?_, ?_⟩
  · have h1 : AdrIn (w.alloc (.cells (adrCells u uv).toArray 45)) w.heap.size u uv := heap_alloc_new _ _
    exact (h1.kept ((Below.refl _ _).alloc (Nat.le_refl _) _)).kept ((Below.refl _ _).alloc (Nat.le_refl _) _)
  · have hz : (w.alloc (.cells (adrCells u uv).toArray 45)).heap.size = w.heap.size + 1 := by simp
    have h1 : AdrIn ((w.alloc (.cells (adrCells u uv).toArray 45)).alloc (.cells (adrCells p pv).toArray 45)) (w.heap.size + 1) p pv := by
      unfold AdrIn
      rw [← hz]; exact heap_alloc_new _ _
    exact h1.kept ((Below.refl _ _).alloc (Nat.le_refl _) _)
  · have hz : ((w.alloc (.cells (adrCells u uv).toArray 45)).alloc (.cells (adrCells p pv).toArray 45)).heap.size = w.heap.size + 2 := by simp
    have := heap_alloc_new ((w.alloc (.cells (adrCells u uv).toArray 45)).alloc (.cells (adrCells p pv).toArray 45)) (.cells #[fv] 78)
    rw [hz] at this
    rw [Lib.cell_of_heap this]; rfl
  · exact ((Below.refl _ w).alloc (Nat.le_refl _) _).alloc (by simp) _ |>.alloc (by simp; omega) _

set_option maxHeartbeats 1000000 in
theorem readScheme_mk (u p : Adr) (uv pv : Value) (hu : IsSl uv) (hp : IsSl pv) (f : Nat) (lb : Array Value) (w : World) :
    Calls Tryz.prog 85 #[adrVal u uv, adrVal p pv, .func (.func f) #[] lb] w fun e w' => e = .returned (.func (.func 128) #[] #[.pointer (some ⟨w.heap.size, 0, none⟩), .pointer (some ⟨w.heap.size + 2, 0, none⟩), .pointer (some ⟨w.heap.size + 1, 0, none⟩)]) ∧ w' = ((w.alloc (.cells (adrCells u uv).toArray 45)).alloc (.cells (adrCells p pv).toArray 45)).alloc (.cells #[.func (.func f) #[] lb] 78) := by
  have hmf : ∀ (fn : Fn) (first cap : Array Value) (w : World), (Instr.makeFunc fn first cap).run Tryz.prog w = .ok (.func fn first cap) w := fun _ _ _ _ => rfl
  obtain ⟨ua, un, uc, rfl⟩ := hu
  obtain ⟨pa, pn, pc, rfl⟩ := hp
  unfold adrVal adrCells
  go_enter Tryz.func85, Tryz.ntmps85
  go_wp2
  go_ret
  exact ⟨rfl, rfl⟩

set_option maxHeartbeats 1000000 in
theorem readWord_mk (u p : Adr) (uv pv : Value) (hu : IsSl uv) (hp : IsSl pv) (f : Nat) (lb : Array Value) (w : World) :
    Calls Tryz.prog 84 #[adrVal u uv, adrVal p pv, .func (.func f) #[] lb] w fun e w' => e = .returned (.func (.func 124) #[] #[.pointer (some ⟨w.heap.size, 0, none⟩), .pointer (some ⟨w.heap.size + 1, 0, none⟩), .pointer (some ⟨w.heap.size + 2, 0, none⟩)]) ∧ w' = ((w.alloc (.cells (adrCells u uv).toArray 45)).alloc (.cells (adrCells p pv).toArray 45)).alloc (.cells #[.func (.func f) #[] lb] 78) := by
  have hmf : ∀ (fn : Fn) (first cap : Array Value) (w : World), (Instr.makeFunc fn first cap).run Tryz.prog w = .ok (.func fn first cap) w := fun _ _ _ _ => rfl
  obtain ⟨ua, un, uc, rfl⟩ := hu
  obtain ⟨pa, pn, pc, rfl⟩ := hp
  unfold adrVal adrCells
  go_enter Tryz.func84, Tryz.ntmps84
  go_wp2
  go_ret
  exact ⟨rfl, rfl⟩

theorem readScheme_any (u p : Adr) (uv pv : Value) (hu : IsSl uv) (hp : IsSl pv) (nv : Value) (q : List UInt8 → Bool) (w : World) (hg : Gd w) (hr : Rdr11 w nv q) :
    Calls Tryz.prog 85 #[adrVal u uv, adrVal p pv, nv] w (MkPost11 (schR u p q) w) := by
  have hr0 := hr
  obtain ⟨f, lb, rfl, eg, hc⟩ := hr0
  refine (readScheme_mk u p uv pv hu hp f lb w).mono ?_
  rintro e w' ⟨rfl, hw⟩
  obtain ⟨w2, hw2, hA, hP, hcell, hB⟩ := three_boxes u p uv pv (.func (.func f) #[] lb) w
  rw [← hw2] at hw
  subst hw
  refine ⟨_, rfl, ⟨_, _, rfl, enters_sch, fun X s hX hs => ?_⟩, hB⟩
  exact schC_any u p uv pv w.heap.size (w.heap.size + 2) (w.heap.size + 1) _ q s X ((hg.kept hB).kept hX) (hA.kept hX) (hP.kept hX) (keptC hcell hX) (hr.kept (below2 hB hX)) hs

theorem wordR_star {u p : Adr} {q : List UInt8 → Bool} {s : List UInt8} (h : s = [42]) : wordR u p q s = (fetV u.scheme || u.scheme == p.scheme) := by unfold wordR; rw [if_pos h]

theorem wordR_self {u p : Adr} {q : List UInt8 → Bool} {s : List UInt8} (h : s ≠ [42]) (h2 : low s = tSelf) : wordR u p q s = selfM u p := by unfold wordR; rw [if_neg h, if_pos h2]

theorem wordR_else {u p : Adr} {q : List UInt8 → Bool} {s : List UInt8} (h : s ≠ [42]) (h2 : low s ≠ tSelf) : wordR u p q s = (!Lib.hasPrefix s [39] && q s) := by unfold wordR; rw [if_neg h, if_neg h2]

set_option maxHeartbeats 4000000 in
set_option maxRecDepth 100000 in
theorem wordC_any (u p : Adr) (uv pv : Value) (cu cp cn : Nat) (nv : Value) (q : List UInt8 → Bool) (s : ByteArray) (w : World) (hg : Gd w) (hu : UrlAt w u uv) (hp : UrlAt w p pv) (hA : AdrIn w cu u uv) (hP : AdrIn w cp p pv) (hn : w.cell? ⟨cn, 0, none⟩ = some nv) (hr : Rdr11 w nv q) (hs : s.size ≤ 4000000000) :
    Calls Tryz.prog 124 #[.string s, .pointer (some ⟨cu, 0, none⟩), .pointer (some ⟨cp, 0, none⟩), .pointer (some ⟨cn, 0, none⟩)] w fun e w' => e = .returned (.bool (wordR u p q s.data.toList)) ∧ Below w.heap.size w w' := by
  obtain ⟨f, lb, rfl, eg, hc⟩ := hr
  have HSelf := hid (fun (w : World) (hg : Gd w) (hu : UrlAt w u uv) (hp : UrlAt w p pv) => self_any u p uv pv w hg hu hp)
  obtain ⟨ua, un, uc, rfl⟩ := hu.sl
  obtain ⟨pa, pn, pc, rfl⟩ := hp.sl
  obtain ⟨u0, u1, u2, u3, u4, u5, u6, u8, u9, u10, u11, hx, hx0, -, -, -⟩ := adr_named u ua un uc
  obtain ⟨p0, p1, p2, p3, p4, p5, p6, p8, p9, p10, p11, hy, hy0, -, -, -⟩ := adr_named p pa pn pc
  have hva : adrVal u (.slice ua un uc) = .agg #[.string u0, .string u1, .string u2, .string u3, .bool u4, .int .i64 u5, .bool u6, .slice ua un uc, .string u8, .string u9, .bool u10, .bool u11] := by unfold adrVal; rw [hx]
  have hvb : adrVal p (.slice pa pn pc) = .agg #[.string p0, .string p1, .string p2, .string p3, .bool p4, .int .i64 p5, .bool p6, .slice pa pn pc, .string p8, .string p9, .bool p10, .bool p11] := by unfold adrVal; rw [hy]
  rw [hva, hvb] at HSelf
  have h1 : ∀ Z, Below w.heap.size w Z → ∀ j v, (adrCells u (.slice ua un uc))[j]? = some v → Z.cell? ⟨cu, j, none⟩ = some v := fun Z hZ j v h => (hA.kept hZ).cell j v h
  have h2 : ∀ Z, Below w.heap.size w Z → ∀ j v, (adrCells p (.slice pa pn pc))[j]? = some v → Z.cell? ⟨cp, j, none⟩ = some v := fun Z hZ j v h => (hP.kept hZ).cell j v h
  rw [hx] at h1
  rw [hy] at h2
  have HU := hid h1
  have HP := hid h2
  have HN := hid hn
  have HC := hid (fun (X : World) (hX : Below w.heap.size w X) => hc X s hX hs)
  have HG := hid hg
  have HUA := hid hu
  have HPA := hid hp
  have HFe := hid (fun w => fetched_any u0 w)
  rw [hx0] at HFe
  have HLo := hid (fun w => lower_any s w (by omega))
  obtain ⟨L, hL⟩ : ∃ N : ByteArray, N = ⟨(low s.data.toList).toArray⟩ := ⟨_, rfl⟩
  have hLl : L.data.toList = low s.data.toList := by rw [hL]
  rw [← hL] at HLo
  have HPre : Hid (∀ w : World, Calls Tryz.prog 39 #[.string s, .string ⟨#[39]⟩] w fun e w' => e = .returned (.bool (Lib.hasPrefix s.data.toList [39])) ∧ w' = w) := fun w => Tryz.strings_HasPrefix s ⟨#[39]⟩ w
  obtain ⟨pf, hpf⟩ : ∃ b, Lib.hasPrefix s.data.toList [39] = b := ⟨_, rfl⟩
  rw [hpf] at HPre
  by_cases h42 : s.data.toList = [42]
  · obtain ⟨fe, hfe⟩ : ∃ b, fetV u.scheme = b := ⟨_, rfl⟩
    rw [hfe] at HFe
    obtain ⟨eq, heq⟩ : ∃ b, (u0.toList == p0.toList) = b := ⟨_, rfl⟩
    have HV := hid (show wordR u p q s.data.toList = (fe || eq) by rw [wordR_star h42, hfe, ← hx0, ← hy0, ← heq, Lib.toList_data, Lib.toList_data])
    have e42 := beq_yes s [42] h42
    have y0 := HU.out w (Below.refl _ _) 0 _ rfl
    have z0 := HP.out w (Below.refl _ _) 0 _ rfl
    clear h42 h1 h2 hn hg hu hp hA hP hx hy hva hvb hx0 hy0 hfe hpf hLl hL hc
    cases fe <;>
    · go_enter Tryz.func124, Tryz.ntmps124
      go_wp2_with (go_at_call 125; refine (HFe.out _).mono ?_; rintro e wz ⟨rfl, hwz⟩; rw [← hwz]; clear hwz)
      go_ret
      exact ⟨ret_bool (by rw [HV.out]; rfl), Below.refl _ _⟩
  · have e42 := beq_no s [42] h42
    by_cases hse : low s.data.toList = tSelf
    · have HV := hid (wordR_self (u := u) (p := p) (q := q) h42 hse)
      have eS := beq_yes L [39, 115, 101, 108, 102, 39] (by rw [hLl]; exact hse)
      clear h42 h1 h2 hn hg hu hp hA hP hx hy hva hvb hx0 hy0 hpf hLl hL hse hc
      go_enter Tryz.func124, Tryz.ntmps124
      go_wp2_with fail
      refine (HLo.out _).mono ?_
      rintro e w1 ⟨rfl, hb1⟩
      have HB1 := hid hb1
      have y0 := HU.out w1 hb1 0 _ rfl
      have z0 := HP.out w1 hb1 0 _ rfl
      have y1 := HU.out w1 hb1 1 _ rfl
      have z1 := HP.out w1 hb1 1 _ rfl
      have y2 := HU.out w1 hb1 2 _ rfl
      have z2 := HP.out w1 hb1 2 _ rfl
      have y3 := HU.out w1 hb1 3 _ rfl
      have z3 := HP.out w1 hb1 3 _ rfl
      have y4 := HU.out w1 hb1 4 _ rfl
      have z4 := HP.out w1 hb1 4 _ rfl
      have y5 := HU.out w1 hb1 5 _ rfl
      have z5 := HP.out w1 hb1 5 _ rfl
      have y6 := HU.out w1 hb1 6 _ rfl
      have z6 := HP.out w1 hb1 6 _ rfl
      have y7 := HU.out w1 hb1 7 _ rfl
      have z7 := HP.out w1 hb1 7 _ rfl
      have y8 := HU.out w1 hb1 8 _ rfl
      have z8 := HP.out w1 hb1 8 _ rfl
      have y9 := HU.out w1 hb1 9 _ rfl
      have z9 := HP.out w1 hb1 9 _ rfl
      have y10 := HU.out w1 hb1 10 _ rfl
      have z10 := HP.out w1 hb1 10 _ rfl
      have y11 := HU.out w1 hb1 11 _ rfl
      have z11 := HP.out w1 hb1 11 _ rfl
      clear hb1
      go_wp2_with (go_at_call 127; refine (HSelf.out _ (HG.out.kept HB1.out) (HUA.out.kept HB1.out) (HPA.out.kept HB1.out)).mono ?_; rintro e w2 ⟨rfl, hb2⟩)
      go_ret
      exact ⟨ret_bool (by rw [HV.out]), below2 HB1.out hb2⟩
    · have HV := hid (show wordR u p q s.data.toList = (!pf && q s.data.toList) by rw [wordR_else h42 hse, hpf])
      have eS := beq_no L [39, 115, 101, 108, 102, 39] (by rw [hLl]; exact hse)
      clear h42 h1 h2 hn hg hu hp hA hP hx hy hva hvb hx0 hy0 hpf hLl hL hse hc
      go_enter Tryz.func124, Tryz.ntmps124
      go_wp2_with fail
      refine (HLo.out _).mono ?_
      rintro e w1 ⟨rfl, hb1⟩
      have HB1 := hid hb1
      have d2 := keptC HN.out hb1
      clear hb1
      cases pf with
      | true =>
        go_wp2_with (go_at_call 39; refine (HPre.out _).mono ?_; rintro e wz ⟨rfl, hwz⟩; rw [hwz]; clear hwz)
        go_ret
        exact ⟨ret_bool (by rw [HV.out]; rfl), HB1.out⟩
      | false =>
        go_wp2_with (go_at_call 39; refine (HPre.out _).mono ?_; rintro e wz ⟨rfl, hwz⟩; rw [hwz]; clear hwz)
        refine (HC.out _ HB1.out).mono ?_
        rintro e w3 ⟨rfl, hb3⟩
        go_wp2
        go_ret
        exact ⟨ret_bool (by rw [HV.out]; rfl), below2 HB1.out hb3⟩

theorem readWord_any (u p : Adr) (uv pv : Value) (nv : Value) (q : List UInt8 → Bool) (w : World) (hg : Gd w) (hu : UrlAt w u uv) (hp : UrlAt w p pv) (hr : Rdr11 w nv q) :
    Calls Tryz.prog 84 #[adrVal u uv, adrVal p pv, nv] w (MkPost11 (wordR u p q) w) := by
  have hr0 := hr
  obtain ⟨f, lb, rfl, eg, hc⟩ := hr0
  refine (readWord_mk u p uv pv hu.sl hp.sl f lb w).mono ?_
  rintro e w' ⟨rfl, hw⟩
  obtain ⟨w2, hw2, hA, hP, hcell, hB⟩ := three_boxes u p uv pv (.func (.func f) #[] lb) w
  rw [← hw2] at hw
  subst hw
  refine ⟨_, rfl, ⟨_, _, rfl, enters_word, fun X s hX hs => ?_⟩, hB⟩
  exact wordC_any u p uv pv w.heap.size (w.heap.size + 1) (w.heap.size + 2) _ q s X ((hg.kept hB).kept hX) ((hu.kept hB).kept hX) ((hp.kept hB).kept hX) (hA.kept hX) (hP.kept hX) (keptC hcell hX) (hr.kept (below2 hB hX)) hs

end Go.Proofs.YtkhpemjjholneaaGreatDoor

namespace Go.Proofs.YtkhpemjjholneaaGreatDoor
open Go.RowKit

theorem splitK_cut (c : UInt8) : ∀ l : List UInt8, Lib.splitK [c] 0 (Lib.count l [c]) l = cutL c l := by
  refine cutL_ind c (fun l h => ?_) (fun a r h ih => ?_)
  · have hm := index_one_none l c h
    rw [cutL_none c l h, Lib.count_miss hm]
    rfl
  · have hi := index_one_some a r c h
    have hd : (a ++ c :: r).drop (a.length + 1) = r := by
      rw [show a ++ c :: r = (a ++ [c]) ++ r by simp, show a.length + 1 = (a ++ [c]).length by simp, List.drop_left]
    rw [cutL_some c a r h, Lib.count_hit (by simp) hi, show ([c] : List UInt8).length = 1 from rfl, hd, Nat.add_comm, Lib.splitK, hi]
    rw [if_neg (by simp), show ((a.length : Int)).toNat = a.length by simp, show ([c] : List UInt8).length = 1 from rfl, hd, ih]
    simp

theorem split_pieces (c : UInt8) (s : ByteArray) : (Lib.splitB ⟨#[c]⟩ 0 (Lib.countB s ⟨#[c]⟩) s).map Value.string = cellsS (cutL c s.data.toList) := by
  have h := Lib.splitB_data ⟨#[c]⟩ 0 (Lib.countB s ⟨#[c]⟩) s
  have e : Lib.countB s ⟨#[c]⟩ = Lib.count s.data.toList [c] := rfl
  rw [e, show (⟨#[c]⟩ : ByteArray).data.toList = [c] from rfl, splitK_cut] at h
  rw [← h, cellsS, List.map_map]
  rfl

theorem split_count (c : UInt8) (s : ByteArray) : Lib.countB s ⟨#[c]⟩ + 1 = (cutL c s.data.toList).length := by
  show Lib.count s.data.toList [c] + 1 = _
  have key : ∀ l : List UInt8, Lib.count l [c] + 1 = (cutL c l).length := by
    refine cutL_ind c (fun l h => ?_) (fun a r h ih => ?_)
    · rw [cutL_none c l h, Lib.count_miss (index_one_none l c h)]; rfl
    · have hd : (a ++ c :: r).drop (a.length + 1) = r := by
        rw [show a ++ c :: r = (a ++ [c]) ++ r by simp, show a.length + 1 = (a ++ [c]).length by simp, List.drop_left]
      rw [cutL_some c a r h, Lib.count_hit (by simp) (index_one_some a r c h), show ([c] : List UInt8).length = 1 from rfl, hd, List.length_cons, ← ih]
      omega
  exact key _

theorem cutL_len11 (c : UInt8) (l : List UInt8) : (cutL c l).length ≤ l.length + 1 := by
  revert l
  refine cutL_ind c (fun l h => ?_) (fun a r h ih => ?_)
  · rw [cutL_none c l h]; simp
  · rw [cutL_some c a r h]; simp; omega

/-- What is left by a call that answers a new list of texts. -/
def TxPost (L : List (List UInt8)) (w : World) (e : Ending) (w' : World) : Prop :=
  ∃ g cap, e = .returned (.slice (some ⟨g, 0, none⟩) L.length cap) ∧ w'.ownsRow w.heap.size 9 1 (.slice (some ⟨g, 0, none⟩) L.length cap) L.length (cellsS L) ∧ Below w.heap.size w w'

theorem split_any (s : ByteArray) (c : UInt8) (w : World) (hg : Gd w) (hs : s.size ≤ 4000000000) :
    Calls Tryz.prog 41 #[.string s, .string ⟨#[c]⟩] w (TxPost (cutL c s.data.toList) w) := by
  obtain ⟨m, hm⟩ := hg.1
  refine (Tryz.strings_Split s ⟨#[c]⟩ m w (by omega) hm (show 1 ≤ 1 from Nat.le_refl 1)).mono ?_
  rintro e w' ⟨rfl, rfl⟩
  have hl := cutL_len11 c s.data.toList
  rw [← Lib.size_eq] at hl
  rw [split_count, split_pieces]
  refine ⟨w.heap.size, (cutL c s.data.toList).length, rfl, ?_, (Below.refl _ w).alloc (Nat.le_refl _) _⟩
  refine ⟨by simp [cellsS_len], .inr ⟨w.heap.size, (cutL c s.data.toList).length, _, rfl, Nat.le_refl _, heap_alloc_new w _, Nat.le_refl _, by unfold maxLen; omega, by simp [cellsS_len], ?_⟩⟩
  rw [List.take_of_length_le (by simp [cellsS_len])]

/-- Block g is a row of n texts; the first k are those of L. -/
def StrT (w : World) (g : Nat) (L : List (List UInt8)) (k : Nat) : Prop :=
  ∃ cur : Array Value, w.heap[g]? = some (.cells cur 9 (0, 0)) ∧ cur.size = L.length ∧ ∀ j (h : j < L.length), j < k → cur[j]? = some (.string ⟨L[j].toArray⟩)

theorem StrT.kept {w w' : World} {g : Nat} {L : List (List UInt8)} {k : Nat} (h : StrT w g L k) (hb : Below w.heap.size w w') : StrT w' g L k := by
  obtain ⟨cur, hg, h2⟩ := h
  exact ⟨cur, row_kept hg hb, h2⟩

theorem StrT.cell {w : World} {g : Nat} {L : List (List UInt8)} {k : Nat} (h : StrT w g L k) (j : Nat) (hj : j < L.length) : ∃ v, w.cell? ⟨g, j, none⟩ = some v := by
  obtain ⟨cur, hg, hs, _⟩ := h
  rw [cell_of_row w g j cur _ _ hg]
  exact ⟨cur[j], by simp [hs, hj]⟩

theorem StrT.frozen {w : World} {g : Nat} {L : List (List UInt8)} {k : Nat} (h : StrT w g L k) (j : Nat) : w.frozen? ⟨g, j, none⟩ = false := by
  obtain ⟨cur, hg, _⟩ := h
  simp [World.frozen?, hg]

theorem StrT.set {w : World} {g : Nat} {L : List (List UInt8)} {k : Nat} (h : StrT w g L k) (hk : k < L.length) : StrT (w.setCell ⟨g, k, none⟩ (.string ⟨L[k].toArray⟩)) g L (k + 1) := by
  obtain ⟨cur, hg, hs, hc⟩ := h
  refine ⟨_, Lib.heap_setCell_same hg _, by simpa using hs, ?_⟩
  intro j hj hj2
  by_cases e : k = j
  · subst e
    have : k < cur.size := by omega
    simp [this]
  · simp [Array.getElem?_setIfInBounds, e]
    exact hc j hj (by omega)

theorem StrT.own {w : World} {B g : Nat} {L : List (List UInt8)} (h : StrT w g L L.length) (hB : B ≤ g) (hl : L.length ≤ maxLen) : w.ownsRow B 9 1 (.slice (some ⟨g, 0, none⟩) L.length L.length) L.length (cellsS L) := by
  obtain ⟨cur, hg, hs, hc⟩ := h
  refine ⟨by simp [cellsS_len], .inr ⟨g, L.length, cur, rfl, hB, hg, Nat.le_refl _, hl, by simpa using hs, ?_⟩⟩
  apply List.ext_getElem?
  intro j
  by_cases hj : j < L.length
  · have := hc j hj hj
    rw [Nat.mul_one, List.getElem?_take, if_pos hj]
    simp only [cellsS, List.getElem?_map, List.getElem?_eq_getElem hj, Option.map_some]
    simpa using this
  · rw [List.getElem?_eq_none (by simp; omega), List.getElem?_eq_none (by simp [cellsS]; omega)]

theorem path_view {w : World} {v : Value} {L : List (List UInt8)} (h : PathAt w v L) : ∃ a cap, v = .slice a L.length cap ∧ ∀ j (hj : j < L.length), ∃ b, a = some ⟨b, 0, none⟩ ∧ w.cell? ⟨b, j, none⟩ = some (.string ⟨L[j].toArray⟩) := by
  rcases h with ⟨rfl, rfl⟩ | ⟨b, cap, rfl, h2, h3, h4, h5⟩
  · exact ⟨none, 0, rfl, fun j hj => by simp at hj⟩
  · exact ⟨_, _, rfl, fun j hj => ⟨b, rfl, h5 j hj⟩⟩

set_option maxHeartbeats 2000000 in
set_option maxRecDepth 100000 in
theorem unpercented_any (v : Value) (L : List (List UInt8)) (w : World) (hv : PathAt w v L) (hl : L.length ≤ 5000000000) (hs : ∀ x ∈ L, x.length ≤ 140737488351232) :
    Calls Tryz.prog 136 #[v] w (TxPost (L.map unpct) w) := by
  obtain ⟨i0, hi, hz0, hz1, hz2⟩ := info_parts infoStr
  obtain ⟨a, cap, rfl, hview⟩ := path_view hv
  have HV := hid hview
  have HSz := hid hs
  obtain ⟨n, hn⟩ : ∃ n, n = L.length := ⟨_, rfl⟩
  have HN := hid hn
  rw [← hn] at hl ⊢
  have HNM := hid (show (L.map unpct).length = n by rw [List.length_map, hn])
  clear hv hview hs hn
  go_enter Tryz.func136, Tryz.ntmps136
  go_wp2_with (at_make; refine wpList_make_full _ rfl _ _ 43 rfl w.heap.size 9 i0 (.string ByteArray.empty) 1 Tryz.underlying43 hi hz0 hz1 .i64 .i64 _ _ n rfl rfl rfl rfl (by rw [hz2]; omega) (by unfold maxLen; omega) (Nat.le_refl _) ?_)
  intro w0 hown0 hgrow0
  have hb0 : Below w.heap.size w w0 := (Below.refl _ w).grown hgrow0 (Nat.le_refl _) (fun k hk => by simp at hk)
  have hst : StrT w0 w.heap.size (L.map unpct) 0 := by
    rcases hown0.2 with ⟨hv, _⟩ | ⟨g, cap', cur, hv, _, hcur, _, _, hsz, _⟩
    · cases hv
    · cases hv
      exact ⟨cur, hcur, by rw [HNM.out]; simpa using hsz, fun j _ h => absurd h (Nat.not_lt_zero _)⟩
  clear hown0 hgrow0
  have HS0 := hid hst
  have HB0 := hid hb0
  clear hst hb0
  go_wp2
  go_loopg [11] n (fun g iv wr => ∃ k : Nat, k + g = n ∧ iv = .int .i64 k ∧ Hid (StrT wr w.heap.size (L.map unpct) k ∧ Below w.heap.size w wr))
  case atStart => exact ⟨0, by omega, rfl, HS0.out, HB0.out⟩
  case round =>
    obtain ⟨k, hkg, rfl, HR⟩ := hrel
    cases gk with
    | zero =>
      have hkx : ¬ ((k : Int) < (n : Int)) := by omega
      obtain rfl : k = n := by omega
      go_wp2
      go_ret
      refine ⟨w.heap.size, (L.map unpct).length, by rw [HNM.out]; rfl, ?_, HR.out.2⟩
      have h := HR.out.1
      rw [← HNM.out] at h
      exact h.own (Nat.le_refl _) (by rw [HNM.out]; unfold maxLen; omega)
    | succ g =>
      have hk : k < L.length := by have := HN.out; omega
      have hk' : (k : Int) < (n : Int) := by omega
      obtain ⟨b, rfl, hc0⟩ := HV.out k hk
      have hcell := keptC hc0 HR.out.2
      obtain ⟨X, hX⟩ : ∃ X : ByteArray, X = ⟨L[k].toArray⟩ := ⟨_, rfl⟩
      have hXl : X.data.toList = L[k] := by rw [hX]
      have hXs : X.size ≤ 140737488351232 := by rw [Lib.size_eq, hXl]; exact HSz.out _ (List.getElem_mem hk)
      rw [← hX] at hcell
      have HUn := hid (fun w => unpercent_any X w hXs)
      obtain ⟨Y, hY⟩ : ∃ Y : ByteArray, Y = ⟨(unpct X.data.toList).toArray⟩ := ⟨_, rfl⟩
      rw [← hY] at HUn
      have hkm : k < (L.map unpct).length := by rw [List.length_map]; exact hk
      have HY := hid (show Y = ⟨((L.map unpct)[k]'hkm).toArray⟩ by rw [hY, hXl]; simp)
      clear hX hXl hXs hY hc0
      go_wp2_with fail
      refine (HUn.out _).mono ?_
      rintro e w1 ⟨rfl, hb1⟩
      have hb1' : Below wr.heap.size wr w1 := by first | exact hb1 | (subst hb1; exact Below.refl _ _)
      have HS1 := hid (HR.out.1.kept hb1')
      obtain ⟨v0, hc0⟩ := HS1.out.cell k hkm
      have hfz := HS1.out.frozen k
      have HS2 := hid (show StrT (w1.setCell ⟨w.heap.size, k, none⟩ (.string Y)) w.heap.size (L.map unpct) (k + 1) by
        rw [HY.out]; exact HS1.out.set hkm)
      have HB := hid ((below2 HR.out.2 hb1').setCell (p := ⟨w.heap.size, k, none⟩) (Nat.le_refl _) (.string Y))
      clear hb1 hb1' hcell
      go_wp2
      go_roundg g
      case measure => omega
      case rel => exact ⟨k + 1, by omega, by go_num, HS2.out, HB.out⟩

end Go.Proofs.YtkhpemjjholneaaGreatDoor

namespace Go.Proofs.YtkhpemjjholneaaGreatDoor
open Go.RowKit

theorem tx_getD (L : List (List UInt8)) (w : World) (g : Nat) (h : TxtS w g L) : ∀ j, j < (L.map fun x => (⟨x.toArray⟩ : ByteArray)).length → w.cell? ⟨g, 0 + j, none⟩ = some (.string ((L.map fun x => (⟨x.toArray⟩ : ByteArray)).getD j ByteArray.empty)) := fun j hj => by
  have hj' : j < L.length := by simpa using hj
  rw [getD_ba L j hj', Nat.zero_add]
  exact h j hj'

theorem ba_inj (A B : List (List UInt8)) : (A.map (fun x => (⟨x.toArray⟩ : ByteArray)) = B.map (fun x => (⟨x.toArray⟩ : ByteArray))) ↔ A = B := by
  constructor
  · intro h
    have := congrArg (List.map (fun x : ByteArray => x.data.toList)) h
    rw [List.map_map, List.map_map] at this
    have e : ((fun x : ByteArray => x.data.toList) ∘ fun x : List UInt8 => (⟨x.toArray⟩ : ByteArray)) = id := rfl
    rw [e, List.map_id, List.map_id] at this
    exact this
  · intro h; rw [h]

theorem beq_dec (a b : List (List UInt8)) : (a == b) = decide (a = b) := by by_cases h : a = b <;> simp [h]

theorem equal_tx (g1 n c g2 m d : Nat) (A B : List (List UInt8)) (w : World) (h1 : TxtS w g1 A) (h2 : TxtS w g2 B) (hn : n ≤ A.length) (hm : m ≤ B.length) (ha : A.length ≤ 5000000000) (hb : B.length ≤ 5000000000) :
    Calls Tryz.prog 138 #[.slice (some ⟨g1, 0, none⟩) n c, .slice (some ⟨g2, 0, none⟩) m d] w fun e w' => e = .returned (.bool (decide (A.take n = B.take m))) ∧ Below w.heap.size w w' := by
  refine (Tryz.slices_Equal_string g1 0 n c g2 0 m d (A.map fun x => ⟨x.toArray⟩) (B.map fun x => ⟨x.toArray⟩) w (by simpa using hn) (by simpa using hm) (by omega) (by omega) (tx_getD A w g1 h1) (tx_getD B w g2 h2)).mono ?_
  rintro e w' ⟨rfl, k, rfl⟩
  refine ⟨?_, Go.below_drewN (Below.refl _ _) _⟩
  rw [← List.map_take, ← List.map_take]
  have : (decide ((A.take n).map (fun x => (⟨x.toArray⟩ : ByteArray)) = (B.take m).map (fun x => (⟨x.toArray⟩ : ByteArray)))) = decide (A.take n = B.take m) := by
    rw [Bool.eq_iff_iff]
    simp only [decide_eq_true_eq]
    exact ba_inj _ _
  rw [this]

theorem own_txS {w : World} {B g cap : Nat} {L : List (List UInt8)} (h : w.ownsRow B 9 1 (.slice (some ⟨g, 0, none⟩) L.length cap) L.length (cellsS L)) : TxtS w g L ∧ L.length ≤ cap ∧ cap ≤ maxLen := by
  rcases own_path h with ⟨hv, _⟩ | ⟨b, cap', hv, _, h3, h4, h5⟩
  · cases hv
  · cases hv; exact ⟨h5, h3, h4⟩

theorem pathM_yes {hops : Int} {u : Adr} {s : List UInt8} (h : hops ≠ 0 ∨ s = [] ∨ s = [47]) : pathM hops u s = true := by unfold pathM; rw [if_pos h]

theorem pathM_opq {u : Adr} {s : List UInt8} (h : s ≠ []) (h2 : s ≠ [47]) (h3 : u.opq = true) : pathM 0 u s = false := by unfold pathM; rw [if_neg (by simp [h, h2]), if_pos h3]

theorem pathM_end {u : Adr} {s : List UInt8} (h : s ≠ []) (h2 : s ≠ [47]) (h3 : u.opq = false) (h4 : Lib.hasSuffix s [47] = true) : pathM 0 u s = begN ((cutL 47 (s.drop 1)).map unpct).dropLast (u.path.map unpct) := by unfold pathM; rw [if_neg (by simp [h, h2]), if_neg (by simp [h3]), if_pos h4]

theorem pathM_same {u : Adr} {s : List UInt8} (h : s ≠ []) (h2 : s ≠ [47]) (h3 : u.opq = false) (h4 : Lib.hasSuffix s [47] = false) : pathM 0 u s = ((cutL 47 (s.drop 1)).map unpct == u.path.map unpct) := by unfold pathM; rw [if_neg (by simp [h, h2]), if_neg (by simp [h3]), if_neg (by simp [h4])]

theorem cutL_mem_le (c : UInt8) : ∀ (l : List UInt8), ∀ x ∈ cutL c l, x.length ≤ l.length := by
  refine cutL_ind c (fun l h x hx => ?_) (fun a r h ih x hx => ?_)
  · rw [cutL_none c l h] at hx
    simp at hx
    rw [hx]; exact Nat.le_refl _
  · rw [cutL_some c a r h] at hx
    rcases List.mem_cons.1 hx with rfl | hx
    · simp
    · have := ih x hx
      simp; omega

set_option maxHeartbeats 4000000 in
set_option maxRecDepth 100000 in
theorem pathC_any (u : Adr) (uv : Value) (hops : Int) (ch cu cs g cap : Nat) (s : ByteArray) (w : World) (hg : Gd w) (hA : AdrIn w cu u uv) (hh : w.cell? ⟨ch, 0, none⟩ = some (.int .i64 hops)) (hc : w.cell? ⟨cs, 0, none⟩ = some (.slice (some ⟨g, 0, none⟩) (u.path.map unpct).length cap)) (ht : TxtS w g (u.path.map unpct)) (hcap : (u.path.map unpct).length ≤ cap) (hl : u.path.length ≤ 5000000000) (hs : s.size ≤ 4000000000) :
    Calls Tryz.prog 137 #[.string s, .pointer (some ⟨ch, 0, none⟩), .pointer (some ⟨cu, 0, none⟩), .pointer (some ⟨cs, 0, none⟩)] w fun e w' => e = .returned (.bool (pathM hops u s.data.toList)) ∧ Below w.heap.size w w' := by
  have hop := hA.cell 6 _ rfl
  have HT := hid ht
  have HG := hid hg
  have HCc := hid hc
  obtain ⟨m, hm⟩ : ∃ m, m = (u.path.map unpct).length := ⟨_, rfl⟩
  have hml : m ≤ 5000000000 := by rw [hm, List.length_map]; exact hl
  rw [← hm] at hc hcap HCc
  have HM := hid hm
  clear ht hg hA hm hl hc
  by_cases hz : hops = 0
  · subst hz
    by_cases h0 : s.data.toList = []
    · have HV := hid (pathM_yes (hops := 0) (u := u) (.inr (.inl h0)))
      have e0 := empty_yes s h0
      clear h0
      go_enter Tryz.func137, Tryz.ntmps137
      go_wp2
      go_ret
      exact ⟨ret_bool (by rw [HV.out] <;> rfl), Below.refl _ _⟩
    · have e0 := empty_no s h0
      by_cases h47 : s.data.toList = [47]
      · have HV := hid (pathM_yes (hops := 0) (u := u) (.inr (.inr h47)))
        have e1 := beq_yes s [47] h47
        clear h0 h47
        go_enter Tryz.func137, Tryz.ntmps137
        go_wp2
        go_ret
        exact ⟨ret_bool (by rw [HV.out] <;> rfl), Below.refl _ _⟩
      · have e1 := beq_no s [47] h47
        cases ho : u.opq with
        | true =>
          have HV := hid (pathM_opq h0 h47 ho)
          rw [ho] at hop
          clear h0 h47
          go_enter Tryz.func137, Tryz.ntmps137
          go_wp2
          go_ret
          exact ⟨ret_bool (by rw [HV.out] <;> rfl), Below.refl _ _⟩
        | false =>
          rw [ho] at hop
          have hn1 : 1 ≤ s.size := by
            rw [Lib.size_eq]
            exact List.length_pos_iff.2 h0
          have hn1' : (1 : Int) ≤ (s.size : Int) := by omega
          obtain ⟨E, hE⟩ : ∃ E : ByteArray, s.extract 1 s.size = E := ⟨_, rfl⟩
          have hEl : E.data.toList = s.data.toList.drop 1 := by rw [← hE, extract_drop]
          have hEs : E.size ≤ 4000000000 := by rw [Lib.size_eq, hEl, List.length_drop, ← Lib.size_eq]; omega
          have HSp := hid (fun (w : World) (hg : Gd w) => split_any E 47 w hg hEs)
          obtain ⟨L, hL⟩ : ∃ L, L = cutL 47 E.data.toList := ⟨_, rfl⟩
          have hLl : L.length ≤ 4000000001 := by rw [hL]; have := cutL_len11 47 E.data.toList; rw [← Lib.size_eq] at this; omega
          have hLm : ∀ x ∈ L, x.length ≤ 140737488351232 := fun x hx => by rw [hL] at hx; have := cutL_mem_le 47 E.data.toList x hx; rw [← Lib.size_eq] at this; omega
          have hL0 : L ≠ [] := by rw [hL]; exact cutL_ne _ _
          rw [← hL] at HSp
          have HUn := hid (fun (v : Value) (w : World) (h : PathAt w v L) => unpercented_any v L w h (by omega) hLm)
          obtain ⟨P, hP⟩ : ∃ P, P = L.map unpct := ⟨_, rfl⟩
          have hPl : P.length ≤ 4000000001 := by rw [hP, List.length_map]; exact hLl
          have hP0 : 1 ≤ P.length := by rw [hP, List.length_map]; exact List.length_pos_iff.2 hL0
          rw [← hP] at HUn
          have hPE : P = (cutL 47 (s.data.toList.drop 1)).map unpct := by rw [hP, hL, hEl]
          obtain ⟨n, hn⟩ : ∃ n, n = L.length := ⟨_, rfl⟩
          obtain ⟨k, hk⟩ : ∃ k, P.length = k + 1 := ⟨P.length - 1, by omega⟩
          have HKP := hid hk
          have HNn := hid hn
          have HSf := hid (fun w => Tryz.strings_HasSuffix s ⟨#[47]⟩ w (by omega))
          rw [show (⟨#[47]⟩ : ByteArray).data.toList = [47] from rfl] at HSf
          have HPL := hid hPl
          unfold TxPost at HSp HUn
          rw [← hn] at HSp
          rw [hk] at HUn
          have HHc := hid hop
          cases hsf : Lib.hasSuffix s.data.toList [47] with
          | false =>
            rw [hsf] at HSf
            obtain ⟨q, hq⟩ : ∃ q, decide (P.take (k + 1) = (u.path.map unpct).take m) = q := ⟨_, rfl⟩
            have HV := hid (show pathM 0 u s.data.toList = q by
              rw [pathM_same h0 h47 ho hsf, ← hPE, ← hq, ← hk, HM.out, List.take_length, List.take_length]
              exact beq_dec _ _)
            have HEq := hid (fun (c : Nat) (g1 : Nat) (w : World) (h1 : TxtS w g1 P) (h2 : TxtS w g (u.path.map unpct)) => equal_tx g1 (k + 1) c g m cap P (u.path.map unpct) w h1 h2 (by omega) (by rw [← HM.out]; exact Nat.le_refl _) (by omega) (by rw [← HM.out]; exact hml))
            rw [hq] at HEq
            clear h0 h47 ho hEl hEs hL hLl hLm hL0 hP hPl hP0 hPE hn hsf hk hq
            go_enter Tryz.func137, Tryz.ntmps137
            go_wp2_with fail
            refine (HSp.out _ HG.out).mono ?_
            rintro e w1 ⟨g1, c1, rfl, hown1, hb1⟩
            have HB1 := hid hb1
            have HPa := hid (show PathAt w1 (.slice (some ⟨g1, 0, none⟩) n c1) L by rw [HNn.out] at hown1 ⊢; exact own_path hown1)
            clear hown1 hb1
            go_wp2_with fail
            refine (HUn.out _ _ HPa.out).mono ?_
            rintro e w2 ⟨g2, c2, rfl, hown2, hb2⟩
            have HB2 := hid (below2 HB1.out hb2)
            have HT2 := hid (show TxtS w2 g2 P by rw [← HKP.out] at hown2; exact (own_txS hown2).1)
            have hcell := keptC HCc.out HB2.out
            clear hown2 hb2
            go_wp2_with (first | (go_at_call 64; refine (HSf.out _).mono ?_; rintro e wz ⟨rfl, hwz⟩; rw [hwz]; clear hwz) | (go_at_call 138; refine (HEq.out _ _ _ HT2.out (HT.out.kept HB2.out)).mono ?_; rintro e w3 ⟨rfl, hb3⟩))
            go_ret
            exact ⟨ret_bool (by rw [HV.out]), below2 HB2.out hb3⟩
          | true =>
            rw [hsf] at HSf
            obtain ⟨q, hq⟩ : ∃ q, decide (P.take k = (u.path.map unpct).take k) = q := ⟨_, rfl⟩
            have hdl : P.dropLast = P.take k := by rw [List.dropLast_eq_take, hk]; rfl
            obtain ⟨d, hd⟩ : ∃ d, decide (k < m) = d := ⟨_, rfl⟩
            have HV := hid (show pathM 0 u s.data.toList = (d && q) by
              rw [pathM_end h0 h47 ho hsf, ← hPE, hdl]
              unfold begN
              have hlk : (P.take k).length = k := by rw [List.length_take]; omega
              rw [hlk, ← hq, ← hd, HM.out]
              congr 1
              exact beq_dec _ _)
            have HEq := hid (fun (hkm : k ≤ m) (c : Nat) (g1 : Nat) (w : World) (h1 : TxtS w g1 P) (h2 : TxtS w g (u.path.map unpct)) => equal_tx g1 k c g k cap P (u.path.map unpct) w h1 h2 (by omega) (by rw [← HM.out]; exact hkm) (by omega) (by rw [← HM.out]; exact hml))
            rw [hq] at HEq
            have hkb : k ≤ 4000000001 := by omega
            clear h0 h47 ho hEl hEs hL hLl hLm hL0 hP hPl hP0 hPE hn hsf hk hq hdl
            go_enter Tryz.func137, Tryz.ntmps137
            go_wp2_with fail
            refine (HSp.out _ HG.out).mono ?_
            rintro e w1 ⟨g1, c1, rfl, hown1, hb1⟩
            have HB1 := hid hb1
            have HPa := hid (show PathAt w1 (.slice (some ⟨g1, 0, none⟩) n c1) L by rw [HNn.out] at hown1 ⊢; exact own_path hown1)
            clear hown1 hb1
            go_wp2_with fail
            refine (HUn.out _ _ HPa.out).mono ?_
            rintro e w2 ⟨g2, c2, rfl, hown2, hb2⟩
            have HB2 := hid (below2 HB1.out hb2)
            have hO2 : TxtS w2 g2 P ∧ k + 1 ≤ c2 := by
              rw [← HKP.out] at hown2 ⊢
              exact ⟨(own_txS hown2).1, (own_txS hown2).2.1⟩
            have HT2 := hid hO2.1
            have hc2 : k + 1 ≤ c2 := hO2.2
            have hcell := keptC HCc.out HB2.out
            clear hown2 hb2 hO2
            cases d with
            | false =>
              have hkm : ¬ k < m := of_decide_eq_false hd
              have hkm' : ¬ (k : Int) < (m : Int) := by omega
              go_wp2_with (go_at_call 64; refine (HSf.out _).mono ?_; rintro e wz ⟨rfl, hwz⟩; rw [hwz]; clear hwz)
              go_ret
              exact ⟨ret_bool (by rw [HV.out] <;> rfl), HB2.out⟩
            | true =>
              have hkm : k < m := of_decide_eq_true hd
              have hkm' : (k : Int) < (m : Int) := by omega
              have hkc : k ≤ cap := by omega
              go_wp2_with (first | (go_at_call 64; refine (HSf.out _).mono ?_; rintro e wz ⟨rfl, hwz⟩; rw [hwz]; clear hwz) | (go_at_call 138; refine (HEq.out (by omega) _ _ _ HT2.out (HT.out.kept HB2.out)).mono ?_; rintro e w3 ⟨rfl, hb3⟩))
              go_ret
              exact ⟨ret_bool (by rw [HV.out] <;> rfl), below2 HB2.out hb3⟩
  · have HV := hid (pathM_yes (u := u) (s := s.data.toList) (.inl hz))
    have hzb : (hops != 0) = true := by simpa using hz
    clear hz
    go_enter Tryz.func137, Tryz.ntmps137
    go_wp2
    go_ret
    exact ⟨ret_bool (by rw [HV.out] <;> rfl), Below.refl _ _⟩

end Go.Proofs.YtkhpemjjholneaaGreatDoor
