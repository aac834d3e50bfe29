/-
  Walks and plain facts that this claim leans on, put together out of 21 texts: Yq, Yr, Uw, Pg, Xa, Xb, Xc, Ma, Xe, Xg, Mc, Pr, Ps, Me, Mf, Xj, Mh, Ux, Uy, Dh, Di.
-/
import Derived.Test.YtkhpemjjholneaaGreatDoorProg
import Derived.Test.YtkhpemjjholneaaGreatDoorQa1
import Derived.Test.YtkhpemjjholneaaGreatDoorQa2
import Derived.Test.YtkhpemjjholneaaGreatDoorQa3
import Derived.Test.YtkhpemjjholneaaGreatDoorQa4
import Derived.Test.YtkhpemjjholneaaGreatDoorQa5
import Derived.Test.YtkhpemjjholneaaGreatDoorQa6
import Derived.Test.YtkhpemjjholneaaGreatDoorQa7
import Derived.Test.YtkhpemjjholneaaGreatDoorQa8
import Derived.Test.YtkhpemjjholneaaGreatDoorQa9
import Derived.Test.YtkhpemjjholneaaGreatDoorQa10
import Derived.Test.YtkhpemjjholneaaGreatDoorQa11
import Derived.Test.YtkhpemjjholneaaGreatDoorQa12
import Derived.Test.YtkhpemjjholneaaGreatDoorQa13
import Derived.Test.YtkhpemjjholneaaGreatDoorQa14
import Derived.Test.YtkhpemjjholneaaGreatDoorQa15
import Derived.Test.YtkhpemjjholneaaGreatDoorQa16
import Derived.Laws.RangeAny
import Derived.Lib.DecodeN
import Derived.Lib.OthersKept
import Derived.Deep.LoopGhost
import Derived.RegionTactic
import Derived.Deep.RegionWith
import Derived.Deep.QuietTactic
import Derived.BigQuiet
import Derived.Lib.AppendIntMem
import Derived.Lib.SmallJoins
import Derived.WalkSmall
import Derived.WalkMore
import Derived.Lib.LastIndexByte
import Derived.OwnWalk
import Derived.Deep.RegionLaw
import Derived.Laws.AppendOwn
import Derived.Deep.RegionHeld
import Derived.Laws.CopyOwn
import Derived.Laws.ResultCell
import Derived.Deep.MidRow
import Derived.Shelf.Strings.Builder1
import Derived.Shelf.Strings.Builder2
import Derived.Shelf.Strings.OnBuilder
import Derived.Shelf.Strings.Trim
import Derived.Shelf.Small.Utf8
import Derived.Shelf.Small.Bits
import Derived.Shelf.Small.Strs
import Derived.Shelf.Small.Wraps
import Derived.Shelf.Strings.BuilderF
import Derived.Shelf.Strings.BuilderK
import Derived.Shelf.Strings.BuilderRune
import Derived.Shelf.Utf8.AppendRune
import Derived.Shelf.Utf8.AppendRunePlain
import Derived.Shelf.Strings.Builder2Cap
import Derived.Shelf.Strconv.Itoa0
import Derived.Shelf.Strconv.Itoa1
import Derived.Shelf.LaysM
import Derived.Shelf.Strconv.Itoa2
import Derived.Shelf.Strconv.Itoa3
import Derived.Shelf.Strings.Search1
import Derived.Shelf.Strings.Search2
import Derived.Shelf.Strings.Search3
import Derived.Shelf.Strings.Cut
import Derived.Shelf.Strings.Count
import Derived.Shelf.Strings.Shaped
import Derived.Shelf.Sort.Plain
import Derived.Shelf.Strings.LastIndex
import Derived.Shelf.Strings.Prefix
import Derived.Shelf.Strings.Split
import Derived.Shelf.Strings.Replace
import Derived.Shelf.Strings.Runes
import Derived.Shelf.Strings.IndexAny
import Derived.Shelf.Strings.AsciiSet
import Derived.Shelf.Strings.IndexAnyAll
import Derived.Shelf.Unicode.DecodeSlow
import Derived.Shelf.Unicode.DecodeAny
import Derived.Shelf.Unicode.DecodeLast
import Derived.Shelf.Strings.FieldsFuncAny
import Derived.Shelf.Strings.FieldsFuncGrows
import Derived.Shelf.Slices.Equal
import Derived.Ground.Names2Prog
import Derived.Shelf.Slices.Clone
import Derived.Ground.SlgnProg
import Derived.Shelf.SlicesE.Equal
import Derived.Shelf.SlicesE.Clone
import Derived.WalkKit
import Derived.WalkSpells
import Derived.WalkLawsBesides
import Derived.Lib.Strings
import Derived.Lib.UnsafeStr
import Derived.Laws.IdiomStrings
import Derived.Lib.Bytealg
import Derived.Lib.FrozenHead2
import Derived.Lib.Builder
import Derived.Deep.WholeRow
import Derived.Lib.IndexMore
import Derived.Lib.Join
import Derived.BigRegion
import Derived.Laws.BitsAllLaws
import Derived.Laws.OwnMore
import Derived.LoopN
import Derived.Lib.BufferMore
import Derived.Lib.IndexAny
import Derived.Lib.Replace
import Derived.Lib.TrimByte
import Derived.Lib.ItoaNum
import Derived.Laws.BytesString
import Derived.Laws.Runes
import Derived.Scope
import Derived.ScopeJumps
import Derived.Lib.AppendStr
import Derived.Lib.SlTrimSet
import Derived.Below
import Derived.Lib.BufferRead
import Derived.Lib.RuneBytes
import Derived.Shelf.Strings.SlTrimAscii
import Derived.Maps.OwnSet
import Derived.Maps.OwnOps
import Derived.Maps.AppendAt
import Derived.StringKeys
import Derived.Deep.RegionHeldLaw
set_option linter.unusedSimpArgs false
set_option linter.unusedVariables false

namespace Go.Proofs.YtkhpemjjholneaaGreatDoor
open Go.RowKit

set_option maxHeartbeats 4000000 in
set_option maxRecDepth 100000 in
theorem hostC_any (u : Adr) (pv : Value) (cu cn : Nat) (nv : Value) (q : List UInt8 → Bool) (s : ByteArray) (w : World) (hA : AdrIn w cu u pv) (hn : w.cell? ⟨cn, 0, none⟩ = some nv) (hr : Rdr11 w nv q) (hs : s.size ≤ 4000000000) (hh : u.host.length ≤ 4000000000) :
    Calls Tryz.prog 131 #[.string s, .pointer (some ⟨cu, 0, none⟩), .pointer (some ⟨cn, 0, none⟩)] w fun e w' => e = .returned (.bool (hostR u q s.data.toList)) ∧ Below w.heap.size w w' := by
  obtain ⟨f, lb, rfl, eg, hc⟩ := hr
  obtain ⟨A, hAe⟩ : ∃ A : ByteArray, A = ⟨(aheadV [58, 47] s.data.toList).1.toArray⟩ := ⟨_, rfl⟩
  obtain ⟨R, hRe⟩ : ∃ A : ByteArray, A = ⟨(aheadV [58, 47] s.data.toList).2.toArray⟩ := ⟨_, rfl⟩
  have hle := ahead_le [58, 47] s.data.toList
  have hAl : A.data.toList = (aheadV [58, 47] s.data.toList).1 := by rw [hAe]
  have hRl : R.data.toList = (aheadV [58, 47] s.data.toList).2 := by rw [hRe]
  have hAs : A.size ≤ 4000000000 := by rw [hAe]; exact size_le hle.1 hs
  have hRs : R.size ≤ 4000000000 := by rw [hRe]; exact size_le hle.2 hs
  have HCut := hid (fun w => scut2_any s w hs)
  rw [← hAe, ← hRe] at HCut
  have HLo := hid (fun w => lower_any A w (by omega))
  obtain ⟨N, hN⟩ : ∃ N : ByteArray, N = ⟨(low A.data.toList).toArray⟩ := ⟨_, rfl⟩
  have hNl : N.data.toList = low A.data.toList := by rw [hN]
  rw [← hN] at HLo
  obtain ⟨H, hH⟩ : ∃ N : ByteArray, N = ⟨u.host.toArray⟩ := ⟨_, rfl⟩
  have hHl : H.data.toList = u.host := by rw [hH]
  have HHo := hid (fun w => hostMeans_any N H w (by rw [Lib.size_eq, hNl, low, List.length_map, ← Lib.size_eq]; exact hAs) (by rw [Lib.size_eq, hHl]; exact hh))
  have HV := hid (show hostR u q s.data.toList = (hostM N.data.toList H.data.toList && q R.data.toList) by unfold hostR; rw [hNl, hAl, hRl, hHl])
  obtain ⟨p, hpq⟩ : ∃ p, hostM N.data.toList H.data.toList = p := ⟨_, rfl⟩
  rw [hpq] at HV HHo
  have HN := hid hn
  have HA := hid (show w.cell? ⟨cu, 3, none⟩ = some (.string H) by rw [hH]; exact hA.cell 3 _ rfl)
  have HC := hid (fun (X : World) (hX : Below w.heap.size w X) => hc X R hX hRs)
  clear hn hA hc hle hAe hRe hAl hRl hAs hpq hN hNl hH hHl
  go_enter Tryz.func131, Tryz.ntmps131
  go_wp2_with fail
  refine (HCut.out _).mono ?_
  rintro e w1 ⟨rfl, hb1⟩
  have HB1 := hid hb1
  have HK := hid (show ∀ Z, Below w1.heap.size w1 Z → Z.cell? ⟨cu, 3, none⟩ = some (.string H) ∧ Z.cell? ⟨cn, 0, none⟩ = some (.func (.func f) #[] lb) from fun Z hZ => ⟨keptC HA.out (below2 HB1.out hZ), keptC HN.out (below2 HB1.out hZ)⟩)
  have HC1 := hid (fun (X : World) (hX : Below w1.heap.size w1 X) => HC.out X (below2 HB1.out hX))
  have HK1 := hid (fun (X Y : World) (hb : Below X.heap.size X Y) (h0 : Below w1.heap.size w1 X) => (show (fun wx : World => Below w1.heap.size w1 wx ∧ wx.cell? ⟨cu, 3, none⟩ = some (.string H) ∧ wx.cell? ⟨cn, 0, none⟩ = some (.func (.func f) #[] lb)) Y from let h := h0.trans (hb.mono h0.size); ⟨h, HK.out Y h⟩))
  have HK0 := hid (show (fun wx : World => Below w1.heap.size w1 wx ∧ wx.cell? ⟨cu, 3, none⟩ = some (.string H) ∧ wx.cell? ⟨cn, 0, none⟩ = some (.func (.func f) #[] lb)) w1.drew from let h := (Below.refl _ w1).drew; ⟨h, HK.out _ h⟩)
  clear hb1
  obtain ⟨d0, d1⟩ := HK.out w1 (Below.refl _ _)
  cases p with
  | false =>
    go_wp2_with fail
    have HKa : Hid (∀ Z, Below w1.drew.heap.size w1.drew Z → Below w1.heap.size w1 Z ∧ Z.cell? ⟨cu, 3, none⟩ = some (.string H)) := fun Z hZ => ⟨below2 (Below.refl _ w1).drew hZ, (HK.out Z (below2 (Below.refl _ w1).drew hZ)).1⟩
    first
      | (go_region_with (first
        | (go_at_call 126; refine (HLo.out _).mono ?_; rintro e wa ⟨rfl, hba⟩; obtain ⟨hbw, k0⟩ := HKa.out wa hba; clear hba)
        | (go_at_call 133; refine (HHo.out _).mono ?_; rintro e wb ⟨rfl, rfl⟩)))
      | fail "x"
    all_goals
      go_wp2
      go_ret
      exact ⟨ret_bool (by rw [HV.out]; rfl), below2 HB1.out hbw⟩
  | true =>
    go_wp2_with fail
    go_region_held (fun wx : World => Below w1.heap.size w1 wx ∧ wx.cell? ⟨cu, 3, none⟩ = some (.string H) ∧ wx.cell? ⟨cn, 0, none⟩ = some (.func (.func f) #[] lb))
      (first | exact HK0.out | exact HK1.out _ _ (by assumption) (by (try dsimp only at *); go_split_ands; assumption) | (go_split_ands; exact ⟨by assumption, by assumption, by assumption⟩))
      (first
        | (go_at_call 126; refine (HLo.out _).mono ?_; rintro e wa ⟨rfl, hba⟩)
        | (go_at_call 133; refine (HHo.out _).mono ?_; rintro e wb ⟨rfl, rfl⟩)
        | (refine (HC1.out _ (by (try dsimp only at *); go_split_ands; assumption)).mono ?_; rintro e wc ⟨rfl, hbc⟩))
    all_goals
      (try dsimp only at *)
      go_split_ands
      have hbw : Below w1.heap.size w1 wc := by assumption
      go_wp2
      go_ret
      exact ⟨ret_bool (by rw [HV.out]; rfl), below2 HB1.out hbw⟩

theorem enters_host : ∀ args w, (callFunc 131 args).run Tryz.prog w = .ok (.enter 131 args) w := enters_of Tryz.func131 (by kernel_rfl) rfl

set_option maxHeartbeats 1000000 in
theorem readHost_mk (u : Adr) (pv : Value) (hsl : IsSl pv) (f : Nat) (lb : Array Value) (w : World) :
    Calls Tryz.prog 86 #[adrVal u pv, .func (.func f) #[] lb] w fun e w' => e = .returned (.func (.func 131) #[] #[.pointer (some ⟨w.heap.size, 0, none⟩), .pointer (some ⟨w.heap.size + 1, 0, none⟩)]) ∧ w' = (w.alloc (.cells (adrCells u pv).toArray 45)).alloc (.cells #[.func (.func f) #[] lb] 78) := by
  have hmf : ∀ (fn : Fn) (first cap : Array Value) (w : World), (Instr.makeFunc fn first cap).run Tryz.prog w = .ok (.func fn first cap) w := fun _ _ _ _ => rfl
  obtain ⟨a0, n0, c0, rfl⟩ := hsl
  unfold adrVal adrCells
  go_enter Tryz.func86, Tryz.ntmps86
  go_wp2
  go_ret
  exact ⟨rfl, rfl⟩

theorem readHost_any (u : Adr) (pv : Value) (hsl : IsSl pv) (hh : u.host.length ≤ 4000000000) (nv : Value) (q : List UInt8 → Bool) (w : World) (hr : Rdr11 w nv q) :
    Calls Tryz.prog 86 #[adrVal u pv, nv] w (MkPost11 (hostR u q) w) := by
  have hr0 := hr
  obtain ⟨f, lb, rfl, eg, hc⟩ := hr0
  refine (readHost_mk u pv hsl f lb w).mono ?_
  rintro e w' ⟨rfl, hw⟩
  have h1 : AdrIn (w.alloc (.cells (adrCells u pv).toArray 45)) w.heap.size u pv := heap_alloc_new _ _
  have hb1 : Below w.heap.size w (w.alloc (.cells (adrCells u pv).toArray 45)) := (Below.refl _ w).alloc (Nat.le_refl _) _
  have hz : (w.alloc (.cells (adrCells u pv).toArray 45)).heap.size = w.heap.size + 1 := by simp
  have hb2 : Below (w.alloc (.cells (adrCells u pv).toArray 45)).heap.size (w.alloc (.cells (adrCells u pv).toArray 45)) w' := by rw [hw]; exact (Below.refl _ _).alloc (Nat.le_refl _) _
  have h2 : w'.heap[w.heap.size + 1]? = some (.cells #[.func (.func f) #[] lb] 78 (0, 0)) := by
    rw [hw, ← hz]; exact heap_alloc_new _ _
  have hA := h1.kept hb2
  have hB := below2 hb1 hb2
  have hcell : w'.cell? ⟨w.heap.size + 1, 0, none⟩ = some (.func (.func f) #[] lb) := by rw [Lib.cell_of_heap h2]; rfl
  refine ⟨_, rfl, ⟨_, _, rfl, enters_host, fun X s hX hs => ?_⟩, hB⟩
  exact hostC_any u pv w.heap.size (w.heap.size + 1) _ q s X (hA.kept hX) (keptC hcell hX) (hr.kept (below2 hB hX)) hs hh

end Go.Proofs.YtkhpemjjholneaaGreatDoor

namespace Go.Proofs.YtkhpemjjholneaaGreatDoor
open Go.RowKit

theorem schR_none {u p : Adr} {q : List UInt8 → Bool} {s : List UInt8} (h : schemeV s = none) : schR u p q s = (schM p.scheme u.scheme && q s) := by unfold schR; rw [h]

theorem schR_all {u p : Adr} {q : List UInt8 → Bool} {s sc b : List UInt8} (h : schemeV s = some (sc, b)) (hb : b = []) : schR u p q s = schM sc u.scheme := by unfold schR; rw [h]; simp only; rw [if_pos hb]

theorem schR_two {u p : Adr} {q : List UInt8 → Bool} {s sc b : List UInt8} (h : schemeV s = some (sc, b)) (hb : b ≠ []) (hp : Lib.hasPrefix b [47, 47] = true) : schR u p q s = (schM sc u.scheme && q (b.drop 2)) := by unfold schR; rw [h]; simp only; rw [if_neg hb, if_pos hp]

theorem schR_else {u p : Adr} {q : List UInt8 → Bool} {s sc b : List UInt8} (h : schemeV s = some (sc, b)) (hb : b ≠ []) (hp : Lib.hasPrefix b [47, 47] = false) : schR u p q s = (schM p.scheme u.scheme && q s) := by unfold schR; rw [h]; simp only; rw [if_neg hb, if_neg (by rw [hp]; decide)]

theorem schemeV_le {s sc b : List UInt8} (h : schemeV s = some (sc, b)) : sc.length ≤ s.length ∧ b.length ≤ s.length := by
  unfold schemeV at h
  split at h
  · injection h with h
    have hp := part_le 58 s
    simp only [Prod.mk.injEq] at h
    rw [← h.1, ← h.2, low, List.length_map]
    exact hp
  · cases h

set_option maxHeartbeats 4000000 in
set_option maxRecDepth 100000 in
theorem schC_any (u p : Adr) (pv rv : Value) (cu cn cp : Nat) (nv : Value) (q : List UInt8 → Bool) (s : ByteArray) (w : World) (hg : Gd w) (hA : AdrIn w cu u pv) (hP : AdrIn w cp p rv) (hn : w.cell? ⟨cn, 0, none⟩ = some nv) (hr : Rdr11 w nv q) (hs : s.size ≤ 4000000000) :
    Calls Tryz.prog 128 #[.string s, .pointer (some ⟨cu, 0, none⟩), .pointer (some ⟨cn, 0, none⟩), .pointer (some ⟨cp, 0, none⟩)] w fun e w' => e = .returned (.bool (schR u p q s.data.toList)) ∧ Below w.heap.size w w' := by
  obtain ⟨f, lb, rfl, eg, hc⟩ := hr
  have HCut := hid (scutScheme_any s w hg hs)
  obtain ⟨U, hU⟩ : ∃ X : ByteArray, X = ⟨u.scheme.toArray⟩ := ⟨_, rfl⟩
  obtain ⟨P, hP0⟩ : ∃ X : ByteArray, X = ⟨p.scheme.toArray⟩ := ⟨_, rfl⟩
  have hUl : U.data.toList = u.scheme := by rw [hU]
  have hPl : P.data.toList = p.scheme := by rw [hP0]
  have HKu := hid (show w.cell? ⟨cu, 0, none⟩ = some (.string U) by rw [hU]; exact hA.cell 0 _ rfl)
  have HKp := hid (show w.cell? ⟨cp, 0, none⟩ = some (.string P) by rw [hP0]; exact hP.cell 0 _ rfl)
  have HKn := hid hn
  have HC := hid (fun (X : World) (t : ByteArray) (hX : Below w.heap.size w X) (ht : t.size ≤ 4000000000) => hc X t hX ht)
  have HSP := hid (fun w => scheme11_any P U w)
  rw [hPl, hUl] at HSP
  obtain ⟨mp, hmp⟩ : ∃ b, schM p.scheme u.scheme = b := ⟨_, rfl⟩
  rw [hmp] at HSP
  clear hA hP hn hc hU hP0 hPl
  cases hsv : schemeV s.data.toList with
  | none =>
    have HV := hid (show schR u p q s.data.toList = (mp && q s.data.toList) by rw [schR_none hsv, hmp])
    rw [hsv] at HCut
    have HPre : Hid (∀ w : World, Calls Tryz.prog 130 #[.string ⟨#[]⟩, .string ⟨#[47, 47]⟩] w fun e w' => e = .returned (.tuple #[.string ⟨#[]⟩, .bool false]) ∧ w' = w) := fun w => Tryz.strings_CutPrefix ⟨#[]⟩ ⟨#[47, 47]⟩ w
    clear hsv hUl hmp
    go_enter Tryz.func128, Tryz.ntmps128
    go_wp2_with fail
    refine HCut.out.mono ?_
    rintro e w1 ⟨rfl, hb1⟩
    have HB1 := hid hb1
    have d0 := keptC HKu.out hb1
    have d1 := keptC HKp.out hb1
    have d2 := keptC HKn.out hb1
    clear hb1
    cases mp with
    | false =>
      go_wp2_with (first | (go_at_call 130; refine (HPre.out _).mono ?_; rintro e wz ⟨rfl, hwz⟩; rw [hwz]; clear hwz) | (go_at_call 32; refine (HSP.out _).mono ?_; rintro e wz ⟨rfl, hwz⟩; rw [← hwz]; clear hwz))
      go_ret
      exact ⟨ret_bool (by rw [HV.out]; rfl), HB1.out⟩
    | true =>
      go_wp2_with (first | (go_at_call 130; refine (HPre.out _).mono ?_; rintro e wz ⟨rfl, hwz⟩; rw [hwz]; clear hwz) | (go_at_call 32; refine (HSP.out _).mono ?_; rintro e wz ⟨rfl, hwz⟩; rw [← hwz]; clear hwz))
      refine (HC.out _ s HB1.out hs).mono ?_
      rintro e w3 ⟨rfl, hb3⟩
      go_wp2
      go_ret
      exact ⟨ret_bool (by rw [HV.out]; rfl), below2 HB1.out hb3⟩
  | some m =>
    obtain ⟨sc, b⟩ := m
    have hle := schemeV_le hsv
    rw [hsv] at HCut
    obtain ⟨S, hS⟩ : ∃ X : ByteArray, X = ⟨sc.toArray⟩ := ⟨_, rfl⟩
    obtain ⟨B, hB⟩ : ∃ X : ByteArray, X = ⟨b.toArray⟩ := ⟨_, rfl⟩
    have hSl : S.data.toList = sc := by rw [hS]
    have hBl : B.data.toList = b := by rw [hB]
    have hBs : B.size ≤ 4000000000 := by rw [Lib.size_eq, hBl]; rw [Lib.size_eq] at hs; omega
    have HCut2 : Hid (Calls Tryz.prog 129 #[.string s] w fun e w' => e = .returned (.tuple #[.string S, .string B, .bool true]) ∧ Below w.heap.size w w') := by
      rw [hS, hB]; exact HCut.out
    clear HCut
    have HCut := HCut2
    clear HCut2
    have HSS := hid (fun w => scheme11_any S U w)
    rw [hSl, hUl] at HSS
    obtain ⟨ms, hms⟩ : ∃ b, schM sc u.scheme = b := ⟨_, rfl⟩
    rw [hms] at HSS
    have HPre0 := hid (fun w => Tryz.strings_CutPrefix B ⟨#[47, 47]⟩ w)
    by_cases hb0 : b = []
    · have HV := hid (show schR u p q s.data.toList = ms by rw [schR_all hsv hb0, hms])
      have hbe := empty_yes B (by rw [hBl]; exact hb0)
      clear hsv hUl hmp hS hB hSl hBl hle hb0 hms
      go_enter Tryz.func128, Tryz.ntmps128
      go_wp2_with fail
      refine HCut.out.mono ?_
      rintro e w1 ⟨rfl, hb1⟩
      have HB1 := hid hb1
      have d0 := keptC HKu.out hb1
      have d1 := keptC HKp.out hb1
      have d2 := keptC HKn.out hb1
      clear hb1
      go_wp2_with (go_at_call 32; refine (HSS.out _).mono ?_; rintro e wz ⟨rfl, hwz⟩; rw [← hwz]; clear hwz)
      go_ret
      exact ⟨ret_bool (by rw [HV.out]), HB1.out⟩
    · have hbe := empty_no B (by rw [hBl]; exact hb0)
      cases hpre : Lib.hasPrefix b [47, 47] with
      | false =>
        have HV := hid (show schR u p q s.data.toList = (mp && q s.data.toList) by rw [schR_else hsv hb0 hpre, hmp])
        obtain ⟨T, hT⟩ : ∃ T : ByteArray, T = ⟨(Lib.trimPrefix B.data.toList [47, 47]).toArray⟩ := ⟨_, rfl⟩
        have HPre : Hid (∀ w : World, Calls Tryz.prog 130 #[.string B, .string ⟨#[47, 47]⟩] w fun e w' => e = .returned (.tuple #[.string T, .bool false]) ∧ w' = w) := fun w => by
          have := HPre0.out w
          rw [show (⟨#[47, 47]⟩ : ByteArray).data.toList = [47, 47] from rfl, ← hT, hBl, hpre] at this
          exact this
        clear hsv hUl hmp hS hB hSl hBl hle hb0 hms hpre hT
        go_enter Tryz.func128, Tryz.ntmps128
        go_wp2_with fail
        refine HCut.out.mono ?_
        rintro e w1 ⟨rfl, hb1⟩
        have HB1 := hid hb1
        have d0 := keptC HKu.out hb1
        have d1 := keptC HKp.out hb1
        have d2 := keptC HKn.out hb1
        clear hb1
        cases mp with
        | false =>
          go_wp2_with (first | (go_at_call 130; refine (HPre.out _).mono ?_; rintro e wz ⟨rfl, hwz⟩; rw [hwz]; clear hwz) | (go_at_call 32; refine (HSP.out _).mono ?_; rintro e wz ⟨rfl, hwz⟩; rw [← hwz]; clear hwz))
          go_ret
          exact ⟨ret_bool (by rw [HV.out]; rfl), HB1.out⟩
        | true =>
          go_wp2_with (first | (go_at_call 130; refine (HPre.out _).mono ?_; rintro e wz ⟨rfl, hwz⟩; rw [hwz]; clear hwz) | (go_at_call 32; refine (HSP.out _).mono ?_; rintro e wz ⟨rfl, hwz⟩; rw [← hwz]; clear hwz))
          refine (HC.out _ s HB1.out hs).mono ?_
          rintro e w3 ⟨rfl, hb3⟩
          go_wp2
          go_ret
          exact ⟨ret_bool (by rw [HV.out]; rfl), below2 HB1.out hb3⟩
      | true =>
        have HV := hid (show schR u p q s.data.toList = (ms && q (b.drop 2)) by rw [schR_two hsv hb0 hpre, hms])
        obtain ⟨T, hT⟩ : ∃ T : ByteArray, T = ⟨(b.drop 2).toArray⟩ := ⟨_, rfl⟩
        have hTl : T.data.toList = b.drop 2 := by rw [hT]
        have hTs : T.size ≤ 4000000000 := by rw [Lib.size_eq, hTl, List.length_drop, ← hBl, ← Lib.size_eq]; omega
        have HPre : Hid (∀ w : World, Calls Tryz.prog 130 #[.string B, .string ⟨#[47, 47]⟩] w fun e w' => e = .returned (.tuple #[.string T, .bool true]) ∧ w' = w) := fun w => by
          have := HPre0.out w
          rw [show (⟨#[47, 47]⟩ : ByteArray).data.toList = [47, 47] from rfl, hBl, hpre, show Lib.trimPrefix b [47, 47] = b.drop 2 by unfold Lib.trimPrefix; rw [hpre]; rfl, ← hT] at this
          exact this
        rw [← hTl] at HV
        clear hsv hUl hmp hS hB hSl hBl hle hb0 hms hpre hT hTl
        go_enter Tryz.func128, Tryz.ntmps128
        go_wp2_with fail
        refine HCut.out.mono ?_
        rintro e w1 ⟨rfl, hb1⟩
        have HB1 := hid hb1
        have d0 := keptC HKu.out hb1
        have d1 := keptC HKp.out hb1
        have d2 := keptC HKn.out hb1
        clear hb1
        cases ms with
        | false =>
          go_wp2_with (first | (go_at_call 130; refine (HPre.out _).mono ?_; rintro e wz ⟨rfl, hwz⟩; rw [hwz]; clear hwz) | (go_at_call 32; refine (HSS.out _).mono ?_; rintro e wz ⟨rfl, hwz⟩; rw [← hwz]; clear hwz))
          go_ret
          exact ⟨ret_bool (by rw [HV.out]; rfl), HB1.out⟩
        | true =>
          go_wp2_with (first | (go_at_call 130; refine (HPre.out _).mono ?_; rintro e wz ⟨rfl, hwz⟩; rw [hwz]; clear hwz) | (go_at_call 32; refine (HSS.out _).mono ?_; rintro e wz ⟨rfl, hwz⟩; rw [← hwz]; clear hwz))
          refine (HC.out _ T HB1.out hTs).mono ?_
          rintro e w3 ⟨rfl, hb3⟩
          go_wp2
          go_ret
          exact ⟨ret_bool (by rw [HV.out]; rfl), below2 HB1.out hb3⟩

end Go.Proofs.YtkhpemjjholneaaGreatDoor

namespace Go.Proofs.YtkhpemjjholneaaGreatDoor
open Go.RowKit

theorem join_flat (L : List (List UInt8)) : Lib.join L [] = L.flatten := by
  unfold Lib.join
  induction L with
  | nil => rfl
  | cons x r ih =>
    cases r with
    | nil => simp [List.intercalate]
    | cons y r => simp [List.intercalate] at ih ⊢; exact ih

theorem joinP_any (v : Value) (L : List (List UInt8)) (w : World) (h : PathAt w v L) (hl : L.length ≤ 1000000) (hf : L.flatten.length ≤ 1000000) :
    Calls Tryz.prog 43 #[v, .string ⟨#[]⟩] w fun e w' => e = .returned (.string ⟨L.flatten.toArray⟩) ∧ Below w.heap.size w w' := by
  rcases h with ⟨rfl, rfl⟩ | ⟨b, cap, rfl, h2, h3, h4, h5⟩
  · refine (Tryz.strings_Join_none none 0 ⟨#[]⟩ w).mono ?_
    rintro e w' ⟨rfl, rfl⟩
    exact ⟨rfl, Below.refl _ _⟩
  · have e1 : (L.map fun x => (⟨x.toArray⟩ : ByteArray)).map (·.data.toList) = L := by
      rw [List.map_map]
      exact List.map_id L
    have hj := Tryz.strings_Join b 0 cap (L.map fun x => (⟨x.toArray⟩ : ByteArray)) ⟨#[]⟩ w ?_ h2 (by simp; omega) (by simp; omega) ?_
    · rw [e1, show (⟨#[]⟩ : ByteArray).data.toList = [] from rfl, join_flat, List.length_map] at hj
      exact hj
    · intro j x hx
      rw [List.getElem?_map] at hx
      obtain ⟨y, hy, rfl⟩ := Option.map_eq_some_iff.1 hx
      obtain ⟨hj, e⟩ := List.getElem?_eq_some_iff.1 hy
      rw [Nat.zero_add, h5 j hj, e]
    · rw [e1, show (⟨#[]⟩ : ByteArray).data.toList = [] from rfl, join_flat]; omega

end Go.Proofs.YtkhpemjjholneaaGreatDoor

namespace Go.Proofs.YtkhpemjjholneaaGreatDoor
def blC (c : UInt8) : Bool := blankI c.toNat

theorem all_reverse (A : List UInt8) (h : A.all blC = true) : A.reverse.all blC = true := by simpa using h

end Go.Proofs.YtkhpemjjholneaaGreatDoor

namespace Go.Proofs.YtkhpemjjholneaaGreatDoor
/-- A header. -/
structure Hd where
  name : List UInt8
  value : List UInt8
deriving DecidableEq

def bndV (l : List UInt8) : Int := if l = [] then -1 else intV l

def bndOk (l : List UInt8) : Bool := l == [] || intOk l

end Go.Proofs.YtkhpemjjholneaaGreatDoor

namespace Go.Proofs.YtkhpemjjholneaaGreatDoor
/-- T is the number n in tens. -/
def Dec (n : Nat) (T : List UInt8) : Prop := T ≠ [] ∧ T.all digP = true ∧ numI T = (n : Int) ∧ T.length ≤ 40

/-- On the way there: T stands behind the digits of u. -/
def DecI (n f u : Nat) (T : List UInt8) : Prop :=
  u < 10 ^ f ∧ T.length + f = 20 ∧ T.all digP = true ∧ (∀ X : List UInt8, X.all digP = true → numI X = (u : Int) → numI (X ++ T) = (n : Int)) ∧ (u = 0 → T = [] ∨ numI T = (n : Int)) ∧ (T = [] → u = n)

def decC (d : Nat) : UInt8 := UInt8.ofNat (48 + d)

theorem decC_val (d : Nat) (h : d < 10) : ((decC d).toNat : Int) - 48 = (d : Int) ∧ digP (decC d) = true := by
  rcases (show d = 0 ∨ d = 1 ∨ d = 2 ∨ d = 3 ∨ d = 4 ∨ d = 5 ∨ d = 6 ∨ d = 7 ∨ d = 8 ∨ d = 9 from by omega) with
    rfl | rfl | rfl | rfl | rfl | rfl | rfl | rfl | rfl | rfl <;> decide

theorem decI_start (n : Nat) (h : n < 10 ^ 20) : DecI n 20 n [] :=
  ⟨h, rfl, rfl, fun X _ hx => by simpa using hx, fun _ => .inl rfl, fun _ => rfl⟩

theorem decI_step (n f u : Nat) (T : List UInt8) (hn : n ≤ 4294967296) (hu : u ≤ 4294967296) (h : DecI n f u T) (hp : 0 < u ∨ T = []) : ∃ g, f = g + 1 ∧ DecI n g (u / 10) (decC (u % 10) :: T) := by
  obtain ⟨h1, h2, h3, h4, h5, h6⟩ := h
  have hd := decC_val (u % 10) (by omega)
  cases f with
  | zero =>
    simp at h1
    rcases hp with hp | hp
    · omega
    · subst hp; simp at h2
  | succ g =>
    have hone : ∀ X : List UInt8, X.all digP = true → numI X = ((u / 10 : Nat) : Int) → numI (X ++ [decC (u % 10)]) = (u : Int) := by
      intro X hX hx
      rw [numI_snoc, hx, hd.1]
      unfold ten
      rw [if_neg (by omega)]
      omega
    refine ⟨g, rfl, ?_, by simp; omega, by simp [hd.2]; simpa using h3, ?_, ?_, by simp⟩
    · rw [Nat.div_lt_iff_lt_mul (by omega)]; rw [Nat.pow_succ] at h1; exact h1
    · intro X hX hx
      rw [show X ++ decC (u % 10) :: T = (X ++ [decC (u % 10)]) ++ T by simp]
      refine h4 _ ?_ (hone X hX hx)
      rw [List.all_append, hX]; simp [hd.2]
    · intro h0
      right
      have := h4 [decC (u % 10)] (by simp [hd.2]) (by have := hone [] rfl (by rw [h0]; rfl); simpa using this)
      simpa using this

theorem decI_done (n f u : Nat) (T : List UInt8) (h : DecI n f u T) (h0 : u = 0) (hT : T ≠ []) : Dec n T := by
  obtain ⟨h1, h2, h3, h4, h5, h6⟩ := h
  refine ⟨hT, h3, ?_, by omega⟩
  rcases h5 h0 with h | h
  · exact absurd h hT
  · exact h

theorem Dec.no {n : Nat} {T : List UInt8} (h : Dec n T) (c : UInt8) (hc : digP c = false) : c ∉ T := by
  intro hm
  have := List.all_eq_true.1 h.2.1 c hm
  rw [hc] at this
  cases this

theorem Dec.int {n : Nat} {T : List UInt8} (h : Dec n T) : bndV T = n ∧ bndOk T = true := by
  have e : (T.all digP && !T.isEmpty) = true := by
    rw [h.2.1]
    have := h.1
    cases T with
    | nil => exact absurd rfl this
    | cons a b => rfl
  constructor
  · unfold bndV intV
    rw [if_neg h.1, if_pos e, h.2.2.1]
  · unfold bndOk intOk
    rw [e]; simp

end Go.Proofs.YtkhpemjjholneaaGreatDoor

namespace Go.Proofs.YtkhpemjjholneaaGreatDoor
open Go.RowKit

/-- The texts L lie in block b, from off on. -/
def TxL (w : World) (b off : Nat) (L : List (List UInt8)) : Prop := ∀ j (h : j < L.length), w.cell? ⟨b, off + j, none⟩ = some (.string ⟨L[j].toArray⟩)

/-- The value v reads as the texts L. -/
def TxAt (w : World) (v : Value) (L : List (List UInt8)) : Prop :=
  ∃ a cap, v = .slice a L.length cap ∧ L.length ≤ cap ∧ cap ≤ maxLen ∧ ∀ j (hj : j < L.length), ∃ b off, a = some ⟨b, off, none⟩ ∧ w.cell? ⟨b, off + j, none⟩ = some (.string ⟨L[j].toArray⟩)

/-- The headers L lie in block b, from off on. -/
def HdS (w : World) (b off : Nat) (L : List Hd) : Prop :=
  ∀ j (h : j < L.length), w.cell? ⟨b, off + j * 2, none⟩ = some (.string ⟨L[j].name.toArray⟩) ∧ w.cell? ⟨b, off + j * 2 + 1, none⟩ = some (.string ⟨L[j].value.toArray⟩)

/-- The value v reads as the headers L. -/
def HdAt (w : World) (v : Value) (L : List Hd) : Prop :=
  ∃ a cap, v = .slice a L.length cap ∧ L.length ≤ cap ∧ cap ≤ maxLen ∧ ∀ j (hj : j < L.length), ∃ b off, a = some ⟨b, off, none⟩ ∧ w.cell? ⟨b, off + j * 2, none⟩ = some (.string ⟨L[j].name.toArray⟩) ∧ w.cell? ⟨b, off + j * 2 + 1, none⟩ = some (.string ⟨L[j].value.toArray⟩)

theorem HdS.kept {w w' : World} {b off : Nat} {L : List Hd} (h : HdS w b off L) (hb : Below w.heap.size w w') : HdS w' b off L := fun j hj => by
  have h1 := h j hj
  exact ⟨(hb.cell (World.block_lt_of_cell? w _ h1.1)).trans h1.1, (hb.cell (World.block_lt_of_cell? w _ h1.2)).trans h1.2⟩

theorem TxL.kept {w w' : World} {b off : Nat} {L : List (List UInt8)} (h : TxL w b off L) (hb : Below w.heap.size w w') : TxL w' b off L := fun j hj => by
  have h1 := h j hj
  exact (hb.cell (World.block_lt_of_cell? w _ h1)).trans h1

theorem HdAt.kept {w w' : World} {v : Value} {L : List Hd} (h : HdAt w v L) (hb : Below w.heap.size w w') : HdAt w' v L := by
  obtain ⟨a, cap, h1, h2, h3, h4⟩ := h
  refine ⟨a, cap, h1, h2, h3, fun j hj => ?_⟩
  obtain ⟨b, off, e, c1, c2⟩ := h4 j hj
  exact ⟨b, off, e, (hb.cell (World.block_lt_of_cell? w _ c1)).trans c1, (hb.cell (World.block_lt_of_cell? w _ c2)).trans c2⟩

theorem TxAt.kept {w w' : World} {v : Value} {L : List (List UInt8)} (h : TxAt w v L) (hb : Below w.heap.size w w') : TxAt w' v L := by
  obtain ⟨a, cap, h1, h2, h3, h4⟩ := h
  refine ⟨a, cap, h1, h2, h3, fun j hj => ?_⟩
  obtain ⟨b, off, e, c1⟩ := h4 j hj
  exact ⟨b, off, e, (hb.cell (World.block_lt_of_cell? w _ c1)).trans c1⟩

theorem xba {a b : ByteArray} (h : a.data.toList = b.data.toList) : a = b := by
  cases a; cases b; simp at h; simp [h]

end Go.Proofs.YtkhpemjjholneaaGreatDoor

namespace Go.Proofs.YtkhpemjjholneaaGreatDoor
open Go.RowKit

/-- What stands behind a quote, and what is left behind the closing one. -/
def quo : List UInt8 → List UInt8 × List UInt8
  | [] => ([], [])
  | [c] => if c = 34 then ([], []) else ([c], [])
  | c :: d :: r => if c = 34 then ([], d :: r) else if c = 92 then (d :: (quo r).1, (quo r).2) else (c :: (quo (d :: r)).1, (quo (d :: r)).2)

end Go.Proofs.YtkhpemjjholneaaGreatDoor

namespace Go.Proofs.YtkhpemjjholneaaGreatDoor
open Go.RowKit

theorem xext {a : ByteArray} {l : List UInt8} (h : a.data.toList = l) : a = ⟨l.toArray⟩ := xba h

end Go.Proofs.YtkhpemjjholneaaGreatDoor

namespace Go.Proofs.YtkhpemjjholneaaGreatDoor
open Go.RowKit

theorem xtens_app (d : Nat) (h : d < 10) (T : List UInt8) : (⟨#[48, 49, 50, 51, 52, 53, 54, 55, 56, 57]⟩ : ByteArray).extract d (d + 1) ++ ⟨T.toArray⟩ = ⟨(decC d :: T).toArray⟩ := by
  refine xext ?_
  rw [ByteArray.data_append, Array.toList_append]
  have : ((⟨#[48, 49, 50, 51, 52, 53, 54, 55, 56, 57]⟩ : ByteArray).extract d (d + 1)).data.toList = [decC d] := by
    rcases (show d = 0 ∨ d = 1 ∨ d = 2 ∨ d = 3 ∨ d = 4 ∨ d = 5 ∨ d = 6 ∨ d = 7 ∨ d = 8 ∨ d = 9 from by omega) with
      rfl | rfl | rfl | rfl | rfl | rfl | rfl | rfl | rfl | rfl <;> (rw [Lib.extract_data]; rfl)
  rw [this]; rfl

theorem word_app (s : ByteArray) (k : Nat) (h : k < s.size) (T : List UInt8) : (⟨T.toArray⟩ : ByteArray) ++ s.extract k (k + 1) = ⟨(T ++ [s[k]]).toArray⟩ := by
  refine xext ?_
  rw [ByteArray.data_append, Array.toList_append, Lib.extract_data, show k + 1 - k = 1 by omega, drop_cons s k h]
  rfl

end Go.Proofs.YtkhpemjjholneaaGreatDoor

namespace Go.Proofs.YtkhpemjjholneaaGreatDoor
open Go.RowKit

/-- Of what was there nothing has turned but block b. -/
def But (b : Nat) (w w' : World) : Prop := Below b w w' ∧ ∀ k, b < k → k < w.heap.size → w'.heap[k]? = w.heap[k]?

theorem But.refl (b : Nat) (w : World) : But b w w := ⟨Below.refl _ _, fun _ _ _ => rfl⟩

theorem But.of {b : Nat} {w w' : World} (h : Below w.heap.size w w') (hb : b ≤ w.heap.size) : But b w w' := ⟨h.mono hb, fun k _ hk => h.block k hk⟩

theorem But.trans {b : Nat} {w w1 w2 : World} (h : But b w w1) (h2 : But b w1 w2) : But b w w2 :=
  ⟨h.1.trans h2.1, fun k hb hk => (h2.2 k hb (by have := h.1.size; omega)).trans (h.2 k hb hk)⟩

theorem But.then {b : Nat} {w w1 w2 : World} (h : But b w w1) (h2 : Below w1.heap.size w1 w2) (hb : b ≤ w1.heap.size) : But b w w2 := h.trans (But.of h2 hb)

theorem But.set {b : Nat} {w w1 : World} (h : But b w w1) (j : Nat) (x : Value) : But b w (w1.setCell ⟨b, j, none⟩ x) :=
  ⟨h.1.setCell (p := ⟨b, j, none⟩) (Nat.le_refl _) _, fun k hb hk => by
    rw [heap_setCell_other _ _ _ _ (show k ≠ b by omega)]; exact h.2 k hb hk⟩

theorem But.size {b : Nat} {w w1 : World} (h : But b w w1) : w.heap.size ≤ w1.heap.size := h.1.size

theorem But.block {b : Nat} {w w1 : World} (h : But b w w1) (k : Nat) (hk : k < w.heap.size) (hne : k ≠ b) : w1.heap[k]? = w.heap[k]? := by
  rcases Nat.lt_or_gt_of_ne hne with h1 | h1
  · exact h.1.block k h1
  · exact h.2 k h1 hk

/-- A world of which the block is new. -/
theorem But.below {b B : Nat} {v w w1 : World} (h0 : Below B v w) (h : But b w w1) (hB : B ≤ b) : Below B v w1 := h0.trans (h.1.mono hB)

theorem But.own {b B n k : Nat} {e : TypeId} {v : Value} {xs : List Value} {w w1 : World} (h : But b w w1) (ho : w.ownsRow B e k v n xs) (hne : v.ownBlock ≠ some b) : w1.ownsRow B e k v n xs := by
  rcases ho.2 with h' | ⟨g, cap, cur, hv, hg, hrow, rest⟩
  · exact ⟨ho.1, .inl h'⟩
  · refine ⟨ho.1, .inr ⟨g, cap, cur, hv, hg, (h.block g (Array.getElem?_eq_some_iff.1 hrow).1 ?_).trans hrow, rest⟩⟩
    rintro rfl
    subst hv
    exact hne rfl

end Go.Proofs.YtkhpemjjholneaaGreatDoor

namespace Go.Proofs.YtkhpemjjholneaaGreatDoor
open Go.RowKit

/-- It is nil; or it leads to a row of cap cells, the numbers zs (the first len are its elements), each fitting its kind. -/
def IsRow (k : IntKind) (w : World) (a : Option Addr) (len cap : Nat) (zs : List Int) : Prop :=
  (a = none ∧ len = 0 ∧ cap = 0 ∧ zs = []) ∨
  ∃ x, a = some x ∧ len ≤ cap ∧ cap ≤ maxLen ∧ zs.length = cap ∧ (∀ i, i < zs.length → w.cell? (x.add i) = some (.int k (zs.getD i 0))) ∧ ∀ n ∈ zs, (Lit.int k n).wf = true

theorem IsRow.block {k : IntKind} {w : World} {a : Option Addr} {len cap : Nat} {zs : List Int} (h : IsRow k w a len cap zs) {y : Addr} (hy : a = some y) {j : Nat} (hj : j < zs.length) : (y.add j).block < w.heap.size := by
  rcases h with ⟨rfl, _⟩ | ⟨x, rfl, _, _, _, hcell, _⟩
  · cases hy
  · obtain rfl := Option.some.inj hy
    exact World.block_lt_of_cell? w _ (hcell j hj)

end Go.Proofs.YtkhpemjjholneaaGreatDoor

namespace Go.Proofs.YtkhpemjjholneaaGreatDoor
open Go.RowKit

/-- The slice v reads as the bytes l. -/
def SlB (w : World) (v : Value) (l : List UInt8) : Prop :=
  (∃ c, v = .slice none 0 c ∧ l = []) ∨ ∃ x cap, v = .slice (some x) l.length cap ∧ ∀ j (h : j < l.length), w.cell? (x.add j) = some (.int .u8 (l[j].toNat : Int))

theorem SlB.string {P : Program} {w : World} {v : Value} {l : List UInt8} {e src dst : TypeId} (h : SlB w v l) (hs : P.underlying src = some (.slice e)) (he : P.underlying e = some (.int .u8)) (hd : P.underlying dst = some .string) :
    (convert src dst v).run P w = .ok (.string ⟨l.toArray⟩) w := by
  rcases h with ⟨c, rfl, rfl⟩ | ⟨x, cap, rfl, hc⟩
  · exact Lib.run_convert_nil_bytes w src dst e c hs he hd
  · exact run_convert_bytes_back w src dst e x cap l hs he hd hc

theorem SlB.below {w w' : World} {v : Value} {l : List UInt8} {B : Nat} (h : SlB w v l) (hb : Below B w w') (hB : ∀ x n c, v = .slice (some x) n c → ∀ j, j < l.length → (x.add j).block < B) : SlB w' v l := by
  rcases h with h | ⟨x, cap, rfl, hc⟩
  · exact .inl h
  · exact .inr ⟨x, cap, rfl, fun j hj => (hb.cell (hB x _ _ rfl j hj)).trans (hc j hj)⟩

theorem SlB.kept {w w' : World} {v : Value} {l : List UInt8} (h : SlB w v l) (hb : Below w.heap.size w w') : SlB w' v l := by
  refine h.below hb ?_
  rcases h with ⟨c, rfl, rfl⟩ | ⟨x, cap, rfl, hc⟩
  · intro x n c' e j hj; simp at hj
  · intro x' n c' e j hj
    obtain ⟨e1, _, _⟩ := Value.slice.inj e
    obtain rfl := Option.some.inj e1
    exact World.block_lt_of_cell? w _ (hc j hj)

theorem SlB.alloc {w : World} {v : Value} {l : List UInt8} (h : SlB w v l) (o : Obj) : SlB (w.alloc o) v l := h.kept ((Below.refl _ w).alloc (Nat.le_refl _) o)

theorem SlB.len {w : World} {v : Value} {l : List UInt8} (h : SlB w v l) : ∃ a cap, v = .slice a l.length cap := by
  rcases h with ⟨c, rfl, rfl⟩ | ⟨x, cap, rfl, hc⟩
  · exact ⟨none, c, rfl⟩
  · exact ⟨some x, cap, rfl⟩

/-- What an owned row reads as. -/
theorem SlB.own {w : World} {B : Nat} {e : TypeId} {v : Value} {l : List UInt8} (h : w.ownsRow B e 1 v l.length (Lib.byteCells l)) : SlB w v l := by
  rcases h.2 with ⟨rfl, h0⟩ | ⟨g, cap, cur, rfl, _⟩
  · exact .inl ⟨0, rfl, List.eq_nil_of_length_eq_zero h0⟩
  · exact .inr ⟨_, cap, rfl, fun j hj => h.cells (g := g) rfl j _ (by simp [Lib.byteCells, hj])⟩

theorem SlB.take {w : World} {a : Option Addr} {len cap : Nat} {l : List UInt8} (h : SlB w (.slice a len cap) l) (n : Nat) (hn : n < l.length) : SlB w (.slice a n cap) (l.take n) := by
  rcases h with ⟨c, e, rfl⟩ | ⟨x, c, e, hc⟩
  · simp at hn
  · obtain ⟨rfl, rfl, rfl⟩ := Value.slice.inj e
    refine .inr ⟨x, cap, by congr 1; simp; omega, fun j hj => ?_⟩
    have hj' : j < l.length := by simp at hj; omega
    rw [hc j hj']; simp

/-- A slice that came in reads as bytes. -/
theorem IsRow.bytes {w : World} {a : Option Addr} {len cap : Nat} {zs : List Int} (h : IsRow .u8 w a len cap zs) : ∃ l : List UInt8, l.length = len ∧ SlB w (.slice a len cap) l ∧ len ≤ cap ∧ cap ≤ maxLen := by
  rcases h with ⟨rfl, rfl, rfl, rfl⟩ | ⟨x, rfl, hlc, hcm, hz, hcell, hwf⟩
  · exact ⟨[], rfl, .inl ⟨0, rfl, rfl⟩, Nat.le_refl _, by unfold maxLen; omega⟩
  · refine ⟨(zs.take len).map fun n => UInt8.ofNat n.toNat, by simp; omega, .inr ⟨x, cap, by congr 1; simp; omega, ?_⟩, hlc, hcm⟩
    intro j hj
    have hj' : j < len ∧ j < zs.length := by simp at hj; omega
    have hwfj := hwf zs[j] (List.getElem_mem hj'.2)
    have hb : 0 ≤ zs[j] ∧ zs[j] ≤ 255 := by simpa [Lit.wf, IntKind.min, IntKind.max, IntKind.bits, IntKind.signed] using hwfj
    rw [hcell j hj'.2]
    have e : zs.getD j 0 = zs[j] := by simp [List.getD, hj'.2]
    rw [e]
    congr 2
    simp
    omega

end Go.Proofs.YtkhpemjjholneaaGreatDoor

namespace Go.Proofs.YtkhpemjjholneaaGreatDoor
open Go.RowKit

def ba (l : List UInt8) : ByteArray := ⟨l.toArray⟩

end Go.Proofs.YtkhpemjjholneaaGreatDoor

namespace Go.Proofs.YtkhpemjjholneaaGreatDoor
open Go.RowKit

/-- What has been read in quotes, and what is still to be. -/
def QR (A B out l : List UInt8) : Prop := out ++ (quo l).1 = A ∧ (quo l).2 = B

theorem QR.start (l : List UInt8) : QR (quo l).1 (quo l).2 [] l := ⟨rfl, rfl⟩

theorem QR.one {A B out : List UInt8} {c : UInt8} (h : QR A B out [c]) (hc : c ≠ 34) : QR A B (out ++ [c]) [] := by
  obtain ⟨h1, h2⟩ := h
  rw [quo, if_neg hc] at h1 h2
  exact ⟨by rw [← h1]; simp [quo], h2⟩

theorem QR.esc {A B out r : List UInt8} {d : UInt8} (h : QR A B out (92 :: d :: r)) : QR A B (out ++ [d]) r := by
  obtain ⟨h1, h2⟩ := h
  rw [quo, if_neg (by decide), if_pos rfl] at h1 h2
  exact ⟨by rw [← h1]; simp, h2⟩

theorem QR.nil {A B out : List UInt8} (h : QR A B out []) : out = A ∧ B = [] := by
  obtain ⟨h1, h2⟩ := h
  exact ⟨by simpa [quo] using h1, h2.symm⟩

theorem But.grown {b : Nat} {w w1 w2 : World} {row : Option Nat} (h : But b w w1) (hg : w1.grownBy w2 row) (hr : ∀ k, row = some k → w.heap.size ≤ k) (hb : b < w.heap.size) : But b w w2 := by
  have h1 := h.1.size
  refine ⟨h.1.grown hg (by omega) (fun k hk => by have := hr k hk; omega), fun k hk1 hk2 => ?_⟩
  rw [hg.block k (by omega) (fun e => by have := hr k e.symm; omega)]
  exact h.2 k hk1 hk2

theorem But.alloc {b : Nat} {w w1 : World} (h : But b w w1) (o : Obj) (hb : b ≤ w1.heap.size) : But b w (w1.alloc o) := h.then ((Below.refl _ w1).alloc (Nat.le_refl _) o) hb

end Go.Proofs.YtkhpemjjholneaaGreatDoor

namespace Go.Proofs.YtkhpemjjholneaaGreatDoor
open Go.RowKit

/-- What the library's own variable holds. -/
def G5 (w : World) : Prop := ∃ m, w.cell? ⟨0, 0, none⟩ = some (.int .i64 m)

theorem G5.kept {w w' : World} (h : G5 w) (hb : Below w.heap.size w w') : G5 w' := by
  obtain ⟨m, hm⟩ := h
  exact ⟨m, (hb.cell (World.block_lt_of_cell? w _ hm)).trans hm⟩

end Go.Proofs.YtkhpemjjholneaaGreatDoor

namespace Go.Proofs.YtkhpemjjholneaaGreatDoor
open Go.RowKit Go.Maps Go.WideMaps

theorem But.map {b B n : Nat} {D : DataW Unit} {w w1 : World} (h : But b w w1) (ho : w.ownsMap Tryz.prog 9 unitElem B n D) (hne : B ≠ b) : w1.ownsMap Tryz.prog 9 unitElem B n D := by
  obtain ⟨es, clock, hb, rest⟩ := ho
  exact ⟨es, clock, (h.block B (Array.getElem?_eq_some_iff.1 hb).1 hne).trans hb, rest⟩

end Go.Proofs.YtkhpemjjholneaaGreatDoor

namespace Go.Proofs.YtkhpemjjholneaaGreatDoor
open Go.RowKit

def slL (L : List (List UInt8)) : List UInt8 := L.flatMap (fun p => 47 :: p)

theorem slL_snoc (L : List (List UInt8)) (p : List UInt8) : slL (L ++ [p]) = slL L ++ 47 :: p := by simp [slL]

theorem slL_take (L : List (List UInt8)) (k : Nat) : (slL (L.take k)).length ≤ (slL L).length := by
  have : slL L = slL (L.take k) ++ slL (L.drop k) := by rw [slL, slL, slL, ← List.flatMap_append, List.take_append_drop]
  rw [this, List.length_append]; omega

end Go.Proofs.YtkhpemjjholneaaGreatDoor

namespace Go.Proofs.YtkhpemjjholneaaGreatDoor
open Go.RowKit

def Twelve (W : World) (b : Nat) (y0 y1 y2 y3 y4 y5 y6 y7 y8 y9 y10 y11 : Value) (X : World) : Prop := Below W.heap.size W X ∧ X.cell? ⟨b, 0, none⟩ = some y0 ∧ X.cell? ⟨b, 1, none⟩ = some y1 ∧ X.cell? ⟨b, 2, none⟩ = some y2 ∧ X.cell? ⟨b, 3, none⟩ = some y3 ∧ X.cell? ⟨b, 4, none⟩ = some y4 ∧ X.cell? ⟨b, 5, none⟩ = some y5 ∧ X.cell? ⟨b, 6, none⟩ = some y6 ∧ X.cell? ⟨b, 7, none⟩ = some y7 ∧ X.cell? ⟨b, 8, none⟩ = some y8 ∧ X.cell? ⟨b, 9, none⟩ = some y9 ∧ X.cell? ⟨b, 10, none⟩ = some y10 ∧ X.cell? ⟨b, 11, none⟩ = some y11

theorem Twelve.kept {W X Y : World} {b : Nat} {y0 y1 y2 y3 y4 y5 y6 y7 y8 y9 y10 y11 : Value} (h : Twelve W b y0 y1 y2 y3 y4 y5 y6 y7 y8 y9 y10 y11 X) (hb : Below X.heap.size X Y) : Twelve W b y0 y1 y2 y3 y4 y5 y6 y7 y8 y9 y10 y11 Y := by
  obtain ⟨h0, c0, c1, c2, c3, c4, c5, c6, c7, c8, c9, c10, c11⟩ := h
  have key : ∀ (j : Nat) (y : Value), X.cell? ⟨b, j, none⟩ = some y → Y.cell? ⟨b, j, none⟩ = some y := fun j y h => (hb.cell (World.block_lt_of_cell? X _ h)).trans h
  exact ⟨below2 h0 hb, key _ _ c0, key _ _ c1, key _ _ c2, key _ _ c3, key _ _ c4, key _ _ c5, key _ _ c6, key _ _ c7, key _ _ c8, key _ _ c9, key _ _ c10, key _ _ c11⟩

end Go.Proofs.YtkhpemjjholneaaGreatDoor

namespace Go.Proofs.YtkhpemjjholneaaGreatDoor
open Go.RowKit

theorem Below.cellAt {w w' : World} {a : Addr} {v : Value} (hb : Below w.heap.size w w') (h : w.cell? a = some v) : w'.cell? a = some v := (hb.cell (World.block_lt_of_cell? w _ h)).trans h

end Go.Proofs.YtkhpemjjholneaaGreatDoor

namespace Go.Proofs.YtkhpemjjholneaaGreatDoor
open Go.RowKit

/-- A new slice of bytes that were a text's. -/
def NewB (base : Nat) (w : World) (v : Value) (l : List UInt8) : Prop :=
  ∃ g cap, v = .slice (some ⟨g, 0, none⟩) l.length cap ∧ base ≤ g ∧ l.length ≤ cap ∧ cap ≤ maxLen ∧ w.heap[g]? = some (.cells (bytesRow (ba l) cap) 5 ((bytesRow (ba l) cap).size, (bytesRow (ba l) cap).size + 1))

theorem NewB.kept {B : Nat} {w w' : World} {v : Value} {l : List UInt8} (h : NewB B w v l) (hb : Below w.heap.size w w') : NewB B w' v l := by
  obtain ⟨g, cap, hv, hg, h1, h2, h3⟩ := h
  exact ⟨g, cap, hv, hg, h1, h2, (hb.block g (Array.getElem?_eq_some_iff.1 h3).1).trans h3⟩

theorem NewB.sl {B : Nat} {w : World} {v : Value} {l : List UInt8} (h : NewB B w v l) : SlB w v l := by
  obtain ⟨g, cap, rfl, hg, h1, h2, h3⟩ := h
  refine .inr ⟨_, _, rfl, fun j hj => ?_⟩
  rw [Addr.add_lit, Lib.cell_of_heap h3, Nat.zero_add, bytesRow_at (ba l) cap j (by simpa [ba] using hj)]
  simp [ba]

end Go.Proofs.YtkhpemjjholneaaGreatDoor
