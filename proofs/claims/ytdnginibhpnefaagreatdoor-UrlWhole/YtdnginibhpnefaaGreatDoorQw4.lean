/-
  Walks and plain facts that this claim leans on, put together out of 1 texts: Eruw.
-/
import Derived.Test.YtdnginibhpnefaaGreatDoorProg
import Derived.Test.YtdnginibhpnefaaGreatDoorQa1
import Derived.Test.YtdnginibhpnefaaGreatDoorQa2
import Derived.Test.YtdnginibhpnefaaGreatDoorQa3
import Derived.Test.YtdnginibhpnefaaGreatDoorQa4
import Derived.Test.YtdnginibhpnefaaGreatDoorQa5
import Derived.Test.YtdnginibhpnefaaGreatDoorQa6
import Derived.Test.YtdnginibhpnefaaGreatDoorQa7
import Derived.Test.YtdnginibhpnefaaGreatDoorQa8
import Derived.Test.YtdnginibhpnefaaGreatDoorQa9
import Derived.Test.YtdnginibhpnefaaGreatDoorQa10
import Derived.Test.YtdnginibhpnefaaGreatDoorQa11
import Derived.Test.YtdnginibhpnefaaGreatDoorQa12
import Derived.Test.YtdnginibhpnefaaGreatDoorQa13
import Derived.Test.YtdnginibhpnefaaGreatDoorQa14
import Derived.Test.YtdnginibhpnefaaGreatDoorQa15
import Derived.Test.YtdnginibhpnefaaGreatDoorQa16
import Derived.Test.YtdnginibhpnefaaGreatDoorQa17
import Derived.Test.YtdnginibhpnefaaGreatDoorQa18
import Derived.Test.YtdnginibhpnefaaGreatDoorQa19
import Derived.Test.YtdnginibhpnefaaGreatDoorQa20
import Derived.Test.YtdnginibhpnefaaGreatDoorQa21
import Derived.Test.YtdnginibhpnefaaGreatDoorQa22
import Derived.Test.YtdnginibhpnefaaGreatDoorQa23
import Derived.Test.YtdnginibhpnefaaGreatDoorQa24
import Derived.Test.YtdnginibhpnefaaGreatDoorQa25
import Derived.Test.YtdnginibhpnefaaGreatDoorQa26
import Derived.Test.YtdnginibhpnefaaGreatDoorQa27
import Derived.Test.YtdnginibhpnefaaGreatDoorQa28
import Derived.Test.YtdnginibhpnefaaGreatDoorQa29
import Derived.Test.YtdnginibhpnefaaGreatDoorQa30
import Derived.Test.YtdnginibhpnefaaGreatDoorQa31
import Derived.Test.YtdnginibhpnefaaGreatDoorQa32
import Derived.Test.YtdnginibhpnefaaGreatDoorQa33
import Derived.Test.YtdnginibhpnefaaGreatDoorQw1
import Derived.Test.YtdnginibhpnefaaGreatDoorQw2
import Derived.Test.YtdnginibhpnefaaGreatDoorQw3
import Derived.Deep.Cut
import Derived.Deep.QuietTactic
import Derived.BigQuiet
import Derived.BigRegion
import Derived.Deep.RegionHeld
import Derived.WalkKit
import Derived.Laws.OwnMore
import Derived.Below
import Derived.WalkSmall
import Derived.Lib.SmallJoins
import Derived.Deep.CutRange
import Derived.LoopN
import Derived.RegionTactic
import Derived.Deep.RegionWith
import Derived.Laws.IdiomStrings
import Derived.Laws.BytesString
import Derived.Laws.AppendOwn
import Derived.OwnWalk
import Derived.Lib.BufferRead
import Derived.Lib.RuneBytes
import Derived.Laws.RangeAny
import Derived.Lib.UnsafeStr
import Derived.Laws.CopyOwn
import Derived.Laws.ResultCell
import Derived.Deep.MidRow
import Derived.Deep.RegionLaw
import Derived.Lib.Bytealg
import Derived.Deep.LoopGhost
import Derived.WalkSpells
import Derived.WalkLawsBesides
import Derived.Lib.IndexMore
import Derived.Lib.Join
import Derived.Lib.BufferMore
import Derived.Laws.BitsAllLaws
import Derived.Deep.WholeRow
import Derived.Lib.Strings
import Derived.WalkMore
import Derived.Scope
import Derived.ScopeJumps
import Derived.Lib.DecodeN
import Derived.Lib.OthersKept
import Derived.Laws.AppendOwnNone
import Derived.Lib.AppendStr
import Derived.Lib.AppendIntMem
import Derived.Shelf.Strings.Builder1
import Derived.Shelf.Strings.Builder2
import Derived.Shelf.Strings.OnBuilder
import Derived.Shelf.Strings.Trim
import Derived.Shelf.Small.Utf8
import Derived.Shelf.Small.Strs
import Derived.Shelf.Small.Wraps
import Derived.Shelf.Strings.BuilderF
import Derived.Shelf.Strings.BuilderK
import Derived.Shelf.Strings.Builder2Cap
import Derived.Shelf.Strconv.Itoa0
import Derived.Shelf.Strconv.Itoa1
import Derived.Shelf.LaysM
import Derived.Shelf.Strconv.Itoa2
import Derived.Shelf.Strconv.Itoa3
import Derived.Shelf.Strings.Search1
import Derived.Shelf.Strings.Search2
import Derived.Shelf.Strings.Search3
import Derived.Shelf.Strings.Cut
import Derived.Shelf.Strings.Count
import Derived.Shelf.Strings.Shaped
import Derived.Shelf.Strings.LastIndex
import Derived.Shelf.Strings.Prefix
import Derived.Shelf.Strings.Split
import Derived.Shelf.Strings.Replace
import Derived.Shelf.Strings.Runes
import Derived.Shelf.Strings.IndexAny
import Derived.Shelf.Strings.AsciiSet
import Derived.Shelf.Strings.IndexAnyAll
import Derived.Shelf.Unicode.DecodeSlow
import Derived.Ground.Names2Prog
import Derived.Shelf.Slices.Clone
import Derived.Ground.SlgnProg
import Derived.Shelf.SlicesE.Clone
import Derived.Lib.IndexAny
import Derived.Lib.Replace
import Derived.Lib.TrimByte
import Derived.Lib.ItoaNum
import Derived.Lib.FrozenHead2
import Derived.Lib.Builder
import Derived.Lib.SlTrimSet
import Derived.Lib.LastIndexByte
set_option linter.unusedSimpArgs false
set_option linter.unusedVariables false

namespace Go.Proofs.YtdnginibhpnefaaGreatDoor
open Go.RowKit

theorem slash_rT {u : Adr} (h : Str u) (hg : Good3 u) (hh : u.hasHost = true) (hsp : specV u.scheme = true) : slashV (rT u) = rT u ∧ Lib.hasPrefix (rT u) [47, 47] = true := by
  have ho : u.opq = false := (hg.special hsp).2.2
  have hpt : pathT u = paT u := by unfold pathT paT; simp [ho, hh]
  have hR : rT u = 47 :: 47 :: (auT u ++ (paT u ++ qT u)) := by unfold rT; rw [authT_eq u hh, hpt]; simp
  have hau := au_ne h.pre hg.pre.host
  refine ⟨?_, by rw [hR]; unfold Lib.hasPrefix; simp⟩
  rw [hR]
  have e : 47 :: 47 :: (auT u ++ (paT u ++ qT u)) = (47 :: 47 :: (auT u ++ paT u)) ++ qT u := by simp
  have h63 : 63 ∉ (47 :: 47 :: (auT u ++ paT u) : List UInt8) := fun e => by
    simp at e
    rcases e with e | e
    · exact (hau 63 e).2.1 rfl
    · exact (pa_no h ho).1 e
  have h92 : 92 ∉ (47 :: 47 :: (auT u ++ paT u) : List UInt8) := fun e => by
    simp at e
    rcases e with e | e
    · exact (hau 92 e).2.2.1 rfl
    · exact (pa_no h ho).2.1 hsp e
  rw [e]
  unfold slashV
  rw [ahead_q _ _ h63 (qT_form u)]
  simp only
  rw [slC_none _ h92]

theorem join_back {s : List UInt8} {u b : Adr} (e : readV s none = .ok u) (hs : s.length ≤ 500) (hh : u.hasHost = true) (hb : specV b.scheme = true → b.opq = false) : readV (textV u) (some b) = .ok u := by
  have h := read_str e
  have hg := read_good e
  have hlen := read_len e
  have hbg := begin_text h hg (read_last e)
  have hst := start_back h hg
  obtain ⟨-, c, t, hsc⟩ := sch_no58 h.pre
  unfold readV
  rw [if_neg (by omega), hbg]
  simp only
  by_cases hc : (un0 u).scheme ≠ [] ∧ (specV (un0 u).scheme = false ∨ (un0 u).scheme ≠ b.scheme)
  · rw [if_pos hc]; exact hst
  · rw [if_neg hc]
    have hne : (un0 u).scheme ≠ [] := by show u.scheme ≠ []; rw [hsc]; simp
    have h1 : specV u.scheme = true := by
      cases e : specV u.scheme with
      | true => rfl
      | false => exact absurd ⟨hne, .inl e⟩ hc
    have h2 : u.scheme = b.scheme := Classical.byContradiction fun e => hc ⟨hne, .inr e⟩
    have hbo : b.opq = false := hb (by rw [← h2]; exact h1)
    rw [if_neg (by rw [hbo]; simp)]
    obtain ⟨s1, s2⟩ := slash_rT h hg hh h1
    have hsl : slashedV b.scheme (rT u) = rT u := by unfold slashedV; rw [← h2, h1, if_pos rfl]; exact s1
    unfold joinV
    simp only
    rw [hsl, s2, if_pos rfl, ← h2]
    exact hst

/-- An address that was answered, and its path. -/
def HalfP (w0 wx : World) (ub : Nat) (A : Adr) (q : Value) : Prop := Below w0.heap.size w0 wx ∧ AdrIn wx ub A q ∧ PathAt wx q A.path

theorem half_of3 {w0 X : World} {ub : Nat} {A Z0 : Adr} {zv q : Value} (hb : Below w0.heap.size w0 X) (hz : AdrIn X ub Z0 zv) (ho : X.ownsRow w0.heap.size 9 1 q A.path.length (cellsS A.path)) (hub : w0.heap.size ≤ ub) : HalfP w0 (X.setCells ub 0 (adrCells A q)) ub A q :=
  ⟨below_setCells hub _ _ _ hb, hz.store, own_path (own_cells ho hz _ _)⟩

set_option maxHeartbeats 16000000 in
set_option maxRecDepth 100000 in
theorem urlWhole_walk (s b : ByteArray) (w : World) (hs : s.size ≤ 140737488351232) (hb : b.size ≤ 140737488351232) (hg : Gd w) :
    Calls Tryz.prog 7 #[.string s, .string b] w fun e w' => e = .returned (.bool true) ∧ Below w.heap.size w w' := by
  obtain ⟨F, hF⟩ : ∃ F : ByteArray, ⟨(s.data.toList.take 300).toArray⟩ = F := ⟨_, rfl⟩
  have hFs : F.size ≤ 300 := by rw [← hF, Lib.size_eq]; show (s.data.toList.take 300).length ≤ _; rw [List.length_take]; omega
  have HFw := hid (fun w => few_any s 300 w (by omega) (by omega))
  rw [hF] at HFw
  have HPa := hid (uparse_any F w hg (by omega))
  have HUk := hid (fun (Z : World) => url_k b Z (by omega))
  have HKn := hid (fun (Z : World) (hZ : Gd Z) => known3_any Z hZ)
  have HG := hid hg
  have HBg := hid (show ∀ B, urlV b.data.toList = .ok B → (specV B.scheme = true → B.opq = false) ∧ B.path.length ≤ 100000 from fun B e => by
    unfold urlV at e
    exact ⟨fun hsp => ((read_good e).special hsp).2.2, slim_path (parse_slim e) (by omega)⟩)
  obtain ⟨rb, hrb⟩ : ∃ r, urlV b.data.toList = r := ⟨_, rfl⟩
  rw [hrb] at HUk HBg
  unfold UPost at HUk
  obtain ⟨Bb, hBb⟩ : ∃ r, adrOf rb = r := ⟨_, rfl⟩
  obtain ⟨okb, hokb⟩ : ∃ r, isOk rb = r := ⟨_, rfl⟩
  rw [hBb, hokb] at HUk
  have HOk := hid (show okb = true → (specV Bb.scheme = true → Bb.opq = false) ∧ Bb.path.length ≤ 100000 from fun e => by
    cases rb with
    | error x => rw [← hokb] at e; cases e
    | ok B =>
      have := HBg.out B rfl
      rw [← hBb]
      exact this)
  clear hg hF hs hb hrb hBb hokb HBg
  cases hr : readV F.data.toList none with
  | error x =>
    have hx0 := err_ne (read_err hr)
    have hx1 := err_bne (read_err hr)
    rw [hr] at HPa
    unfold ReadPost at HPa
    simp only [numOf] at HPa
    obtain ⟨A, hA⟩ : ∃ A, adrOf (.error x) = A := ⟨_, rfl⟩
    rw [hA] at HPa
    clear hr hA
    go_enter Tryz.func7, Tryz.ntmps7
    go_wp2_with fail
    refine (HFw.out _).mono ?_
    rintro e w' ⟨rfl, rfl⟩
    go_wp2_with fail
    refine HPa.out.mono ?_
    rintro e w1 ⟨pv, rfl, hown, hb1⟩
    obtain ⟨da, dn, dc, rfl⟩ := own_sl hown
    obtain ⟨d0, d1, d2, d3, d4, d5, d6, d8, d9, d10, d11, hxd, -, -, he4, -, -, -, -, -, -⟩ := adr_named3 A da dn dc
    have hvd : adrVal A (.slice da dn dc) = .agg #[.string d0, .string d1, .string d2, .string d3, .bool d4, .int .i64 d5, .bool d6, .slice da dn dc, .string d8, .string d9, .bool d10, .bool d11] := by unfold adrVal; rw [hxd]
    rw [hvd]
    obtain ⟨W2, hW2⟩ : ∃ X, (w1.alloc (.cells #[.string d0, .string d1, .string d2, .string d3, .bool d4, .int .i64 d5, .bool d6, .slice da dn dc, .string d8, .string d9, .bool d10, .bool d11] 24)) = X := ⟨_, rfl⟩
    have hbW2 : Below w1.heap.size w1 W2 := by rw [← hW2]; exact (Below.refl _ w1).alloc (Nat.le_refl _) _
    have hsW2 : W2.heap.size = w1.heap.size + 1 := by rw [← hW2]; simp
    have hAW2 : AdrIn W2 w1.heap.size A (.slice da dn dc) := by
      unfold AdrIn
      rw [hxd, ← hW2]
      exact heap_alloc_new w1 _
    have HPP2 := hid ((own_path hown).kept hbW2)
    have HB2 := hid (below2 hb1 hbW2)
    have HA2 := hid hAW2
    have HXd := hid hxd
    have HVd := hid hvd
    have HE4 := hid he4
    clear hown hb1 hbW2 hAW2 hxd hvd he4 hsW2
    go_wp2_with fail
    refine (HUk.out _).mono ?_
    rintro e w3 ⟨qv, rfl, hown, hb3⟩
    obtain ⟨va, vn, vc, rfl⟩ := own_sl hown
    obtain ⟨v0, v1, v2, v3, v4, v5, v6, v8, v9, v10, v11, hxv⟩ := adr_cells Bb va vn vc
    have hvv : adrVal Bb (.slice va vn vc) = .agg #[.string v0, .string v1, .string v2, .string v3, .bool v4, .int .i64 v5, .bool v6, .slice va vn vc, .string v8, .string v9, .bool v10, .bool v11] := by unfold adrVal; rw [hxv]
    rw [hvv]
    obtain ⟨W4, hW4⟩ : ∃ X, (w3.alloc (.cells #[.string v0, .string v1, .string v2, .string v3, .bool v4, .int .i64 v5, .bool v6, .slice va vn vc, .string v8, .string v9, .bool v10, .bool v11] 24)) = X := ⟨_, rfl⟩
    have hbW4 : Below w3.heap.size w3 W4 := by rw [← hW4]; exact (Below.refl _ w3).alloc (Nat.le_refl _) _
    have hsW4 : W4.heap.size = w3.heap.size + 1 := by rw [← hW4]; simp
    have hAW4 : AdrIn W4 w3.heap.size Bb (.slice va vn vc) := by
      unfold AdrIn
      rw [hxv, ← hW4]
      exact heap_alloc_new w3 _
    have hb34 := below2 hb3 hbW4
    have HB4 := hid (below2 HB2.out hb34)
    have HPP := hid (HPP2.out.kept hb34)
    have HPQ := hid ((own_path hown).kept hbW4)
    have HA4 := hid (HA2.out.kept hb34)
    have HC4 := hid hAW4
    have HXv := hid hxv
    have HVv := hid hvv
    clear hown hb3 hbW4 hAW4 hxv hvv hb34 HPP2 HA2 hsW4
    go_wp2_with fail
    refine (HKn.out _ (HG.out.kept HB4.out)).mono ?_
    rintro e w5 ⟨rfl, hbk⟩
    go_wp2
    go_ret
    exact ⟨rfl, below2 HB4.out hbk⟩
  | ok A =>
    have HJb := hid (fun (B : Adr) (hh : A.hasHost = true) (hb : specV B.scheme = true → B.opq = false) => join_back hr (by rw [← Lib.size_eq]; omega) hh hb)
    have hTl : (textV A).length ≤ 4096 := by
      have := read_len hr
      rw [← Lib.size_eq] at this
      omega
    have HFi := hid (parse_fine hr)
    have HLn := hid (show A.path.length ≤ 1000000 by have := slim_path (parse_slim hr) (by omega); omega)
    rw [hr] at HPa
    unfold ReadPost at HPa
    simp only [numOf, adrOf] at HPa
    clear hr
    cases okb with
    | false =>
      go_enter Tryz.func7, Tryz.ntmps7
      go_wp2_with fail
      refine (HFw.out _).mono ?_
      rintro e w' ⟨rfl, rfl⟩
      go_wp2_with fail
      refine HPa.out.mono ?_
      rintro e w1 ⟨pv, rfl, hown, hb1⟩
      obtain ⟨da, dn, dc, rfl⟩ := own_sl hown
      obtain ⟨d0, d1, d2, d3, d4, d5, d6, d8, d9, d10, d11, hxd, -, -, he4, -, -, -, -, -, -⟩ := adr_named3 A da dn dc
      have hvd : adrVal A (.slice da dn dc) = .agg #[.string d0, .string d1, .string d2, .string d3, .bool d4, .int .i64 d5, .bool d6, .slice da dn dc, .string d8, .string d9, .bool d10, .bool d11] := by unfold adrVal; rw [hxd]
      rw [hvd]
      obtain ⟨W2, hW2⟩ : ∃ X, (w1.alloc (.cells #[.string d0, .string d1, .string d2, .string d3, .bool d4, .int .i64 d5, .bool d6, .slice da dn dc, .string d8, .string d9, .bool d10, .bool d11] 24)) = X := ⟨_, rfl⟩
      have hbW2 : Below w1.heap.size w1 W2 := by rw [← hW2]; exact (Below.refl _ w1).alloc (Nat.le_refl _) _
      have hsW2 : W2.heap.size = w1.heap.size + 1 := by rw [← hW2]; simp
      have hAW2 : AdrIn W2 w1.heap.size A (.slice da dn dc) := by
        unfold AdrIn
        rw [hxd, ← hW2]
        exact heap_alloc_new w1 _
      have HPP2 := hid ((own_path hown).kept hbW2)
      have HB2 := hid (below2 hb1 hbW2)
      have HA2 := hid hAW2
      have HXd := hid hxd
      have HVd := hid hvd
      have HE4 := hid he4
      clear hown hb1 hbW2 hAW2 hxd hvd he4 hsW2
      go_wp2_with fail
      refine (HUk.out _).mono ?_
      rintro e w3 ⟨qv, rfl, hown, hb3⟩
      obtain ⟨va, vn, vc, rfl⟩ := own_sl hown
      obtain ⟨v0, v1, v2, v3, v4, v5, v6, v8, v9, v10, v11, hxv⟩ := adr_cells Bb va vn vc
      have hvv : adrVal Bb (.slice va vn vc) = .agg #[.string v0, .string v1, .string v2, .string v3, .bool v4, .int .i64 v5, .bool v6, .slice va vn vc, .string v8, .string v9, .bool v10, .bool v11] := by unfold adrVal; rw [hxv]
      rw [hvv]
      obtain ⟨W4, hW4⟩ : ∃ X, (w3.alloc (.cells #[.string v0, .string v1, .string v2, .string v3, .bool v4, .int .i64 v5, .bool v6, .slice va vn vc, .string v8, .string v9, .bool v10, .bool v11] 24)) = X := ⟨_, rfl⟩
      have hbW4 : Below w3.heap.size w3 W4 := by rw [← hW4]; exact (Below.refl _ w3).alloc (Nat.le_refl _) _
      have hsW4 : W4.heap.size = w3.heap.size + 1 := by rw [← hW4]; simp
      have hAW4 : AdrIn W4 w3.heap.size Bb (.slice va vn vc) := by
        unfold AdrIn
        rw [hxv, ← hW4]
        exact heap_alloc_new w3 _
      have hb34 := below2 hb3 hbW4
      have HB4 := hid (below2 HB2.out hb34)
      have HPP := hid (HPP2.out.kept hb34)
      have HPQ := hid ((own_path hown).kept hbW4)
      have HA4 := hid (HA2.out.kept hb34)
      have HC4 := hid hAW4
      have HXv := hid hxv
      have HVv := hid hvv
      clear hown hb3 hbW4 hAW4 hxv hvv hb34 HPP2 HA2 hsW4
      go_wp2_with fail
      refine (HKn.out _ (HG.out.kept HB4.out)).mono ?_
      rintro e w5 ⟨rfl, hbk⟩
      go_wp2
      go_ret
      exact ⟨rfl, below2 HB4.out hbk⟩
    | true =>
      obtain ⟨hbo, hbl⟩ := HOk.out rfl
      have HBo := hid hbo
      have HBl := hid hbl
      clear hbo hbl
      go_enter Tryz.func7, Tryz.ntmps7
      go_wp2_with fail
      refine (HFw.out _).mono ?_
      rintro e w' ⟨rfl, rfl⟩
      go_wp2_with fail
      refine HPa.out.mono ?_
      rintro e w1 ⟨pv, rfl, hown, hb1⟩
      obtain ⟨da, dn, dc, rfl⟩ := own_sl hown
      obtain ⟨d0, d1, d2, d3, d4, d5, d6, d8, d9, d10, d11, hxd, -, -, he4, -, -, -, -, -, -⟩ := adr_named3 A da dn dc
      have hvd : adrVal A (.slice da dn dc) = .agg #[.string d0, .string d1, .string d2, .string d3, .bool d4, .int .i64 d5, .bool d6, .slice da dn dc, .string d8, .string d9, .bool d10, .bool d11] := by unfold adrVal; rw [hxd]
      rw [hvd]
      obtain ⟨W2, hW2⟩ : ∃ X, (w1.alloc (.cells #[.string d0, .string d1, .string d2, .string d3, .bool d4, .int .i64 d5, .bool d6, .slice da dn dc, .string d8, .string d9, .bool d10, .bool d11] 24)) = X := ⟨_, rfl⟩
      have hbW2 : Below w1.heap.size w1 W2 := by rw [← hW2]; exact (Below.refl _ w1).alloc (Nat.le_refl _) _
      have hsW2 : W2.heap.size = w1.heap.size + 1 := by rw [← hW2]; simp
      have hAW2 : AdrIn W2 w1.heap.size A (.slice da dn dc) := by
        unfold AdrIn
        rw [hxd, ← hW2]
        exact heap_alloc_new w1 _
      have HPP2 := hid ((own_path hown).kept hbW2)
      have HB2 := hid (below2 hb1 hbW2)
      have HA2 := hid hAW2
      have HXd := hid hxd
      have HVd := hid hvd
      have HE4 := hid he4
      clear hown hb1 hbW2 hAW2 hxd hvd he4 hsW2
      go_wp2_with fail
      refine (HUk.out _).mono ?_
      rintro e w3 ⟨qv, rfl, hown, hb3⟩
      obtain ⟨va, vn, vc, rfl⟩ := own_sl hown
      obtain ⟨v0, v1, v2, v3, v4, v5, v6, v8, v9, v10, v11, hxv⟩ := adr_cells Bb va vn vc
      have hvv : adrVal Bb (.slice va vn vc) = .agg #[.string v0, .string v1, .string v2, .string v3, .bool v4, .int .i64 v5, .bool v6, .slice va vn vc, .string v8, .string v9, .bool v10, .bool v11] := by unfold adrVal; rw [hxv]
      rw [hvv]
      obtain ⟨W4, hW4⟩ : ∃ X, (w3.alloc (.cells #[.string v0, .string v1, .string v2, .string v3, .bool v4, .int .i64 v5, .bool v6, .slice va vn vc, .string v8, .string v9, .bool v10, .bool v11] 24)) = X := ⟨_, rfl⟩
      have hbW4 : Below w3.heap.size w3 W4 := by rw [← hW4]; exact (Below.refl _ w3).alloc (Nat.le_refl _) _
      have hsW4 : W4.heap.size = w3.heap.size + 1 := by rw [← hW4]; simp
      have hAW4 : AdrIn W4 w3.heap.size Bb (.slice va vn vc) := by
        unfold AdrIn
        rw [hxv, ← hW4]
        exact heap_alloc_new w3 _
      have hb34 := below2 hb3 hbW4
      have HB4 := hid (below2 HB2.out hb34)
      have HPP := hid (HPP2.out.kept hb34)
      have HPQ := hid ((own_path hown).kept hbW4)
      have HA4 := hid (HA2.out.kept hb34)
      have HC4 := hid hAW4
      have HXv := hid hxv
      have HVv := hid hvv
      clear hown hb3 hbW4 hAW4 hxv hvv hb34 HPP2 HA2 hsW4
      obtain ⟨y0, y1, y2, y3, y4, y5, y6, y7, y8, y9, y10, y11⟩ := adr_twelve HXd.out HA4.out
      cases d4 with
      | false =>
        go_wp2_with fail
        refine (HKn.out _ (HG.out.kept HB4.out)).mono ?_
        rintro e w5 ⟨rfl, hbk⟩
        go_wp2
        go_ret
        exact ⟨rfl, below2 HB4.out hbk⟩
      | true =>
        have HTx := hid (fun (Z : World) (hZ : Below W4.heap.size W4 Z) => text_any A (.slice da dn dc) Z (HG.out.kept (below2 HB4.out hZ)) (HPP.out.kept hZ) HFi.out)
        obtain ⟨TT, hTT⟩ : ∃ X : ByteArray, X = ⟨(textV A).toArray⟩ := ⟨_, rfl⟩
        have hTs : TT.size ≤ 4096 := by rw [Lib.size_eq, hTT]; exact hTl
        rw [← hTT, HVd.out] at HTx
        have HJn := hid (fun (Z : World) (hZ : Below W4.heap.size W4 Z) => ujoin_any TT Bb (.slice va vn vc) Z (HG.out.kept (below2 HB4.out hZ)) (by omega) (HPQ.out.kept hZ) HBl.out)
        have hjo : readV TT.data.toList (some Bb) = .ok A := by rw [hTT]; exact HJb.out Bb HE4.out.symm HBo.out
        rw [hjo, HVv.out] at HJn
        unfold ReadPost at HJn
        simp only [numOf, adrOf] at HJn
        have HRd := hid (show ∀ Z, Below W4.heap.size W4 Z → Z.rangeAt w1.heap.size 0 [.string d0, .string d1, .string d2, .string d3, .bool true, .int .i64 d5, .bool d6, .slice da dn dc, .string d8, .string d9, .bool d10, .bool d11] from fun Z hZ => by
          have := range_row (show Z.heap[w1.heap.size]? = some (.cells (adrCells A (.slice da dn dc)).toArray 24 (0, 0)) from HA4.out.kept hZ)
          rw [HXd.out] at this
          exact this)
        have HRv := hid (show ∀ Z, Below W4.heap.size W4 Z → Z.rangeAt w3.heap.size 0 [.string v0, .string v1, .string v2, .string v3, .bool v4, .int .i64 v5, .bool v6, .slice va vn vc, .string v8, .string v9, .bool v10, .bool v11] from fun Z hZ => by
          have := range_row (show Z.heap[w3.heap.size]? = some (.cells (adrCells Bb (.slice va vn vc)).toArray 24 (0, 0)) from HC4.out.kept hZ)
          rw [HXv.out] at this
          exact this)
        have HQ0 := hid ((Below.refl W4.heap.size W4).drew)
        clear hTT hjo
        go_upto_region 5 with fail
        go_cut [9, 10] from 34 to 40 (fun x9 x10 wx => ∃ (ub : Nat) (qa : Option Addr) (qn qc : Nat), x9 = .pointer (some ⟨ub, 0, none⟩) ∧ x10 = .int .i64 0 ∧ Hid (HalfP W4 wx ub A (.slice qa qn qc)))
        case first =>
          clear y0 y1 y2 y3 y4 y5 y6 y7 y8 y9 y10 y11
          refine wp_region_held_drew (S := (fun wx => Below W4.heap.size W4 wx)) (by kernel_rfl) HQ0.out (fun hHeld => ?_)
          refine wpAnyH_to (fuel' := 10) (listed' := #[false, false, false, false, false, false, false, false, false, false]) rfl rfl ?_
          refine wpAnyH_take (i := 0) (oi := ⟨some 35, _, _, _, _, _⟩) rfl (by kernel_rfl) (by kernel_rfl) (by kernel_rfl) (fun _ _ _ h => h) (yieldsIf_load_mid (by kernel_rfl) 24 (.tmp 5) rfl (w1.heap.size) 0 rfl [.string d0, .string d1, .string d2, .string d3, .bool true, .int .i64 d5, .bool d6, .slice da dn dc, .string d8, .string d9, .bool d10, .bool d11] _ HRd.out Tryz.underlying24 rfl sizeU) (by assumption) ?_
          (try simp only [Act.put, List.setIfInBounds_toArray, List.set_cons_zero, List.set_cons_succ])
          refine wpAnyH_take (i := 2) (oi := ⟨some 37, _, _, _, _, _⟩) rfl (by kernel_rfl) (by kernel_rfl) (by kernel_rfl) (fun _ _ _ h => h) (yieldsIf_load_mid (by kernel_rfl) 24 (.tmp 7) rfl (w3.heap.size) 0 rfl [.string v0, .string v1, .string v2, .string v3, .bool v4, .int .i64 v5, .bool v6, .slice va vn vc, .string v8, .string v9, .bool v10, .bool v11] _ HRv.out Tryz.underlying24 rfl sizeU) (by assumption) ?_
          (try simp only [Act.put, List.setIfInBounds_toArray, List.set_cons_zero, List.set_cons_succ])
          refine wpAnyH_ready (rs := [1, 7]) (by kernel_rfl) (by simp) ?_
          refine AllReadyH.cons rfl (fun K9 hK => ?_) (AllReadyH.cons rfl (fun K9 hK => ?_) AllReadyH.nil)
          · rw [if_pos (by kernel_rfl)]
            go_simp
            go_wp2_with (go_at_call 19; refine (HTx.out _ HQ0.out).mono ?_; rintro e wt ⟨rfl, hba⟩)
            have HQ1 := hid (below2 HQ0.out hba)
            clear hba
            refine hK.out _ _ HQ1.out (fun hHeld2 => ?_)
            clear hK K9 hHeld
            rename _ => hHeld
            refine wpAnyH_ready (rs := [3, 7]) (by kernel_rfl) (by simp) ?_
            refine AllReadyH.cons rfl (fun K9 hK => ?_) (AllReadyH.cons rfl (fun K9 hK => ?_) AllReadyH.nil)
            · rw [if_pos (by kernel_rfl)]
              go_simp
              go_wp2_with (go_at_call 15; refine (HJn.out _ HQ1.out).mono ?_; rintro e wa ⟨qv, rfl, hown, hbj⟩)
              have HQ5 := hid (below2 HQ1.out hbj)
              obtain ⟨qa, qn, qc, rfl⟩ := own_sl hown
              have HO5 := hid (ownsRow_lower hown HQ1.out.size)
              clear hbj hown
              refine hK.out _ _ HQ5.out (fun hHeld2 => ?_)
              clear hK K9 hHeld
              rename _ => hHeld
              refine' wpAnyH_take (i := 4) (oi := ⟨some 34, _, _, _, _, _⟩) (v := _) rfl (by kernel_rfl) (by kernel_rfl) (by kernel_rfl) (fun _ _ _ h => h) (Or.inl ⟨by kernel_rfl, ?hy1⟩) (by assumption) ?rest1
              case hy1 => (intro wx hSw; (try dsimp only at hSw); go_simp; first | done | with_reducible rfl)
              (try simp only [Act.put, List.setIfInBounds_toArray, List.set_cons_zero, List.set_cons_succ])
              refine' wpAnyH_take (i := 5) (oi := ⟨some 39, _, _, _, _, _⟩) (v := _) rfl (by kernel_rfl) (by kernel_rfl) (by kernel_rfl) (fun _ _ _ h => h) (Or.inl ⟨by kernel_rfl, ?hy2⟩) (by assumption) ?rest2
              case hy2 => (intro wx hSw; (try dsimp only at hSw); go_simp; first | done | with_reducible rfl)
              (try simp only [Act.put, List.setIfInBounds_toArray, List.set_cons_zero, List.set_cons_succ])
              refine' wpAnyH_take (i := 6) (oi := ⟨some 40, _, _, _, _, _⟩) (v := _) rfl (by kernel_rfl) (by kernel_rfl) (by kernel_rfl) (fun _ _ _ h => h) (Or.inl ⟨by kernel_rfl, ?hy3⟩) (by assumption) ?rest3
              case hy3 => (intro wx hSw; (try dsimp only at hSw); go_simp; first | done | with_reducible rfl)
              (try simp only [Act.put, List.setIfInBounds_toArray, List.set_cons_zero, List.set_cons_succ])
              refine wpAnyH_ready (rs := [7]) (by kernel_rfl) (by simp) ?_
              refine AllReadyH.cons rfl (fun K9 hK => ?_) AllReadyH.nil
              rw [if_pos (by kernel_rfl)]
              go_simp
              have HZ1 := hid (show AdrIn (wa.alloc (.cells #[.string ⟨#[]⟩, .string ⟨#[]⟩, .string ⟨#[]⟩, .string ⟨#[]⟩, .bool false, .int .i64 0, .bool false, .slice none 0 0, .string ⟨#[]⟩, .string ⟨#[]⟩, .bool false, .bool false] 24)) wa.heap.size Adr.zero (.slice none 0 0) from heap_alloc_new wa _)
              have HQ8 := hid (show Below W4.heap.size W4 (wa.alloc (.cells #[.string ⟨#[]⟩, .string ⟨#[]⟩, .string ⟨#[]⟩, .string ⟨#[]⟩, .bool false, .int .i64 0, .bool false, .slice none 0 0, .string ⟨#[]⟩, .string ⟨#[]⟩, .bool false, .bool false] 24)) from below2 HQ5.out ((Below.refl _ wa).alloc (Nat.le_refl _) _))
              have HO6 := hid (own_below HO5.out ((Below.refl wa.heap.size wa).alloc (Nat.le_refl _) (.cells #[.string ⟨#[]⟩, .string ⟨#[]⟩, .string ⟨#[]⟩, .string ⟨#[]⟩, .bool false, .int .i64 0, .bool false, .slice none 0 0, .string ⟨#[]⟩, .string ⟨#[]⟩, .bool false, .bool false] 24)))
              have HZ2 := HZ1
              have HQa := HQ5
              refine hK.out _ _ HQ8.out (fun hHeld2 => ?_)
              clear hK K9 hHeld
              rename _ => hHeld
              refine wpAnyH_ready (rs := [8]) (by kernel_rfl) (by simp) ?_
              refine AllReadyH.cons rfl (fun K9 hK => ?_) AllReadyH.nil
              rw [if_pos (by kernel_rfl)]
              refine wp_store_mid 24 (.tmp 9) (.tmp 39) rfl (wa.heap.size) 0 (adrCells A (.slice qa qn qc)).toArray rfl rfl HZ2.out.there (sizeUa _ _) (all_oneCell_toArray (adrCells_one _ _ ⟨_, _, _, rfl⟩)) ?_
              have hwl : W4.heap.size ≤ wa.heap.size := by
                first | exact Nat.le_refl _ | exact HQa.out.size
              have HHf := hid (half_of3 (A := A) HQ8.out HZ2.out HO6.out hwl)
              have HQ9 := hid (show Below W4.heap.size W4 ((wa.alloc (.cells #[.string ⟨#[]⟩, .string ⟨#[]⟩, .string ⟨#[]⟩, .string ⟨#[]⟩, .bool false, .int .i64 0, .bool false, .slice none 0 0, .string ⟨#[]⟩, .string ⟨#[]⟩, .bool false, .bool false] 24)).setCells (wa.heap.size) 0 (adrCells A (.slice qa qn qc))) from below_setCells hwl _ _ _ HQ8.out)
              (try simp only [Act.put, List.setIfInBounds_toArray, List.set_cons_zero, List.set_cons_succ])
              refine hK.out _ _ HQ9.out (fun hHeld2 => ?_)
              clear hK K9 hHeld
              rename _ => hHeld
              refine wpAnyH_ready (rs := [9]) (by kernel_rfl) (by simp) ?_
              refine AllReadyH.cons rfl (fun K9 hK => ?_) AllReadyH.nil
              rw [if_pos (by kernel_rfl)]
              go_simp
              refine hK.out _ _ HQ9.out (fun hHeld2 => ?_)
              clear hK K9 hHeld
              rename _ => hHeld
              refine wpAnyH_done (by kernel_rfl) ?_ _
              go_wp2_with fail
              go_meet
              case rel => exact ⟨_, qa, qn, qc, rfl, rfl, HHf⟩
            · rw [if_pos (by kernel_rfl)]
              go_simp
              have HZ1 := hid (show AdrIn (wt.alloc (.cells #[.string ⟨#[]⟩, .string ⟨#[]⟩, .string ⟨#[]⟩, .string ⟨#[]⟩, .bool false, .int .i64 0, .bool false, .slice none 0 0, .string ⟨#[]⟩, .string ⟨#[]⟩, .bool false, .bool false] 24)) wt.heap.size Adr.zero (.slice none 0 0) from heap_alloc_new wt _)
              have HQ8 := hid (show Below W4.heap.size W4 (wt.alloc (.cells #[.string ⟨#[]⟩, .string ⟨#[]⟩, .string ⟨#[]⟩, .string ⟨#[]⟩, .bool false, .int .i64 0, .bool false, .slice none 0 0, .string ⟨#[]⟩, .string ⟨#[]⟩, .bool false, .bool false] 24)) from below2 HQ1.out ((Below.refl _ wt).alloc (Nat.le_refl _) _))
              refine hK.out _ _ HQ8.out (fun hHeld2 => ?_)
              clear hK K9 hHeld
              rename _ => hHeld
              refine wpAnyH_ready (rs := [3]) (by kernel_rfl) (by simp) ?_
              refine AllReadyH.cons rfl (fun K9 hK => ?_) AllReadyH.nil
              rw [if_pos (by kernel_rfl)]
              go_simp
              go_wp2_with (go_at_call 15; refine (HJn.out _ HQ8.out).mono ?_; rintro e wa ⟨qv, rfl, hown, hbj⟩)
              have HQ5 := hid (below2 HQ8.out hbj)
              obtain ⟨qa, qn, qc, rfl⟩ := own_sl hown
              have HO5 := hid (ownsRow_lower hown HQ8.out.size)
              have HZ2 := hid (HZ1.out.kept hbj)
              have HO6 := HO5
              have HQa := HQ1
              clear hbj hown
              refine hK.out _ _ HQ5.out (fun hHeld2 => ?_)
              clear hK K9 hHeld
              rename _ => hHeld
              refine' wpAnyH_take (i := 4) (oi := ⟨some 34, _, _, _, _, _⟩) (v := _) rfl (by kernel_rfl) (by kernel_rfl) (by kernel_rfl) (fun _ _ _ h => h) (Or.inl ⟨by kernel_rfl, ?hy4⟩) (by assumption) ?rest4
              case hy4 => (intro wx hSw; (try dsimp only at hSw); go_simp; first | done | with_reducible rfl)
              (try simp only [Act.put, List.setIfInBounds_toArray, List.set_cons_zero, List.set_cons_succ])
              refine' wpAnyH_take (i := 5) (oi := ⟨some 39, _, _, _, _, _⟩) (v := _) rfl (by kernel_rfl) (by kernel_rfl) (by kernel_rfl) (fun _ _ _ h => h) (Or.inl ⟨by kernel_rfl, ?hy5⟩) (by assumption) ?rest5
              case hy5 => (intro wx hSw; (try dsimp only at hSw); go_simp; first | done | with_reducible rfl)
              (try simp only [Act.put, List.setIfInBounds_toArray, List.set_cons_zero, List.set_cons_succ])
              refine' wpAnyH_take (i := 6) (oi := ⟨some 40, _, _, _, _, _⟩) (v := _) rfl (by kernel_rfl) (by kernel_rfl) (by kernel_rfl) (fun _ _ _ h => h) (Or.inl ⟨by kernel_rfl, ?hy6⟩) (by assumption) ?rest6
              case hy6 => (intro wx hSw; (try dsimp only at hSw); go_simp; first | done | with_reducible rfl)
              (try simp only [Act.put, List.setIfInBounds_toArray, List.set_cons_zero, List.set_cons_succ])
              refine wpAnyH_ready (rs := [8]) (by kernel_rfl) (by simp) ?_
              refine AllReadyH.cons rfl (fun K9 hK => ?_) AllReadyH.nil
              rw [if_pos (by kernel_rfl)]
              refine wp_store_mid 24 (.tmp 9) (.tmp 39) rfl (wt.heap.size) 0 (adrCells A (.slice qa qn qc)).toArray rfl rfl HZ2.out.there (sizeUa _ _) (all_oneCell_toArray (adrCells_one _ _ ⟨_, _, _, rfl⟩)) ?_
              have hwl : W4.heap.size ≤ wt.heap.size := by
                first | exact Nat.le_refl _ | exact HQa.out.size
              have HHf := hid (half_of3 (A := A) HQ5.out HZ2.out HO6.out hwl)
              have HQ9 := hid (show Below W4.heap.size W4 (wa.setCells (wt.heap.size) 0 (adrCells A (.slice qa qn qc))) from below_setCells hwl _ _ _ HQ5.out)
              (try simp only [Act.put, List.setIfInBounds_toArray, List.set_cons_zero, List.set_cons_succ])
              refine hK.out _ _ HQ9.out (fun hHeld2 => ?_)
              clear hK K9 hHeld
              rename _ => hHeld
              refine wpAnyH_ready (rs := [9]) (by kernel_rfl) (by simp) ?_
              refine AllReadyH.cons rfl (fun K9 hK => ?_) AllReadyH.nil
              rw [if_pos (by kernel_rfl)]
              go_simp
              refine hK.out _ _ HQ9.out (fun hHeld2 => ?_)
              clear hK K9 hHeld
              rename _ => hHeld
              refine wpAnyH_done (by kernel_rfl) ?_ _
              go_wp2_with fail
              go_meet
              case rel => exact ⟨_, qa, qn, qc, rfl, rfl, HHf⟩
          · rw [if_pos (by kernel_rfl)]
            go_simp
            have HZ1 := hid (show AdrIn (W4.drew.alloc (.cells #[.string ⟨#[]⟩, .string ⟨#[]⟩, .string ⟨#[]⟩, .string ⟨#[]⟩, .bool false, .int .i64 0, .bool false, .slice none 0 0, .string ⟨#[]⟩, .string ⟨#[]⟩, .bool false, .bool false] 24)) W4.heap.size Adr.zero (.slice none 0 0) from heap_alloc_new W4.drew _)
            have HQ8 := hid (show Below W4.heap.size W4 (W4.drew.alloc (.cells #[.string ⟨#[]⟩, .string ⟨#[]⟩, .string ⟨#[]⟩, .string ⟨#[]⟩, .bool false, .int .i64 0, .bool false, .slice none 0 0, .string ⟨#[]⟩, .string ⟨#[]⟩, .bool false, .bool false] 24)) from below2 HQ0.out ((Below.refl _ W4.drew).alloc (Nat.le_refl _) _))
            refine hK.out _ _ HQ8.out (fun hHeld2 => ?_)
            clear hK K9 hHeld
            rename _ => hHeld
            refine wpAnyH_ready (rs := [1]) (by kernel_rfl) (by simp) ?_
            refine AllReadyH.cons rfl (fun K9 hK => ?_) AllReadyH.nil
            rw [if_pos (by kernel_rfl)]
            go_simp
            go_wp2_with (go_at_call 19; refine (HTx.out _ HQ8.out).mono ?_; rintro e wt ⟨rfl, hba⟩)
            have HQ1 := hid (below2 HQ8.out hba)
            have HZ3 := hid (HZ1.out.kept hba)
            clear hba
            refine hK.out _ _ HQ1.out (fun hHeld2 => ?_)
            clear hK K9 hHeld
            rename _ => hHeld
            refine wpAnyH_ready (rs := [3]) (by kernel_rfl) (by simp) ?_
            refine AllReadyH.cons rfl (fun K9 hK => ?_) AllReadyH.nil
            rw [if_pos (by kernel_rfl)]
            go_simp
            go_wp2_with (go_at_call 15; refine (HJn.out _ HQ1.out).mono ?_; rintro e wa ⟨qv, rfl, hown, hbj⟩)
            have HQ5 := hid (below2 HQ1.out hbj)
            obtain ⟨qa, qn, qc, rfl⟩ := own_sl hown
            have HO5 := hid (ownsRow_lower hown HQ1.out.size)
            have HZ2 := hid (HZ3.out.kept hbj)
            have HO6 := HO5
            have HQa := HQ0
            clear hbj hown
            refine hK.out _ _ HQ5.out (fun hHeld2 => ?_)
            clear hK K9 hHeld
            rename _ => hHeld
            refine' wpAnyH_take (i := 4) (oi := ⟨some 34, _, _, _, _, _⟩) (v := _) rfl (by kernel_rfl) (by kernel_rfl) (by kernel_rfl) (fun _ _ _ h => h) (Or.inl ⟨by kernel_rfl, ?hy7⟩) (by assumption) ?rest7
            case hy7 => (intro wx hSw; (try dsimp only at hSw); go_simp; first | done | with_reducible rfl)
            (try simp only [Act.put, List.setIfInBounds_toArray, List.set_cons_zero, List.set_cons_succ])
            refine' wpAnyH_take (i := 5) (oi := ⟨some 39, _, _, _, _, _⟩) (v := _) rfl (by kernel_rfl) (by kernel_rfl) (by kernel_rfl) (fun _ _ _ h => h) (Or.inl ⟨by kernel_rfl, ?hy8⟩) (by assumption) ?rest8
            case hy8 => (intro wx hSw; (try dsimp only at hSw); go_simp; first | done | with_reducible rfl)
            (try simp only [Act.put, List.setIfInBounds_toArray, List.set_cons_zero, List.set_cons_succ])
            refine' wpAnyH_take (i := 6) (oi := ⟨some 40, _, _, _, _, _⟩) (v := _) rfl (by kernel_rfl) (by kernel_rfl) (by kernel_rfl) (fun _ _ _ h => h) (Or.inl ⟨by kernel_rfl, ?hy9⟩) (by assumption) ?rest9
            case hy9 => (intro wx hSw; (try dsimp only at hSw); go_simp; first | done | with_reducible rfl)
            (try simp only [Act.put, List.setIfInBounds_toArray, List.set_cons_zero, List.set_cons_succ])
            refine wpAnyH_ready (rs := [8]) (by kernel_rfl) (by simp) ?_
            refine AllReadyH.cons rfl (fun K9 hK => ?_) AllReadyH.nil
            rw [if_pos (by kernel_rfl)]
            refine wp_store_mid 24 (.tmp 9) (.tmp 39) rfl (W4.heap.size) 0 (adrCells A (.slice qa qn qc)).toArray rfl rfl HZ2.out.there (sizeUa _ _) (all_oneCell_toArray (adrCells_one _ _ ⟨_, _, _, rfl⟩)) ?_
            have hwl : W4.heap.size ≤ W4.heap.size := by
              first | exact Nat.le_refl _ | exact HQa.out.size
            have HHf := hid (half_of3 (A := A) HQ5.out HZ2.out HO6.out hwl)
            have HQ9 := hid (show Below W4.heap.size W4 (wa.setCells (W4.heap.size) 0 (adrCells A (.slice qa qn qc))) from below_setCells hwl _ _ _ HQ5.out)
            (try simp only [Act.put, List.setIfInBounds_toArray, List.set_cons_zero, List.set_cons_succ])
            refine hK.out _ _ HQ9.out (fun hHeld2 => ?_)
            clear hK K9 hHeld
            rename _ => hHeld
            refine wpAnyH_ready (rs := [9]) (by kernel_rfl) (by simp) ?_
            refine AllReadyH.cons rfl (fun K9 hK => ?_) AllReadyH.nil
            rw [if_pos (by kernel_rfl)]
            go_simp
            refine hK.out _ _ HQ9.out (fun hHeld2 => ?_)
            clear hK K9 hHeld
            rename _ => hHeld
            refine wpAnyH_done (by kernel_rfl) ?_ _
            go_wp2_with fail
            go_meet
            case rel => exact ⟨_, qa, qn, qc, rfl, rfl, HHf⟩
        case rest =>
          obtain ⟨ub, qa, qn, qc, rfl, rfl, HHf⟩ := hcut
          clear y0 y1 y2 y3 y4 y5 y6 y7 y8 y9 y10 y11
          obtain ⟨hB, hA9, hP9⟩ := HHf.out
          have HBc := hid (below2 HB4.out hB)
          have hAd := HA4.out.kept hB
          obtain ⟨x0, x1, x2, x3, x4, x5, x6, x8, x9, x10, x11, hxx⟩ := adr_cells A qa qn qc
          have hvx : adrVal A (.slice qa qn qc) = .agg #[.string x0, .string x1, .string x2, .string x3, .bool x4, .int .i64 x5, .bool x6, .slice qa qn qc, .string x8, .string x9, .bool x10, .bool x11] := by unfold adrVal; rw [hxx]
          have HSm := hid (same3_any A (.slice da dn dc) (.slice qa qn qc) wc (HPP.out.kept hB) hP9 HLn.out)
          rw [HVd.out, hvx] at HSm
          obtain ⟨y0, y1, y2, y3, y4, y5, y6, y7, y8, y9, y10, y11⟩ := adr_twelve HXd.out hAd
          obtain ⟨z0, z1, z2, z3, z4, z5, z6, z7, z8, z9, z10, z11⟩ := adr_twelve hxx hA9
          clear hB hA9 hP9 hAd hxx hvx HHf
          go_wp2_with fail
          refine HSm.out.mono ?_
          rintro e w8 ⟨rfl, hb8⟩
          have HB8 := hid (below2 HBc.out hb8)
          clear hb8
          go_wp2_with fail
          refine (HKn.out _ (HG.out.kept HB8.out)).mono ?_
          rintro e w9 ⟨rfl, hbk⟩
          go_wp2
          go_ret
          exact ⟨rfl, below2 HB8.out hbk⟩

end Go.Proofs.YtdnginibhpnefaaGreatDoor
