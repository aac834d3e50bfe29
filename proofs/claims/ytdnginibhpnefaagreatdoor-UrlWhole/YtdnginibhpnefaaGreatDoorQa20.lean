/-
  Walks and plain facts that this claim leans on, put together out of 4 texts: Uz, Yf, Ta, Sc.
-/
import Derived.Test.YtdnginibhpnefaaGreatDoorProg
import Derived.Test.YtdnginibhpnefaaGreatDoorQa1
import Derived.Test.YtdnginibhpnefaaGreatDoorQa2
import Derived.Test.YtdnginibhpnefaaGreatDoorQa3
import Derived.Test.YtdnginibhpnefaaGreatDoorQa4
import Derived.Test.YtdnginibhpnefaaGreatDoorQa5
import Derived.Test.YtdnginibhpnefaaGreatDoorQa6
import Derived.Test.YtdnginibhpnefaaGreatDoorQa7
import Derived.Test.YtdnginibhpnefaaGreatDoorQa8
import Derived.Test.YtdnginibhpnefaaGreatDoorQa9
import Derived.Test.YtdnginibhpnefaaGreatDoorQa10
import Derived.Test.YtdnginibhpnefaaGreatDoorQa11
import Derived.Test.YtdnginibhpnefaaGreatDoorQa12
import Derived.Test.YtdnginibhpnefaaGreatDoorQa13
import Derived.Test.YtdnginibhpnefaaGreatDoorQa14
import Derived.Test.YtdnginibhpnefaaGreatDoorQa18
import Derived.Test.YtdnginibhpnefaaGreatDoorQa19
import Derived.LoopN
import Derived.RegionTactic
import Derived.Deep.RegionWith
import Derived.Deep.QuietTactic
import Derived.BigQuiet
import Derived.WalkKit
import Derived.Laws.BitsAllLaws
import Derived.Lib.LastIndexByte
import Derived.WalkMore
import Derived.Lib.IndexMore
import Derived.Lib.Join
import Derived.Laws.RangeAny
import Derived.Lib.DecodeN
import Derived.Lib.OthersKept
import Derived.Deep.LoopGhost
import Derived.Laws.CopyOwn
import Derived.Laws.ResultCell
import Derived.Deep.MidRow
import Derived.Deep.RegionLaw
import Derived.Lib.Strings
import Derived.Lib.UnsafeStr
import Derived.Laws.IdiomStrings
import Derived.Laws.AppendOwn
import Derived.Shelf.Strings.Builder1
import Derived.Shelf.Strings.Builder2
import Derived.Shelf.Strings.OnBuilder
import Derived.Shelf.Strings.Trim
import Derived.Shelf.Small.Utf8
import Derived.Shelf.Small.Strs
import Derived.Shelf.Small.Wraps
import Derived.Shelf.Strings.BuilderF
import Derived.Shelf.Strings.BuilderK
import Derived.Shelf.Strings.Builder2Cap
import Derived.Shelf.Strconv.Itoa0
import Derived.Shelf.Strconv.Itoa1
import Derived.Shelf.LaysM
import Derived.Shelf.Strconv.Itoa2
import Derived.Shelf.Strconv.Itoa3
import Derived.Shelf.Strings.Search1
import Derived.Shelf.Strings.Search2
import Derived.Shelf.Strings.Search3
import Derived.Shelf.Strings.Cut
import Derived.Shelf.Strings.Count
import Derived.Shelf.Strings.Shaped
import Derived.Shelf.Strings.LastIndex
import Derived.Shelf.Strings.Prefix
import Derived.Shelf.Strings.Split
import Derived.Shelf.Strings.Replace
import Derived.Shelf.Strings.Runes
import Derived.Shelf.Strings.IndexAny
import Derived.Shelf.Strings.AsciiSet
import Derived.Shelf.Strings.IndexAnyAll
import Derived.Shelf.Unicode.DecodeSlow
import Derived.Ground.Names2Prog
import Derived.Shelf.Slices.Clone
import Derived.Ground.SlgnProg
import Derived.Shelf.SlicesE.Clone
import Derived.OwnWalk
import Derived.Laws.OwnMore
import Derived.Lib.AppendIntMem
import Derived.Lib.SmallJoins
import Derived.WalkSmall
import Derived.WalkSpells
import Derived.WalkLawsBesides
import Derived.Laws.BytesString
import Derived.Deep.WholeRow
import Derived.Deep.RegionHeld
import Derived.Lib.AppendStr
import Derived.BigRegion
import Derived.Scope
import Derived.ScopeJumps
import Derived.Lib.IndexAny
import Derived.Lib.Replace
import Derived.Lib.TrimByte
import Derived.Lib.ItoaNum
import Derived.Lib.BufferMore
import Derived.Lib.Bytealg
import Derived.Lib.FrozenHead2
import Derived.Lib.Builder
set_option linter.unusedSimpArgs false
set_option linter.unusedVariables false

namespace Go.Proofs.YtdnginibhpnefaaGreatDoor
open Go.RowKit

theorem bareV_le (u : Adr) (hf : Fine u) : (bareV u).length ≤ 8000000 := by
  obtain ⟨h1, ⟨h2, h3, h4, h5⟩, ⟨h6, h7, h8⟩, h9, h10⟩ := hf
  have a1 := authT_le u h3 h4 h5
  have a2 := pathT_le u h7 h8
  have a3 : (if u.hasQuery then 63 :: u.query else ([] : List UInt8)).length ≤ 1000001 := by split <;> simp <;> omega
  unfold bareV
  simp only [List.length_append, List.length_cons]
  omega

set_option maxHeartbeats 2000000 in
set_option maxRecDepth 100000 in
theorem text_any (u : Adr) (pv : Value) (w : World) (hg : Gd w) (hp : PathAt w pv u.path) (hf : Fine u) :
    Calls Tryz.prog 19 #[adrVal u pv] w fun e w' => e = .returned (.string ⟨(textV u).toArray⟩) ∧ Below w.heap.size w w' := by
  have hsl : IsSl pv := by
    rcases hp with ⟨rfl, _⟩ | ⟨b, cap, rfl, _⟩
    · exact ⟨_, _, _, rfl⟩
    · exact ⟨_, _, _, rfl⟩
  obtain ⟨BT, hBT⟩ : ∃ X : ByteArray, X = ⟨(bareV u).toArray⟩ := ⟨_, rfl⟩
  have HBa : Hid (∀ w : World, Gd w → PathAt w pv u.path → Calls Tryz.prog 24 #[adrVal u pv] w fun e w' => e = .returned (.string BT) ∧ Below w.heap.size w w') := fun w hg hp => by rw [hBT]; exact bare_any u pv w hg hp hf
  have hBTs : BT.size ≤ 8000000 := by rw [hBT, Lib.size_eq]; exact bareV_le u hf
  have HBT := hid (show BT.data.toList = bareV u by rw [hBT])
  obtain ⟨h1, ⟨h2, h3, h4, h5⟩, ⟨h6, h7, h8⟩, h9, h10⟩ := hf
  clear hBT
  have HG := hid hg
  have HPa := hid hp
  clear hg hp
  obtain ⟨a0, n0, c0, rfl⟩ := hsl
  obtain ⟨FR, hFR⟩ : ∃ X : ByteArray, X = ⟨u.fragment.toArray⟩ := ⟨_, rfl⟩
  obtain ⟨hfr, hhf⟩ : ∃ b, b = u.hasFragment := ⟨_, rfl⟩
  have hFs : FR.size ≤ 1000000 := by rw [hFR, Lib.size_eq]; exact h10
  obtain ⟨x0, x1, x2, x3, x4, x5, x6, x8, x10, hx⟩ : ∃ x0 x1 x2 x3 x4 x5 x6 x8 x10, adrCells u (.slice a0 n0 c0) = [x0, x1, x2, x3, x4, x5, x6, .slice a0 n0 c0, x8, .string FR, x10, .bool hfr] := ⟨_, _, _, _, _, _, _, _, _, by rw [hFR, hhf]; rfl⟩
  have HV := hid (show textV u = BT.data.toList ++ (if hfr then 35 :: FR.data.toList else []) by rw [HBT.out, hFR, hhf]; rfl)
  have hva : adrVal u (.slice a0 n0 c0) = .agg #[x0, x1, x2, x3, x4, x5, x6, .slice a0 n0 c0, x8, .string FR, x10, .bool hfr] := by unfold adrVal; rw [hx]
  rw [hva] at HBa ⊢
  clear hx hva hFR hhf h1 h2 h3 h4 h5 h6 h7 h8 h9 h10 HBT
  have hA : (w.alloc (.cells #[x0, x1, x2, x3, x4, x5, x6, .slice a0 n0 c0, x8, .string FR, x10, .bool hfr] 24)).heap[w.heap.size]? = some (.cells #[x0, x1, x2, x3, x4, x5, x6, .slice a0 n0 c0, x8, .string FR, x10, .bool hfr] 24 (0, 0)) := heap_alloc_new w _
  have hb : Below w.heap.size w (w.alloc (.cells #[x0, x1, x2, x3, x4, x5, x6, .slice a0 n0 c0, x8, .string FR, x10, .bool hfr] 24)) := (Below.refl _ w).alloc (Nat.le_refl _) _
  obtain ⟨W, hW⟩ : ∃ W, W = w.alloc (.cells #[x0, x1, x2, x3, x4, x5, x6, .slice a0 n0 c0, x8, .string FR, x10, .bool hfr] 24) := ⟨_, rfl⟩
  rw [← hW] at hA hb
  have HW := hid hW.symm
  have h12 : Twelve W w.heap.size (x0) (x1) (x2) (x3) (x4) (x5) (x6) (.slice a0 n0 c0) (x8) (.string FR) (x10) (.bool hfr) W := ⟨Below.refl _ _, Lib.cell_of_heap hA 0, Lib.cell_of_heap hA 1, Lib.cell_of_heap hA 2, Lib.cell_of_heap hA 3, Lib.cell_of_heap hA 4, Lib.cell_of_heap hA 5, Lib.cell_of_heap hA 6, Lib.cell_of_heap hA 7, Lib.cell_of_heap hA 8, Lib.cell_of_heap hA 9, Lib.cell_of_heap hA 10, Lib.cell_of_heap hA 11⟩
  have HB := hid hb
  have HGW := hid (HG.out.kept hb)
  have HPW := hid (HPa.out.kept hb)
  have HK := hid (fun (X Y : World) (h : Twelve W w.heap.size (x0) (x1) (x2) (x3) (x4) (x5) (x6) (.slice a0 n0 c0) (x8) (.string FR) (x10) (.bool hfr) X) (hb : Below X.heap.size X Y) => h.kept hb)
  clear hW hb hA
  cases hfr with
  | true =>
    go_enter Tryz.func19, Tryz.ntmps19
    go_wp2
    rw [HW.out]
    unfold Twelve at h12 HK
    go_region_held (fun wx => Below W.heap.size W wx ∧ wx.cell? ⟨w.heap.size, 0, none⟩ = some (x0) ∧ wx.cell? ⟨w.heap.size, 1, none⟩ = some (x1) ∧ wx.cell? ⟨w.heap.size, 2, none⟩ = some (x2) ∧ wx.cell? ⟨w.heap.size, 3, none⟩ = some (x3) ∧ wx.cell? ⟨w.heap.size, 4, none⟩ = some (x4) ∧ wx.cell? ⟨w.heap.size, 5, none⟩ = some (x5) ∧ wx.cell? ⟨w.heap.size, 6, none⟩ = some (x6) ∧ wx.cell? ⟨w.heap.size, 7, none⟩ = some (.slice a0 n0 c0) ∧ wx.cell? ⟨w.heap.size, 8, none⟩ = some (x8) ∧ wx.cell? ⟨w.heap.size, 9, none⟩ = some (.string FR) ∧ wx.cell? ⟨w.heap.size, 10, none⟩ = some (x10) ∧ wx.cell? ⟨w.heap.size, 11, none⟩ = some (.bool true))
      (first | exact HK.out _ _ h12 (Below.refl _ W).drew | (go_split_ands; exact ⟨by assumption, by assumption, by assumption, by assumption, by assumption, by assumption, by assumption, by assumption, by assumption, by assumption, by assumption, by assumption, by assumption⟩) | exact HK.out _ _ (by assumption) (by assumption) | exact HK.out _ _ (by go_split_ands; exact ⟨by assumption, by assumption, by assumption, by assumption, by assumption, by assumption, by assumption, by assumption, by assumption, by assumption, by assumption, by assumption, by assumption⟩) (by assumption))
      (first
        | (go_at_call 24; refine (HBa.out _ (HGW.out.kept (by (try dsimp only at *); go_split_ands; assumption)) (HPW.out.kept (by (try dsimp only at *); go_split_ands; assumption))).mono ?_; rintro e wa ⟨rfl, hba⟩))
    all_goals
      (try dsimp only at *)
      go_split_ands
      go_wp2
      go_ret
      refine ⟨ret_str' (ba_ext ?_), below2 HB.out (by assumption)⟩
      rw [HV.out]
      simp
  | false =>
    go_enter Tryz.func19, Tryz.ntmps19
    go_wp2_with fail
    rw [HW.out]
    refine (HBa.out _ HGW.out HPW.out).mono ?_
    rintro e wa ⟨rfl, hba⟩
    have HB2 := hid (below2 HB.out hba)
    clear h12 hba
    go_wp2
    go_ret
    refine ⟨ret_str' (ba_ext ?_), HB2.out⟩
    rw [HV.out]
    simp

end Go.Proofs.YtdnginibhpnefaaGreatDoor

namespace Go.Proofs.YtdnginibhpnefaaGreatDoor
open Go.RowKit

theorem hostV_len (l : List UInt8) (b : Bool) (a : List UInt8) (h : parseV l b = some a) : a.length ≤ 3 * l.length + 1000 := by
  unfold parseV at h
  split at h
  · unfold bracketV at h
    split at h
    · cases hs : sixV (Lib.trimSuffix (l.drop 1) [93]) with
      | none => rw [hs] at h; cases h
      | some x =>
        rw [hs] at h
        simp only [Option.map_some, Option.some.injEq] at h
        have := text6_le x (sixV_ok hs).1
        rw [← h]; simp; omega
    · cases h
  · split at h
    · unfold nameV at h
      split at h
      · cases h
      · split at h
        · cases hf : fourV (low (unpct l)) with
          | none => rw [hf] at h; cases h
          | some n =>
            rw [hf] at h
            simp only [Option.map_some, Option.some.injEq] at h
            rw [← h]
            have := text4_le n
            omega
        · simp only [Option.some.injEq] at h
          have h1 := unpct_le l
          rw [← h, show low (unpct l) = (unpct l).map lowC from rfl, List.length_map]
          omega
    · unfold otherV at h
      split at h
      · cases h
      · simp only [Option.some.injEq] at h
        have := pct_le 1 l
        rw [← h]; omega

theorem slL_nil : slL [] = [] := rfl

theorem slL_drop (L : List (List UInt8)) : (slL L.dropLast).length ≤ (slL L).length := by
  rw [List.dropLast_eq_take]; exact slL_take L _

theorem slL_len (L : List (List UInt8)) : L.length ≤ (slL L).length := by
  induction L with
  | nil => simp
  | cons p L ih => simp only [slL, List.flatMap_cons, List.length_append, List.length_cons] at ih ⊢; omega

theorem slL_flat (L : List (List UInt8)) : L.flatten.length ≤ (slL L).length := by
  induction L with
  | nil => simp
  | cons p L ih => simp only [slL, List.flatMap_cons, List.length_append, List.length_cons, List.flatten_cons] at ih ⊢; omega

theorem stepP_sl (out : List (List UInt8)) (p : List UInt8) (mo : Bool) : (slL (stepP out p mo)).length ≤ (slL out).length + 1 + 3 * p.length := by
  have h1 := slL_drop out
  have h2 := pct_le 5 p
  rcases dotsV_cases p with h | h | h
  · rw [stepP0 h, slL_snoc, List.length_append, List.length_cons]; omega
  · cases mo
    · rw [stepP1' h, slL_snoc, List.length_append, List.length_cons, List.length_nil]; omega
    · rw [stepP1 h]; omega
  · cases mo
    · rw [stepP2' h, slL_snoc, List.length_append, List.length_cons, List.length_nil]; omega
    · rw [stepP2 h]; omega

theorem pathL_sl (L : List (List UInt8)) : ∀ out, (slL (pathL out L)).length ≤ (slL out).length + 3 * (slL L).length := by
  induction L with
  | nil => intro out; rw [pathL]; omega
  | cons p L ih =>
    intro out
    have h3 : (slL (p :: L)).length = 1 + p.length + (slL L).length := by simp [slL]; omega
    by_cases h : L = []
    · subst h
      rw [pathL_last]
      have := stepP_sl out p false
      omega
    · rw [pathL_more out p L h]
      have h1 := stepP_sl out p true
      have h2 := ih (stepP out p true)
      omega

theorem cutL_sl (c : UInt8) (l : List UInt8) : (slL (cutL c l)).length = l.length + 1 := by
  induction l with
  | nil => rfl
  | cons x l ih =>
    rw [cutL]
    split
    · have : slL ([] :: cutL c l) = 47 :: slL (cutL c l) := rfl
      rw [this, List.length_cons, ih]; rfl
    · cases hc : cutL c l with
      | nil => exact absurd hc (cutL_ne c l)
      | cons h t =>
        rw [hc] at ih
        simp only [slL, List.flatMap_cons, List.length_append, List.length_cons] at ih ⊢
        omega

theorem pathV_sl (sp : Bool) (hv : List (List UInt8)) (s : List UInt8) : (slL (pathV sp hv s)).length ≤ (slL hv).length + 3 * (s.length + 1) := by
  unfold pathV
  split
  · simp [slL_nil]
  · have h1 := pathL_sl (cutL 47 (over1 s)) hv
    rw [cutL_sl] at h1
    have := over1_le s
    omega

/-- What may stand in an address whose text has n bytes. -/
def Slim (n : Nat) (u : Adr) : Prop :=
  (u.port = -1 ∨ (0 ≤ u.port ∧ u.port ≤ 65535)) ∧ u.scheme.length ≤ n ∧ u.user.length ≤ n ∧ u.pass.length ≤ n ∧ u.host.length ≤ n ∧ (slL u.path).length ≤ n ∧ u.query.length ≤ n ∧ u.fragment.length ≤ n

theorem Slim.fine {n : Nat} {u : Adr} (h : Slim n u) (hn : n ≤ 1000000) : Fine u := by
  obtain ⟨h1, h2, h3, h4, h5, h6, h7, h8⟩ := h
  have a1 := slL_len u.path
  have a2 := slL_flat u.path
  exact ⟨h1, ⟨by omega, by omega, by omega, by omega⟩, ⟨by omega, by omega, by omega⟩, by omega, by omega⟩

theorem Slim.mono {n m : Nat} {u : Adr} (h : Slim n u) (hn : n ≤ m) : Slim m u := by
  obtain ⟨h1, h2, h3, h4, h5, h6, h7, h8⟩ := h
  exact ⟨h1, by omega, by omega, by omega, by omega, by omega, by omega, by omega⟩

theorem ahead_len (ends l : List UInt8) : (aheadV ends l).1.length ≤ l.length ∧ (aheadV ends l).2.length ≤ l.length :=
  ⟨(List.takeWhile_prefix _).length_le, (List.dropWhile_suffix _).length_le⟩

theorem withQuery_slim {n : Nat} {u : Adr} {q : List UInt8} (h : Slim n u) (hq : 3 * q.length ≤ n) : Slim n (withQuery u q) := by
  unfold withQuery
  split
  · exact h
  · obtain ⟨h1, h2, h3, h4, h5, h6, h7, h8⟩ := h
    refine ⟨h1, h2, h3, h4, h5, h6, ?_, h8⟩
    show (querV _ (q.drop 1)).length ≤ n
    unfold querV
    have := pct_le (if specV u.scheme then 4 else 3) (q.drop 1)
    rw [List.length_drop] at this
    omega

theorem withPath_slim {n : Nat} {u : Adr} {hv : List (List UInt8)} {r : List UInt8} (h : Slim n u) (hr : (slL hv).length + 3 * (r.length + 1) ≤ n) : Slim n (withPath u hv r) := by
  have ha := ahead_len [63] r
  unfold withPath
  refine withQuery_slim ?_ (by omega)
  obtain ⟨h1, h2, h3, h4, h5, h6, h7, h8⟩ := h
  refine ⟨h1, h2, h3, h4, h5, ?_, h7, h8⟩
  have := pathV_sl (specV u.scheme) hv (aheadV [63] r).1
  show (slL (pathV _ hv _)).length ≤ n
  omega

theorem portV_ok {own : Int} {t : List UInt8} {p : Int} (h : portV own t = some p) : p = -1 ∨ (0 ≤ p ∧ p ≤ 65535) := by
  unfold portV at h
  split at h
  · cases h; exact .inl rfl
  · split at h
    · rename_i h2
      simp only [Bool.and_eq_true, decide_eq_true_eq] at h2
      have h3 : 0 ≤ intV t := (intV_range t).1
      split at h
      · cases h; exact .inl rfl
      · cases h; exact .inr ⟨h3, h2.2⟩
    · cases h

theorem authV_slim {sc s a b h : List UInt8} {p : Int} (e : authV sc s = .ok (a, b, h, p)) : (p = -1 ∨ (0 ≤ p ∧ p ≤ 65535)) ∧ a.length ≤ 3 * s.length ∧ b.length ≤ 3 * s.length ∧ h.length ≤ 3 * s.length + 1000 := by
  unfold authV at e
  split at e
  · cases e
  · rename_i q hq
    split at e
    · cases e
    · rename_i g hgp
      split at e
      · cases e
      · injection e with e
        simp only [Prod.mk.injEq] at e
        obtain ⟨rfl, rfl, rfl, rfl⟩ := e
        have h1 := at_le s
        have h2 := part_le 58 (atV s).1
        have h3 := pct_le 6 (part 58 (atV s).1).1
        have h4 := pct_le 6 (part 58 (atV s).1).2.1
        have h5 := hostV_len _ _ _ hgp
        rw [List.length_take] at h5
        refine ⟨portV_ok hq, by omega, by omega, by omega⟩

theorem withAuth_slim {n : Nat} {u v : Adr} {r : List UInt8} (h : Slim n u) (hr : 3 * r.length + 1003 ≤ n) (e : withAuth u r = .ok v) : Slim n v := by
  unfold withAuth at e
  split at e
  · cases e
  · rename_i a b hh p ha
    injection e with e
    subst e
    have hl := ahead_len [47, 63] r
    obtain ⟨k1, k2, k3, k4⟩ := authV_slim ha
    obtain ⟨h1, h2, h3, h4, h5, h6, h7, h8⟩ := h
    refine withPath_slim ⟨k1, h2, ?_, ?_, ?_, h6, h7, h8⟩ ?_
    · show a.length ≤ n; omega
    · show b.length ≤ n; omega
    · show hh.length ≤ n; omega
    · simp only [slL_nil, List.length_nil]; omega

theorem startV_slim {n : Nat} {u v : Adr} {r : List UInt8} (h : Slim n u) (hr : 3 * r.length + 1003 ≤ n) (e : startV u r = .ok v) : Slim n v := by
  unfold startV at e
  split at e
  · refine withAuth_slim h ?_ e
    have := skip_le (slashV r)
    rw [slash_len] at this
    omega
  · split at e
    · refine withAuth_slim h ?_ e
      rw [List.length_drop]; omega
    · split at e
      · injection e with e
        subst e
        refine withPath_slim h ?_
        simp only [slL_nil, List.length_nil]; omega
      · injection e with e
        subst e
        have ha := ahead_len [63] r
        have hp := pct_le 1 (aheadV [63] r).1
        refine withQuery_slim ?_ (by omega)
        obtain ⟨h1, h2, h3, h4, h5, h6, h7, h8⟩ := h
        refine ⟨h1, h2, h3, h4, h5, ?_, h7, h8⟩
        show (slL [pct 1 _]).length ≤ n
        simp only [slL, List.flatMap_cons, List.flatMap_nil, List.append_nil, List.length_cons]
        omega

theorem begin_slim (s : List UInt8) (n : Nat) (h : 3 * s.length ≤ n) : Slim n (beginU s).1 := by
  have h1 := clean_le s
  have h2 := part_le 35 (cleanV s)
  have h3 := pct_le 2 (part 35 (cleanV s)).2.1
  have h4 : (((schemeV (part 35 (cleanV s)).1).getD ([], (part 35 (cleanV s)).1)).1).length ≤ s.length := by
    unfold schemeV
    split
    · have := part_le 58 (part 35 (cleanV s)).1
      rw [Option.getD_some, show (low (part 58 (part 35 (cleanV s)).1).1) = (part 58 (part 35 (cleanV s)).1).1.map lowC from rfl, List.length_map]
      omega
    · simp
  refine ⟨.inl rfl, ?_, Nat.zero_le _, Nat.zero_le _, Nat.zero_le _, Nat.zero_le _, Nat.zero_le _, ?_⟩
  · show _ ≤ n
    exact Nat.le_trans h4 (by omega)
  · show (pct 2 (part 35 (cleanV s)).2.1).length ≤ n
    omega

theorem joinV_slim {n : Nat} {u v b : Adr} {r : List UInt8} (h : Slim n u) (hb : Slim n b) (hr : (slL b.path).length + 3 * r.length + 1003 ≤ n) (e : joinV u r b = .ok v) : Slim n v := by
  have hsl : (slashedV b.scheme r).length = r.length := by
    unfold slashedV; split
    · exact slash_len r
    · rfl
  obtain ⟨h1, h2, h3, h4, h5, h6, h7, h8⟩ := h
  have hb' := hb
  obtain ⟨b1, b2, b3, b4, b5, b6, b7, b8⟩ := hb
  unfold joinV at e
  simp only at e
  split at e
  · refine startV_slim (n := n) (r := slashedV b.scheme r) ?_ (by omega) e
    exact ⟨h1, b2, h3, h4, h5, h6, h7, h8⟩
  · split at e
    · injection e with e
      subst e
      refine withPath_slim ⟨b1, b2, b3, b4, b5, h6, h7, h8⟩ ?_
      simp only [slL_nil, List.length_nil]; omega
    · split at e
      · injection e with e
        subst e
        refine withPath_slim ⟨b1, b2, b3, b4, b5, h6, h7, h8⟩ ?_
        have := slL_drop b.path
        omega
      · injection e with e
        subst e
        refine withQuery_slim ⟨b1, b2, b3, b4, b5, b6, b7, h8⟩ (by omega)

theorem parse_slim {s : List UInt8} {u : Adr} (e : readV s none = .ok u) : Slim 20000 u := by
  unfold readV at e
  split at e
  · cases e
  · simp only at e
    split at e
    · cases e
    · have hl := begin_le s
      exact startV_slim (begin_slim s _ (by omega)) (by omega) e

theorem join_slim {s : List UInt8} {b u : Adr} {n : Nat} (hb : Slim n b) (hn : n ≤ 100000) (e : readV s (some b) = .ok u) : Slim (n + 20000) u := by
  unfold readV at e
  split at e
  · cases e
  · simp only at e
    have hl := begin_le s
    split at e
    · exact startV_slim (begin_slim s _ (by omega)) (by omega) e
    · split at e
      · cases e
      · refine joinV_slim (begin_slim s _ (by omega)) (hb.mono (by omega)) ?_ e
        have := hb.2.2.2.2.2.1
        omega

theorem parse_fine {s : List UInt8} {u : Adr} (e : readV s none = .ok u) : Fine u := (parse_slim e).fine (by omega)

end Go.Proofs.YtdnginibhpnefaaGreatDoor

namespace Go.Proofs.YtdnginibhpnefaaGreatDoor
open Go.RowKit

theorem inSet_outer (c set : Int) (h : ¬ (1 ≤ set ∧ set ≤ 6)) : inSetI c set = false := by
  have : ¬ inSetP c set := fun h' => h h'.1
  simp [inSetI, this]

set_option maxHeartbeats 1000000 in
theorem rin_2 (c : Int) (w : World) :
    Calls Tryz.prog 73 #[.int .u8 c, .int .i64 2] w fun e w' => e = .returned (.bool (inSetI c 2)) ∧ w = w' := by
  have HF := hid (setL_in c 2 (by omega))
  have hc : c < 32 ∨ (32 ≤ c ∧ 126 < c) ∨ (32 ≤ c ∧ c ≤ 126) := by omega
  rcases hc with hc | ⟨hc1, hc2⟩ | ⟨hc1, hc2⟩
  all_goals
    go_enter Tryz.func73, Tryz.ntmps73
    go_wp2
    generalize hT : ByteArray.mk #[32, 34, 60, 62, 96] = t
    have hts : t.size ≤ 19 := by rw [← hT]; decide
    have HA : Hid (inTo c t.data.toList t.size = inSetI c 2) := hid ((inTo_all c t).trans (by rw [← hT]; exact HF.out))
    clear hT HF
    go_loop [5, 7] (fun o j => ∃ m : Nat, m ≤ t.size ∧ j = .int .i64 m ∧ o = .bool (inTo c t.data.toList m)) (fun _ j => t.size - (intOf j).toNat)
    case atStart => exact ⟨0, by omega, rfl, by rw [inTo_zero] <;> (try congr 1) <;> (try simp) <;> omega⟩
    case round =>
      obtain ⟨m, hm, rfl, rfl⟩ := hrel
      by_cases hlt : m < t.size
      · have HS := hid (inTo_succ c t m hlt)
        have hot : inTo c t.data.toList m = true ∨ inTo c t.data.toList m = false := by cases inTo c t.data.toList m <;> simp
        rcases hot with hot | hot
        all_goals
          go_wp2
          go_round
          case rel => exact ⟨m + 1, by omega, by go_num, by rw [HS.out, hot]; simp⟩
          case measure => simp [intOf]; omega
      · obtain rfl : m = t.size := by omega
        go_wp2
        go_ret
        exact ⟨ret_bool HA.out, rfl⟩

set_option maxHeartbeats 1000000 in
theorem rin_3 (c : Int) (w : World) :
    Calls Tryz.prog 73 #[.int .u8 c, .int .i64 3] w fun e w' => e = .returned (.bool (inSetI c 3)) ∧ w = w' := by
  have HF := hid (setL_in c 3 (by omega))
  have hc : c < 32 ∨ (32 ≤ c ∧ 126 < c) ∨ (32 ≤ c ∧ c ≤ 126) := by omega
  rcases hc with hc | ⟨hc1, hc2⟩ | ⟨hc1, hc2⟩
  all_goals
    go_enter Tryz.func73, Tryz.ntmps73
    go_wp2
    generalize hT : ByteArray.mk #[32, 34, 35, 60, 62] = t
    have hts : t.size ≤ 19 := by rw [← hT]; decide
    have HA : Hid (inTo c t.data.toList t.size = inSetI c 3) := hid ((inTo_all c t).trans (by rw [← hT]; exact HF.out))
    clear hT HF
    go_loop [5, 7] (fun o j => ∃ m : Nat, m ≤ t.size ∧ j = .int .i64 m ∧ o = .bool (inTo c t.data.toList m)) (fun _ j => t.size - (intOf j).toNat)
    case atStart => exact ⟨0, by omega, rfl, by rw [inTo_zero] <;> (try congr 1) <;> (try simp) <;> omega⟩
    case round =>
      obtain ⟨m, hm, rfl, rfl⟩ := hrel
      by_cases hlt : m < t.size
      · have HS := hid (inTo_succ c t m hlt)
        have hot : inTo c t.data.toList m = true ∨ inTo c t.data.toList m = false := by cases inTo c t.data.toList m <;> simp
        rcases hot with hot | hot
        all_goals
          go_wp2
          go_round
          case rel => exact ⟨m + 1, by omega, by go_num, by rw [HS.out, hot]; simp⟩
          case measure => simp [intOf]; omega
      · obtain rfl : m = t.size := by omega
        go_wp2
        go_ret
        exact ⟨ret_bool HA.out, rfl⟩

set_option maxHeartbeats 1000000 in
theorem rin_4 (c : Int) (w : World) :
    Calls Tryz.prog 73 #[.int .u8 c, .int .i64 4] w fun e w' => e = .returned (.bool (inSetI c 4)) ∧ w = w' := by
  have HF := hid (setL_in c 4 (by omega))
  have hc : c < 32 ∨ (32 ≤ c ∧ 126 < c) ∨ (32 ≤ c ∧ c ≤ 126) := by omega
  rcases hc with hc | ⟨hc1, hc2⟩ | ⟨hc1, hc2⟩
  all_goals
    go_enter Tryz.func73, Tryz.ntmps73
    go_wp2
    generalize hT : ByteArray.mk #[32, 34, 35, 60, 62, 39] = t
    have hts : t.size ≤ 19 := by rw [← hT]; decide
    have HA : Hid (inTo c t.data.toList t.size = inSetI c 4) := hid ((inTo_all c t).trans (by rw [← hT]; exact HF.out))
    clear hT HF
    go_loop [5, 7] (fun o j => ∃ m : Nat, m ≤ t.size ∧ j = .int .i64 m ∧ o = .bool (inTo c t.data.toList m)) (fun _ j => t.size - (intOf j).toNat)
    case atStart => exact ⟨0, by omega, rfl, by rw [inTo_zero] <;> (try congr 1) <;> (try simp) <;> omega⟩
    case round =>
      obtain ⟨m, hm, rfl, rfl⟩ := hrel
      by_cases hlt : m < t.size
      · have HS := hid (inTo_succ c t m hlt)
        have hot : inTo c t.data.toList m = true ∨ inTo c t.data.toList m = false := by cases inTo c t.data.toList m <;> simp
        rcases hot with hot | hot
        all_goals
          go_wp2
          go_round
          case rel => exact ⟨m + 1, by omega, by go_num, by rw [HS.out, hot]; simp⟩
          case measure => simp [intOf]; omega
      · obtain rfl : m = t.size := by omega
        go_wp2
        go_ret
        exact ⟨ret_bool HA.out, rfl⟩

set_option maxHeartbeats 1000000 in
theorem rin_5 (c : Int) (w : World) :
    Calls Tryz.prog 73 #[.int .u8 c, .int .i64 5] w fun e w' => e = .returned (.bool (inSetI c 5)) ∧ w = w' := by
  have HF := hid (setL_in c 5 (by omega))
  have hc : c < 32 ∨ (32 ≤ c ∧ 126 < c) ∨ (32 ≤ c ∧ c ≤ 126) := by omega
  rcases hc with hc | ⟨hc1, hc2⟩ | ⟨hc1, hc2⟩
  all_goals
    go_enter Tryz.func73, Tryz.ntmps73
    go_wp2
    generalize hT : ByteArray.mk #[32, 34, 35, 60, 62, 63, 94, 96, 123, 125] = t
    have hts : t.size ≤ 19 := by rw [← hT]; decide
    have HA : Hid (inTo c t.data.toList t.size = inSetI c 5) := hid ((inTo_all c t).trans (by rw [← hT]; exact HF.out))
    clear hT HF
    go_loop [5, 7] (fun o j => ∃ m : Nat, m ≤ t.size ∧ j = .int .i64 m ∧ o = .bool (inTo c t.data.toList m)) (fun _ j => t.size - (intOf j).toNat)
    case atStart => exact ⟨0, by omega, rfl, by rw [inTo_zero] <;> (try congr 1) <;> (try simp) <;> omega⟩
    case round =>
      obtain ⟨m, hm, rfl, rfl⟩ := hrel
      by_cases hlt : m < t.size
      · have HS := hid (inTo_succ c t m hlt)
        have hot : inTo c t.data.toList m = true ∨ inTo c t.data.toList m = false := by cases inTo c t.data.toList m <;> simp
        rcases hot with hot | hot
        all_goals
          go_wp2
          go_round
          case rel => exact ⟨m + 1, by omega, by go_num, by rw [HS.out, hot]; simp⟩
          case measure => simp [intOf]; omega
      · obtain rfl : m = t.size := by omega
        go_wp2
        go_ret
        exact ⟨ret_bool HA.out, rfl⟩

set_option maxHeartbeats 1000000 in
theorem rin_6 (c : Int) (w : World) :
    Calls Tryz.prog 73 #[.int .u8 c, .int .i64 6] w fun e w' => e = .returned (.bool (inSetI c 6)) ∧ w = w' := by
  have HF := hid (setL_in c 6 (by omega))
  have hc : c < 32 ∨ (32 ≤ c ∧ 126 < c) ∨ (32 ≤ c ∧ c ≤ 126) := by omega
  rcases hc with hc | ⟨hc1, hc2⟩ | ⟨hc1, hc2⟩
  all_goals
    go_enter Tryz.func73, Tryz.ntmps73
    go_wp2
    generalize hT : ByteArray.mk #[32, 34, 35, 60, 62, 63, 94, 96, 123, 125, 47, 58, 59, 61, 64, 91, 92, 93, 124] = t
    have hts : t.size ≤ 19 := by rw [← hT]; decide
    have HA : Hid (inTo c t.data.toList t.size = inSetI c 6) := hid ((inTo_all c t).trans (by rw [← hT]; exact HF.out))
    clear hT HF
    go_loop [5, 7] (fun o j => ∃ m : Nat, m ≤ t.size ∧ j = .int .i64 m ∧ o = .bool (inTo c t.data.toList m)) (fun _ j => t.size - (intOf j).toNat)
    case atStart => exact ⟨0, by omega, rfl, by rw [inTo_zero] <;> (try congr 1) <;> (try simp) <;> omega⟩
    case round =>
      obtain ⟨m, hm, rfl, rfl⟩ := hrel
      by_cases hlt : m < t.size
      · have HS := hid (inTo_succ c t m hlt)
        have hot : inTo c t.data.toList m = true ∨ inTo c t.data.toList m = false := by cases inTo c t.data.toList m <;> simp
        rcases hot with hot | hot
        all_goals
          go_wp2
          go_round
          case rel => exact ⟨m + 1, by omega, by go_num, by rw [HS.out, hot]; simp⟩
          case measure => simp [intOf]; omega
      · obtain rfl : m = t.size := by omega
        go_wp2
        go_ret
        exact ⟨ret_bool HA.out, rfl⟩

set_option maxHeartbeats 1000000 in
theorem rin_any (c set : Int) (w : World) :
    Calls Tryz.prog 73 #[.int .u8 c, .int .i64 set] w fun e w' => e = .returned (.bool (inSetI c set)) ∧ w = w' := by
  by_cases hset : 1 ≤ set ∧ set ≤ 6
  · have h' : set = 1 ∨ set = 2 ∨ set = 3 ∨ set = 4 ∨ set = 5 ∨ set = 6 := by omega
    rcases h' with rfl | rfl | rfl | rfl | rfl | rfl
    · exact rin_1 c w
    · exact rin_2 c w
    · exact rin_3 c w
    · exact rin_4 c w
    · exact rin_5 c w
    · exact rin_6 c w
  · have HN := hid (inSet_outer c set hset)
    have h1 : (set == 1) = false := by simp; omega
    have h2 : (set == 2) = false := by simp; omega
    have h3 : (set == 3) = false := by simp; omega
    have h4 : (set == 4) = false := by simp; omega
    have h5 : (set == 5) = false := by simp; omega
    have h6 : (set == 6) = false := by simp; omega
    clear hset
    have hc : c < 32 ∨ (32 ≤ c ∧ 126 < c) ∨ (32 ≤ c ∧ c ≤ 126) := by omega
    rcases hc with hc | ⟨hc1, hc2⟩ | ⟨hc1, hc2⟩
    all_goals
      go_enter Tryz.func73, Tryz.ntmps73
      go_wp2
      go_ret
      exact ⟨ret_bool HN.out.symm, rfl⟩

set_option maxHeartbeats 1000000 in
theorem rpctS_any (s : ByteArray) (set : Int) (w : World) (hs : s.size ≤ 1000000) :
    Calls Tryz.prog 46 #[.string s, .int .i64 set] w fun e w' => e = .returned (.string ⟨(pct set s.data.toList).toArray⟩) ∧ Below w.heap.size w w' := by
  go_enter Tryz.func46, Tryz.ntmps46
  go_wp2
  go_loopw [5, 6] (fun o i wr => ∃ (k : Nat) (t : ByteArray), k ≤ s.size ∧ i = .int .i64 k ∧ o = .string t ∧ t.data.toList = pct set (s.data.toList.take k) ∧ Below w.heap.size w wr) (fun _ i _ => s.size - (intOf i).toNat)
  case atStart => exact ⟨0, _, Nat.zero_le _, rfl, rfl, rfl, Below.refl _ w⟩
  case round =>
    obtain ⟨k, t, hk, rfl, rfl, ht, hbw⟩ := hrel
    have htl : t.size ≤ 3 * k := by
      rw [Lib.size_eq, ht]
      have := pct_le set (s.data.toList.take k)
      simp at this
      omega
    have HT := hid ht
    clear ht
    by_cases hlt : k < s.size
    · have HS := hid (take_snoc s k hlt)
      have HP := hid (pct_snoc set (s.data.toList.take k) s[k])
      by_cases hin : inSetI (s[k].toNat : Int) set = true
      · go_wp2_with (first | (go_at_call 73; refine (rin_any _ _ _).mono ?_; rintro e w' ⟨rfl, rfl⟩))
        refine (rescape_any s[k] wr).mono ?_
        rintro e w1 ⟨rfl, hb1⟩
        have hes : (ByteArray.mk (esc s[k]).toArray).size = 3 := rfl
        go_wp2
        go_roundw
        case rel =>
          refine ⟨k + 1, _, by omega, by go_num, rfl, ?_, hbw.trans (hb1.mono hbw.size)⟩
          rw [ByteArray.data_append, Array.toList_append, HT.out, HS.out, HP.out, pct1, if_pos hin]
        case measure => simp [intOf]; omega
      · have hin' : inSetI (s[k].toNat : Int) set = false := by simpa using hin
        clear hin
        go_wp2_with (first | (go_at_call 73; refine (rin_any _ _ _).mono ?_; rintro e w' ⟨rfl, rfl⟩))
        go_roundw
        case rel =>
          refine ⟨k + 1, _, by omega, by go_num, rfl, ?_, hbw⟩
          rw [ByteArray.data_append, Array.toList_append, HT.out, HS.out, HP.out, pct1, hin', extract_at s k hlt]
          rfl
        case measure => simp [intOf]; omega
    · have ht := HT.out
      rw [take_all s k hlt] at ht
      have HT2 := hid ht
      clear ht HT
      go_wp2
      go_ret
      exact ⟨ret_str HT2.out, hbw⟩

set_option maxHeartbeats 400000 in
theorem rletter_any (c : Int) (w : World) :
    Calls Tryz.prog 48 #[.int .u8 c] w fun e w' => e = .returned (.bool (letterI c)) ∧ w = w' := by
  go_enter Tryz.func48, Tryz.ntmps48
  go_wp2
  all_goals
    go_ret
    exact ⟨ret_bool (by rw [Bool.eq_iff_iff]; simp [letterI]; omega), rfl⟩

set_option maxHeartbeats 1000000 in
theorem rint_any (s : ByteArray) (w : World) (hs : s.size ≤ 140737488351232) :
    Calls Tryz.prog 99 #[.string s] w fun e w' => e = .returned (.tuple #[.int .i64 (intV s.data.toList), .bool (intOk s.data.toList)]) ∧ w = w' := by
  go_enter Tryz.func99, Tryz.ntmps99
  go_wp2
  go_loop [4, 5] (fun n i => ∃ k : Nat, k ≤ s.size ∧ i = .int .i64 k ∧ (s.data.toList.take k).all digP = true ∧ n = .int .i64 (numI (s.data.toList.take k))) (fun _ i => s.size - (intOf i).toNat)
  case atStart => exact ⟨0, Nat.zero_le _, rfl, rfl, rfl⟩
  case round =>
    obtain ⟨k, hk, rfl, hall, rfl⟩ := hrel
    have hr := numI_range _ hall
    have HA := hid hall
    clear hall
    by_cases hlt : k < s.size
    · have HT := hid (take_snoc s k hlt)
      have HN := hid (numI_snoc (s.data.toList.take k) s[k])
      generalize numI (s.data.toList.take k) = n at *
      obtain ⟨hr1, hr2⟩ := hr
      by_cases hd : digitI (s[k].toNat : Int) = true
      · have hd2 : 48 ≤ (s[k].toNat : Int) ∧ (s[k].toNat : Int) ≤ 57 := by simp [digitI] at hd; omega
        obtain ⟨hd3, hd4⟩ := hd2
        by_cases hbig : (9223372036854775807 - ((s[k].toNat : Int) - 48)) / 10 < n
        · have HT2 := hid (show ten n ((s[k].toNat : Int) - 48) = 9223372036854775807 by unfold ten; rw [if_pos hbig])
          go_wp2_with (go_at_call 49; refine (rdigit_any _ _).mono ?_; rintro e w' ⟨rfl, rfl⟩)
          go_round
          case rel => exact ⟨k + 1, by omega, by go_num, by rw [HT.out, List.all_append, HA.out]; simp [digP, hd], by rw [HT.out, HN.out, HT2.out]⟩
          case measure => simp [intOf]; omega
        · have HT2 := hid (show ten n ((s[k].toNat : Int) - 48) = n * 10 + ((s[k].toNat : Int) - 48) by unfold ten; rw [if_neg hbig])
          have hbig' : n ≤ (9223372036854775807 - ((s[k].toNat : Int) - 48)) / 10 := by omega
          clear hbig
          go_wp2_with (go_at_call 49; refine (rdigit_any _ _).mono ?_; rintro e w' ⟨rfl, rfl⟩)
          go_round
          case rel => exact ⟨k + 1, by omega, by go_num, by rw [HT.out, List.all_append, HA.out]; simp [digP, hd], by rw [HT.out, HN.out, HT2.out]⟩
          case measure => simp [intOf]; omega
      · have hd' : digitI (s[k].toNat : Int) = false := by simpa using hd
        clear hd
        go_wp2_with (go_at_call 49; refine (rdigit_any _ _).mono ?_; rintro e w' ⟨rfl, rfl⟩)
        go_ret2
        have : s.data.toList.all digP = false := by
          rw [List.all_eq_false]
          refine ⟨s[k], ?_, by simp [digP, hd']⟩
          have : s[k] = s.data.toList[k]'(by simpa using hlt) := rfl
          rw [this]; exact List.getElem_mem _
        exact ⟨ret_ib (by simp [intV, this]) (by simp [intOk, this]), rfl⟩
    · have ha := HA.out
      rw [take_all s k hlt] at ha ⊢
      have ha' := hid ha
      clear ha
      by_cases h0 : s.size = 0
      · have hl : s.data.toList = [] := List.eq_nil_of_length_eq_zero (by simpa using h0)
        have HL := hid hl
        clear hl
        go_wp2
        go_ret2
        exact ⟨ret_ib (by rw [HL.out]; rfl) (by rw [HL.out]; simp [intOk]), rfl⟩
      · have hl : s.data.toList.isEmpty = false := by
          rw [List.isEmpty_eq_false_iff]
          intro h
          apply h0
          have := congrArg List.length h
          simpa using this
        have HL := hid hl
        clear hl
        have h0' : (0 : Int) < (s.size : Int) := by omega
        go_wp2
        go_ret2
        exact ⟨ret_ib (by simp [intV, ha'.out, HL.out]) (by simp [intOk, ha'.out, HL.out]; try omega), rfl⟩

end Go.Proofs.YtdnginibhpnefaaGreatDoor

namespace Go.Proofs.YtdnginibhpnefaaGreatDoor
open Go.RowKit

theorem begins_eq (s t : ByteArray) (h : t.size ≤ s.size) : ((s.extract 0 t.size).toList == t.toList) = Lib.hasPrefix s.data.toList t.data.toList := by
  rw [Lib.toList_data, Lib.toList_data, Lib.extract_data, Bool.eq_iff_iff]
  unfold Lib.hasPrefix
  rw [List.isPrefixOf_iff_prefix, List.prefix_iff_eq_take, beq_iff_eq]
  simp
  exact eq_comm

theorem begins_no (s t : ByteArray) (h : ¬ t.size ≤ s.size) : Lib.hasPrefix s.data.toList t.data.toList = false := by
  rw [← Bool.not_eq_true]
  unfold Lib.hasPrefix
  rw [List.isPrefixOf_iff_prefix]
  intro hp
  have := hp.length_le
  simp at this
  exact h this

set_option maxHeartbeats 400000 in
theorem begins_any (s t : ByteArray) (w : World) (hs : s.size ≤ 4000000000) (ht : t.size ≤ 4000000000) :
    Calls Tryz.prog 53 #[.string s, .string t] w fun e w' => e = .returned (.bool (Lib.hasPrefix s.data.toList t.data.toList)) ∧ w = w' := by
  by_cases h : t.size ≤ s.size
  · have HE := hid (begins_eq s t h)
    have h' : (t.size : Int) ≤ (s.size : Int) := by omega
    have hd := decide_eq_true h'
    go_enter Tryz.func53, Tryz.ntmps53
    go_wp2
    go_ret
    exact ⟨ret_bool (by simpa using HE.out), rfl⟩
  · have HE := hid (begins_no s t h)
    have h' : ¬ (t.size : Int) ≤ (s.size : Int) := by omega
    have hd := decide_eq_false h'
    go_enter Tryz.func53, Tryz.ntmps53
    go_wp2
    go_ret
    exact ⟨ret_bool HE.out.symm, rfl⟩

theorem ends_eq (s t : ByteArray) (h : t.size ≤ s.size) : ((s.extract (s.size - t.size) s.size).toList == t.toList) = Lib.hasSuffix s.data.toList t.data.toList := by
  rw [Lib.toList_data, Lib.toList_data, Lib.extract_data, Bool.eq_iff_iff]
  unfold Lib.hasSuffix
  rw [List.isSuffixOf_iff_suffix, List.suffix_iff_eq_drop, beq_iff_eq]
  have e : s.size - (s.size - t.size) = t.size := by omega
  rw [e, List.take_of_length_le (by simp; omega)]
  simp
  exact eq_comm

theorem ends_no (s t : ByteArray) (h : ¬ t.size ≤ s.size) : Lib.hasSuffix s.data.toList t.data.toList = false := by
  rw [← Bool.not_eq_true]
  unfold Lib.hasSuffix
  rw [List.isSuffixOf_iff_suffix]
  intro hp
  have := hp.length_le
  simp at this
  exact h this

set_option maxHeartbeats 400000 in
theorem ends_any (s t : ByteArray) (w : World) (hs : s.size ≤ 4000000000) (ht : t.size ≤ 4000000000) :
    Calls Tryz.prog 121 #[.string s, .string t] w fun e w' => e = .returned (.bool (Lib.hasSuffix s.data.toList t.data.toList)) ∧ w = w' := by
  by_cases h : t.size ≤ s.size
  · have HE := hid (ends_eq s t h)
    have h' : (t.size : Int) ≤ (s.size : Int) := by omega
    have hd := decide_eq_true h'
    have ht : ((s.size : Int) - (t.size : Int)).toNat = s.size - t.size := by omega
    have h0 : (0 : Int) ≤ (s.size : Int) - (t.size : Int) := by omega
    have h1 : (s.size : Int) - (t.size : Int) ≤ (s.size : Int) := by omega
    go_enter Tryz.func121, Tryz.ntmps121
    go_wp2
    go_ret
    exact ⟨ret_bool (by simpa [ht] using HE.out), rfl⟩
  · have HE := hid (ends_no s t h)
    have h' : ¬ (t.size : Int) ≤ (s.size : Int) := by omega
    have hd := decide_eq_false h'
    go_enter Tryz.func121, Tryz.ntmps121
    go_wp2
    go_ret
    exact ⟨ret_bool HE.out.symm, rfl⟩

def forbB : ByteArray := ⟨#[0, 9, 10, 13, 32, 35, 47, 58, 60, 62, 63, 64, 91, 92, 93, 94, 124]⟩

theorem forb_mem (c : UInt8) : forb c = true ↔ ∃ k, ∃ h : k < forbB.size, forbB[k] = c := by
  have key : ∀ n < 256, (forb (UInt8.ofNat n) = true ↔ ∃ k, ∃ h : k < 17, forbL[k]'h = UInt8.ofNat n) := by
    have k2 : ∀ n < 256, forb (UInt8.ofNat n) = forbL.any (fun x => x == UInt8.ofNat n) := by decide +kernel
    intro n hn
    rw [k2 n hn, List.any_eq_true]
    constructor
    · rintro ⟨x, hx, he⟩
      obtain ⟨k, hk, rfl⟩ := List.getElem_of_mem hx
      exact ⟨k, hk, by simpa using he⟩
    · rintro ⟨k, hk, he⟩
      exact ⟨_, List.getElem_mem hk, by simpa using he⟩
  have := key c.toNat c.toNat_lt
  have e : UInt8.ofNat c.toNat = c := by simp
  rw [e] at this
  exact this

set_option maxHeartbeats 1000000 in
theorem rbad_any (c : UInt8) (w : World) :
    Calls Tryz.prog 124 #[.int .u8 (c.toNat : Int)] w fun e w' => e = .returned (.bool (forb c)) ∧ w = w' := by
  have hc8 := c.toNat_lt
  have HS := hid (show forbB.size = 17 from rfl)
  go_enter Tryz.func124, Tryz.ntmps124
  go_wp2
  go_loop [3] (fun i => ∃ k : Nat, k ≤ 17 ∧ i = .int .i64 k ∧ ∀ j, ∀ h : j < forbB.size, j < k → forbB[j] ≠ c) (fun i => 17 - (intOf i).toNat)
  case atStart => exact ⟨0, by omega, rfl, fun j _ h => absurd h (by omega)⟩
  case round =>
    obtain ⟨k, hk, rfl, hno⟩ := hrel
    have HN := hid hno
    clear hno
    by_cases hlt : k < 17
    · have hb : k < forbB.size := hlt
      have hlt' : (k : Int) < 17 := by omega
      have hx : (ByteArray.mk #[0, 9, 10, 13, 32, 35, 47, 58, 60, 62, 63, 64, 91, 92, 93, 94, 124]).size = 17 := rfl
      have hxk : k < (ByteArray.mk #[0, 9, 10, 13, 32, 35, 47, 58, 60, 62, 63, 64, 91, 92, 93, 94, 124]).size := by rw [hx]; exact hlt
      have hb8 : (ByteArray.mk #[0, 9, 10, 13, 32, 35, 47, 58, 60, 62, 63, 64, 91, 92, 93, 94, 124])[k].toNat < 256 := (ByteArray.mk #[0, 9, 10, 13, 32, 35, 47, 58, 60, 62, 63, 64, 91, 92, 93, 94, 124])[k].toNat_lt
      by_cases he : (ByteArray.mk #[0, 9, 10, 13, 32, 35, 47, 58, 60, 62, 63, 64, 91, 92, 93, 94, 124])[k] = c
      · have HF := hid ((forb_mem c).2 ⟨k, hb, he⟩)
        have he' : ((ByteArray.mk #[0, 9, 10, 13, 32, 35, 47, 58, 60, 62, 63, 64, 91, 92, 93, 94, 124])[k].toNat : Int) = (c.toNat : Int) := by rw [he]
        go_wp2
        go_ret
        exact ⟨ret_bool HF.out.symm, rfl⟩
      · have he' : (((ByteArray.mk #[0, 9, 10, 13, 32, 35, 47, 58, 60, 62, 63, 64, 91, 92, 93, 94, 124])[k].toNat : Int) == (c.toNat : Int)) = false := by
          rw [beq_eq_false_iff_ne]
          intro e
          exact he (UInt8.toNat_inj.1 (by omega))
        have HE := hid he
        clear he
        go_wp2
        go_round
        case rel =>
          refine ⟨k + 1, by omega, by go_num, fun j hj hjk => ?_⟩
          by_cases h1 : j = k
          · subst h1; exact HE.out
          · exact HN.out j hj (by omega)
        case measure => simp [intOf]; omega
    · have hk17 : k = 17 := by omega
      subst hk17
      have HF : Hid (forb c = false) := by
        refine hid ?_
        rw [← Bool.not_eq_true, forb_mem]
        rintro ⟨k, h, e⟩
        exact HN.out k h h e
      go_wp2
      go_ret
      exact ⟨ret_bool HF.out.symm, rfl⟩

end Go.Proofs.YtdnginibhpnefaaGreatDoor
