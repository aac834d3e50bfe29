/-
  Walks and plain facts that this claim leans on, put together out of 4 texts: Yf, Vq, Djk, Yh.
-/
import Derived.Test.YtgoefeaopegdoaaGreatDoorProg
import Derived.Test.YtgoefeaopegdoaaGreatDoorQa1
import Derived.Test.YtgoefeaopegdoaaGreatDoorQa3
import Derived.Test.YtgoefeaopegdoaaGreatDoorQa6
import Derived.Test.YtgoefeaopegdoaaGreatDoorQa7
import Derived.Test.YtgoefeaopegdoaaGreatDoorQa8
import Derived.Test.YtgoefeaopegdoaaGreatDoorQa9
import Derived.Test.YtgoefeaopegdoaaGreatDoorQa10
import Derived.Test.YtgoefeaopegdoaaGreatDoorQa11
import Derived.Test.YtgoefeaopegdoaaGreatDoorQa12
import Derived.Test.YtgoefeaopegdoaaGreatDoorQa13
import Derived.Test.YtgoefeaopegdoaaGreatDoorQa14
import Derived.Test.YtgoefeaopegdoaaGreatDoorQa18
import Derived.Test.YtgoefeaopegdoaaGreatDoorQa22
import Derived.Test.YtgoefeaopegdoaaGreatDoorQa24
import Derived.Lib.IndexMore
import Derived.Lib.Join
import Derived.Lib.LastIndexByte
import Derived.WalkKit
import Derived.Lib.Strings
import Derived.Lib.UnsafeStr
import Derived.Laws.IdiomStrings
import Derived.Laws.AppendOwn
import Derived.Laws.BitsAllLaws
import Derived.Lib.Bytealg
import Derived.Lib.BufferMore
import Derived.LoopN
import Derived.RegionTactic
import Derived.Deep.RegionWith
import Derived.Deep.QuietTactic
import Derived.BigQuiet
import Derived.Laws.OwnMore
import Derived.Shelf.Strings.Builder1
import Derived.Shelf.Strings.Builder2
import Derived.Shelf.Strings.OnBuilder
import Derived.Shelf.Strings.Trim
import Derived.Shelf.Small.Utf8
import Derived.Shelf.Small.Bits
import Derived.Shelf.Small.Strs
import Derived.Shelf.Small.Wraps
import Derived.Shelf.Strings.BuilderF
import Derived.Shelf.Strings.BuilderK
import Derived.Shelf.Strings.BuilderRune
import Derived.Shelf.Utf8.AppendRune
import Derived.Shelf.Utf8.AppendRunePlain
import Derived.Shelf.Strings.Builder2Cap
import Derived.Shelf.Strconv.Itoa0
import Derived.Shelf.Strconv.Itoa1
import Derived.Shelf.LaysM
import Derived.Shelf.Strconv.Itoa2
import Derived.Shelf.Strconv.Itoa3
import Derived.Shelf.Strings.Search1
import Derived.Shelf.Strings.Search2
import Derived.Shelf.Strings.Search3
import Derived.Shelf.Strings.Cut
import Derived.Shelf.Strings.Count
import Derived.Shelf.Strings.Shaped
import Derived.Shelf.Strings.LastIndex
import Derived.Shelf.Strings.Prefix
import Derived.Shelf.Strings.Split
import Derived.Shelf.Strings.Replace
import Derived.Shelf.Strings.Runes
import Derived.Shelf.Strings.IndexAny
import Derived.Shelf.Strings.AsciiSet
import Derived.Shelf.Strings.IndexAnyAll
import Derived.Shelf.Unicode.DecodeSlow
import Derived.Ground.Names2Prog
import Derived.Shelf.Slices.Clone
import Derived.Shelf.Slices.In.SortNone
import Derived.Ground.SlgnProg
import Derived.Shelf.SlicesE.Clone
import Derived.Scope
import Derived.ScopeJumps
import Derived.WalkMore
import Derived.Lib.IndexAny
import Derived.Lib.Replace
import Derived.Lib.TrimByte
import Derived.Lib.ItoaNum
import Derived.Laws.RangeAny
import Derived.Lib.DecodeN
import Derived.Lib.OthersKept
import Derived.Deep.LoopGhost
import Derived.Laws.BytesString
import Derived.Deep.WholeRow
import Derived.BigRegion
import Derived.Lib.AppendStr
import Derived.Deep.RegionHeld
import Derived.WalkSpells
import Derived.WalkLawsBesides
import Derived.Lib.AppendIntMem
import Derived.Lib.SmallJoins
import Derived.WalkSmall
import Derived.OwnWalk
import Derived.Laws.CopyOwn
import Derived.Laws.ResultCell
import Derived.Deep.MidRow
import Derived.Lib.FrozenHead2
import Derived.Lib.Builder
import Derived.Deep.RegionLaw
import Derived.Lib.BufferRead
import Derived.Lib.RuneBytes
import Derived.Laws.AppendOwnNone
import Derived.Deep.Cut
set_option linter.unusedSimpArgs false
set_option linter.unusedVariables false

namespace Go.Proofs.YtgoefeaopegdoaaGreatDoor
open Go.RowKit

theorem hostV_len (l : List UInt8) (b : Bool) (a : List UInt8) (h : parseV l b = some a) : a.length ≤ 3 * l.length + 1000 := by
 unfold parseV at h
 split at h
 ·unfold bracketV at h
  split at h
  ·cases hs : sixV (Lib.trimSuffix (l.drop 1) [93]) with
   | none => rw [hs] at h; cases h
   | some x =>
    rw [hs] at h
    simp only [Option.map_some, Option.some.injEq] at h
    have := text6_le x (sixV_ok hs).1
    rw [← h]; simp; omega
  ·cases h
 ·split at h
  ·unfold nameV at h
   split at h
   ·cases h
   ·split at h
    ·cases hf : fourV (low (unpct l)) with
     | none => rw [hf] at h; cases h
     | some n =>
      rw [hf] at h
      simp only [Option.map_some, Option.some.injEq] at h
      rw [← h]
      have := text4_le n
      omega
    ·simp only [Option.some.injEq] at h
     have h1 := unpct_le l
     rw [← h, show low (unpct l) = (unpct l).map lowC from rfl, List.length_map]
     omega
  ·unfold otherV at h
   split at h
   ·cases h
   ·simp only [Option.some.injEq] at h
    have := pct_le 1 l
    rw [← h]; omega

theorem slL_nil : slL [] = [] := rfl

theorem slL_drop (L : List (List UInt8)) : (slL L.dropLast).length ≤ (slL L).length := by
 rw [List.dropLast_eq_take]; exact slL_take L _

theorem slL_len (L : List (List UInt8)) : L.length ≤ (slL L).length := by
 induction L with
 | nil => simp
 | cons p L ih => simp only [slL, List.flatMap_cons, List.length_append, List.length_cons] at ih ⊢; omega

theorem slL_flat (L : List (List UInt8)) : L.flatten.length ≤ (slL L).length := by
 induction L with
 | nil => simp
 | cons p L ih => simp only [slL, List.flatMap_cons, List.length_append, List.length_cons, List.flatten_cons] at ih ⊢; omega

theorem stepP_sl (out : List (List UInt8)) (p : List UInt8) (mo : Bool) : (slL (stepP out p mo)).length ≤ (slL out).length + 1 + 3 * p.length := by
 have h1 := slL_drop out
 have h2 := pct_le 5 p
 rcases dotsV_cases p with h | h | h
 ·rw [stepP0 h, slL_snoc, List.length_append, List.length_cons]; omega
 ·cases mo
  ·rw [stepP1' h, slL_snoc, List.length_append, List.length_cons, List.length_nil]; omega
  ·rw [stepP1 h]; omega
 ·cases mo
  ·rw [stepP2' h, slL_snoc, List.length_append, List.length_cons, List.length_nil]; omega
  ·rw [stepP2 h]; omega

theorem pathL_sl (L : List (List UInt8)) : ∀ out, (slL (pathL out L)).length ≤ (slL out).length + 3 * (slL L).length := by
 induction L with
 | nil => intro out; rw [pathL]; omega
 | cons p L ih =>
  intro out
  have h3 : (slL (p :: L)).length = 1 + p.length + (slL L).length := by simp [slL]; omega
  by_cases h : L = []
  ·subst h
   rw [pathL_last]
   have := stepP_sl out p false
   omega
  ·rw [pathL_more out p L h]
   have h1 := stepP_sl out p true
   have h2 := ih (stepP out p true)
   omega

theorem cutL_sl (c : UInt8) (l : List UInt8) : (slL (cutL c l)).length = l.length + 1 := by
 induction l with
 | nil => rfl
 | cons x l ih =>
  rw [cutL]
  split
  ·have : slL ([] :: cutL c l) = 47 :: slL (cutL c l) := rfl
   rw [this, List.length_cons, ih]; rfl
  ·cases hc : cutL c l with
   | nil => exact absurd hc (cutL_ne c l)
   | cons h t =>
    rw [hc] at ih
    simp only [slL, List.flatMap_cons, List.length_append, List.length_cons] at ih ⊢
    omega

theorem pathV_sl (sp : Bool) (hv : List (List UInt8)) (s : List UInt8) : (slL (pathV sp hv s)).length ≤ (slL hv).length + 3 * (s.length + 1) := by
 unfold pathV
 split
 ·simp [slL_nil]
 ·have h1 := pathL_sl (cutL 47 (over1 s)) hv
  rw [cutL_sl] at h1
  have := over1_le s
  omega

def Slim (n : Nat) (u : Adr) : Prop :=
 (u.port = -1 ∨ (0 ≤ u.port ∧ u.port ≤ 65535)) ∧ u.scheme.length ≤ n ∧ u.user.length ≤ n ∧ u.pass.length ≤ n ∧ u.host.length ≤ n ∧ (slL u.path).length ≤ n ∧ u.query.length ≤ n ∧ u.fragment.length ≤ n

theorem Slim.mono {n m : Nat} {u : Adr} (h : Slim n u) (hn : n ≤ m) : Slim m u := by
 obtain ⟨h1, h2, h3, h4, h5, h6, h7, h8⟩ := h
 exact ⟨h1, by omega, by omega, by omega, by omega, by omega, by omega, by omega⟩

theorem ahead_len (ends l : List UInt8) : (aheadV ends l).1.length ≤ l.length ∧ (aheadV ends l).2.length ≤ l.length :=
 ⟨(List.takeWhile_prefix _).length_le, (List.dropWhile_suffix _).length_le⟩

theorem withQuery_slim {n : Nat} {u : Adr} {q : List UInt8} (h : Slim n u) (hq : 3 * q.length ≤ n) : Slim n (withQuery u q) := by
 unfold withQuery
 split
 ·exact h
 ·obtain ⟨h1, h2, h3, h4, h5, h6, h7, h8⟩ := h
  refine ⟨h1, h2, h3, h4, h5, h6, ?_, h8⟩
  show (querV _ (q.drop 1)).length ≤ n
  unfold querV
  have := pct_le (if specV u.scheme then 4 else 3) (q.drop 1)
  rw [List.length_drop] at this
  omega

theorem withPath_slim {n : Nat} {u : Adr} {hv : List (List UInt8)} {r : List UInt8} (h : Slim n u) (hr : (slL hv).length + 3 * (r.length + 1) ≤ n) : Slim n (withPath u hv r) := by
 have ha := ahead_len [63] r
 unfold withPath
 refine withQuery_slim ?_ (by omega)
 obtain ⟨h1, h2, h3, h4, h5, h6, h7, h8⟩ := h
 refine ⟨h1, h2, h3, h4, h5, ?_, h7, h8⟩
 have := pathV_sl (specV u.scheme) hv (aheadV [63] r).1
 show (slL (pathV _ hv _)).length ≤ n
 omega

theorem portV_ok {own : Int} {t : List UInt8} {p : Int} (h : portV own t = some p) : p = -1 ∨ (0 ≤ p ∧ p ≤ 65535) := by
 unfold portV at h
 split at h
 ·cases h; exact .inl rfl
 ·split at h
  ·rename_i h2
   simp only [Bool.and_eq_true, decide_eq_true_eq] at h2
   have h3 : 0 ≤ intV t := (intV_range t).1
   split at h
   ·cases h; exact .inl rfl
   ·cases h; exact .inr ⟨h3, h2.2⟩
  ·cases h

theorem authV_slim {sc s a b h : List UInt8} {p : Int} (e : authV sc s = .ok (a, b, h, p)) : (p = -1 ∨ (0 ≤ p ∧ p ≤ 65535)) ∧ a.length ≤ 3 * s.length ∧ b.length ≤ 3 * s.length ∧ h.length ≤ 3 * s.length + 1000 := by
 unfold authV at e
 split at e
 ·cases e
 ·rename_i q hq
  split at e
  ·cases e
  ·rename_i g hgp
   split at e
   ·cases e
   ·injection e with e
    simp only [Prod.mk.injEq] at e
    obtain ⟨rfl, rfl, rfl, rfl⟩ := e
    have h1 := at_le s
    have h2 := part_le 58 (atV s).1
    have h3 := pct_le 6 (part 58 (atV s).1).1
    have h4 := pct_le 6 (part 58 (atV s).1).2.1
    have h5 := hostV_len _ _ _ hgp
    rw [List.length_take] at h5
    refine ⟨portV_ok hq, by omega, by omega, by omega⟩

theorem withAuth_slim {n : Nat} {u v : Adr} {r : List UInt8} (h : Slim n u) (hr : 3 * r.length + 1003 ≤ n) (e : withAuth u r = .ok v) : Slim n v := by
 unfold withAuth at e
 split at e
 ·cases e
 ·rename_i a b hh p ha
  injection e with e
  subst e
  have hl := ahead_len [47, 63] r
  obtain ⟨k1, k2, k3, k4⟩ := authV_slim ha
  obtain ⟨h1, h2, h3, h4, h5, h6, h7, h8⟩ := h
  refine withPath_slim ⟨k1, h2, ?_, ?_, ?_, h6, h7, h8⟩ ?_
  ·show a.length ≤ n; omega
  ·show b.length ≤ n; omega
  ·show hh.length ≤ n; omega
  ·simp only [slL_nil, List.length_nil]; omega

theorem startV_slim {n : Nat} {u v : Adr} {r : List UInt8} (h : Slim n u) (hr : 3 * r.length + 1003 ≤ n) (e : startV u r = .ok v) : Slim n v := by
 unfold startV at e
 split at e
 ·refine withAuth_slim h ?_ e
  have := skip_le (slashV r)
  rw [slash_len] at this
  omega
 ·split at e
  ·refine withAuth_slim h ?_ e
   rw [List.length_drop]; omega
  ·split at e
   ·injection e with e
    subst e
    refine withPath_slim h ?_
    simp only [slL_nil, List.length_nil]; omega
   ·injection e with e
    subst e
    have ha := ahead_len [63] r
    have hp := pct_le 1 (aheadV [63] r).1
    refine withQuery_slim ?_ (by omega)
    obtain ⟨h1, h2, h3, h4, h5, h6, h7, h8⟩ := h
    refine ⟨h1, h2, h3, h4, h5, ?_, h7, h8⟩
    show (slL [pct 1 _]).length ≤ n
    simp only [slL, List.flatMap_cons, List.flatMap_nil, List.append_nil, List.length_cons]
    omega

theorem begin_slim (s : List UInt8) (n : Nat) (h : 3 * s.length ≤ n) : Slim n (beginU s).1 := by
 have h1 := clean_le s
 have h2 := part_le 35 (cleanV s)
 have h3 := pct_le 2 (part 35 (cleanV s)).2.1
 have h4 : (((schemeV (part 35 (cleanV s)).1).getD ([], (part 35 (cleanV s)).1)).1).length ≤ s.length := by
  unfold schemeV
  split
  ·have := part_le 58 (part 35 (cleanV s)).1
   rw [Option.getD_some, show (low (part 58 (part 35 (cleanV s)).1).1) = (part 58 (part 35 (cleanV s)).1).1.map lowC from rfl, List.length_map]
   omega
  ·simp
 refine ⟨.inl rfl, ?_, Nat.zero_le _, Nat.zero_le _, Nat.zero_le _, Nat.zero_le _, Nat.zero_le _, ?_⟩
 ·show _ ≤ n
  exact Nat.le_trans h4 (by omega)
 ·show (pct 2 (part 35 (cleanV s)).2.1).length ≤ n
  omega

theorem parse_slim {s : List UInt8} {u : Adr} (e : readV s none = .ok u) : Slim 20000 u := by
 unfold readV at e
 split at e
 ·cases e
 ·simp only at e
  split at e
  ·cases e
  ·have hl := begin_le s
   exact startV_slim (begin_slim s _ (by omega)) (by omega) e

end Go.Proofs.YtgoefeaopegdoaaGreatDoor

namespace Go.Proofs.YtgoefeaopegdoaaGreatDoor
open Go.RowKit

set_option maxHeartbeats 400000 in
theorem few_any (s : ByteArray) (n : Nat) (w : World) (hn : n ≤ 1000000) (hs : s.size ≤ 9223372036854775807) :
  Calls Tryz.prog 28 #[.string s, .int .i64 n] w fun e w' => e = .returned (.string ⟨(s.data.toList.take n).toArray⟩) ∧ w = w' := by
 by_cases h : n < s.size
 ·have h' : (n : Int) < (s.size : Int) := by omega
  have HE := hid (show s.extract 0 n = ⟨(s.data.toList.take n).toArray⟩ from ba_ext (by rw [Lib.extract_data]; simp))
  go_enter Tryz.func28, Tryz.ntmps28
  go_wp2
  go_ret
  rw [← HE.out]
  exact ⟨rfl, rfl⟩
 ·have h' : ¬ ((n : Int) < (s.size : Int)) := by omega
  have HE := hid (show s = ⟨(s.data.toList.take n).toArray⟩ from ba_ext (by rw [List.take_of_length_le (by simp; omega)]))
  go_enter Tryz.func28, Tryz.ntmps28
  go_wp2
  go_ret
  rw [← HE.out]
  exact ⟨rfl, rfl⟩

end Go.Proofs.YtgoefeaopegdoaaGreatDoor

namespace Go.Proofs.YtgoefeaopegdoaaGreatDoor
open Go.RowKit

def urlV (s : List UInt8) : Except Int Adr := readV (s.take 300) none

def isOk (r : Except Int Adr) : Bool := match r with | .ok _ => true | .error _ => false

def UPost (r : Except Int Adr) (w : World) (e : Ending) (w' : World) : Prop :=
 ∃ pv, e = .returned (.tuple #[adrVal (adrOf r) pv, .bool (isOk r)]) ∧ w'.ownsRow w.heap.size 9 1 pv (adrOf r).path.length (cellsS (adrOf r).path) ∧ Below w.heap.size w w'

theorem numOf_isOk {s : List UInt8} : decide (numOf (readV s none) = 0) = isOk (readV s none) := by
 cases h : readV s none with
 | ok u => rfl
 | error e =>
  have : e = 3 ∨ e = 10 ∨ e = 11 ∨ e = 12 := by
   unfold readV at h
   split at h
   ·injection h with h; exact .inl h.symm
   ·simp only at h
    split at h
    ·injection h with h; exact .inr (.inr (.inr h.symm))
    ·rcases startV_err h with h | h
     ·exact .inr (.inl h)
     ·exact .inr (.inr (.inl h))
  rcases this with rfl | rfl | rfl | rfl <;> rfl

set_option maxHeartbeats 1000000 in
set_option maxRecDepth 100000 in
theorem url_k (s : ByteArray) (w : World) (hs : s.size ≤ 9223372036854775807) :
  Calls Tryz.prog 63 #[.string s] w (UPost (urlV s.data.toList) w) := by
 have h0 : AdrIn (w.alloc (.cells (adrCells Adr.zero (.slice none 0 0)).toArray 34)) w.heap.size Adr.zero (.slice none 0 0) := heap_alloc_new w _
 have hb0 : Below w.heap.size w (w.alloc (.cells (adrCells Adr.zero (.slice none 0 0)).toArray 34)) := (Below.refl _ w).alloc (Nat.le_refl _) _
 have H0 := hid h0
 have HB0 := hid hb0
 clear h0 hb0
 obtain ⟨F, hF⟩ : ∃ F : ByteArray, ⟨(s.data.toList.take 300).toArray⟩ = F := ⟨_, rfl⟩
 have hFl : F.data.toList = s.data.toList.take 300 := by rw [← hF]
 have hFs : F.size ≤ 100000 := by rw [Lib.size_eq, hFl, List.length_take]; omega
 have HFw := hid (fun w => few_any s 300 w (by omega) hs)
 rw [hF] at HFw
 have HRd := hid (fun w => rparse3_any F w hFs)
 have HN := hid (numOf_isOk (s := F.data.toList))
 have HU := hid (show urlV s.data.toList = readV F.data.toList none by unfold urlV; rw [hFl])
 obtain ⟨r, hr⟩ : ∃ r, readV F.data.toList none = r := ⟨_, rfl⟩
 rw [hr] at HRd HN HU
 clear hF hFl hFs hr
 go_enter Tryz.func63, Tryz.ntmps63
 go_wp2_with fail
 refine (HFw.out _).mono ?_
 rintro e w' ⟨rfl, rfl⟩
 go_wp2_with fail
 refine (HRd.out _).mono ?_
 rintro e w1 ⟨pv, rfl, hown, hb1⟩
 have h1 := H0.out.kept hb1
 have HB1 := hid (below2 HB0.out hb1)
 have HO1 := hid (ownsRow_lower hown HB0.out.size)
 have hsl := own_sl hown
 obtain ⟨a0, n0, c0, rfl⟩ := hsl
 obtain ⟨s0, s1, s2, s3, b4, i5, b6, s8, s9, b10, b11, hx⟩ : ∃ s0 s1 s2 s3 b4 i5 b6 s8 s9 b10 b11, adrCells (adrOf r) (.slice a0 n0 c0) = [.string s0, .string s1, .string s2, .string s3, .bool b4, .int .i64 i5, .bool b6, .slice a0 n0 c0, .string s8, .string s9, .bool b10, .bool b11] := ⟨_, _, _, _, _, _, _, _, _, _, _, rfl⟩
 have hva : adrVal (adrOf r) (.slice a0 n0 c0) = .agg #[.string s0, .string s1, .string s2, .string s3, .bool b4, .int .i64 i5, .bool b6, .slice a0 n0 c0, .string s8, .string s9, .bool b10, .bool b11] := by unfold adrVal; rw [hx]
 have h4 : AdrIn (w1.alloc (.cells #[.string s0, .string s1, .string s2, .string s3, .bool b4, .int .i64 i5, .bool b6, .slice a0 n0 c0, .string s8, .string s9, .bool b10, .bool b11] 34)) w1.heap.size (adrOf r) (.slice a0 n0 c0) := by
  have := heap_alloc_new w1 (.cells #[.string s0, .string s1, .string s2, .string s3, .bool b4, .int .i64 i5, .bool b6, .slice a0 n0 c0, .string s8, .string s9, .bool b10, .bool b11] 34)
  unfold AdrIn
  rw [hx]
  exact this
 have hb4 : Below w1.heap.size w1 (w1.alloc (.cells #[.string s0, .string s1, .string s2, .string s3, .bool b4, .int .i64 i5, .bool b6, .slice a0 n0 c0, .string s8, .string s9, .bool b10, .bool b11] 34)) := (Below.refl _ w1).alloc (Nat.le_refl _) _
 have h6 := h1.kept hb4
 have HO4 := hid (ownsRow_same HO1.out fun g hg => hb4.block g (HO1.out.lt g hg).2)
 have HB4 := hid (below2 HB1.out hb4)
 have y0 := h6.cell 0 _ rfl
 have f0 := h6.frozen 0
 have y1 := h6.cell 1 _ rfl
 have f1 := h6.frozen 1
 have y2 := h6.cell 2 _ rfl
 have f2 := h6.frozen 2
 have y3 := h6.cell 3 _ rfl
 have f3 := h6.frozen 3
 have y4 := h6.cell 4 _ rfl
 have f4 := h6.frozen 4
 have y5 := h6.cell 5 _ rfl
 have f5 := h6.frozen 5
 have y6 := h6.cell 6 _ rfl
 have f6 := h6.frozen 6
 have y7 := h6.cell 7 _ rfl
 have f7 := h6.frozen 7
 have y8 := h6.cell 8 _ rfl
 have f8 := h6.frozen 8
 have y9 := h6.cell 9 _ rfl
 have f9 := h6.frozen 9
 have y10 := h6.cell 10 _ rfl
 have f10 := h6.frozen 10
 have y11 := h6.cell 11 _ rfl
 have f11 := h6.frozen 11
 have H6 := hid h6
 have HX := hid hx
 have HV := hid hva
 clear h4 hb4 h6 h1 hb1 hown hx
 rw [hva]
 clear hva
 go_wp2_with fail
 have hn : (numOf r == 0) = isOk r := HN.out
 rw [hn, HU.out]
 have hrg := range_row (H6.out.store (v := adrOf r) (qv := .slice a0 n0 c0))
 have hbl := below_setCells (Nat.le_refl w.heap.size) (adrCells (adrOf r) (.slice a0 n0 c0)) 0 _ HB4.out
 have how := own_cells HO4.out H6.out (adrCells (adrOf r) (.slice a0 n0 c0)) 0
 refine bodyPost_ret (results_u2 rfl _ _ w.heap.size (adrOf r) (.slice a0 n0 c0) rfl ?_) rfl ⟨.slice a0 n0 c0, ?_, ?_, ?_⟩
 ·rw [HX.out] at hrg ⊢; exact hrg
 ·rfl
 ·rw [HX.out] at how; exact how
 ·rw [HX.out] at hbl; exact hbl

end Go.Proofs.YtgoefeaopegdoaaGreatDoor

namespace Go.Proofs.YtgoefeaopegdoaaGreatDoor
open Go.RowKit

theorem adr_named (u : Adr) (a : Option Addr) (n c : Nat) : ∃ s0 s1 s2 s3 b4 i5 b6 s8 s9 b10 b11, adrCells u (.slice a n c) = [.string s0, .string s1, .string s2, .string s3, .bool b4, .int .i64 i5, .bool b6, .slice a n c, .string s8, .string s9, .bool b10, .bool b11] ∧ s0.data.toList = u.scheme ∧ s3.data.toList = u.host ∧ i5 = u.port ∧ b6 = u.opq := ⟨_, _, _, _, _, _, _, _, _, _, _, rfl, rfl, rfl, rfl, rfl⟩

def InPost (u : Adr) (w : World) (e : Ending) (w' : World) : Prop := ∃ pv, e = .returned (adrVal u pv) ∧ IsSl pv ∧ Below w.heap.size w w'

def InPostP (u : Adr) (w : World) (e : Ending) (w' : World) : Prop := ∃ pv, e = .returned (adrVal u pv) ∧ IsSl pv ∧ Below w.heap.size w w' ∧ PathAt w' pv u.path

set_option maxHeartbeats 4000000 in
set_option maxRecDepth 100000 in
theorem inner_own (u : Adr) (pv : Value) (w : World) (hg : Gd w) (hp : PathAt w pv u.path) (hl : u.path.length ≤ 1000000) (hf : u.path.flatten.length ≤ 100000) :
  Calls Tryz.prog 120 #[adrVal u pv] w (InPostP (innV u) w) := by
 have hsl : IsSl pv := by
  rcases hp with ⟨rfl, _⟩ | ⟨b, cap, rfl, _⟩
  ·exact ⟨_, _, _, rfl⟩
  ·exact ⟨_, _, _, rfl⟩
 obtain ⟨ua, un, uc, rfl⟩ := hsl
 obtain ⟨u0, u1, u2, u3, u4, u5, u6, u8, u9, u10, u11, hx, hx0, hx3, hx5, hx6⟩ := adr_named u ua un uc
 have hva : adrVal u (.slice ua un uc) = .agg #[.string u0, .string u1, .string u2, .string u3, .bool u4, .int .i64 u5, .bool u6, .slice ua un uc, .string u8, .string u9, .bool u10, .bool u11] := by unfold adrVal; rw [hx]
 rw [hva]
 obtain ⟨W1, hW1⟩ : ∃ W1, (w.alloc (.cells #[.string u0, .string u1, .string u2, .string u3, .bool u4, .int .i64 u5, .bool u6, .slice ua un uc, .string u8, .string u9, .bool u10, .bool u11] 34)) = W1 := ⟨_, rfl⟩
 have hb1 : Below w.heap.size w W1 := by rw [← hW1]; exact (Below.refl _ w).alloc (Nat.le_refl _) _
 have hs1 : W1.heap.size = w.heap.size + 1 := by rw [← hW1]; simp
 have hA1 : AdrIn W1 w.heap.size u (.slice ua un uc) := by
  unfold AdrIn
  rw [hx, ← hW1]
  exact heap_alloc_new w _
 obtain ⟨W2, hW2⟩ : ∃ W2, (W1.alloc (.cells (adrCells Adr.zero (.slice none 0 0)).toArray 34)) = W2 := ⟨_, rfl⟩
 have hb2 : Below W1.heap.size W1 W2 := by rw [← hW2]; exact (Below.refl _ W1).alloc (Nat.le_refl _) _
 have hA2 := hA1.kept hb2
 have hR2 : AdrIn W2 W1.heap.size Adr.zero (.slice none 0 0) := by rw [← hW2]; exact heap_alloc_new W1 _
 rw [hs1] at hR2
 have hB2 := below2 hb1 hb2
 have HG2 := hid (hg.kept hB2)
 have HP2 := hid (hp.kept hB2)
 have hfl : ∀ j v, (adrCells u (.slice ua un uc))[j]? = some v → W2.cell? ⟨w.heap.size, j, none⟩ = some v := fun j v h => hA2.cell j v h
 rw [hx] at hfl
 have y0 := hfl 0 _ rfl
 have y6 := hfl 6 _ rfl
 have y7 := hfl 7 _ rfl
 have HR2 := hid hR2
 have HB2 := hid hB2
 have HW1 := hid hs1
 have hW1' : w.alloc (.cells #[.string u0, .string u1, .string u2, .string u3, .bool u4, .int .i64 u5, .bool u6, .slice ua un uc, .string u8, .string u9, .bool u10, .bool u11] 34) = W1 := hW1
 have hW2' : W1.alloc (.cells #[.string ⟨#[]⟩, .string ⟨#[]⟩, .string ⟨#[]⟩, .string ⟨#[]⟩, .bool false, .int .i64 0, .bool false, .slice none 0 0, .string ⟨#[]⟩, .string ⟨#[]⟩, .bool false, .bool false] 34) = W2 := hW2
 clear hva hW1 hW2 hb1 hA1 hb2 hA2 hR2 hB2 hfl hg hx
 by_cases hc : u.scheme = sBlob ∧ u.opq = true
 ·have HV := hid (show innV u = adrOf (readV u.path.flatten none) by unfold innV; rw [if_pos hc])
  have e0 : (u0.toList == [98, 108, 111, 98]) = true := beq_yes u0 _ (by rw [hx0]; exact hc.1)
  have e6 : u6 = true := by rw [hx6]; exact hc.2
  subst e6
  obtain ⟨F, hF⟩ : ∃ F : ByteArray, F = ⟨u.path.flatten.toArray⟩ := ⟨_, rfl⟩
  have hFl : F.data.toList = u.path.flatten := by rw [hF]
  have HJ := hid (fun (w : World) (h : PathAt w (.slice ua un uc) u.path) => joinP_any (.slice ua un uc) u.path w h hl (by omega))
  rw [← hF] at HJ
  have HRd := hid (fun (w : World) (hg : Gd w) => uparse_any F w hg (by rw [Lib.size_eq, hFl]; omega))
  rw [hFl] at HRd
  obtain ⟨r, hr⟩ : ∃ r, readV u.path.flatten none = r := ⟨_, rfl⟩
  rw [hr] at HRd HV
  clear hc hx0 hx3 hx5 hx6 hF hFl hl hf hp hr
  go_enter Tryz.func120, Tryz.ntmps120
  go_wp2_with fail
  refine (HJ.out _ HP2.out).mono ?_
  rintro e w3 ⟨rfl, hb3⟩
  have HB3 := hid (below2 HB2.out hb3)
  have HG3 := hid (HG2.out.kept hb3)
  have HR3 := hid (HR2.out.kept hb3)
  clear hb3
  go_wp2_with fail
  refine (HRd.out _ HG3.out).mono ?_
  rintro e w4 ⟨qv, rfl, hown, hb4⟩
  have hsl := own_sl hown
  obtain ⟨qa, qn, qc, rfl⟩ := hsl
  obtain ⟨q0, q1, q2, q3, q4, q5, q6, q8, q9, q10, q11, hq, -, -, -, -⟩ := adr_named (adrOf r) qa qn qc
  have hqa : adrVal (adrOf r) (.slice qa qn qc) = .agg #[.string q0, .string q1, .string q2, .string q3, .bool q4, .int .i64 q5, .bool q6, .slice qa qn qc, .string q8, .string q9, .bool q10, .bool q11] := by unfold adrVal; rw [hq]
  have hb5 : Below w4.heap.size w4 (w4.alloc (.cells #[.string q0, .string q1, .string q2, .string q3, .bool q4, .int .i64 q5, .bool q6, .slice qa qn qc, .string q8, .string q9, .bool q10, .bool q11] 34)) := (Below.refl _ w4).alloc (Nat.le_refl _) _
  have h6 := (HR3.out.kept hb4).kept hb5
  have HB5 := hid (below2 (below2 HB3.out hb4) hb5)
  have ry0 := h6.cell 0 _ rfl
  have rz0 := h6.frozen 0
  have ry1 := h6.cell 1 _ rfl
  have rz1 := h6.frozen 1
  have ry2 := h6.cell 2 _ rfl
  have rz2 := h6.frozen 2
  have ry3 := h6.cell 3 _ rfl
  have rz3 := h6.frozen 3
  have ry4 := h6.cell 4 _ rfl
  have rz4 := h6.frozen 4
  have ry5 := h6.cell 5 _ rfl
  have rz5 := h6.frozen 5
  have ry6 := h6.cell 6 _ rfl
  have rz6 := h6.frozen 6
  have ry7 := h6.cell 7 _ rfl
  have rz7 := h6.frozen 7
  have ry8 := h6.cell 8 _ rfl
  have rz8 := h6.frozen 8
  have ry9 := h6.cell 9 _ rfl
  have rz9 := h6.frozen 9
  have ry10 := h6.cell 10 _ rfl
  have rz10 := h6.frozen 10
  have ry11 := h6.cell 11 _ rfl
  have rz11 := h6.frozen 11
  have H6 := hid h6
  have HO6 := hid (ownsRow_same hown fun g hg => hb5.block g (hown.lt g hg).2)
  have HQ := hid hq
  have HQA := hid hqa
  clear h6 hq hb4 hb5 hown
  rw [hqa]
  clear hqa
  go_wp2_with fail
  have hrg := range_row (H6.out.store (v := adrOf r) (qv := .slice qa qn qc))
  have hbl := below_setCells (B := w.heap.size) (b := w.heap.size + 1) (Nat.le_succ _) (adrCells (adrOf r) (.slice qa qn qc)) 0 _ HB5.out
  have how := own_path (own_cells HO6.out H6.out (adrCells (adrOf r) (.slice qa qn qc)) 0)
  rw [HV.out]
  refine bodyPost_ret (results_u1 rfl _ _ (w.heap.size + 1) (adrOf r) (.slice qa qn qc) rfl ?_) rfl ⟨.slice qa qn qc, ?_, ⟨_, _, _, rfl⟩, ?_, ?_⟩
  ·rw [HQ.out] at hrg ⊢; exact hrg
  ·rfl
  ·rw [HQ.out] at hbl; exact hbl
  ·rw [HQ.out] at how; exact how
 ·have HV := hid (show innV u = Adr.zero by unfold innV; rw [if_neg hc])
  have HR := hid HR2.out
  have ry0 := HR2.out.cell 0 _ rfl
  have rz0 := HR2.out.frozen 0
  have ry1 := HR2.out.cell 1 _ rfl
  have rz1 := HR2.out.frozen 1
  have ry2 := HR2.out.cell 2 _ rfl
  have rz2 := HR2.out.frozen 2
  have ry3 := HR2.out.cell 3 _ rfl
  have rz3 := HR2.out.frozen 3
  have ry4 := HR2.out.cell 4 _ rfl
  have rz4 := HR2.out.frozen 4
  have ry5 := HR2.out.cell 5 _ rfl
  have rz5 := HR2.out.frozen 5
  have ry6 := HR2.out.cell 6 _ rfl
  have rz6 := HR2.out.frozen 6
  have ry7 := HR2.out.cell 7 _ rfl
  have rz7 := HR2.out.frozen 7
  have ry8 := HR2.out.cell 8 _ rfl
  have rz8 := HR2.out.frozen 8
  have ry9 := HR2.out.cell 9 _ rfl
  have rz9 := HR2.out.frozen 9
  have ry10 := HR2.out.cell 10 _ rfl
  have rz10 := HR2.out.frozen 10
  have ry11 := HR2.out.cell 11 _ rfl
  have rz11 := HR2.out.frozen 11
  have hcs : (u0.toList == [98, 108, 111, 98]) = false ∨ ((u0.toList == [98, 108, 111, 98]) = true ∧ u6 = false) := by
   by_cases h : u0.data.toList = [98, 108, 111, 98]
   ·right
    refine ⟨beq_yes u0 _ h, ?_⟩
    rw [hx6]
    cases ho : u.opq with
    | false => rfl
    | true => exact absurd ⟨by rw [← hx0]; exact h, ho⟩ hc
   ·left; exact beq_no u0 _ h
  clear hc hx0 hx3 hx5 hx6 hl hf hp
  rcases hcs with e0 | ⟨e0, rfl⟩
  all_goals
   go_enter Tryz.func120, Tryz.ntmps120
   go_wp2_with fail
   have hrg := range_row (HR.out.store (v := Adr.zero) (qv := .slice none 0 0))
   have hbl := below_setCells (B := w.heap.size) (b := w.heap.size + 1) (Nat.le_succ _) (adrCells Adr.zero (.slice none 0 0)) 0 _ HB2.out
   rw [HV.out]
   refine bodyPost_ret (results_u1 rfl _ _ (w.heap.size + 1) Adr.zero (.slice none 0 0) rfl ?_) rfl ⟨.slice none 0 0, ?_, ⟨_, _, _, rfl⟩, ?_, ?_⟩
   ·exact hrg
   ·rfl
   ·exact hbl
   ·exact .inl ⟨rfl, rfl⟩

theorem inner_any (u : Adr) (pv : Value) (w : World) (hg : Gd w) (hp : PathAt w pv u.path) (hl : u.path.length ≤ 1000000) (hf : u.path.flatten.length ≤ 100000) :
  Calls Tryz.prog 120 #[adrVal u pv] w (InPost (innV u) w) := by
 refine (inner_own u pv w hg hp hl hf).mono ?_
 rintro e w' ⟨qv, he, hsl, hb, -⟩
 exact ⟨qv, he, hsl, hb⟩

end Go.Proofs.YtgoefeaopegdoaaGreatDoor
