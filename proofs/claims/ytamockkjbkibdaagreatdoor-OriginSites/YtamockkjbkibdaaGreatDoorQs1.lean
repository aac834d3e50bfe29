/-
  Walks and plain facts that this claim leans on, put together out of 7 texts: Xc, Xe, Xg, Yk, Ym, Yn, Era.
-/
import Derived.Test.YtamockkjbkibdaaGreatDoorProg
import Derived.Test.YtamockkjbkibdaaGreatDoorQa1
import Derived.Test.YtamockkjbkibdaaGreatDoorQa2
import Derived.Test.YtamockkjbkibdaaGreatDoorQa3
import Derived.Test.YtamockkjbkibdaaGreatDoorQa4
import Derived.Test.YtamockkjbkibdaaGreatDoorQa5
import Derived.Test.YtamockkjbkibdaaGreatDoorQa6
import Derived.Test.YtamockkjbkibdaaGreatDoorQa7
import Derived.Test.YtamockkjbkibdaaGreatDoorQa8
import Derived.Test.YtamockkjbkibdaaGreatDoorQa9
import Derived.Test.YtamockkjbkibdaaGreatDoorQa10
import Derived.Test.YtamockkjbkibdaaGreatDoorQa11
import Derived.Test.YtamockkjbkibdaaGreatDoorQa12
import Derived.Test.YtamockkjbkibdaaGreatDoorQa13
import Derived.Test.YtamockkjbkibdaaGreatDoorQa14
import Derived.Test.YtamockkjbkibdaaGreatDoorQa15
import Derived.Test.YtamockkjbkibdaaGreatDoorQa16
import Derived.Test.YtamockkjbkibdaaGreatDoorQa17
import Derived.Test.YtamockkjbkibdaaGreatDoorQa18
import Derived.Test.YtamockkjbkibdaaGreatDoorQa19
import Derived.Test.YtamockkjbkibdaaGreatDoorQa20
import Derived.Test.YtamockkjbkibdaaGreatDoorQa21
import Derived.Test.YtamockkjbkibdaaGreatDoorQa22
import Derived.Test.YtamockkjbkibdaaGreatDoorQa23
import Derived.Test.YtamockkjbkibdaaGreatDoorQa24
import Derived.Test.YtamockkjbkibdaaGreatDoorQa25
import Derived.Test.YtamockkjbkibdaaGreatDoorQa26
import Derived.Test.YtamockkjbkibdaaGreatDoorQa27
import Derived.Test.YtamockkjbkibdaaGreatDoorQa28
import Derived.Test.YtamockkjbkibdaaGreatDoorQa29
import Derived.Test.YtamockkjbkibdaaGreatDoorQa30
import Derived.Test.YtamockkjbkibdaaGreatDoorQa31
import Derived.Test.YtamockkjbkibdaaGreatDoorQa32
import Derived.Test.YtamockkjbkibdaaGreatDoorQo1
import Derived.Test.YtamockkjbkibdaaGreatDoorQo2
import Derived.Test.YtamockkjbkibdaaGreatDoorQo3
import Derived.WalkKit
import Derived.Lib.Strings
import Derived.Lib.UnsafeStr
import Derived.Laws.IdiomStrings
import Derived.Laws.AppendOwn
import Derived.Lib.BufferMore
import Derived.Lib.SlTrimSet
import Derived.Lib.Join
import Derived.Lib.IndexMore
import Derived.Laws.OwnMore
import Derived.Below
import Derived.WalkSmall
import Derived.Lib.SmallJoins
import Derived.Laws.BitsAllLaws
import Derived.Lib.Bytealg
import Derived.WalkSpells
import Derived.WalkLawsBesides
import Derived.Deep.QuietTactic
import Derived.BigQuiet
import Derived.Deep.LoopGhost
import Derived.Lib.LastIndexByte
import Derived.Shelf.Strings.Builder1
import Derived.Shelf.Strings.Builder2
import Derived.Shelf.Strings.OnBuilder
import Derived.Shelf.Strings.Trim
import Derived.Shelf.Small.Utf8
import Derived.Shelf.Small.Strs
import Derived.Shelf.Small.Wraps
import Derived.Shelf.Strings.BuilderF
import Derived.Shelf.Strings.BuilderK
import Derived.Shelf.Strings.BuilderRune
import Derived.Shelf.Utf8.AppendRune
import Derived.Shelf.Utf8.AppendRunePlain
import Derived.Shelf.Strings.Builder2Cap
import Derived.Shelf.Strconv.Itoa0
import Derived.Shelf.Strconv.Itoa1
import Derived.Shelf.LaysM
import Derived.Shelf.Strconv.Itoa2
import Derived.Shelf.Strconv.Itoa3
import Derived.Shelf.Strings.Search1
import Derived.Shelf.Strings.Search2
import Derived.Shelf.Strings.Search3
import Derived.Shelf.Strings.Cut
import Derived.Shelf.Strings.Count
import Derived.Shelf.Strings.Shaped
import Derived.Shelf.Strings.LastIndex
import Derived.Shelf.Strings.Prefix
import Derived.Shelf.Strings.Split
import Derived.Shelf.Strings.Replace
import Derived.Shelf.Strings.Runes
import Derived.Shelf.Strings.IndexAny
import Derived.Shelf.Strings.AsciiSet
import Derived.Shelf.Strings.IndexAnyAll
import Derived.Shelf.Unicode.DecodeSlow
import Derived.Ground.Names2Prog
import Derived.Shelf.Slices.Clone
import Derived.Ground.SlgnProg
import Derived.Shelf.SlicesE.Clone
import Derived.Lib.IndexAny
import Derived.Lib.Replace
import Derived.Lib.TrimByte
import Derived.Lib.ItoaNum
import Derived.Lib.AppendIntMem
import Derived.WalkMore
import Derived.OwnWalk
import Derived.Laws.CopyOwn
import Derived.Laws.ResultCell
import Derived.Deep.MidRow
import Derived.Deep.RegionWith
import Derived.Lib.FrozenHead2
import Derived.Lib.OthersKept
import Derived.Lib.Builder
import Derived.LoopN
import Derived.RegionTactic
import Derived.Scope
import Derived.ScopeJumps
import Derived.Laws.RangeAny
import Derived.Lib.DecodeN
import Derived.Laws.BytesString
import Derived.Deep.WholeRow
import Derived.BigRegion
import Derived.Deep.RegionLaw
set_option linter.unusedSimpArgs false
set_option linter.unusedVariables false

namespace Go.Proofs.YtamockkjbkibdaaGreatDoor
open Go.RowKit

theorem xba {a b : ByteArray} (h : a.data.toList = b.data.toList) : a = b := by
 cases a; cases b; simp at h; simp [h]

end Go.Proofs.YtamockkjbkibdaaGreatDoor

namespace Go.Proofs.YtamockkjbkibdaaGreatDoor
open Go.RowKit

theorem xext {a : ByteArray} {l : List UInt8} (h : a.data.toList = l) : a = ⟨l.toArray⟩ := xba h

end Go.Proofs.YtamockkjbkibdaaGreatDoor

namespace Go.Proofs.YtamockkjbkibdaaGreatDoor
open Go.RowKit

theorem word_app (s : ByteArray) (k : Nat) (h : k < s.size) (T : List UInt8) : (⟨T.toArray⟩ : ByteArray) ++ s.extract k (k + 1) = ⟨(T ++ [s[k]]).toArray⟩ := by
 refine xext ?_
 rw [ByteArray.data_append, Array.toList_append, Lib.extract_data, show k + 1 - k = 1 by omega, drop_cons s k h]
 rfl

end Go.Proofs.YtamockkjbkibdaaGreatDoor

namespace Go.Proofs.YtamockkjbkibdaaGreatDoor
def auC (c : UInt8) : Bool := decide (33 ≤ c.toNat) && (c != 35 && (c != 47 && (c != 63 && (c != 64 && (c != 92 && c != 91)))))

theorem auC_facts {c : UInt8} (h : auC c = true) : 33 ≤ c.toNat ∧ c ≠ 35 ∧ c ≠ 47 ∧ c ≠ 63 ∧ c ≠ 64 ∧ c ≠ 92 ∧ c ≠ 91 := by
 unfold auC at h
 simpa [Bool.and_eq_true] using h

theorem paC_facts {c : UInt8} (h : paC c = true) : 33 ≤ c.toNat ∧ c ≠ 35 ∧ c ≠ 63 ∧ c ≠ 92 := by
 unfold paC at h
 simpa [Bool.and_eq_true] using h

def wAdr (sc h : List UInt8) (port : Int) (path : List (List UInt8)) : Adr := ⟨sc, [], [], h, true, port, false, path, [], [], false, false⟩

theorem web_auth (sc h pt H : List UInt8) (port : Int) (hsc : specV sc = true) (hau : ∀ c ∈ h ++ pt, auC c = true) (h0 : H ≠ []) (h58 : 58 ∉ h)
  (hpt : (pt = [] ∧ port = -1) ∨ ∃ t, pt = 58 :: t ∧ 58 ∉ t ∧ portV (ownV sc) t = some port) (hpv : parseV h true = some H) :
  authV sc (h ++ pt) = .ok ([], [], H, port) := by
 have hat : atV (h ++ pt) = ([], h ++ pt) := at_none _ fun e => (auC_facts (hau 64 e)).2.2.2.2.1 rfl
 have hh : ∀ c ∈ h, c ≠ 58 ∧ c ≠ 91 := fun c hc => ⟨fun e => h58 (e ▸ hc), (auC_facts (hau c (by simp [hc]))).2.2.2.2.2.2⟩
 have hcol : colV (h ++ pt) = h.length ∧ portV (ownV sc) (((h ++ pt).drop h.length).drop 1) = some port := by
  rcases hpt with ⟨rfl, rfl⟩ | ⟨t, rfl, ht, hp⟩
  ·rw [List.append_nil, colV, colN_plain h _ _ hh]
   simp [portV]
  ·have h2 : ∀ c ∈ t, c ≠ 58 ∧ c ≠ 91 := fun c hc => ⟨fun e => ht (e ▸ hc), (auC_facts (hau c (by simp [hc]))).2.2.2.2.2.2⟩
   rw [colV, colN_at11 h t 0 _ hh h2]
   simp [hp]
 unfold authV
 rw [hat]
 simp only
 rw [hcol.1, hcol.2]
 simp only
 rw [List.take_left, hsc, hpv]
 simp only
 rw [if_neg (fun e => h0 e.1)]
 rfl

theorem web_read (sc h pt p H : List UInt8) (port : Int) (hsc : sc = sHttp ∨ sc = sHttps) (hau : ∀ c ∈ h ++ pt, auC c = true) (hpa : ∀ c ∈ p, paC c = true) (hh0 : h ≠ []) (h0 : H ≠ []) (h58 : 58 ∉ h)
  (hpt : (pt = [] ∧ port = -1) ∨ ∃ t, pt = 58 :: t ∧ 58 ∉ t ∧ portV (ownV sc) t = some port) (hp : p = [] ∨ ∃ p', p = 47 :: p') (hpv : parseV h true = some H)
  (hl : h.length + pt.length + p.length ≤ 280) :
  readV (sc ++ 58 :: 47 :: 47 :: (h ++ (pt ++ p))) none = .ok (wAdr sc H port (pathV true [] p)) ∧ (sc ++ 58 :: 47 :: 47 :: (h ++ (pt ++ p))).length ≤ 300 := by
 have hspec : specV sc = true := by rcases hsc with rfl | rfl <;> decide
 have hs58 : 58 ∉ sc := by rcases hsc with rfl | rfl <;> decide
 have hs33 : ∀ c ∈ sc, paC c = true := by rcases hsc with rfl | rfl <;> decide
 have hslen : sc.length ≤ 5 := by rcases hsc with rfl | rfl <;> decide
 have hau2 : ∀ c, auC c = true → paC c = true := fun c hc => by
  have := auC_facts hc
  unfold paC
  simp [this.1, this.2.1, this.2.2.2.1, this.2.2.2.2.2.1]
 have hr : ∀ c ∈ h ++ (pt ++ p), paC c = true := fun c hc => by
  rcases List.mem_append.1 hc with hc | hc
  ·exact hau2 c (hau c (by simp [hc]))
  ·rcases List.mem_append.1 hc with hc | hc
   ·exact hau2 c (hau c (by simp [hc]))
   ·exact hpa c hc
 have hr2 : ∀ c ∈ 47 :: 47 :: (h ++ (pt ++ p)), paC c = true := fun c hc => by
  rcases List.mem_cons.1 hc with rfl | hc
  ·decide
  ·rcases List.mem_cons.1 hc with rfl | hc
   ·decide
   ·exact hr c hc
 have hall : ∀ c ∈ sc ++ 58 :: 47 :: 47 :: (h ++ (pt ++ p)), paC c = true := fun c hc => by
  rcases List.mem_append.1 hc with hc | hc
  ·exact hs33 c hc
  ·rcases List.mem_cons.1 hc with rfl | hc
   ·decide
   ·exact hr2 c hc
 have hlen : (sc ++ 58 :: 47 :: 47 :: (h ++ (pt ++ p))).length ≤ 300 := by simp; omega
 refine ⟨?_, hlen⟩
 have hcl := w_clean_id _ (fun c hc => (paC_facts (hall c hc)).1)
 have hp35 : part 35 (sc ++ 58 :: 47 :: 47 :: (h ++ (pt ++ p))) = (sc ++ 58 :: 47 :: 47 :: (h ++ (pt ++ p)), [], false) := part_none 35 _ (fun hm => (paC_facts (hall 35 hm)).2.1 rfl)
 have hp58 : part 58 (sc ++ 58 :: 47 :: 47 :: (h ++ (pt ++ p))) = (sc, 47 :: 47 :: (h ++ (pt ++ p)), true) := part_some 58 sc _ hs58
 have hsch : schemeV (sc ++ 58 :: 47 :: 47 :: (h ++ (pt ++ p))) = some (sc, 47 :: 47 :: (h ++ (pt ++ p))) := by
  unfold schemeV
  rw [hp58]
  simp only
  have e1 : schOk sc = true := by rcases hsc with rfl | rfl <;> decide
  have e2 : low sc = sc := by rcases hsc with rfl | rfl <;> decide
  rw [e1, e2]; rfl
 have hbe : beginU (sc ++ 58 :: 47 :: 47 :: (h ++ (pt ++ p))) = (⟨sc, [], [], [], false, -1, false, [], [], [], false, false⟩, 47 :: 47 :: (h ++ (pt ++ p))) := by
  unfold beginU
  simp only [hcl, hp35, hsch, Option.getD_some]
  rfl
 have hsl : slashV (47 :: 47 :: (h ++ (pt ++ p))) = 47 :: 47 :: (h ++ (pt ++ p)) := by
  unfold slashV
  rw [ahead_all [63] _ (fun c hc => by simp; exact (paC_facts (hr2 c hc)).2.2.1)]
  simp only
  rw [slC_none _ (fun e => (paC_facts (hr2 92 e)).2.2.2 rfl), List.append_nil]
 have hsk : skip47 (47 :: 47 :: (h ++ (pt ++ p))) = h ++ (pt ++ p) := by
  unfold skip47
  rw [List.dropWhile_cons, if_pos (by decide), List.dropWhile_cons, if_pos (by decide)]
  cases h with
  | nil => exact absurd rfl hh0
  | cons c h =>
   rw [List.cons_append, List.dropWhile_cons, if_neg]
   have := (auC_facts (hau c (by simp))).2.2.1
   simpa using this
 have hah : aheadV [47, 63] (h ++ (pt ++ p)) = (h ++ pt, p) := by
  have hno : ∀ c ∈ h ++ pt, c ∉ ([47, 63] : List UInt8) := fun c hc => by
   have := auC_facts (hau c hc)
   simp [this.2.2.1, this.2.2.2.1]
  rw [← List.append_assoc]
  rcases hp with rfl | ⟨p', rfl⟩
  ·rw [List.append_nil]; exact ahead_all _ _ hno
  ·exact ahead_at _ _ _ _ hno (by simp)
 have hq : aheadV [63] p = (p, []) := ahead_all [63] p (fun c hc => by simp; exact (paC_facts (hpa c hc)).2.2.1)
 unfold readV
 rw [if_neg (by omega), hbe]
 simp only
 have hne : sc ≠ [] := by rcases hsc with rfl | rfl <;> decide
 rw [if_neg hne]
 unfold startV
 simp only
 rw [hspec, if_pos rfl, hsl, hsk]
 unfold withAuth
 simp only
 rw [hah]
 simp only
 rw [web_auth sc h pt H port hspec hau h0 h58 hpt hpv]
 simp only
 unfold withPath withQuery
 simp only
 rw [hq, hspec]
 rfl

theorem hnC_facts (c : UInt8) (h : hnC c = true) : auC c = true ∧ c ≠ 58 ∧ c ≠ 37 ∧ c ≠ 91 ∧ c ≠ 45 ∧ nameB (lowC c) = true ∧ lowC c ≠ 45 := by
 have key : ∀ n < 256, hnC (UInt8.ofNat n) = true → auC (UInt8.ofNat n) = true ∧ UInt8.ofNat n ≠ 58 ∧ UInt8.ofNat n ≠ 37 ∧ UInt8.ofNat n ≠ 91 ∧ UInt8.ofNat n ≠ 45 ∧ nameB (lowC (UInt8.ofNat n)) = true ∧ lowC (UInt8.ofNat n) ≠ 45 := by decide +kernel
 have e : UInt8.ofNat c.toNat = c := by simp
 have := key c.toNat c.toNat_lt
 rw [e] at this
 exact this h

theorem parse_name (h : List UInt8) (h0 : h ≠ []) (hc : ∀ c ∈ h, hnC c = true) (hn : numberedV (low h) = false) : parseV h true = some (low h) := by
 have h37 : 37 ∉ h := fun e => (hnC_facts 37 (hc 37 e)).2.2.1 rfl
 have hb : Lib.hasPrefix h [91] = false := by
  cases h with
  | nil => exact absurd rfl h0
  | cons c r =>
   have := (hnC_facts c (hc c (by simp))).2.2.2.1
   simp [Lib.hasPrefix, List.isPrefixOf]
   exact fun e => this e.symm
 unfold parseV
 rw [hb, if_neg (by decide), if_pos rfl, unpct_plain h h37]
 unfold nameV
 have h1 : low h ≠ [] := by cases h with
  | nil => exact absurd rfl h0
  | cons c r => simp [low]
 have h2 : allN (low h) = true := by
  unfold allN low
  rw [List.all_map, List.all_eq_true]
  exact fun c hcc => (hnC_facts c (hc c hcc)).2.2.2.2.2.1
 have h3 : coded (low h) = false := coded_minus _ fun e => by
  obtain ⟨c, hcc, e⟩ := List.mem_map.1 e
  exact (hnC_facts c (hc c hcc)).2.2.2.2.2.2 e
 rw [if_neg (by simp [h1, h2, h3]), hn]
 rfl

theorem numbered_no (a b : List UInt8) (hb : 46 ∉ b) (h1 : b ≠ []) (hm : marked b = false) (hv : valV 10 b = none) : numberedV (a ++ 46 :: b) = false := by
 have hnd : noDot (a ++ 46 :: b) = a ++ 46 :: b := by
  unfold noDot Lib.trimSuffix
  rw [if_neg]
  intro e
  unfold Lib.hasSuffix at e
  rw [List.isSuffixOf_iff_suffix] at e
  obtain ⟨t, ht⟩ := e
  have hl : (a ++ 46 :: b).getLast? = some 46 := by rw [← ht]; simp
  cases hb2 : b.getLast? with
  | none => exact h1 (by simpa using hb2)
  | some x =>
   have : (a ++ 46 :: b).getLast? = some x := by
    rw [List.getLast?_append, List.getLast?_cons]
    simp [hb2]
   rw [this] at hl
   have hx := List.mem_of_getLast? hb2
   injection hl with hl
   exact hb (hl ▸ hx)
 have hll : lastLab (a ++ 46 :: b) = b := by
  rw [lastLab_app]
  unfold lastLab
  rw [w_take_yes _ b.reverse (fun c hc => by
   have : c ∈ b := by simpa using hc
   simp
   exact fun e => hb (e ▸ this)), List.reverse_reverse]
 unfold numberedV
 rw [hnd, hll, hm, hv]
 simp

end Go.Proofs.YtamockkjbkibdaaGreatDoor

namespace Go.Proofs.YtamockkjbkibdaaGreatDoor
theorem WrQ.ne {T : List UInt8} (h : WrQ T) : T ≠ [] := by
 obtain ⟨r, rfl, hr⟩ := h
 simp

theorem WrQ.start : WrQ [113] := ⟨[], rfl, fun c hc => by simp at hc⟩

theorem WrQ.snoc {T : List UInt8} {c : UInt8} (h : WrQ T) (h1 : 97 ≤ c.toNat) (h2 : c.toNat ≤ 122) : WrQ (T ++ [c]) := by
 obtain ⟨r, rfl, hr⟩ := h
 refine ⟨r ++ [c], rfl, fun d hd => ?_⟩
 rcases List.mem_append.1 hd with hd | hd
 ·exact hr d hd
 ·obtain rfl := List.mem_singleton.1 hd
  exact ⟨h1, h2⟩

end Go.Proofs.YtamockkjbkibdaaGreatDoor

namespace Go.Proofs.YtamockkjbkibdaaGreatDoor
theorem WrQ.lets {T : List UInt8} (h : WrQ T) : Lets T := ⟨h.ne, h.mem⟩

end Go.Proofs.YtamockkjbkibdaaGreatDoor

namespace Go.Proofs.YtamockkjbkibdaaGreatDoor
theorem paC_pb {c : UInt8} (h : paC c = true) : pbC c = true := by
 have := paC_facts h
 unfold pbC
 simp [this.1, this.2.1, this.2.2.1]

theorem lets_pb {T : List UInt8} (h : Lets T) : ∀ c ∈ T, pbC c = true := fun c hc => paC_pb (small_facts c (h.2 c hc)).2.2.2.2.2.2.1

theorem OkP.lets {T : List UInt8} (h : Lets T) : OkP T := fun c hc => ⟨lets_pb h c hc, fun e => by subst e; exact absurd (h.2 _ hc) (by decide)⟩

end Go.Proofs.YtamockkjbkibdaaGreatDoor
