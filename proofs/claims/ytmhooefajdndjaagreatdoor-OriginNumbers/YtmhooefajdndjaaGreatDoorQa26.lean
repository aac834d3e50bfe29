/-
  Walks and plain facts that this claim leans on, put together out of 7 texts: Yk, Ym, Yn, Era, Erh, Eri, Ewa.
-/
import Derived.Test.YtmhooefajdndjaaGreatDoorProg
import Derived.Test.YtmhooefajdndjaaGreatDoorQa1
import Derived.Test.YtmhooefajdndjaaGreatDoorQa3
import Derived.Test.YtmhooefajdndjaaGreatDoorQa6
import Derived.Test.YtmhooefajdndjaaGreatDoorQa7
import Derived.Test.YtmhooefajdndjaaGreatDoorQa8
import Derived.Test.YtmhooefajdndjaaGreatDoorQa9
import Derived.Test.YtmhooefajdndjaaGreatDoorQa11
import Derived.Test.YtmhooefajdndjaaGreatDoorQa12
import Derived.Test.YtmhooefajdndjaaGreatDoorQa18
import Derived.Test.YtmhooefajdndjaaGreatDoorQa25
import Derived.Lib.IndexMore
import Derived.Lib.Join
import Derived.Lib.LastIndexByte
import Derived.WalkKit
import Derived.Lib.Strings
import Derived.Lib.UnsafeStr
import Derived.Laws.IdiomStrings
import Derived.Laws.AppendOwn
import Derived.Laws.BitsAllLaws
import Derived.Lib.Bytealg
import Derived.Lib.BufferMore
import Derived.Shelf.Strings.Builder1
import Derived.Shelf.Strings.Builder2
import Derived.Shelf.Strings.OnBuilder
import Derived.Shelf.Strings.Trim
import Derived.Shelf.Small.Utf8
import Derived.Shelf.Small.Strs
import Derived.Shelf.Small.Wraps
import Derived.Shelf.Strings.BuilderF
import Derived.Shelf.Strings.BuilderK
import Derived.Shelf.Strings.BuilderRune
import Derived.Shelf.Utf8.AppendRune
import Derived.Shelf.Utf8.AppendRunePlain
import Derived.Shelf.Strings.Builder2Cap
import Derived.Shelf.Strconv.Itoa0
import Derived.Shelf.Strconv.Itoa1
import Derived.Shelf.LaysM
import Derived.Shelf.Strconv.Itoa2
import Derived.Shelf.Strconv.Itoa3
import Derived.Shelf.Strings.Search1
import Derived.Shelf.Strings.Search2
import Derived.Shelf.Strings.Search3
import Derived.Shelf.Strings.Cut
import Derived.Shelf.Strings.Count
import Derived.Shelf.Strings.Shaped
import Derived.Shelf.Strings.LastIndex
import Derived.Shelf.Strings.Prefix
import Derived.Shelf.Strings.Split
import Derived.Shelf.Strings.Replace
import Derived.Shelf.Strings.Runes
import Derived.Shelf.Strings.IndexAny
import Derived.Shelf.Strings.AsciiSet
import Derived.Shelf.Strings.IndexAnyAll
import Derived.Shelf.Unicode.DecodeSlow
import Derived.Ground.Names2Prog
import Derived.Shelf.Slices.Clone
import Derived.Ground.SlgnProg
import Derived.Shelf.SlicesE.Clone
import Derived.Lib.IndexAny
import Derived.Lib.Replace
import Derived.Lib.TrimByte
import Derived.Lib.ItoaNum
import Derived.WalkSpells
import Derived.WalkLawsBesides
import Derived.Lib.AppendIntMem
import Derived.Lib.SmallJoins
import Derived.WalkSmall
import Derived.WalkMore
import Derived.Deep.LoopGhost
import Derived.OwnWalk
import Derived.Laws.CopyOwn
import Derived.Laws.ResultCell
import Derived.Deep.MidRow
import Derived.Deep.RegionWith
import Derived.Lib.FrozenHead2
import Derived.Lib.OthersKept
import Derived.Lib.Builder
import Derived.Lib.SlTrimSet
import Derived.LoopN
import Derived.RegionTactic
import Derived.Deep.QuietTactic
import Derived.BigQuiet
import Derived.Laws.OwnMore
import Derived.Scope
import Derived.ScopeJumps
import Derived.Laws.RangeAny
import Derived.Lib.DecodeN
import Derived.Laws.BytesString
import Derived.Deep.WholeRow
import Derived.BigRegion
import Derived.Deep.RegionLaw
import Derived.Lib.AppendStr
import Derived.Deep.RegionHeld
import Derived.Lib.BufferRead
import Derived.Lib.RuneBytes
import Derived.Laws.AppendOwnNone
import Derived.Deep.Cut
import Derived.Below
import Derived.Shelf.Strings.SlTrimAscii
import Derived.Laws.Runes
set_option linter.unusedSimpArgs false
set_option linter.unusedVariables false

namespace Go.Proofs.YtmhooefajdndjaaGreatDoor
theorem w_drop_no (p : UInt8 → Bool) (l : List UInt8) (h : ∀ c ∈ l, p c = false) : l.dropWhile p = l := by
 cases l with
 | nil => rfl
 | cons c l => rw [List.dropWhile_cons, h c (by simp)]; rfl

theorem w_clean_id (l : List UInt8) (h : ∀ c ∈ l, 33 ≤ c.toNat) : cleanV l = l := by
 have hw : ∀ c ∈ l, wsC c = false := fun c hc => by unfold wsC; rw [decide_eq_false]; have := h c hc; omega
 unfold cleanV trimV
 rw [w_drop_no wsC l hw, w_drop_no wsC l.reverse (fun c hc => hw c (by simpa using hc)), List.reverse_reverse, List.filter_eq_self]
 intro c hc
 have := h c hc
 unfold eyeC
 simp only [Bool.not_eq_true', Bool.or_eq_false_iff, beq_eq_false_iff_ne]
 refine ⟨?_, ?_, ?_⟩ <;> (intro e; subst e; revert this; decide)

theorem w_take_yes (p : UInt8 → Bool) (l : List UInt8) (h : ∀ c ∈ l, p c = true) : l.takeWhile p = l := by
 induction l with
 | nil => rfl
 | cons c l ih => rw [List.takeWhile_cons, h c (by simp), if_pos rfl, ih fun d hd => h d (by simp [hd])]

theorem w_drop_yes (p : UInt8 → Bool) (l : List UInt8) (h : ∀ c ∈ l, p c = true) : l.dropWhile p = [] := by
 induction l with
 | nil => rfl
 | cons c l ih => rw [List.dropWhile_cons, h c (by simp), if_pos rfl, ih fun d hd => h d (by simp [hd])]

theorem ahead_all (ends l : List UInt8) (h : ∀ c ∈ l, c ∉ ends) : aheadV ends l = (l, []) := by
 have key : ∀ c ∈ l, (!ends.contains c) = true := fun c hc => by simp [h c hc]
 unfold aheadV
 rw [w_take_yes _ l key, w_drop_yes _ l key]

theorem ahead_at (ends a : List UInt8) (c : UInt8) (r : List UInt8) (h : ∀ c ∈ a, c ∉ ends) (hc : c ∈ ends) : aheadV ends (a ++ c :: r) = (a, c :: r) := by
 have hk : (!ends.contains c) = false := by simp [hc]
 have key : ∀ x ∈ a, (!ends.contains x) = true := fun x hx => by simp [h x hx]
 unfold aheadV
 congr 1
 ·rw [takeWhile_stop _ c hk, w_take_yes _ a key]
 ·induction a with
  | nil => rw [List.nil_append, List.dropWhile_cons, hk]; rfl
  | cons x a ih => rw [List.cons_append, List.dropWhile_cons, key x (by simp), if_pos rfl]; exact ih (fun d hd => h d (by simp [hd])) (fun d hd => key d (by simp [hd]))

theorem colN_plain : ∀ (l : List UInt8) (i k : Nat), (∀ c ∈ l, c ≠ 58 ∧ c ≠ 91) → colN false i k l = k
 | [], i, k, h => rfl
 | c :: l, i, k, h => by
  rw [colN, if_neg (h c (by simp)).1, if_neg (h c (by simp)).2]
  exact colN_plain l (i + 1) k fun d hd => h d (by simp [hd])

theorem colN_at11 : ∀ (a t : List UInt8) (i k : Nat), (∀ c ∈ a, c ≠ 58 ∧ c ≠ 91) → (∀ c ∈ t, c ≠ 58 ∧ c ≠ 91) → colN false i k (a ++ 58 :: t) = i + a.length
 | [], t, i, k, _, h => by
  rw [List.nil_append, colN, if_pos rfl, colN_plain t _ _ h]; rfl
 | c :: a, t, i, k, h1, h2 => by
  rw [List.cons_append, colN, if_neg (h1 c (by simp)).1, if_neg (h1 c (by simp)).2, colN_at11 a t (i + 1) k (fun d hd => h1 d (by simp [hd])) h2]
  simp; omega

def auC (c : UInt8) : Bool := decide (33 ≤ c.toNat) && (c != 35 && (c != 47 && (c != 63 && (c != 64 && (c != 92 && c != 91)))))

def paC (c : UInt8) : Bool := decide (33 ≤ c.toNat) && (c != 35 && (c != 63 && c != 92))

theorem auC_facts {c : UInt8} (h : auC c = true) : 33 ≤ c.toNat ∧ c ≠ 35 ∧ c ≠ 47 ∧ c ≠ 63 ∧ c ≠ 64 ∧ c ≠ 92 ∧ c ≠ 91 := by
 unfold auC at h
 simpa [Bool.and_eq_true] using h

theorem paC_facts {c : UInt8} (h : paC c = true) : 33 ≤ c.toNat ∧ c ≠ 35 ∧ c ≠ 63 ∧ c ≠ 92 := by
 unfold paC at h
 simpa [Bool.and_eq_true] using h

def wAdr (sc h : List UInt8) (port : Int) (path : List (List UInt8)) : Adr := ⟨sc, [], [], h, true, port, false, path, [], [], false, false⟩

theorem web_auth (sc h pt H : List UInt8) (port : Int) (hsc : specV sc = true) (hau : ∀ c ∈ h ++ pt, auC c = true) (h0 : H ≠ []) (h58 : 58 ∉ h)
  (hpt : (pt = [] ∧ port = -1) ∨ ∃ t, pt = 58 :: t ∧ 58 ∉ t ∧ portV (ownV sc) t = some port) (hpv : parseV h true = some H) :
  authV sc (h ++ pt) = .ok ([], [], H, port) := by
 have hat : atV (h ++ pt) = ([], h ++ pt) := at_none _ fun e => (auC_facts (hau 64 e)).2.2.2.2.1 rfl
 have hh : ∀ c ∈ h, c ≠ 58 ∧ c ≠ 91 := fun c hc => ⟨fun e => h58 (e ▸ hc), (auC_facts (hau c (by simp [hc]))).2.2.2.2.2.2⟩
 have hcol : colV (h ++ pt) = h.length ∧ portV (ownV sc) (((h ++ pt).drop h.length).drop 1) = some port := by
  rcases hpt with ⟨rfl, rfl⟩ | ⟨t, rfl, ht, hp⟩
  ·rw [List.append_nil, colV, colN_plain h _ _ hh]
   simp [portV]
  ·have h2 : ∀ c ∈ t, c ≠ 58 ∧ c ≠ 91 := fun c hc => ⟨fun e => ht (e ▸ hc), (auC_facts (hau c (by simp [hc]))).2.2.2.2.2.2⟩
   rw [colV, colN_at11 h t 0 _ hh h2]
   simp [hp]
 unfold authV
 rw [hat]
 simp only
 rw [hcol.1, hcol.2]
 simp only
 rw [List.take_left, hsc, hpv]
 simp only
 rw [if_neg (fun e => h0 e.1)]
 rfl

theorem web_read (sc h pt p H : List UInt8) (port : Int) (hsc : sc = sHttp ∨ sc = sHttps) (hau : ∀ c ∈ h ++ pt, auC c = true) (hpa : ∀ c ∈ p, paC c = true) (hh0 : h ≠ []) (h0 : H ≠ []) (h58 : 58 ∉ h)
  (hpt : (pt = [] ∧ port = -1) ∨ ∃ t, pt = 58 :: t ∧ 58 ∉ t ∧ portV (ownV sc) t = some port) (hp : p = [] ∨ ∃ p', p = 47 :: p') (hpv : parseV h true = some H)
  (hl : h.length + pt.length + p.length ≤ 280) :
  readV (sc ++ 58 :: 47 :: 47 :: (h ++ (pt ++ p))) none = .ok (wAdr sc H port (pathV true [] p)) ∧ (sc ++ 58 :: 47 :: 47 :: (h ++ (pt ++ p))).length ≤ 300 := by
 have hspec : specV sc = true := by rcases hsc with rfl | rfl <;> decide
 have hs58 : 58 ∉ sc := by rcases hsc with rfl | rfl <;> decide
 have hs33 : ∀ c ∈ sc, paC c = true := by rcases hsc with rfl | rfl <;> decide
 have hslen : sc.length ≤ 5 := by rcases hsc with rfl | rfl <;> decide
 have hau2 : ∀ c, auC c = true → paC c = true := fun c hc => by
  have := auC_facts hc
  unfold paC
  simp [this.1, this.2.1, this.2.2.2.1, this.2.2.2.2.2.1]
 have hr : ∀ c ∈ h ++ (pt ++ p), paC c = true := fun c hc => by
  rcases List.mem_append.1 hc with hc | hc
  ·exact hau2 c (hau c (by simp [hc]))
  ·rcases List.mem_append.1 hc with hc | hc
   ·exact hau2 c (hau c (by simp [hc]))
   ·exact hpa c hc
 have hr2 : ∀ c ∈ 47 :: 47 :: (h ++ (pt ++ p)), paC c = true := fun c hc => by
  rcases List.mem_cons.1 hc with rfl | hc
  ·decide
  ·rcases List.mem_cons.1 hc with rfl | hc
   ·decide
   ·exact hr c hc
 have hall : ∀ c ∈ sc ++ 58 :: 47 :: 47 :: (h ++ (pt ++ p)), paC c = true := fun c hc => by
  rcases List.mem_append.1 hc with hc | hc
  ·exact hs33 c hc
  ·rcases List.mem_cons.1 hc with rfl | hc
   ·decide
   ·exact hr2 c hc
 have hlen : (sc ++ 58 :: 47 :: 47 :: (h ++ (pt ++ p))).length ≤ 300 := by simp; omega
 refine ⟨?_, hlen⟩
 have hcl := w_clean_id _ (fun c hc => (paC_facts (hall c hc)).1)
 have hp35 : part 35 (sc ++ 58 :: 47 :: 47 :: (h ++ (pt ++ p))) = (sc ++ 58 :: 47 :: 47 :: (h ++ (pt ++ p)), [], false) := part_none 35 _ (fun hm => (paC_facts (hall 35 hm)).2.1 rfl)
 have hp58 : part 58 (sc ++ 58 :: 47 :: 47 :: (h ++ (pt ++ p))) = (sc, 47 :: 47 :: (h ++ (pt ++ p)), true) := part_some 58 sc _ hs58
 have hsch : schemeV (sc ++ 58 :: 47 :: 47 :: (h ++ (pt ++ p))) = some (sc, 47 :: 47 :: (h ++ (pt ++ p))) := by
  unfold schemeV
  rw [hp58]
  simp only
  have e1 : schOk sc = true := by rcases hsc with rfl | rfl <;> decide
  have e2 : low sc = sc := by rcases hsc with rfl | rfl <;> decide
  rw [e1, e2]; rfl
 have hbe : beginU (sc ++ 58 :: 47 :: 47 :: (h ++ (pt ++ p))) = (⟨sc, [], [], [], false, -1, false, [], [], [], false, false⟩, 47 :: 47 :: (h ++ (pt ++ p))) := by
  unfold beginU
  simp only [hcl, hp35, hsch, Option.getD_some]
  rfl
 have hsl : slashV (47 :: 47 :: (h ++ (pt ++ p))) = 47 :: 47 :: (h ++ (pt ++ p)) := by
  unfold slashV
  rw [ahead_all [63] _ (fun c hc => by simp; exact (paC_facts (hr2 c hc)).2.2.1)]
  simp only
  rw [slC_none _ (fun e => (paC_facts (hr2 92 e)).2.2.2 rfl), List.append_nil]
 have hsk : skip47 (47 :: 47 :: (h ++ (pt ++ p))) = h ++ (pt ++ p) := by
  unfold skip47
  rw [List.dropWhile_cons, if_pos (by decide), List.dropWhile_cons, if_pos (by decide)]
  cases h with
  | nil => exact absurd rfl hh0
  | cons c h =>
   rw [List.cons_append, List.dropWhile_cons, if_neg]
   have := (auC_facts (hau c (by simp))).2.2.1
   simpa using this
 have hah : aheadV [47, 63] (h ++ (pt ++ p)) = (h ++ pt, p) := by
  have hno : ∀ c ∈ h ++ pt, c ∉ ([47, 63] : List UInt8) := fun c hc => by
   have := auC_facts (hau c hc)
   simp [this.2.2.1, this.2.2.2.1]
  rw [← List.append_assoc]
  rcases hp with rfl | ⟨p', rfl⟩
  ·rw [List.append_nil]; exact ahead_all _ _ hno
  ·exact ahead_at _ _ _ _ hno (by simp)
 have hq : aheadV [63] p = (p, []) := ahead_all [63] p (fun c hc => by simp; exact (paC_facts (hpa c hc)).2.2.1)
 unfold readV
 rw [if_neg (by omega), hbe]
 simp only
 have hne : sc ≠ [] := by rcases hsc with rfl | rfl <;> decide
 rw [if_neg hne]
 unfold startV
 simp only
 rw [hspec, if_pos rfl, hsl, hsk]
 unfold withAuth
 simp only
 rw [hah]
 simp only
 rw [web_auth sc h pt H port hspec hau h0 h58 hpt hpv]
 simp only
 unfold withPath withQuery
 simp only
 rw [hq, hspec]
 rfl

def hnC (c : UInt8) : Bool := (decide (97 ≤ c.toNat) && decide (c.toNat ≤ 122)) || ((decide (65 ≤ c.toNat) && decide (c.toNat ≤ 90)) || ((decide (48 ≤ c.toNat) && decide (c.toNat ≤ 57)) || c == 46))

theorem hnC_facts (c : UInt8) (h : hnC c = true) : auC c = true ∧ c ≠ 58 ∧ c ≠ 37 ∧ c ≠ 91 ∧ c ≠ 45 ∧ nameB (lowC c) = true ∧ lowC c ≠ 45 := by
 have key : ∀ n < 256, hnC (UInt8.ofNat n) = true → auC (UInt8.ofNat n) = true ∧ UInt8.ofNat n ≠ 58 ∧ UInt8.ofNat n ≠ 37 ∧ UInt8.ofNat n ≠ 91 ∧ UInt8.ofNat n ≠ 45 ∧ nameB (lowC (UInt8.ofNat n)) = true ∧ lowC (UInt8.ofNat n) ≠ 45 := by decide +kernel
 have e : UInt8.ofNat c.toNat = c := by simp
 have := key c.toNat c.toNat_lt
 rw [e] at this
 exact this h

theorem parse_name (h : List UInt8) (h0 : h ≠ []) (hc : ∀ c ∈ h, hnC c = true) (hn : numberedV (low h) = false) : parseV h true = some (low h) := by
 have h37 : 37 ∉ h := fun e => (hnC_facts 37 (hc 37 e)).2.2.1 rfl
 have hb : Lib.hasPrefix h [91] = false := by
  cases h with
  | nil => exact absurd rfl h0
  | cons c r =>
   have := (hnC_facts c (hc c (by simp))).2.2.2.1
   simp [Lib.hasPrefix, List.isPrefixOf]
   exact fun e => this e.symm
 unfold parseV
 rw [hb, if_neg (by decide), if_pos rfl, unpct_plain h h37]
 unfold nameV
 have h1 : low h ≠ [] := by cases h with
  | nil => exact absurd rfl h0
  | cons c r => simp [low]
 have h2 : allN (low h) = true := by
  unfold allN low
  rw [List.all_map, List.all_eq_true]
  exact fun c hcc => (hnC_facts c (hc c hcc)).2.2.2.2.2.1
 have h3 : coded (low h) = false := coded_minus _ fun e => by
  obtain ⟨c, hcc, e⟩ := List.mem_map.1 e
  exact (hnC_facts c (hc c hcc)).2.2.2.2.2.2 e
 rw [if_neg (by simp [h1, h2, h3]), hn]
 rfl

theorem numbered_no (a b : List UInt8) (hb : 46 ∉ b) (h1 : b ≠ []) (hm : marked b = false) (hv : valV 10 b = none) : numberedV (a ++ 46 :: b) = false := by
 have hnd : noDot (a ++ 46 :: b) = a ++ 46 :: b := by
  unfold noDot Lib.trimSuffix
  rw [if_neg]
  intro e
  unfold Lib.hasSuffix at e
  rw [List.isSuffixOf_iff_suffix] at e
  obtain ⟨t, ht⟩ := e
  have hl : (a ++ 46 :: b).getLast? = some 46 := by rw [← ht]; simp
  cases hb2 : b.getLast? with
  | none => exact h1 (by simpa using hb2)
  | some x =>
   have : (a ++ 46 :: b).getLast? = some x := by
    rw [List.getLast?_append, List.getLast?_cons]
    simp [hb2]
   rw [this] at hl
   have hx := List.mem_of_getLast? hb2
   injection hl with hl
   exact hb (hl ▸ hx)
 have hll : lastLab (a ++ 46 :: b) = b := by
  rw [lastLab_app]
  unfold lastLab
  rw [w_take_yes _ b.reverse (fun c hc => by
   have : c ∈ b := by simpa using hc
   simp
   exact fun e => hb (e ▸ this)), List.reverse_reverse]
 unfold numberedV
 rw [hnd, hll, hm, hv]
 simp

end Go.Proofs.YtmhooefajdndjaaGreatDoor

namespace Go.Proofs.YtmhooefajdndjaaGreatDoor
def WrQ (T : List UInt8) : Prop := ∃ r : List UInt8, T = 113 :: r ∧ ∀ c ∈ r, 97 ≤ c.toNat ∧ c.toNat ≤ 122

theorem WrQ.mem {T : List UInt8} (h : WrQ T) : ∀ c ∈ T, 97 ≤ c.toNat ∧ c.toNat ≤ 122 := fun c hc => by
 obtain ⟨r, rfl, hr⟩ := h
 rcases List.mem_cons.1 hc with rfl | hc
 ·decide
 ·exact hr c hc

theorem WrQ.ne {T : List UInt8} (h : WrQ T) : T ≠ [] := by
 obtain ⟨r, rfl, hr⟩ := h
 simp

theorem WrQ.start : WrQ [113] := ⟨[], rfl, fun c hc => by simp at hc⟩

theorem WrQ.snoc {T : List UInt8} {c : UInt8} (h : WrQ T) (h1 : 97 ≤ c.toNat) (h2 : c.toNat ≤ 122) : WrQ (T ++ [c]) := by
 obtain ⟨r, rfl, hr⟩ := h
 refine ⟨r ++ [c], rfl, fun d hd => ?_⟩
 rcases List.mem_append.1 hd with hd | hd
 ·exact hr d hd
 ·obtain rfl := List.mem_singleton.1 hd
  exact ⟨h1, h2⟩

theorem small_facts (c : UInt8) (h : 97 ≤ c.toNat ∧ c.toNat ≤ 122) : lowC c = c ∧ hnC c = true ∧ c ≠ 46 ∧ c ≠ 47 ∧ c ≠ 58 ∧ c ≠ 37 ∧ paC c = true ∧ inSetI c.toNat 5 = false ∧ c ≠ 42 ∧ c ≠ 39 := by
 have key : ∀ n < 256, (97 ≤ n ∧ n ≤ 122) → lowC (UInt8.ofNat n) = UInt8.ofNat n ∧ hnC (UInt8.ofNat n) = true ∧ UInt8.ofNat n ≠ 46 ∧ UInt8.ofNat n ≠ 47 ∧ UInt8.ofNat n ≠ 58 ∧ UInt8.ofNat n ≠ 37 ∧ paC (UInt8.ofNat n) = true ∧ inSetI n 5 = false ∧ UInt8.ofNat n ≠ 42 ∧ UInt8.ofNat n ≠ 39 := by decide +kernel
 have e : UInt8.ofNat c.toNat = c := by simp
 have := key c.toNat c.toNat_lt h
 rw [e] at this
 exact this

theorem WrQ.low {T : List UInt8} (h : WrQ T) : low T = T := low_plain _ fun c hc => (small_facts c (h.mem c hc)).1

def prt (n : Nat) : Int := if (n : Int) = 443 then -1 else n

end Go.Proofs.YtmhooefajdndjaaGreatDoor

namespace Go.Proofs.YtmhooefajdndjaaGreatDoor
def Lets (T : List UInt8) : Prop := T ≠ [] ∧ ∀ c ∈ T, 97 ≤ c.toNat ∧ c.toNat ≤ 122

theorem WrQ.lets {T : List UInt8} (h : WrQ T) : Lets T := ⟨h.ne, h.mem⟩

theorem Lets.no {T : List UInt8} (h : Lets T) : 47 ∉ T ∧ 58 ∉ T ∧ 37 ∉ T := ⟨fun e => (small_facts 47 (h.2 47 e)).2.2.2.1 rfl, fun e => (small_facts 58 (h.2 58 e)).2.2.2.2.1 rfl, fun e => (small_facts 37 (h.2 37 e)).2.2.2.2.2.1 rfl⟩

theorem Lets.unpct {T : List UInt8} (h : Lets T) : unpct T = T := unpct_plain T h.no.2.2

theorem Lets.pct {T : List UInt8} (h : Lets T) : pct 5 T = T := by
 have key : ∀ l : List UInt8, (∀ c ∈ l, 97 ≤ c.toNat ∧ c.toNat ≤ 122) → Go.Proofs.YtmhooefajdndjaaGreatDoor.pct 5 l = l := by
  intro l
  induction l with
  | nil => intro _; rfl
  | cons c l ih =>
   intro hl
   unfold Go.Proofs.YtmhooefajdndjaaGreatDoor.pct at ih ⊢
   rw [List.flatMap_cons, ih fun d hd => hl d (by simp [hd])]
   unfold pct1
   rw [(small_facts c (hl c (by simp))).2.2.2.2.2.2.2.1]
   rfl
 exact key T h.2

theorem Lets.dots {T : List UInt8} (h : Lets T) : dotsV T = 0 := by
 unfold dotsV
 rw [h.unpct]
 have h46 : 46 ∉ T := fun e => (small_facts 46 (h.2 46 e)).2.2.1 rfl
 rw [if_neg (fun e => h46 (by rw [e]; simp)), if_neg (fun e => h46 (by rw [e]; simp))]

end Go.Proofs.YtmhooefajdndjaaGreatDoor

namespace Go.Proofs.YtmhooefajdndjaaGreatDoor
def pbC (c : UInt8) : Bool := decide (33 ≤ c.toNat) && (c != 35 && c != 63)

theorem paC_pb {c : UInt8} (h : paC c = true) : pbC c = true := by
 have := paC_facts h
 unfold pbC
 simp [this.1, this.2.1, this.2.2.1]

theorem lets_pb {T : List UInt8} (h : Lets T) : ∀ c ∈ T, pbC c = true := fun c hc => paC_pb (small_facts c (h.2 c hc)).2.2.2.2.2.2.1

theorem d_1 : dotsV [46] = 1 ∧ dotsV [46, 46] = 2 ∧ dotsV [37, 50, 69, 37, 50, 101] = 2 ∧ dotsV [37, 50, 101] = 1 := by decide +kernel

def OkP (l : List UInt8) : Prop := ∀ c ∈ l, pbC c = true ∧ c ≠ 92

theorem OkP.app {a b : List UInt8} (ha : OkP a) (hb : OkP b) : OkP (a ++ b) := fun c hc => (List.mem_append.1 hc).elim (ha c) (hb c)

theorem OkP.lets {T : List UInt8} (h : Lets T) : OkP T := fun c hc => ⟨lets_pb h c hc, fun e => by subst e; exact absurd (h.2 _ hc) (by decide)⟩

theorem dots0 : dotsV [] = 0 ∧ pct 5 [] = [] := by decide +kernel

def htb (b : List UInt8) : List UInt8 := sHttp ++ 58 :: 47 :: 47 :: 104 :: 47 :: b

end Go.Proofs.YtmhooefajdndjaaGreatDoor

namespace Go.Proofs.YtmhooefajdndjaaGreatDoor
def seeC (c : UInt8) : Bool := decide (33 ≤ c.toNat) && decide (c.toNat ≤ 126)

def seeB (c : UInt8) : Bool := decide (32 ≤ c.toNat) && decide (c.toNat ≤ 126)

theorem seeC_B {c : UInt8} (h : seeC c = true) : seeB c = true := by
 unfold seeC at h
 unfold seeB
 rw [Bool.and_eq_true, decide_eq_true_iff, decide_eq_true_iff] at h ⊢
 omega

def hoC (c : UInt8) : Bool := seeC c && (c != 35 && (c != 47 && (c != 63 && (c != 64 && c != 92))))

theorem u8_all {P : UInt8 → Bool} (h : ∀ n < 256, P (UInt8.ofNat n) = true) (c : UInt8) : P c = true := by
 have := h c.toNat c.toNat_lt
 rwa [show UInt8.ofNat c.toNat = c by simp] at this

theorem pct1_see (c : UInt8) : ((pct1 2 c).all seeC && ((pct1 3 c).all seeC && ((pct1 4 c).all seeC && ((pct1 5 c).all seeC && ((pct1 6 c).all seeC && (pct1 1 c).all seeB))))) = true :=
 u8_all (P := fun c => ((pct1 2 c).all seeC && ((pct1 3 c).all seeC && ((pct1 4 c).all seeC && ((pct1 5 c).all seeC && ((pct1 6 c).all seeC && (pct1 1 c).all seeB)))))) (by decide +kernel) c

theorem pct_all (k : Int) (P : UInt8 → Bool) (h : ∀ c, (pct1 k c).all P = true) (l : List UInt8) : ∀ c ∈ pct k l, P c = true := fun c hc => by
 unfold pct at hc
 obtain ⟨d, -, hd⟩ := List.mem_flatMap.1 hc
 exact List.all_eq_true.1 (h d) c hd

theorem pct_see (k : Int) (hk : k = 2 ∨ k = 3 ∨ k = 4 ∨ k = 5 ∨ k = 6) (l : List UInt8) : ∀ c ∈ pct k l, seeC c = true := by
 apply pct_all
 intro c
 have := pct1_see c
 simp only [Bool.and_eq_true] at this
 rcases hk with rfl | rfl | rfl | rfl | rfl
 ·exact this.1
 ·exact this.2.1
 ·exact this.2.2.1
 ·exact this.2.2.2.1
 ·exact this.2.2.2.2.1

theorem pct_seeB (l : List UInt8) : ∀ c ∈ pct 1 l, seeB c = true := by
 apply pct_all
 intro c
 have := pct1_see c
 simp only [Bool.and_eq_true] at this
 exact this.2.2.2.2.2



theorem hoC_see {c : UInt8} (h : hoC c = true) : seeC c = true := by
 unfold hoC at h
 exact (Bool.and_eq_true _ _ ▸ h : _ ∧ _).1



theorem pct5_dot (p : List UInt8) (q : List UInt8) (hq : q = [46] ∨ q = [46, 46]) (h : pct 5 p = q) : p = q := by
 have h1 : ∀ c : UInt8, pct1 5 c ≠ [] ∧ (pct1 5 c).head? = some (if inSetI c.toNat 5 then 37 else c) := fun c => by
  unfold pct1 esc
  split <;> simp [*]
 have h2 : ∀ c : UInt8, (pct1 5 c).head? = some 46 → c = 46 ∧ pct1 5 c = [46] := fun c hc => by
  rw [(h1 c).2] at hc
  split at hc
  ·injection hc with hc; cases hc
  ·injection hc with hc
   subst hc
   exact ⟨rfl, by decide +kernel⟩
 have step : ∀ (p r : List UInt8), pct 5 p = 46 :: r → ∃ p', p = 46 :: p' ∧ pct 5 p' = r := by
  intro p r e
  cases p with
  | nil => cases e
  | cons c p =>
   have e' : pct1 5 c ++ pct 5 p = 46 :: r := e
   have hh : (pct1 5 c).head? = some 46 := by
    cases hc : pct1 5 c with
    | nil => exact absurd hc (h1 c).1
    | cons d t => rw [hc, List.cons_append] at e'; injection e' with e1 e2; rw [e1]; rfl
   obtain ⟨rfl, e2⟩ := h2 c hh
   rw [e2] at e'
   exact ⟨p, rfl, by simpa using e'⟩
 have nil : ∀ p : List UInt8, pct 5 p = [] → p = [] := by
  intro p e
  cases p with
  | nil => rfl
  | cons c p =>
   have e' : pct1 5 c ++ pct 5 p = [] := e
   exact absurd (List.append_eq_nil_iff.1 e').1 (h1 c).1
 rcases hq with rfl | rfl
 ·obtain ⟨p', rfl, e⟩ := step p _ h
  rw [nil p' e]
 ·obtain ⟨p', rfl, e⟩ := step p _ h
  obtain ⟨p2, rfl, e2⟩ := step p' _ e
  rw [nil p2 e2]

def PartOk (p : List UInt8) : Prop := (∀ c ∈ p, seeC c = true) ∧ p ≠ [46] ∧ p ≠ [46, 46]

theorem part_nil : PartOk [] := ⟨by simp, by simp, by simp⟩

theorem part_pct {p : List UInt8} (h : dotsV p = 0) : PartOk (pct 5 p) := by
 refine ⟨pct_see 5 (.inr (.inr (.inr (.inl rfl)))) p, fun e => ?_, fun e => ?_⟩
 ·have := pct5_dot p [46] (.inl rfl) e
  subst this
  rw [d_1.1] at h; cases h
 ·have := pct5_dot p [46, 46] (.inr rfl) e
  subst this
  rw [d_1.2.1] at h; cases h

theorem step_ok {out : List (List UInt8)} {p : List UInt8} {mo : Bool} (h : ∀ q ∈ out, PartOk q) : ∀ q ∈ stepP out p mo, PartOk q := by
 intro q hq
 rcases dotsV_cases p with h0 | h0 | h0
 ·rw [stepP0 h0] at hq
  rcases List.mem_append.1 hq with hq | hq
  ·exact h q hq
  ·obtain rfl := List.mem_singleton.1 hq; exact part_pct h0
 ·cases mo with
  | true => rw [stepP1 h0] at hq; exact h q hq
  | false =>
   rw [stepP1' h0] at hq
   rcases List.mem_append.1 hq with hq | hq
   ·exact h q hq
   ·obtain rfl := List.mem_singleton.1 hq; exact part_nil
 ·cases mo with
  | true => rw [stepP2 h0] at hq; exact h q (List.dropLast_subset _ hq)
  | false =>
   rw [stepP2' h0] at hq
   rcases List.mem_append.1 hq with hq | hq
   ·exact h q (List.dropLast_subset _ hq)
   ·obtain rfl := List.mem_singleton.1 hq; exact part_nil

theorem pathL_ok : ∀ (L out : List (List UInt8)), (∀ q ∈ out, PartOk q) → ∀ q ∈ pathL out L, PartOk q
 | [], out, h => by rw [pathL]; exact h
 | [p], out, h => by rw [pathL_last]; exact step_ok h
 | p :: q :: r, out, h => by
  rw [pathL_more out p (q :: r) (by simp)]
  exact pathL_ok (q :: r) _ (step_ok h)

theorem stepP_ne (out : List (List UInt8)) (p : List UInt8) : stepP out p false ≠ [] := by
 rcases dotsV_cases p with h0 | h0 | h0
 ·rw [stepP0 h0]; simp
 ·rw [stepP1' h0]; simp
 ·rw [stepP2' h0]; simp

theorem pathL_ne : ∀ (L out : List (List UInt8)), L ≠ [] → pathL out L ≠ []
 | [], out, h => absurd rfl h
 | [p], out, h => by rw [pathL_last]; exact stepP_ne _ _
 | p :: q :: r, out, h => by
  rw [pathL_more out p (q :: r) (by simp)]
  exact pathL_ne (q :: r) _ (by simp)

end Go.Proofs.YtmhooefajdndjaaGreatDoor

namespace Go.Proofs.YtmhooefajdndjaaGreatDoor
def AllS (l : List UInt8) : Prop := ∀ c ∈ l, seeC c = true

theorem allS_nil : AllS [] := fun c h => by simp at h

structure Pre3 (u : Adr) : Prop where
 scheme : AllS u.scheme
 user : AllS u.user
 pass : AllS u.pass
 host : ∀ c ∈ u.host, hoC c = true
 port : u.port = -1 ∨ (0 ≤ u.port ∧ u.port ≤ 65535 ∧ u.port ≠ ownV u.scheme ∧ u.hasHost = true)
 query : AllS u.query
 fragment : AllS u.fragment
 noQ : u.hasQuery = false → u.query = []
 noF : u.hasFragment = false → u.fragment = []

structure Good3 (u : Adr) : Prop where
 pre : Pre3 u
 parts : u.opq = false → ∀ p ∈ u.path, PartOk p
 opaque_ : u.opq = true → u.hasHost = false ∧ ∃ x, u.path = [pct 1 x]
 special : specV u.scheme = true → u.host ≠ [] ∧ u.path ≠ [] ∧ u.opq = false

theorem withQuery_cases (u : Adr) (q : List UInt8) : withQuery u q = u ∨ withQuery u q = { u with query := querV (specV u.scheme) (q.drop 1), hasQuery := true } := by
 unfold withQuery
 split
 ·exact .inl rfl
 ·exact .inr rfl

theorem querV_see (sp : Bool) (q : List UInt8) : AllS (querV sp q) := by
 unfold querV
 cases sp with
 | true => exact pct_see 4 (.inr (.inr (.inl rfl))) q
 | false => exact pct_see 3 (.inr (.inl rfl)) q

theorem Good3.query {u : Adr} (h : Good3 u) (q : List UInt8) : Good3 (withQuery u q) := by
 rcases withQuery_cases u q with e | e
 ·rw [e]; exact h
 ·rw [e]
  exact ⟨⟨h.pre.scheme, h.pre.user, h.pre.pass, h.pre.host, h.pre.port, querV_see _ _, h.pre.fragment, (fun e => by cases e), h.pre.noF⟩, h.parts, h.opaque_, h.special⟩

theorem Good3.path {u : Adr} (h : Pre3 u) (ho : u.opq = false) (hs : specV u.scheme = true → u.host ≠ []) (hv : List (List UInt8)) (hok : ∀ q ∈ hv, PartOk q) (r : List UInt8) : Good3 (withPath u hv r) := by
 unfold withPath
 refine Good3.query (u := { u with path := pathV (specV u.scheme) hv (aheadV [63] r).1 }) ⟨⟨h.scheme, h.user, h.pass, h.host, h.port, h.query, h.fragment, h.noQ, h.noF⟩, ?_, ?_, ?_⟩ _
 ·intro _ p hp
  have hp' : p ∈ pathV (specV u.scheme) hv (aheadV [63] r).1 := hp
  unfold pathV at hp'
  split at hp'
  ·simp at hp'
  ·exact pathL_ok _ _ hok p hp'
 ·intro e
  have e' : u.opq = true := e
  rw [ho] at e'; cases e'
 ·intro e
  have e' : specV u.scheme = true := e
  refine ⟨hs e', ?_, ho⟩
  show pathV (specV u.scheme) hv (aheadV [63] r).1 ≠ []
  rw [e']
  unfold pathV
  rw [if_neg (by simp)]
  exact pathL_ne _ _ (cutL_ne _ _)

theorem portT_see (p : Int) : AllS (portT p) := by
 have key : ∀ (f n : Nat) (acc : List UInt8), AllS acc → AllS (deciN f n acc) := by
  intro f
  induction f with
  | zero => intro n acc h; exact h
  | succ f ih =>
   intro n acc h
   have hd : ∀ k < 10, seeC (UInt8.ofNat (48 + k)) = true := by decide +kernel
   rw [deciN]
   split
   ·intro c hc
    rcases List.mem_cons.1 hc with rfl | hc
    ·exact hd n (by omega)
    ·exact h c hc
   ·refine ih _ _ fun c hc => ?_
    rcases List.mem_cons.1 hc with rfl | hc
    ·exact hd _ (Nat.mod_lt _ (by omega))
    ·exact h c hc
 exact key 6 p.toNat [] allS_nil

theorem allS_app {a b : List UInt8} (ha : AllS a) (hb : AllS b) : AllS (a ++ b) := fun c hc => (List.mem_append.1 hc).elim (ha c) (hb c)

theorem allS_cons {c : UInt8} {b : List UInt8} (hc : seeC c = true) (hb : AllS b) : AllS (c :: b) := allS_app (a := [c]) (fun d hd => by obtain rfl := List.mem_singleton.1 hd; exact hc) hb

theorem authT_see {u : Adr} (h : Pre3 u) : AllS (authT u) := by
 unfold authT
 split
 ·refine allS_app (allS_app (allS_app (allS_app (allS_app ?_ h.user) ?_) ?_) (fun c hc => hoC_see (h.host c hc))) ?_
  ·intro c hc; revert c; decide
  ·split
   ·exact allS_nil
   ·exact allS_cons (by decide) h.pass
  ·split
   ·exact allS_nil
   ·intro c hc; revert c; decide
  ·split
   ·exact allS_nil
   ·exact allS_cons (by decide) (portT_see _)
 ·exact allS_nil

theorem flat_see {L : List (List UInt8)} (h : ∀ p ∈ L, PartOk p) : AllS (L.flatMap fun p => 47 :: p) := by
 intro c hc
 obtain ⟨p, hp, hc⟩ := List.mem_flatMap.1 hc
 rcases List.mem_cons.1 hc with rfl | hc
 ·decide
 ·exact (h p hp).1 c hc

theorem text_see {u : Adr} (h : Good3 u) : ∀ c ∈ textV u, seeB c = true ∧ (u.opq = false → seeC c = true) := by
 have hq : AllS (if u.hasQuery then 63 :: u.query else []) := by
  split
  ·exact allS_cons (by decide) h.pre.query
  ·exact allS_nil
 have hf : AllS (if u.hasFragment then 35 :: u.fragment else []) := by
  split
  ·exact allS_cons (by decide) h.pre.fragment
  ·exact allS_nil
 have both : ∀ l : List UInt8, AllS l → ∀ c ∈ l, seeB c = true ∧ (u.opq = false → seeC c = true) := fun l hl c hc => ⟨seeC_B (hl c hc), fun _ => hl c hc⟩
 have hp : ∀ c ∈ pathT u, seeB c = true ∧ (u.opq = false → seeC c = true) := by
  unfold pathT
  cases ho : u.opq with
  | true =>
   rw [if_pos rfl]
   obtain ⟨-, x, hx⟩ := h.opaque_ ho
   rw [hx]
   intro c hc
   simp at hc
   exact ⟨pct_seeB x c hc, fun e => by cases e⟩
  | false =>
   rw [if_neg (by simp)]
   intro c hc
   have hall : AllS ((if u.hasHost = false ∧ 1 < u.path.length ∧ u.path.head? = some [] then [47, 46] else []) ++ u.path.flatMap (fun p => 47 :: p)) := by
    refine allS_app ?_ (flat_see (h.parts ho))
    split
    ·intro c hc; revert c; decide
    ·exact allS_nil
   exact ⟨seeC_B (hall c hc), fun _ => hall c hc⟩
 intro c hc
 unfold textV bareV at hc
 rcases List.mem_append.1 hc with hc | hc
 ·rcases List.mem_append.1 hc with hc | hc
  ·exact both _ h.pre.scheme c hc
  ·rcases List.mem_cons.1 hc with rfl | hc
   ·exact ⟨by decide, fun _ => by decide⟩
   ·rcases List.mem_append.1 hc with hc | hc
    ·exact both _ (authT_see h.pre) c hc
    ·rcases List.mem_append.1 hc with hc | hc
     ·exact hp c hc
     ·exact both _ hq c hc
 ·exact both _ hf c hc

end Go.Proofs.YtmhooefajdndjaaGreatDoor

namespace Go.Proofs.YtmhooefajdndjaaGreatDoor
def sData : List UInt8 := [100, 97, 116, 97]

def sAbout : List UInt8 := [97, 98, 111, 117, 116]

def safeS (s : List UInt8) : Bool := (s == sHttps) || ((s == sWss) || ((s == sData) || (s == sAbout)))

def trN : Nat → Adr → Bool
 | 0, u => safeS u.scheme || nearV u.host
 | n + 1, u => if safeS u.scheme then true else if u.scheme = sBlob then trN n (innV u) else nearV u.host

def cc (l : List UInt8) : Nat := l.count 58

def mT (u : Adr) : Nat := if u.scheme = sBlob then (if u.opq then cc u.path.flatten + 2 else 1) else 0

def trustV (u : Adr) : Bool := trN (mT u) u

theorem cc_sub {a b : List UInt8} (h : List.Sublist a b) : cc a ≤ cc b := h.count_le _

theorem cc_pct (l : List UInt8) : cc (pct 1 l) ≤ cc l := by
 induction l with
 | nil => exact Nat.le_refl _
 | cons c l ih =>
  have h := u8_all (P := fun c => decide ((pct1 1 c).count 58 ≤ ([c] : List UInt8).count 58)) (by decide +kernel) c
  have h := of_decide_eq_true h
  have e : pct 1 (c :: l) = pct1 1 c ++ pct 1 l := rfl
  have e2 : (c :: l) = [c] ++ l := rfl
  unfold cc at ih ⊢
  rw [e, e2, List.count_append, List.count_append]
  omega

theorem cc_clean (l : List UInt8) : cc (cleanV l) ≤ cc l := by
 have h1 : cc (cleanV l) ≤ cc (trimV l) := cc_sub List.filter_sublist
 have h2 : cc (trimV l) = cc ((l.dropWhile wsC).reverse.dropWhile wsC) := by unfold cc trimV; exact List.count_reverse
 have h3 : cc ((l.dropWhile wsC).reverse.dropWhile wsC) ≤ cc (l.dropWhile wsC).reverse := cc_sub (List.dropWhile_sublist _)
 have h4 : cc (l.dropWhile wsC).reverse = cc (l.dropWhile wsC) := by unfold cc; exact List.count_reverse
 have h5 : cc (l.dropWhile wsC) ≤ cc l := cc_sub (List.dropWhile_sublist _)
 omega

theorem cc_part (c : UInt8) (l : List UInt8) : cc (part c l).1 ≤ cc l := by
 rcases first_split c l with h | ⟨a, r, h, rfl⟩
 ·rw [part_none c l h]; exact Nat.le_refl _
 ·rw [part_some c a r h]; exact cc_sub (List.sublist_append_left _ _)

theorem withQuery_opq (u : Adr) (q : List UInt8) : (withQuery u q).opq = u.opq ∧ (withQuery u q).path = u.path := by
 rcases withQuery_cases u q with e | e
 ·rw [e]; exact ⟨rfl, rfl⟩
 ·rw [e]; exact ⟨rfl, rfl⟩

theorem withAuth_opq {u v : Adr} {r : List UInt8} (e : withAuth u r = .ok v) : v.opq = u.opq := by
 unfold withAuth at e
 split at e
 ·cases e
 ·injection e with e
  rw [← e]
  unfold withPath
  exact (withQuery_opq _ _).1

theorem start_opq4 {u v : Adr} {rest : List UInt8} (h0 : u.opq = false) (e : startV u rest = .ok v) (ho : v.opq = true) : v.path = [pct 1 (aheadV [63] rest).1] := by
 unfold startV at e
 split at e
 ·rw [withAuth_opq e, h0] at ho; cases ho
 ·split at e
  ·rw [withAuth_opq e, h0] at ho; cases ho
  ·split at e
   ·injection e with e
    rw [← e] at ho
    unfold withPath at ho
    rw [(withQuery_opq _ _).1] at ho
    rw [show ({ u with path := pathV (specV u.scheme) [] (aheadV [63] rest).1 } : Adr).opq = u.opq from rfl, h0] at ho
    cases ho
   ·injection e with e
    rw [← e, (withQuery_opq _ _).2]

theorem read_cc {t : List UInt8} {v : Adr} (e : readV t none = .ok v) (ho : v.opq = true) : cc v.path.flatten < cc t := by
 unfold readV at e
 split at e
 ·cases e
 ·simp only at e
  split at e
  ·cases e
  ·rename_i hsc
   rw [start_opq4 rfl e ho]
   have h1 : (cc (beginU t).2) + 1 ≤ cc t := by
    have hc := cc_clean t
    have hp := cc_part 35 (cleanV t)
    unfold beginU at hsc ⊢
    simp only at hsc ⊢
    cases hm : schemeV (part 35 (cleanV t)).1 with
    | none => rw [hm] at hsc; exact absurd rfl hsc
    | some m =>
     simp only [hm, Option.getD_some]
     unfold schemeV at hm
     split at hm
     ·rename_i hq
      rw [Bool.and_eq_true] at hq
      injection hm with hm
      rw [← hm]
      simp only
      rcases first_split 58 (part 35 (cleanV t)).1 with h | ⟨a, r, h, hs⟩
      ·rw [part_none 58 _ h] at hq; cases hq.1
      ·rw [hs, part_some 58 a r h]
       rw [hs] at hp
       have : cc (a ++ 58 :: r) = cc a + (cc r + 1) := by unfold cc; rw [List.count_append, List.count_cons_self]
       simp only
       omega
     ·cases hm
   have h2 : cc (pct 1 (aheadV [63] (beginU t).2).1) ≤ cc (beginU t).2 := Nat.le_trans (cc_pct _) (cc_sub (List.takeWhile_sublist _))
   simp only [List.flatten_cons, List.flatten_nil, List.append_nil]
   omega

theorem mT_inn {u : Adr} (h : u.scheme = sBlob) : mT (innV u) < mT u := by
 have h1 : 1 ≤ mT u := by unfold mT; rw [if_pos h]; split <;> omega
 by_cases ho : u.opq = true
 ·have hu : mT u = cc u.path.flatten + 2 := by unfold mT; rw [if_pos h, if_pos ho]
  have hi : innV u = adrOf (readV u.path.flatten none) := by unfold innV; rw [if_pos ⟨h, ho⟩]
  rw [hu, hi]
  cases hr : readV u.path.flatten none with
  | error e => exact Nat.lt_of_lt_of_le (show mT Adr.zero < 1 by decide) (by omega)
  | ok v =>
   show mT v < _
   unfold mT
   split
   ·split
    ·rename_i hv
     have := read_cc hr hv
     omega
    ·omega
   ·omega
 ·have hi : innV u = Adr.zero := by unfold innV; rw [if_neg (fun e => ho e.2)]
  rw [hi]
  exact Nat.lt_of_lt_of_le (show mT Adr.zero < 1 by decide) h1

end Go.Proofs.YtmhooefajdndjaaGreatDoor
