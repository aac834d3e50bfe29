/-
  Walks and plain facts that this claim leans on, put together out of 1 texts: Ewr.
-/
import Derived.Test.YtamockkjbkibdaaGreatDoorProg
import Derived.Test.YtamockkjbkibdaaGreatDoorQa1
import Derived.Test.YtamockkjbkibdaaGreatDoorQa2
import Derived.Test.YtamockkjbkibdaaGreatDoorQa3
import Derived.Test.YtamockkjbkibdaaGreatDoorQa4
import Derived.Test.YtamockkjbkibdaaGreatDoorQa5
import Derived.Test.YtamockkjbkibdaaGreatDoorQa6
import Derived.Test.YtamockkjbkibdaaGreatDoorQa7
import Derived.Test.YtamockkjbkibdaaGreatDoorQa8
import Derived.Test.YtamockkjbkibdaaGreatDoorQa9
import Derived.Test.YtamockkjbkibdaaGreatDoorQa10
import Derived.Test.YtamockkjbkibdaaGreatDoorQa11
import Derived.Test.YtamockkjbkibdaaGreatDoorQa12
import Derived.Test.YtamockkjbkibdaaGreatDoorQa13
import Derived.Test.YtamockkjbkibdaaGreatDoorQa14
import Derived.Test.YtamockkjbkibdaaGreatDoorQa15
import Derived.Test.YtamockkjbkibdaaGreatDoorQa16
import Derived.Test.YtamockkjbkibdaaGreatDoorQa17
import Derived.Test.YtamockkjbkibdaaGreatDoorQa18
import Derived.Test.YtamockkjbkibdaaGreatDoorQa19
import Derived.Test.YtamockkjbkibdaaGreatDoorQa20
import Derived.Test.YtamockkjbkibdaaGreatDoorQa21
import Derived.Test.YtamockkjbkibdaaGreatDoorQa22
import Derived.Test.YtamockkjbkibdaaGreatDoorQa23
import Derived.Test.YtamockkjbkibdaaGreatDoorQa24
import Derived.Test.YtamockkjbkibdaaGreatDoorQa25
import Derived.Test.YtamockkjbkibdaaGreatDoorQa26
import Derived.Test.YtamockkjbkibdaaGreatDoorQa27
import Derived.Test.YtamockkjbkibdaaGreatDoorQa28
import Derived.Test.YtamockkjbkibdaaGreatDoorQa29
import Derived.Test.YtamockkjbkibdaaGreatDoorQa30
import Derived.Test.YtamockkjbkibdaaGreatDoorQa31
import Derived.Test.YtamockkjbkibdaaGreatDoorQa32
import Derived.Test.YtamockkjbkibdaaGreatDoorQo1
import Derived.Test.YtamockkjbkibdaaGreatDoorQo2
import Derived.Test.YtamockkjbkibdaaGreatDoorQo3
import Derived.Test.YtamockkjbkibdaaGreatDoorQs1
import Derived.Test.YtamockkjbkibdaaGreatDoorQs2
import Derived.Deep.Cut
import Derived.Deep.QuietTactic
import Derived.BigQuiet
import Derived.BigRegion
import Derived.Deep.RegionHeld
import Derived.Deep.CutRange
import Derived.Lib.IndexMore
import Derived.Lib.Join
import Derived.Lib.LastIndexByte
import Derived.WalkKit
import Derived.Lib.Strings
import Derived.Lib.UnsafeStr
import Derived.Laws.IdiomStrings
import Derived.Laws.AppendOwn
import Derived.Laws.BitsAllLaws
import Derived.Lib.Bytealg
import Derived.Lib.BufferMore
import Derived.Lib.BufferRead
import Derived.Lib.RuneBytes
import Derived.Laws.RangeAny
import Derived.LoopN
import Derived.RegionTactic
import Derived.Deep.RegionWith
import Derived.OwnWalk
import Derived.Deep.RegionLaw
import Derived.Laws.OwnMore
import Derived.Deep.LoopGhost
import Derived.Shelf.Strings.Builder1
import Derived.Shelf.Strings.Builder2
import Derived.Shelf.Strings.OnBuilder
import Derived.Shelf.Strings.Trim
import Derived.Shelf.Small.Utf8
import Derived.Shelf.Small.Strs
import Derived.Shelf.Small.Wraps
import Derived.Shelf.Strings.BuilderF
import Derived.Shelf.Strings.BuilderK
import Derived.Shelf.Strings.BuilderRune
import Derived.Shelf.Utf8.AppendRune
import Derived.Shelf.Utf8.AppendRunePlain
import Derived.Shelf.Strings.Builder2Cap
import Derived.Shelf.Strconv.Itoa0
import Derived.Shelf.Strconv.Itoa1
import Derived.Shelf.LaysM
import Derived.Shelf.Strconv.Itoa2
import Derived.Shelf.Strconv.Itoa3
import Derived.Shelf.Strings.Search1
import Derived.Shelf.Strings.Search2
import Derived.Shelf.Strings.Search3
import Derived.Shelf.Strings.Cut
import Derived.Shelf.Strings.Count
import Derived.Shelf.Strings.Shaped
import Derived.Shelf.Strings.LastIndex
import Derived.Shelf.Strings.Prefix
import Derived.Shelf.Strings.Split
import Derived.Shelf.Strings.Replace
import Derived.Shelf.Strings.Runes
import Derived.Shelf.Strings.IndexAny
import Derived.Shelf.Strings.AsciiSet
import Derived.Shelf.Strings.IndexAnyAll
import Derived.Shelf.Unicode.DecodeSlow
import Derived.Ground.Names2Prog
import Derived.Shelf.Slices.Clone
import Derived.Ground.SlgnProg
import Derived.Shelf.SlicesE.Clone
import Derived.Laws.AppendOwnNone
import Derived.Scope
import Derived.ScopeJumps
import Derived.WalkMore
import Derived.Lib.IndexAny
import Derived.Lib.Replace
import Derived.Lib.TrimByte
import Derived.Lib.ItoaNum
import Derived.Lib.DecodeN
import Derived.Lib.OthersKept
import Derived.Laws.BytesString
import Derived.Deep.WholeRow
import Derived.Lib.AppendStr
import Derived.WalkSpells
import Derived.WalkLawsBesides
import Derived.Lib.AppendIntMem
import Derived.Lib.SmallJoins
import Derived.WalkSmall
import Derived.Laws.CopyOwn
import Derived.Laws.ResultCell
import Derived.Deep.MidRow
import Derived.Lib.FrozenHead2
import Derived.Lib.Builder
import Derived.Lib.SlTrimSet
import Derived.Below
import Derived.Shelf.Strings.SlTrimAscii
import Derived.Laws.Runes
set_option linter.unusedSimpArgs false
set_option linter.unusedVariables false

namespace Go.Proofs.YtamockkjbkibdaaGreatDoor
theorem dom_parse (a b : List UInt8) (ha : ∀ c ∈ a, hnC c = true ∧ lowC c = c) (hb : ∀ c ∈ b, 97 ≤ c.toNat ∧ c.toNat ≤ 122) (h1 : b ≠ []) (hm : marked b = false) (hv : valV 10 b = none) : parseV (a ++ 46 :: b) true = some (a ++ 46 :: b) := by
 have hall : ∀ c ∈ a ++ 46 :: b, hnC c = true ∧ lowC c = c := fun c hc => by
  rcases List.mem_append.1 hc with hc | hc
  ·exact ha c hc
  ·rcases List.mem_cons.1 hc with rfl | hc
   ·decide
   ·exact ⟨(small_facts c (hb c hc)).2.1, (small_facts c (hb c hc)).1⟩
 have hl : low (a ++ 46 :: b) = a ++ 46 :: b := low_plain _ fun c hc => (hall c hc).2
 have hb46 : 46 ∉ b := fun e => (small_facts 46 (hb 46 e)).2.2.1 rfl
 have := parse_name (a ++ 46 :: b) (by simp) (fun c hc => (hall c hc).1) (by rw [hl]; exact numbered_no a b hb46 h1 hm hv)
 rw [this, hl]

theorem dom_url (sc a b pt : List UInt8) (port : Int) (hsc : sc = sHttp ∨ sc = sHttps) (ha : ∀ c ∈ a, hnC c = true ∧ lowC c = c) (hb : ∀ c ∈ b, 97 ≤ c.toNat ∧ c.toNat ≤ 122) (h1 : b ≠ []) (hm : marked b = false) (hv : valV 10 b = none)
  (hpt : (pt = [] ∧ port = -1) ∨ ∃ x, pt = 58 :: x ∧ (∀ c ∈ x, digP c = true) ∧ portV (ownV sc) x = some port) (hl : a.length + b.length + pt.length ≤ 200) :
  urlV (sc ++ 58 :: 47 :: 47 :: ((a ++ 46 :: b) ++ (pt ++ [47]))) = .ok (wAdr sc (a ++ 46 :: b) port [[]]) := by
 have hall : ∀ c ∈ a ++ 46 :: b, hnC c = true := fun c hc => by
  rcases List.mem_append.1 hc with hc | hc
  ·exact (ha c hc).1
  ·rcases List.mem_cons.1 hc with rfl | hc
   ·decide
   ·exact (small_facts c (hb c hc)).2.1
 have hd2 : ∀ c, digP c = true → auC c = true ∧ c ≠ 58 := fun c hc => by
  have := u8_all (P := fun c => !digP c || (auC c && c != 58)) (by decide +kernel) c
  rw [hc] at this
  simpa using this
 have := web_read sc (a ++ 46 :: b) pt [47] (a ++ 46 :: b) port hsc (fun c hc => by
  rcases List.mem_append.1 hc with hc | hc
  ·exact (hnC_facts c (hall c hc)).1
  ·rcases hpt with ⟨rfl, _⟩ | ⟨x, rfl, hx, _⟩
   ·simp at hc
   ·rcases List.mem_cons.1 hc with rfl | hc
    ·decide
    ·exact (hd2 c (hx c hc)).1) (by decide) (by simp) (by simp) (fun e => (hnC_facts 58 (hall 58 e)).2.1 rfl) (by
   rcases hpt with h | ⟨x, rfl, hx, hp⟩
   ·exact .inl h
   ·exact .inr ⟨x, rfl, fun e => (hd2 58 (hx 58 e)).2 rfl, hp⟩) (.inr ⟨[], rfl⟩) (dom_parse a b ha hb h1 hm hv) (by simp; omega)
 unfold urlV
 rw [List.take_of_length_le this.2]
 exact this.1

theorem dom_org (sc h : List UInt8) (port : Int) (hsc : sc = sHttp ∨ sc = sHttps) : orgV (wAdr sc h port [[]]) = ⟨sc, h, (if port = -1 then ownV sc else port), false⟩ := by
 rw [org_spec (u := wAdr sc h port [[]]) (show specV sc = true by rcases hsc with rfl | rfl <;> decide)]
 rfl

theorem mem_dropW {p : UInt8 → Bool} {c : UInt8} (hc : p c = false) : ∀ l : List UInt8, c ∈ l → c ∈ l.dropWhile p
 | [], h => by simp at h
 | x :: l, h => by
  rw [List.dropWhile_cons]
  cases hx : p x with
  | false => simpa using h
  | true =>
   rcases List.mem_cons.1 h with rfl | h
   ·rw [hc] at hx; cases hx
   ·simpa using mem_dropW hc l h

theorem num_no {h : List UInt8} {c : UInt8} (hm : c ∈ h) (hc : ([48, 49, 50, 51, 52, 53, 54, 55, 56, 57, 46] : List UInt8).contains c = false) : numO h = false := by
 unfold numO Lib.trimS Lib.trimLeftS Lib.trimRightS
 have h1 := mem_dropW (p := fun x => ([48, 49, 50, 51, 52, 53, 54, 55, 56, 57, 46] : List UInt8).contains x) hc h.reverse (by simpa using hm)
 have h2 := mem_dropW (p := fun x => ([48, 49, 50, 51, 52, 53, 54, 55, 56, 57, 46] : List UInt8).contains x) hc _ (List.mem_reverse.2 h1)
 cases hd : List.dropWhile (fun x => ([48, 49, 50, 51, 52, 53, 54, 55, 56, 57, 46] : List UInt8).contains x) ((List.dropWhile (fun x => ([48, 49, 50, 51, 52, 53, 54, 55, 56, 57, 46] : List UInt8).contains x) h.reverse).reverse) with
 | nil => rw [hd] at h2; simp at h2
 | cons x r => rfl

theorem suf_no {h s : List UInt8} {c d : UInt8} (hh : h.getLast? = some c) (hs : s.getLast? = some d) (hne : c ≠ d) : Lib.hasSuffix h s = false := by
 cases e : Lib.hasSuffix h s with
 | false => rfl
 | true =>
  have e := List.isSuffixOf_iff_suffix.1 e
  obtain ⟨t, rfl⟩ := e
  rw [List.getLast?_append, hs] at hh
  simp at hh
  exact absurd hh.symm hne

theorem no_br {h : List UInt8} (hh : h.head? ≠ some 91) : Lib.hasPrefix h [91] = false := by
 cases e : Lib.hasPrefix h [91] with
 | false => rfl
 | true =>
  have e := List.isPrefixOf_iff_prefix.1 e
  obtain ⟨t, rfl⟩ := e
  exact absurd rfl hh

theorem site_of (sc h : List UInt8) (p : Int) (L : List (List UInt8)) (n : Nat) (hL : cutL 46 h = L) (hs : sufV h = n) (hb : h.head? ≠ some 91) {c : UInt8} (hm : c ∈ h) (hc : ([48, 49, 50, 51, 52, 53, 54, 55, 56, 57, 46] : List UInt8).contains c = false) :
  siteV ⟨sc, h, p, false⟩ = Lib.join (L.drop (L.length - n - 1)) [46] := by
 unfold siteV aheadO
 simp only [Bool.false_eq_true, if_false, no_br hb, num_no hm hc, Bool.or_false, hL, hs]

theorem lets46 {T : List UInt8} (h : Lets T) : 46 ∉ T := fun e => (small_facts 46 (h.2 46 e)).2.2.1 rfl

theorem lets_hn {T : List UInt8} (h : Lets T) : ∀ c ∈ T, hnC c = true ∧ lowC c = c := fun c hc => ⟨(small_facts c (h.2 c hc)).2.1, (small_facts c (h.2 c hc)).1⟩

def com : List UInt8 := [99, 111, 109]

def uk : List UInt8 := [117, 107]

def co : List UInt8 := [99, 111]

theorem com_facts : (∀ c ∈ com, 97 ≤ c.toNat ∧ c.toNat ≤ 122) ∧ com ≠ [] ∧ marked com = false ∧ valV 10 com = none ∧ 46 ∉ com := by decide +kernel

theorem uk_facts : (∀ c ∈ uk, 97 ≤ c.toNat ∧ c.toNat ≤ 122) ∧ uk ≠ [] ∧ marked uk = false ∧ valV 10 uk = none ∧ 46 ∉ uk := by decide +kernel

theorem suf_com (a : List UInt8) : sufV (a ++ 46 :: com) = 1 := by
 have hl : (a ++ 46 :: com).getLast? = some 109 := by rw [List.getLast?_append]; rfl
 unfold sufV
 rw [suf_no hl (d := 107) rfl (by decide), suf_no hl (d := 117) rfl (by decide), suf_no hl (d := 111) rfl (by decide)]
 rfl

theorem suf_uk (a : List UInt8) : sufV (a ++ 46 :: (co ++ 46 :: uk)) = 2 := by
 unfold sufV
 have : Lib.hasSuffix (a ++ 46 :: (co ++ 46 :: uk)) sufA = true := List.isSuffixOf_iff_suffix.2 ⟨a, rfl⟩
 rw [this]
 rfl

theorem head_let {a r : List UInt8} (h : Lets a) : (a ++ r).head? ≠ some 91 := by
 cases ha : a with
 | nil => exact absurd ha h.1
 | cons c t =>
  intro e
  simp at e
  have := h.2 c (by rw [ha]; simp)
  rw [e] at this
  exact absurd this (by decide)

theorem site_base {x : List UInt8} (hx : Lets x) (sc : List UInt8) (p : Int) : siteV ⟨sc, x ++ 46 :: com, p, false⟩ = x ++ 46 :: com := by
 rw [site_of sc _ p [x, com] 1 (by rw [cutL_some 46 x _ (lets46 hx), cutL_none 46 com com_facts.2.2.2.2]) (suf_com x) (head_let hx) (c := 109) (by simp [com]) (by decide)]
 simp [Lib.join, List.intercalate, List.intersperse]

theorem site_below {x y : List UInt8} (hx : Lets x) (hy : Lets y) (sc : List UInt8) (p : Int) : siteV ⟨sc, (y ++ 46 :: x) ++ 46 :: com, p, false⟩ = x ++ 46 :: com := by
 have e : (y ++ 46 :: x) ++ 46 :: com = y ++ 46 :: (x ++ 46 :: com) := by simp
 rw [site_of sc _ p [y, x, com] 1 (by rw [e, cutL_some 46 y _ (lets46 hy), cutL_some 46 x _ (lets46 hx), cutL_none 46 com com_facts.2.2.2.2]) (suf_com _) (by rw [e]; exact head_let hy) (c := 109) (by simp [com]) (by decide)]
 simp [Lib.join, List.intercalate, List.intersperse]

theorem site_deep {x y : List UInt8} (hx : Lets x) (hy : Lets y) (sc : List UInt8) (p : Int) : siteV ⟨sc, (119 :: 46 :: (y ++ 46 :: x)) ++ 46 :: com, p, false⟩ = x ++ 46 :: com := by
 have e : (119 :: 46 :: (y ++ 46 :: x)) ++ 46 :: com = [119] ++ 46 :: (y ++ 46 :: (x ++ 46 :: com)) := by simp
 rw [site_of sc _ p [[119], y, x, com] 1 (by rw [e, cutL_some 46 [119] _ (by decide), cutL_some 46 y _ (lets46 hy), cutL_some 46 x _ (lets46 hx), cutL_none 46 com com_facts.2.2.2.2]) (suf_com _) (by simp) (c := 109) (by simp [com]) (by decide)]
 simp [Lib.join, List.intercalate, List.intersperse]

theorem site_uk {y : List UInt8} (hy : Lets y) (sc : List UInt8) (p : Int) : siteV ⟨sc, (y ++ 46 :: co) ++ 46 :: uk, p, false⟩ = (y ++ 46 :: co) ++ 46 :: uk := by
 have e : (y ++ 46 :: co) ++ 46 :: uk = y ++ 46 :: (co ++ 46 :: uk) := by simp
 rw [e, site_of sc _ p [y, co, uk] 2 (by rw [cutL_some 46 y _ (lets46 hy), cutL_some 46 co _ (by decide), cutL_none 46 uk uk_facts.2.2.2.2]) (suf_uk _) (head_let hy) (c := 107) (by simp [uk]) (by decide)]
 simp [Lib.join, List.intercalate, List.intersperse]

theorem ss_yes (a b : Org) (ha : a.opq = false) (hb : b.opq = false) (hs : a.scheme = b.scheme) (ht : siteV a = siteV b) : ssV a b = true := by
 unfold ssV; rw [ha, hb, hs, ht]; simp

theorem ss_sch (a b : Org) (hs : a.scheme ≠ b.scheme) : ssV a b = false := by
 unfold ssV; simp [hs]

theorem ss_site (a b : Org) (hs : siteV a ≠ siteV b) : ssV a b = false := by
 unfold ssV; simp [hs]

theorem last_ne {a b : List UInt8} {c d : UInt8} (ha : a.getLast? = some c) (hb : b.getLast? = some d) (h : c ≠ d) : a ≠ b := fun e => by
 rw [e, hb] at ha; injection ha with ha; exact h ha.symm

end Go.Proofs.YtamockkjbkibdaaGreatDoor
