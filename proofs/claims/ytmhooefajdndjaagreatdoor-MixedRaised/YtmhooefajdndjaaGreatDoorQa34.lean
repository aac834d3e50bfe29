/-
  Walks and plain facts that this claim leans on, put together out of 2 texts: Ewr, Eyb.
-/
import Derived.Test.YtmhooefajdndjaaGreatDoorProg
import Derived.Test.YtmhooefajdndjaaGreatDoorQa1
import Derived.Test.YtmhooefajdndjaaGreatDoorQa7
import Derived.Test.YtmhooefajdndjaaGreatDoorQa8
import Derived.Test.YtmhooefajdndjaaGreatDoorQa9
import Derived.Test.YtmhooefajdndjaaGreatDoorQa10
import Derived.Test.YtmhooefajdndjaaGreatDoorQa11
import Derived.Test.YtmhooefajdndjaaGreatDoorQa18
import Derived.Test.YtmhooefajdndjaaGreatDoorQa25
import Derived.Test.YtmhooefajdndjaaGreatDoorQa26
import Derived.Test.YtmhooefajdndjaaGreatDoorQa27
import Derived.Test.YtmhooefajdndjaaGreatDoorQa29
import Derived.Test.YtmhooefajdndjaaGreatDoorQa33
import Derived.Deep.Cut
import Derived.Deep.QuietTactic
import Derived.BigQuiet
import Derived.BigRegion
import Derived.Deep.RegionHeld
import Derived.Deep.CutRange
import Derived.Lib.IndexMore
import Derived.Lib.Join
import Derived.Lib.LastIndexByte
import Derived.WalkKit
import Derived.Lib.Strings
import Derived.Lib.UnsafeStr
import Derived.Laws.IdiomStrings
import Derived.Laws.AppendOwn
import Derived.Laws.BitsAllLaws
import Derived.Lib.Bytealg
import Derived.Lib.BufferMore
import Derived.Lib.BufferRead
import Derived.Lib.RuneBytes
import Derived.Laws.RangeAny
import Derived.LoopN
import Derived.RegionTactic
import Derived.Deep.RegionWith
import Derived.OwnWalk
import Derived.Deep.RegionLaw
import Derived.Laws.OwnMore
import Derived.Deep.LoopGhost
import Derived.Shelf.Strings.Builder1
import Derived.Shelf.Strings.Builder2
import Derived.Shelf.Strings.OnBuilder
import Derived.Shelf.Strings.Trim
import Derived.Shelf.Small.Utf8
import Derived.Shelf.Small.Strs
import Derived.Shelf.Small.Wraps
import Derived.Shelf.Strings.BuilderF
import Derived.Shelf.Strings.BuilderK
import Derived.Shelf.Strings.BuilderRune
import Derived.Shelf.Utf8.AppendRune
import Derived.Shelf.Utf8.AppendRunePlain
import Derived.Shelf.Strings.Builder2Cap
import Derived.Shelf.Strconv.Itoa0
import Derived.Shelf.Strconv.Itoa1
import Derived.Shelf.LaysM
import Derived.Shelf.Strconv.Itoa2
import Derived.Shelf.Strconv.Itoa3
import Derived.Shelf.Strings.Search1
import Derived.Shelf.Strings.Search2
import Derived.Shelf.Strings.Search3
import Derived.Shelf.Strings.Cut
import Derived.Shelf.Strings.Count
import Derived.Shelf.Strings.Shaped
import Derived.Shelf.Strings.LastIndex
import Derived.Shelf.Strings.Prefix
import Derived.Shelf.Strings.Split
import Derived.Shelf.Strings.Replace
import Derived.Shelf.Strings.Runes
import Derived.Shelf.Strings.IndexAny
import Derived.Shelf.Strings.AsciiSet
import Derived.Shelf.Strings.IndexAnyAll
import Derived.Shelf.Unicode.DecodeSlow
import Derived.Ground.Names2Prog
import Derived.Shelf.Slices.Clone
import Derived.Ground.SlgnProg
import Derived.Shelf.SlicesE.Clone
import Derived.Laws.AppendOwnNone
import Derived.Scope
import Derived.ScopeJumps
import Derived.WalkMore
import Derived.Lib.IndexAny
import Derived.Lib.Replace
import Derived.Lib.TrimByte
import Derived.Lib.ItoaNum
import Derived.Lib.DecodeN
import Derived.Lib.OthersKept
import Derived.Laws.BytesString
import Derived.Deep.WholeRow
import Derived.Lib.AppendStr
import Derived.WalkSpells
import Derived.WalkLawsBesides
import Derived.Lib.AppendIntMem
import Derived.Lib.SmallJoins
import Derived.WalkSmall
import Derived.Laws.CopyOwn
import Derived.Laws.ResultCell
import Derived.Deep.MidRow
import Derived.Lib.FrozenHead2
import Derived.Lib.Builder
import Derived.Lib.SlTrimSet
import Derived.Below
import Derived.Shelf.Strings.SlTrimAscii
import Derived.Laws.Runes
set_option linter.unusedSimpArgs false
set_option linter.unusedVariables false

namespace Go.Proofs.YtmhooefajdndjaaGreatDoor
theorem dom_parse (a b : List UInt8) (ha : ∀ c ∈ a, hnC c = true ∧ lowC c = c) (hb : ∀ c ∈ b, 97 ≤ c.toNat ∧ c.toNat ≤ 122) (h1 : b ≠ []) (hm : marked b = false) (hv : valV 10 b = none) : parseV (a ++ 46 :: b) true = some (a ++ 46 :: b) := by
 have hall : ∀ c ∈ a ++ 46 :: b, hnC c = true ∧ lowC c = c := fun c hc => by
  rcases List.mem_append.1 hc with hc | hc
  ·exact ha c hc
  ·rcases List.mem_cons.1 hc with rfl | hc
   ·decide
   ·exact ⟨(small_facts c (hb c hc)).2.1, (small_facts c (hb c hc)).1⟩
 have hl : low (a ++ 46 :: b) = a ++ 46 :: b := low_plain _ fun c hc => (hall c hc).2
 have hb46 : 46 ∉ b := fun e => (small_facts 46 (hb 46 e)).2.2.1 rfl
 have := parse_name (a ++ 46 :: b) (by simp) (fun c hc => (hall c hc).1) (by rw [hl]; exact numbered_no a b hb46 h1 hm hv)
 rw [this, hl]

theorem dom_url (sc a b pt : List UInt8) (port : Int) (hsc : sc = sHttp ∨ sc = sHttps) (ha : ∀ c ∈ a, hnC c = true ∧ lowC c = c) (hb : ∀ c ∈ b, 97 ≤ c.toNat ∧ c.toNat ≤ 122) (h1 : b ≠ []) (hm : marked b = false) (hv : valV 10 b = none)
  (hpt : (pt = [] ∧ port = -1) ∨ ∃ x, pt = 58 :: x ∧ (∀ c ∈ x, digP c = true) ∧ portV (ownV sc) x = some port) (hl : a.length + b.length + pt.length ≤ 200) :
  urlV (sc ++ 58 :: 47 :: 47 :: ((a ++ 46 :: b) ++ (pt ++ [47]))) = .ok (wAdr sc (a ++ 46 :: b) port [[]]) := by
 have hall : ∀ c ∈ a ++ 46 :: b, hnC c = true := fun c hc => by
  rcases List.mem_append.1 hc with hc | hc
  ·exact (ha c hc).1
  ·rcases List.mem_cons.1 hc with rfl | hc
   ·decide
   ·exact (small_facts c (hb c hc)).2.1
 have hd2 : ∀ c, digP c = true → auC c = true ∧ c ≠ 58 := fun c hc => by
  have := u8_all (P := fun c => !digP c || (auC c && c != 58)) (by decide +kernel) c
  rw [hc] at this
  simpa using this
 have := web_read sc (a ++ 46 :: b) pt [47] (a ++ 46 :: b) port hsc (fun c hc => by
  rcases List.mem_append.1 hc with hc | hc
  ·exact (hnC_facts c (hall c hc)).1
  ·rcases hpt with ⟨rfl, _⟩ | ⟨x, rfl, hx, _⟩
   ·simp at hc
   ·rcases List.mem_cons.1 hc with rfl | hc
    ·decide
    ·exact (hd2 c (hx c hc)).1) (by decide) (by simp) (by simp) (fun e => (hnC_facts 58 (hall 58 e)).2.1 rfl) (by
   rcases hpt with h | ⟨x, rfl, hx, hp⟩
   ·exact .inl h
   ·exact .inr ⟨x, rfl, fun e => (hd2 58 (hx 58 e)).2 rfl, hp⟩) (.inr ⟨[], rfl⟩) (dom_parse a b ha hb h1 hm hv) (by simp; omega)
 unfold urlV
 rw [List.take_of_length_le this.2]
 exact this.1

theorem mem_dropW {p : UInt8 → Bool} {c : UInt8} (hc : p c = false) : ∀ l : List UInt8, c ∈ l → c ∈ l.dropWhile p
 | [], h => by simp at h
 | x :: l, h => by
  rw [List.dropWhile_cons]
  cases hx : p x with
  | false => simpa using h
  | true =>
   rcases List.mem_cons.1 h with rfl | h
   ·rw [hc] at hx; cases hx
   ·simpa using mem_dropW hc l h

theorem num_no {h : List UInt8} {c : UInt8} (hm : c ∈ h) (hc : ([48, 49, 50, 51, 52, 53, 54, 55, 56, 57, 46] : List UInt8).contains c = false) : numO h = false := by
 unfold numO Lib.trimS Lib.trimLeftS Lib.trimRightS
 have h1 := mem_dropW (p := fun x => ([48, 49, 50, 51, 52, 53, 54, 55, 56, 57, 46] : List UInt8).contains x) hc h.reverse (by simpa using hm)
 have h2 := mem_dropW (p := fun x => ([48, 49, 50, 51, 52, 53, 54, 55, 56, 57, 46] : List UInt8).contains x) hc _ (List.mem_reverse.2 h1)
 cases hd : List.dropWhile (fun x => ([48, 49, 50, 51, 52, 53, 54, 55, 56, 57, 46] : List UInt8).contains x) ((List.dropWhile (fun x => ([48, 49, 50, 51, 52, 53, 54, 55, 56, 57, 46] : List UInt8).contains x) h.reverse).reverse) with
 | nil => rw [hd] at h2; simp at h2
 | cons x r => rfl

theorem suf_no {h s : List UInt8} {c d : UInt8} (hh : h.getLast? = some c) (hs : s.getLast? = some d) (hne : c ≠ d) : Lib.hasSuffix h s = false := by
 cases e : Lib.hasSuffix h s with
 | false => rfl
 | true =>
  have e := List.isSuffixOf_iff_suffix.1 e
  obtain ⟨t, rfl⟩ := e
  rw [List.getLast?_append, hs] at hh
  simp at hh
  exact absurd hh.symm hne

theorem no_br {h : List UInt8} (hh : h.head? ≠ some 91) : Lib.hasPrefix h [91] = false := by
 cases e : Lib.hasPrefix h [91] with
 | false => rfl
 | true =>
  have e := List.isPrefixOf_iff_prefix.1 e
  obtain ⟨t, rfl⟩ := e
  exact absurd rfl hh

theorem lets_hn {T : List UInt8} (h : Lets T) : ∀ c ∈ T, hnC c = true ∧ lowC c = c := fun c hc => ⟨(small_facts c (h.2 c hc)).2.1, (small_facts c (h.2 c hc)).1⟩

def com : List UInt8 := [99, 111, 109]

theorem com_facts : (∀ c ∈ com, 97 ≤ c.toNat ∧ c.toNat ≤ 122) ∧ com ≠ [] ∧ marked com = false ∧ valV 10 com = none ∧ 46 ∉ com := by decide +kernel

theorem last_ne {a b : List UInt8} {c d : UInt8} (ha : a.getLast? = some c) (hb : b.getLast? = some d) (h : c ≠ d) : a ≠ b := fun e => by
 rw [e, hb] at ha; injection ha with ha; exact h ha.symm

end Go.Proofs.YtmhooefajdndjaaGreatDoor

namespace Go.Proofs.YtmhooefajdndjaaGreatDoor
def tP : List UInt8 := [104, 116, 116, 112, 58, 47, 47, 112, 47]

def tPs : List UInt8 := [104, 116, 116, 112, 115, 58, 47, 47, 112, 47]

theorem tP_s : (adrOf (urlV tP)).scheme = sHttp ∧ (adrOf (urlV tPs)).scheme = sHttps := by decide +kernel

theorem judA_http (s : List UInt8) (d : Int) : judA tP s d = 1 := by
 unfold judA judV
 rw [tP_s.1]
 rfl

theorem trust_web {u : Adr} (h : u.scheme = sHttp) : trustV u = nearV u.host := by
 unfold trustV mT
 rw [if_neg (by rw [h]; decide)]
 unfold trN
 rw [h]
 rfl

theorem judA_ok {s : List UInt8} {u : Adr} (h : urlV s = .ok u) (hs : u.scheme = sHttp) (d : Int) : judA tPs s d = if nearV u.host then 1 else if (d == 4) && nameM u.host then 2 else 3 := by
 unfold judA judV
 rw [tP_s.2, h]
 show judT (sHttps == sHttps) (trustV u) (u.scheme == sHttp) (u.scheme == sWs) (d == 4) (nameM u.host) = _
 rw [trust_web hs, hs]
 cases nearV u.host <;> rfl

theorem numbered_one (b : List UInt8) (hb : 46 ∉ b) (h1 : b ≠ []) (hm : marked b = false) (hv : valV 10 b = none) : numberedV b = false := by
 have hnd : noDot b = b := by
  unfold noDot Lib.trimSuffix
  rw [if_neg]
  intro e
  unfold Lib.hasSuffix at e
  rw [List.isSuffixOf_iff_suffix] at e
  obtain ⟨t, ht⟩ := e
  exact hb (by rw [← ht]; simp)
 have hll : lastLab b = b := by
  unfold lastLab
  rw [w_take_yes _ b.reverse (fun c hc => by
   have : c ∈ b := by simpa using hc
   simp
   exact fun e => hb (e ▸ this)), List.reverse_reverse]
 unfold numberedV
 rw [hnd, hll, hm, hv]
 simp

theorem wq_no {h : List UInt8} (hh : WrQ h) : marked h = false ∧ valV 10 h = none := by
 obtain ⟨r, rfl, hr⟩ := hh
 refine ⟨?_, ?_⟩
 ·simp [marked, Lib.hasPrefix, List.isPrefixOf]
 ·show valN 10 0 (113 :: r) = none
  rw [valN, if_neg (by decide)]

theorem wq_url {h : List UInt8} (hh : WrQ h) (hl : h.length ≤ 12) : urlV (sHttps ++ 58 :: 47 :: 47 :: (h ++ [47])) = .ok (wAdr sHttps h (-1) [[]]) := by
 have hall : ∀ c ∈ h, hnC c = true := fun c hc => (small_facts c (hh.mem c hc)).2.1
 have h46 : 46 ∉ h := fun e => (small_facts 46 (hh.mem 46 e)).2.2.1 rfl
 have hp := parse_name h hh.ne hall (by rw [hh.low]; exact numbered_one h h46 hh.ne (wq_no hh).1 (wq_no hh).2)
 rw [hh.low] at hp
 have := web_read sHttps h [] [47] h (-1) (.inr rfl) (fun c hc => by
  rw [List.append_nil] at hc
  exact (hnC_facts c (hall c hc)).1) (by decide) hh.ne hh.ne (fun e => (hnC_facts 58 (hall 58 e)).2.1 rfl) (.inl ⟨rfl, rfl⟩) (.inr ⟨[], rfl⟩) hp (by simp; omega)
 unfold urlV
 rw [List.nil_append] at this
 rw [List.take_of_length_le this.2]
 exact this.1

theorem judA_https {h : List UInt8} (hh : WrQ h) (hl : h.length ≤ 12) (d : Int) : judA tPs (sHttps ++ 58 :: 47 :: 47 :: (h ++ [47])) d = 1 := by
 unfold judA judV
 rw [wq_url hh hl]
 show judT _ (trustV (wAdr sHttps h (-1) [[]])) (sHttps == sHttp) (sHttps == sWs) (d == 4) (nameM h) = 1
 rw [show (sHttps == sHttp) = false by decide, show (sHttps == sWs) = false by decide]
 exact judT_fine _ _ _ _

def loc : List UInt8 := [108, 111, 99, 97, 108, 104, 111, 115, 116]

theorem loc_facts : (∀ c ∈ loc, 97 ≤ c.toNat ∧ c.toNat ≤ 122) ∧ loc ≠ [] ∧ marked loc = false ∧ valV 10 loc = none ∧ 46 ∉ loc := by decide +kernel

theorem near_loc (a : List UInt8) : nearV (a ++ 46 :: loc) = true := by
 unfold nearV
 have : Lib.hasSuffix (a ++ 46 :: loc) [46, 108, 111, 99, 97, 108, 104, 111, 115, 116] = true := by
  unfold Lib.hasSuffix
  rw [List.isSuffixOf_iff_suffix]
  exact ⟨a, rfl⟩
 rw [this]
 simp

theorem wq_113 {h : List UInt8} (hh : WrQ h) (r : List UInt8) : (h ++ r).head? = some 113 ∧ 113 ∈ h ++ r := by
 obtain ⟨t, rfl, _⟩ := hh
 exact ⟨rfl, by simp⟩

theorem near_com {h : List UInt8} (hh : WrQ h) : nearV (h ++ 46 :: com) = false := by
 have hlast : (h ++ 46 :: com).getLast? = some 109 := by rw [List.getLast?_append]; rfl
 unfold nearV
 have h1 : ((h ++ 46 :: com) == [108, 111, 99, 97, 108, 104, 111, 115, 116]) = false := beq_eq_false_iff_ne.2 (last_ne hlast (d := 116) rfl (by decide))
 have h2 : Lib.hasSuffix (h ++ 46 :: com) [46, 108, 111, 99, 97, 108, 104, 111, 115, 116] = false := suf_no hlast (d := 116) rfl (by decide)
 have h3 : ((h ++ 46 :: com) == [91, 58, 58, 49, 93]) = false := beq_eq_false_iff_ne.2 (last_ne hlast (d := 93) rfl (by decide))
 have h4 : numO (h ++ 46 :: com) = false := num_no (wq_113 hh _).2 (by decide)
 rw [h1, h2, h3, h4]
 simp

theorem name_com {h : List UInt8} (hh : WrQ h) : nameM (h ++ 46 :: com) = true := by
 unfold nameM
 rw [no_br (by rw [(wq_113 hh _).1]; decide), num_no (wq_113 hh _).2 (by decide)]
 rfl

theorem judA_com {h : List UInt8} (hh : WrQ h) (hl : h.length ≤ 12) (d : Int) : judA tPs (sHttp ++ 58 :: 47 :: 47 :: ((h ++ 46 :: com) ++ [47])) d = if d == 4 then 2 else 3 := by
 have hu := dom_url sHttp h com [] (-1) (.inl rfl) (lets_hn hh.lets) com_facts.1 com_facts.2.1 com_facts.2.2.1 com_facts.2.2.2.1 (.inl ⟨rfl, rfl⟩) (by simp [com]; omega)
 rw [List.nil_append] at hu
 rw [judA_ok hu rfl]
 show (if nearV (h ++ 46 :: com) = true then 1 else if ((d == 4) && nameM (h ++ 46 :: com)) = true then 2 else 3) = _
 rw [near_com hh, name_com hh]
 simp

theorem judA_loc {h : List UInt8} (hh : WrQ h) (hl : h.length ≤ 12) (d : Int) : judA tPs (sHttp ++ 58 :: 47 :: 47 :: ((h ++ 46 :: loc) ++ [47])) d = 1 := by
 have hu := dom_url sHttp h loc [] (-1) (.inl rfl) (lets_hn hh.lets) loc_facts.1 loc_facts.2.1 loc_facts.2.2.1 loc_facts.2.2.2.1 (.inl ⟨rfl, rfl⟩) (by simp [loc]; omega)
 rw [List.nil_append] at hu
 rw [judA_ok hu rfl]
 show (if nearV (h ++ 46 :: loc) = true then 1 else _) = _
 rw [near_loc]
 rfl



theorem dec8_nu : ∀ n < 256, (dec8 n).all nuC = true ∧ (dec8 n).length ≤ 3 ∧ (dec8 n = [49, 50, 55] → n = 127) := by decide +kernel

theorem text4_nu (n : Nat) : (text4 n).all nuC = true := by
 have h : ∀ m, (dec8 (m % 256)).all nuC = true := fun m => (dec8_nu _ (Nat.mod_lt _ (by decide))).1
 rw [text4_eq]
 simp only [List.all_append, List.all_cons, h, Bool.true_and, Bool.and_true]
 decide

theorem text4_len (n : Nat) : (text4 n).length ≤ 15 := by
 have h : ∀ m, (dec8 (m % 256)).length ≤ 3 := fun m => (dec8_nu _ (Nat.mod_lt _ (by decide))).2.1
 have h1 := h (n / 16777216)
 have h2 := h (n / 65536)
 have h3 := h (n / 256)
 have h4 := h n
 rw [text4_eq]
 simp only [List.length_append, List.length_cons]
 omega

theorem nu_facts {c : UInt8} (h : nuC c = true) : hnC c = true ∧ c ≠ 116 ∧ c ≠ 93 := by
 have := u8_all (P := fun c => !nuC c || (hnC c && (c != 116 && c != 93))) (by decide +kernel) c
 rw [h] at this
 simpa using this

theorem text4_url (n : Nat) (hn : n < 4294967296) : urlV (sHttp ++ 58 :: 47 :: 47 :: (text4 n ++ [47])) = .ok (wAdr sHttp (text4 n) (-1) [[]]) := by
 have hall : ∀ c ∈ text4 n, hnC c = true := fun c hc => (nu_facts (List.all_eq_true.1 (text4_nu n) c hc)).1
 have := web_read sHttp (text4 n) [] [47] (text4 n) (-1) (.inl rfl) (fun c hc => by
  rw [List.append_nil] at hc
  exact (hnC_facts c (hall c hc)).1) (by decide) (text4_ne n) (text4_ne n) (fun e => (hnC_facts 58 (hall 58 e)).2.1 rfl) (.inl ⟨rfl, rfl⟩) (.inr ⟨[], rfl⟩) (text4_parse n hn) (by have := text4_len n; simp; omega)
 unfold urlV
 rw [List.nil_append] at this
 rw [List.take_of_length_le this.2]
 exact this.1

theorem text4_127 (n : Nat) (hn : n < 4294967296) : Lib.hasPrefix (text4 n) [49, 50, 55, 46] = decide (n / 16777216 = 127) := by
 have hm : n / 16777216 % 256 = n / 16777216 := Nat.mod_eq_of_lt (by omega)
 by_cases h : n / 16777216 = 127
 ·rw [decide_eq_true h]
  unfold Lib.hasPrefix
  rw [List.isPrefixOf_iff_prefix, text4_eq, hm, h]
  exact ⟨_, rfl⟩
 ·rw [decide_eq_false h]
  cases e : Lib.hasPrefix (text4 n) [49, 50, 55, 46] with
  | false => rfl
  | true =>
   have e := List.isPrefixOf_iff_prefix.1 e
   obtain ⟨t, ht⟩ := e
   have hlt : n / 16777216 % 256 < 256 := Nat.mod_lt _ (by decide)
   have h46 : 46 ∉ dec8 (n / 16777216 % 256) := dec8_no46 _ hlt
   have e1 := part_some 46 [49, 50, 55] t (by decide)
   have e2 := part_some 46 (dec8 (n / 16777216 % 256)) (dec8 (n / 65536 % 256) ++ 46 :: (dec8 (n / 256 % 256) ++ 46 :: dec8 (n % 256))) h46
   rw [← text4_eq, ← ht] at e2
   rw [show [49, 50, 55, 46] ++ t = [49, 50, 55] ++ 46 :: t from rfl, e1] at e2
   have := congrArg (fun x => x.1) e2
   have := (dec8_nu _ hlt).2.2 this.symm
   rw [hm] at this
   exact absurd this h

theorem text4_near (n : Nat) (hn : n < 4294967296) : nearV (text4 n) = decide (n / 16777216 = 127) := by
 have hall : ∀ c ∈ text4 n, nuC c = true := List.all_eq_true.1 (text4_nu n)
 have key : ∀ (s : List UInt8) (d : UInt8), s.getLast? = some d → nuC d = false → text4 n ≠ s ∧ Lib.hasSuffix (text4 n) s = false := fun s d hs hd => by
  cases hl : (text4 n).getLast? with
  | none => exact absurd (by simpa using hl) (text4_ne n)
  | some c =>
   have hc := hall c (List.mem_of_getLast? hl)
   have hne : c ≠ d := fun e => by rw [e, hd] at hc; cases hc
   exact ⟨last_ne hl hs hne, suf_no hl hs hne⟩
 unfold nearV
 rw [beq_eq_false_iff_ne.2 (key [108, 111, 99, 97, 108, 104, 111, 115, 116] 116 rfl (by decide)).1, (key [46, 108, 111, 99, 97, 108, 104, 111, 115, 116] 116 rfl (by decide)).2, beq_eq_false_iff_ne.2 (key [91, 58, 58, 49, 93] 93 rfl (by decide)).1, num_all, text4_nu, text4_127 n hn]
 simp

theorem judA_num (n : Nat) (hn : n < 4294967296) (d : Int) : judA tPs (sHttp ++ 58 :: 47 :: 47 :: (text4 n ++ [47])) d = if n / 16777216 = 127 then 1 else 3 := by
 rw [judA_ok (text4_url n hn) rfl]
 show (if nearV (text4 n) = true then 1 else if ((d == 4) && nameM (text4 n)) = true then 2 else 3) = _
 have hm : nameM (text4 n) = false := by unfold nameM; rw [num_all, text4_nu]; simp
 rw [text4_near n hn, hm]
 simp

end Go.Proofs.YtmhooefajdndjaaGreatDoor
