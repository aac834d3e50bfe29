/-
  Walks and plain facts that this claim leans on, put together out of 4 texts: Xg, Do, Dp, Dq.
-/
import Derived.Test.YtjmkccnjjofmeaaGreatDoorProg
import Derived.Test.YtjmkccnjjofmeaaGreatDoorQa1
import Derived.Test.YtjmkccnjjofmeaaGreatDoorQa2
import Derived.Test.YtjmkccnjjofmeaaGreatDoorQa3
import Derived.Test.YtjmkccnjjofmeaaGreatDoorQa4
import Derived.Test.YtjmkccnjjofmeaaGreatDoorQa5
import Derived.Test.YtjmkccnjjofmeaaGreatDoorQa6
import Derived.Test.YtjmkccnjjofmeaaGreatDoorQa7
import Derived.Test.YtjmkccnjjofmeaaGreatDoorQa8
import Derived.Test.YtjmkccnjjofmeaaGreatDoorQa9
import Derived.Test.YtjmkccnjjofmeaaGreatDoorQa10
import Derived.Test.YtjmkccnjjofmeaaGreatDoorQa11
import Derived.Test.YtjmkccnjjofmeaaGreatDoorQa12
import Derived.Test.YtjmkccnjjofmeaaGreatDoorQa13
import Derived.Test.YtjmkccnjjofmeaaGreatDoorQa14
import Derived.Test.YtjmkccnjjofmeaaGreatDoorQa15
import Derived.Test.YtjmkccnjjofmeaaGreatDoorQa16
import Derived.Test.YtjmkccnjjofmeaaGreatDoorQa17
import Derived.Test.YtjmkccnjjofmeaaGreatDoorQa18
import Derived.Test.YtjmkccnjjofmeaaGreatDoorQa19
import Derived.Test.YtjmkccnjjofmeaaGreatDoorQa20
import Derived.Test.YtjmkccnjjofmeaaGreatDoorQa21
import Derived.Test.YtjmkccnjjofmeaaGreatDoorQa22
import Derived.Test.YtjmkccnjjofmeaaGreatDoorQa23
import Derived.Test.YtjmkccnjjofmeaaGreatDoorQa24
import Derived.Test.YtjmkccnjjofmeaaGreatDoorQa25
import Derived.Test.YtjmkccnjjofmeaaGreatDoorQa26
import Derived.Test.YtjmkccnjjofmeaaGreatDoorQa27
import Derived.Test.YtjmkccnjjofmeaaGreatDoorQa28
import Derived.Lib.Strings
import Derived.Lib.UnsafeStr
import Derived.Laws.IdiomStrings
import Derived.Laws.AppendOwn
import Derived.Laws.BitsAllLaws
import Derived.Lib.Bytealg
import Derived.Deep.LoopGhost
import Derived.Lib.SlTrimSet
import Derived.Lib.Join
import Derived.Lib.IndexMore
import Derived.Deep.QuietTactic
import Derived.BigQuiet
import Derived.Lib.BufferMore
import Derived.WalkKit
import Derived.WalkSpells
import Derived.WalkLawsBesides
import Derived.Laws.OwnMore
import Derived.Below
import Derived.WalkSmall
import Derived.Lib.SmallJoins
import Derived.Laws.CopyRow
import Derived.Lib.TrimByte
import Derived.LoopN
import Derived.Lib.IndexAny
import Derived.Lib.Replace
import Derived.Lib.ItoaNum
import Derived.Deep.RegionHeld
import Derived.Lib.AppendIntMem
import Derived.Deep.MidRow
import Derived.Lib.AppendStr
import Derived.Deep.RegionWith
import Derived.WalkMore
import Derived.Scope
import Derived.ScopeJumps
import Derived.Deep.Cut
import Derived.Laws.AppendOwnNone
import Derived.OwnWalk
import Derived.Shelf.Strings.Builder1
import Derived.Shelf.Strings.Builder2
import Derived.Shelf.Strings.OnBuilder
import Derived.Shelf.Strings.Trim
import Derived.Shelf.Small.Utf8
import Derived.Shelf.Small.Strs
import Derived.Shelf.Small.Wraps
import Derived.Shelf.Strings.BuilderF
import Derived.Shelf.Strings.BuilderK
import Derived.Shelf.Strings.Builder2Cap
import Derived.Shelf.Strconv.Itoa0
import Derived.Shelf.Strconv.Itoa1
import Derived.Shelf.LaysM
import Derived.Shelf.Strconv.Itoa2
import Derived.Shelf.Strconv.Itoa3
import Derived.Shelf.Strings.Search1
import Derived.Shelf.Strings.Search2
import Derived.Shelf.Strings.Search3
import Derived.Shelf.Strings.Cut
import Derived.Shelf.Strings.Count
import Derived.Shelf.Strings.Shaped
import Derived.Shelf.Strings.Prefix
import Derived.Shelf.Strings.Split
import Derived.Shelf.Strings.Replace
import Derived.Shelf.Strings.Runes
import Derived.Shelf.Strings.IndexAny
import Derived.Shelf.Strings.AsciiSet
import Derived.Shelf.Strings.IndexAnyAll
import Derived.Shelf.Unicode.DecodeSlow
import Derived.Lib.BufferRead
import Derived.Lib.RuneBytes
import Derived.Laws.RangeAny
import Derived.Laws.BytesString
import Derived.RegionTactic
import Derived.BigRegion
import Derived.Shelf.Strings.SlTrimAscii
import Derived.Laws.Runes
import Derived.Lib.DecodeN
import Derived.Lib.OthersKept
import Derived.Deep.RegionHeldLaw
import Derived.Lib.LastIndexByte
import Derived.Deep.WholeRow
import Derived.Lib.FrozenHead2
import Derived.Lib.Builder
import Derived.Deep.RegionLaw
import Derived.Maps.OwnSet
import Derived.Maps.OwnOps
import Derived.Maps.AppendAt
import Derived.StringKeys
import Derived.Laws.CopyOwn
import Derived.Laws.ResultCell
set_option linter.unusedSimpArgs false
set_option linter.unusedVariables false

namespace Go.Proofs.YtjmkccnjjofmeaaGreatDoor
open Go.RowKit

theorem word_app (s : ByteArray) (k : Nat) (h : k < s.size) (T : List UInt8) : (⟨T.toArray⟩ : ByteArray) ++ s.extract k (k + 1) = ⟨(T ++ [s[k]]).toArray⟩ := by
  refine xext ?_
  rw [ByteArray.data_append, Array.toList_append, Lib.extract_data, show k + 1 - k = 1 by omega, drop_cons s k h]
  rfl

end Go.Proofs.YtjmkccnjjofmeaaGreatDoor

namespace Go.Proofs.YtjmkccnjjofmeaaGreatDoor
/-- A byte that stands for itself in an address' text. -/
def adC (c : UInt8) : Bool := decide (33 ≤ c.toNat) && (decide (c.toNat ≤ 126) && (c != 35 && c != 63))

theorem adC_facts {c : UInt8} (h : adC c = true) : 33 ≤ c.toNat ∧ c.toNat ≤ 126 ∧ c ≠ 35 ∧ c ≠ 63 := by
  unfold adC at h
  simpa [Bool.and_eq_true] using h

def dAdr (X : List UInt8) : Adr := ⟨dataB, [], [], [], false, -1, true, [X], [], [], false, false⟩

theorem drop_no (p : UInt8 → Bool) (l : List UInt8) (h : ∀ c ∈ l, p c = false) : l.dropWhile p = l := by
  cases l with
  | nil => rfl
  | cons c l => rw [List.dropWhile_cons, h c (by simp)]; rfl

theorem clean_id (l : List UInt8) (h : ∀ c ∈ l, 33 ≤ c.toNat) : cleanV l = l := by
  have hw : ∀ c ∈ l, wsC c = false := fun c hc => by unfold wsC; rw [decide_eq_false]; have := h c hc; omega
  unfold cleanV trimV
  rw [drop_no wsC l hw, drop_no wsC l.reverse (fun c hc => hw c (by simpa using hc)), List.reverse_reverse, List.filter_eq_self]
  intro c hc
  have := h c hc
  unfold eyeC
  simp only [Bool.not_eq_true', Bool.or_eq_false_iff, beq_eq_false_iff_ne]
  refine ⟨?_, ?_, ?_⟩ <;> (intro e; subst e; revert this; decide)

theorem take_yes (p : UInt8 → Bool) (l : List UInt8) (h : ∀ c ∈ l, p c = true) : l.takeWhile p = l := by
  induction l with
  | nil => rfl
  | cons c l ih => rw [List.takeWhile_cons, h c (by simp), if_pos rfl, ih fun d hd => h d (by simp [hd])]

theorem drop_yes (p : UInt8 → Bool) (l : List UInt8) (h : ∀ c ∈ l, p c = true) : l.dropWhile p = [] := by
  induction l with
  | nil => rfl
  | cons c l ih => rw [List.dropWhile_cons, h c (by simp), if_pos rfl, ih fun d hd => h d (by simp [hd])]

theorem ahead_none (l : List UInt8) (h : ∀ c ∈ l, c ≠ 63) : aheadV [63] l = (l, []) := by
  have key : ∀ c ∈ l, (!([63] : List UInt8).contains c) = true := fun c hc => by simp [h c hc]
  unfold aheadV
  rw [take_yes _ l key]
  rw [drop_yes _ l key]

theorem url_data (X : List UInt8) (h : ∀ c ∈ X, adC c = true) (h0 : X.head? ≠ some 47) (hl : X.length ≤ 290) : urlV (dataB ++ 58 :: X) = .ok (dAdr X) := by
  have hd0 : ∀ c ∈ dataB, adC c = true := by decide
  have hall : ∀ c ∈ dataB ++ 58 :: X, adC c = true := fun c hc => by
    rcases List.mem_append.1 hc with hc | hc
    · exact hd0 c hc
    · rcases List.mem_cons.1 hc with rfl | hc
      · decide
      · exact h c hc
  have hlen : (dataB ++ 58 :: X).length ≤ 300 := by simp [dataB]; omega
  unfold urlV
  rw [List.take_of_length_le hlen]
  have hcl := clean_id (dataB ++ 58 :: X) (fun c hc => (adC_facts (hall c hc)).1)
  have hp35 : part 35 (dataB ++ 58 :: X) = (dataB ++ 58 :: X, [], false) := part_none 35 _ (fun hm => (adC_facts (hall 35 hm)).2.2.1 rfl)
  have hp58 : part 58 (dataB ++ 58 :: X) = (dataB, X, true) := part_some 58 dataB X (by decide)
  have hsch : schemeV (dataB ++ 58 :: X) = some (dataB, X) := by
    unfold schemeV
    rw [hp58]
    rw [show (schOk (dataB, X, true).1) = true from (by decide : schOk dataB = true), show low (dataB, X, true).1 = dataB from (by decide : low dataB = dataB)]
    rfl
  have hbe : beginU (dataB ++ 58 :: X) = (⟨dataB, [], [], [], false, -1, false, [], [], [], false, false⟩, X) := by
    unfold beginU
    simp only [hcl, hp35, hsch, Option.getD_some]
    rfl
  have hpct : pct 1 X = X := pct_none 1 X fun d hd => set1_out d (by have := adC_facts (h d hd); omega) (adC_facts (h d hd)).2.1
  have hah := ahead_none X fun c hc => (adC_facts (h c hc)).2.2.2
  have hs1 : Lib.hasPrefix X [47, 47] = false := by
    cases X with
    | nil => rfl
    | cons c r => simp at h0; simp [Lib.hasPrefix, List.isPrefixOf]; intro e; exact absurd e.symm h0
  have hs2 : Lib.hasPrefix X [47] = false := by
    cases X with
    | nil => rfl
    | cons c r => simp at h0; simp [Lib.hasPrefix, List.isPrefixOf]; intro e; exact absurd e.symm h0
  unfold readV
  rw [if_neg (by omega), hbe]
  simp only
  rw [if_neg (by decide)]
  unfold startV
  simp only
  rw [show specV dataB = false from by decide, hs1, hs2, hah, hpct]
  simp [withQuery, dAdr]

theorem txt_dAdr (X : List UInt8) : txtD (dAdr X) = X := by
  unfold txtD bareV authT pathT dAdr
  simp [Lib.trimPrefix, Lib.hasPrefix, dataB]

theorem strip_id (K : List UInt8) (h : ∀ c ∈ K, 33 ≤ c.toNat) : strip K = K := by
  have hb : ∀ c ∈ K, blC c = false := fun c hc => by
    have := h c hc
    unfold blC blankI
    simp only [Bool.or_eq_false_iff, beq_eq_false_iff_ne]
    refine ⟨?_, ?_, ?_, ?_, ?_⟩ <;> omega
  unfold strip
  rw [drop_no blC K hb, drop_no blC K.reverse (fun c hc => hb c (by simpa using hc)), List.reverse_reverse]

theorem cut_data (K S : List UInt8) (h : ∀ c ∈ K, 33 ≤ c.toNat) (h44 : 44 ∉ K) : cutK (K ++ 44 :: S) = K ∧ cutD (K ++ 44 :: S) = unpct S ∧ cutO (K ++ 44 :: S) = true := by
  unfold cutK cutD cutO
  rw [part_some 44 K S h44]
  exact ⟨strip_id K h, rfl, rfl⟩

/-- The address of a kind K and a text S is read as that. -/
theorem lr_data (K S : List UInt8) (hK : ∀ c ∈ K, adC c = true) (hS : ∀ c ∈ S, adC c = true) (h44 : 44 ∉ K) (h0 : K.head? ≠ some 47) (hl : K.length + S.length ≤ 280) (hO : unO K (unpct S) = true) :
    lrV (dataB ++ 58 :: (K ++ 44 :: S)) = txtV (typV (comK (unK K))) ++ 124 :: unB K (unpct S) := by
  have hX : ∀ c ∈ K ++ 44 :: S, adC c = true := fun c hc => by
    rcases List.mem_append.1 hc with hc | hc
    · exact hK c hc
    · rcases List.mem_cons.1 hc with rfl | hc
      · decide
      · exact hS c hc
  have hh : (K ++ 44 :: S).head? ≠ some 47 := by
    cases K with
    | nil => simp
    | cons c K => simpa using h0
  obtain ⟨c1, c2, c3⟩ := cut_data K S (fun c hc => (adC_facts (hK c hc)).1) h44
  have hu := url_data (K ++ 44 :: S) hX hh (by simp; omega)
  unfold lrV
  rw [hu]
  simp only
  have ho : rdO (dAdr (K ++ 44 :: S)) = true := by
    unfold rdO
    rw [txt_dAdr, c1, c2, c3, hO]
    rfl
  rw [ho, if_pos rfl]
  unfold rdK rdB
  rw [txt_dAdr, c1, c2]

/-- Letters, digits and '-'. -/
def ltC (c : UInt8) : Bool := (decide (97 ≤ c.toNat) && decide (c.toNat ≤ 122)) || ((decide (48 ≤ c.toNat) && decide (c.toNat ≤ 57)) || c == 45)

theorem lt_all : ((List.range 256).all fun n => !ltC (UInt8.ofNat n) || (adC (UInt8.ofNat n) && (pkC (UInt8.ofNat n) && (tokC (UInt8.ofNat n) && (lowC (UInt8.ofNat n) == UInt8.ofNat n && (UInt8.ofNat n != 59 && UInt8.ofNat n != 32)))))) = true := by decide +kernel

theorem lt_facts {c : UInt8} (h : ltC c = true) : adC c = true ∧ pkC c = true ∧ tokC c = true ∧ lowC c = c ∧ c ≠ 59 ∧ c ≠ 32 := by
  have := byte_all (p := fun c => !ltC c || (adC c && (pkC c && (tokC c && (lowC c == c && (c != 59 && c != 32)))))) lt_all c
  simp only [h, Bool.not_true, Bool.false_or, Bool.and_eq_true, beq_iff_eq, bne_iff_ne] at this
  exact ⟨this.1, this.2.1, this.2.2.1, this.2.2.2.1, this.2.2.2.2.1, this.2.2.2.2.2⟩

/-- A word: a letter, and letters, digits and '-' behind it. -/
def Word7 (A : List UInt8) : Prop := A ≠ [] ∧ ∀ c ∈ A, ltC c = true

theorem word_good {A M : List UInt8} (hA : Word7 A) (hM : Word7 M) : GoodK ⟨A, M, []⟩ := by
  have key : ∀ {A : List UInt8}, Word7 A → tokL A = true ∧ low A = A := fun {A} hA => by
    refine ⟨tokL_of (fun c hc => (lt_facts (hA.2 c hc)).2.2.1) hA.1, ?_⟩
    unfold low
    have h := hA.2
    generalize A = l at h
    induction l with
    | nil => rfl
    | cons c l ih => rw [List.map_cons, (lt_facts (h c (by simp))).2.2.2.1, ih fun d hd => h d (by simp [hd])]
  exact ⟨(key hA).1, (key hA).2, (key hM).1, (key hM).2, fun p hp => by simp at hp, List.Pairwise.nil⟩

theorem word_typ {A M : List UInt8} (hA : Word7 A) (hM : Word7 M) : typV (A ++ 47 :: M) = ⟨A, M, []⟩ ∧ txtV ⟨A, M, []⟩ = A ++ 47 :: M := by
  have e : txtV ⟨A, M, []⟩ = A ++ 47 :: M := by simp [txtV, essV]
  have h := kn_back ⟨A, M, []⟩ (word_good hA hM)
  rw [e] at h
  refine ⟨?_, e⟩
  unfold typV
  rw [h.1, if_pos rfl, h.2]

theorem word_kind {A M : List UInt8} (hA : Word7 A) (hM : Word7 M) : ∀ c ∈ A ++ 47 :: M, adC c = true ∧ pkC c = true ∧ c ≠ 59 ∧ c ≠ 32 := fun c hc => by
  have key : ∀ {A : List UInt8}, Word7 A → ∀ c ∈ A, adC c = true ∧ pkC c = true ∧ c ≠ 59 ∧ c ≠ 32 := fun {A} hA c hc => by
    have := lt_facts (hA.2 c hc)
    exact ⟨this.1, this.2.1, this.2.2.2.2.1, this.2.2.2.2.2⟩
  rcases List.mem_append.1 hc with hc | hc
  · exact key hA c hc
  · rcases List.mem_cons.1 hc with rfl | hc
    · exact ⟨by decide, by decide, by decide, by decide⟩
    · exact key hM c hc

theorem word_com {A M : List UInt8} (hA : Word7 A) (hM : Word7 M) : comK (A ++ 47 :: M) = A ++ 47 :: M := by
  unfold comK
  rw [if_neg]
  cases A with
  | nil => exact absurd rfl hA.1
  | cons c A =>
    have := (lt_facts (hA.2 c (by simp))).2.2.2.2.1
    simp [Lib.hasPrefix, List.isPrefixOf]
    exact fun e => this e.symm

/-- The kind of an address that is told in base 64. -/
def bkK (A M : List UInt8) : List UInt8 := (A ++ 47 :: M) ++ 59 :: markB

theorem bk_mark {A M : List UInt8} (hA : Word7 A) (hM : Word7 M) : isM (bkK A M) = true ∧ offM (bkK A M) = A ++ 47 :: M := by
  have hl : (bkK A M).length - 6 = (A ++ 47 :: M).length + 1 := by simp [bkK, markB]; omega
  have h6 : 6 ≤ (bkK A M).length := by simp [bkK, markB]; omega
  have e : bkK A M = ((A ++ 47 :: M) ++ [59]) ++ markB := by simp [bkK]
  have hl' : (bkK A M).length - 6 = ((A ++ 47 :: M) ++ [59]).length := by rw [hl]; simp; omega
  have hd : (bkK A M).drop ((bkK A M).length - 6) = markB := by rw [hl', e, List.drop_left]
  have ht : (bkK A M).take ((bkK A M).length - 6) = (A ++ 47 :: M) ++ [59] := by rw [hl', e, List.take_left]
  have ha : ahead6 (bkK A M) = (A ++ 47 :: M) ++ [59] := by
    unfold ahead6 noBl Lib.trimRightB
    rw [ht, List.reverse_append]
    simp [List.dropWhile_cons]
  have hsf : Lib.hasSuffix ((A ++ 47 :: M) ++ [59]) [59] = true := by
    unfold Lib.hasSuffix
    rw [List.isSuffixOf_iff_suffix]
    exact List.suffix_append _ _
  refine ⟨?_, ?_⟩
  · unfold isM ends6
    rw [decide_eq_true h6, hd, ha, hsf]
    decide
  · unfold offM Lib.trimSuffix
    rw [ha, hsf, if_pos rfl, List.length_append]
    exact List.take_left

theorem unpct_id (l : List UInt8) (h : ∀ c ∈ l, c ≠ 37) : unpct l = l := by
  have key : ∀ (n : Nat) (l : List UInt8), l.length ≤ n → (∀ c ∈ l, c ≠ 37) → unpct l = l := by
    intro n
    induction n with
    | zero => intro l hl h; obtain rfl := List.eq_nil_of_length_eq_zero (show l.length = 0 by omega); rfl
    | succ n ih =>
      intro l hl h
      cases l with
      | nil => rfl
      | cons c l =>
        rw [unpct_cons, pcd_other l c (h c (by simp))]
        simp only
        rw [if_neg (by decide), ih l (by simp at hl; omega) fun d hd => h d (by simp [hd])]
  exact key _ l (Nat.le_refl _) h

theorem e64_mem (l : List UInt8) : ∀ d ∈ e64 l, d = 61 ∨ ∃ k, k < 64 ∧ d = d64 k := fun d hd => by
  rw [e64_split] at hd
  rcases List.mem_append.1 hd with hd | hd
  · exact .inr (eD_mem l d hd)
  · rcases padE_forms l with h | h | h <;> rw [h] at hd <;> simp at hd
    · exact .inl hd
    · exact .inl hd

theorem d64_ad : ∀ k, k < 64 → adC (d64 k) = true ∧ d64 k ≠ 37 := by decide +kernel

theorem e64_ad (l : List UInt8) : ∀ d ∈ e64 l, adC d = true ∧ d ≠ 37 := fun d hd => by
  rcases e64_mem l d hd with rfl | ⟨k, hk, rfl⟩
  · exact ⟨by decide, by decide⟩
  · exact d64_ad k hk

/-- What Make makes of a word's kind and bytes, read. -/
theorem back_data {A M l : List UInt8} (hA : Word7 A) (hM : Word7 M) (hl : A.length + M.length + (e64 l).length ≤ 265) :
    urlV (mkV A M l) = .ok (dAdr (bkK A M ++ 44 :: e64 l)) ∧ rdO (dAdr (bkK A M ++ 44 :: e64 l)) = true ∧ typV (rdK (dAdr (bkK A M ++ 44 :: e64 l))) = ⟨A, M, []⟩ ∧ rdB (dAdr (bkK A M ++ 44 :: e64 l)) = l := by
  have hK : ∀ c ∈ bkK A M, adC c = true ∧ c ≠ 44 := fun c hc => by
    rcases List.mem_append.1 hc with hc | hc
    · have := word_kind hA hM c hc
      exact ⟨this.1, (pkC_facts c this.2.1).2.2.2.2.2⟩
    · have h0 : ∀ c ∈ 59 :: markB, adC c = true ∧ c ≠ 44 := by decide
      exact h0 c hc
  have hX : ∀ c ∈ bkK A M ++ 44 :: e64 l, adC c = true := fun c hc => by
    rcases List.mem_append.1 hc with hc | hc
    · exact (hK c hc).1
    · rcases List.mem_cons.1 hc with rfl | hc
      · decide
      · exact (e64_ad l c hc).1
  have hh : (bkK A M ++ 44 :: e64 l).head? ≠ some 47 := by
    cases A with
    | nil => exact absurd rfl hA.1
    | cons c A =>
      intro e
      simp [bkK] at e
      have := hA.2 c (by simp)
      rw [e] at this
      revert this
      decide
  have hlen : (bkK A M ++ 44 :: e64 l).length ≤ 290 := by simp [bkK, markB]; omega
  have hu := url_data _ hX hh hlen
  have em : mkV A M l = dataB ++ 58 :: (bkK A M ++ 44 :: e64 l) := by simp [mkV, bkK, dataB, markB]
  obtain ⟨c1, c2, c3⟩ := cut_data (bkK A M) (e64 l) (fun c hc => (adC_facts (hK c hc).1).1) (fun h => (hK 44 h).2 rfl)
  rw [unpct_id _ fun c hc => (e64_ad l c hc).2] at c2
  obtain ⟨m1, m2⟩ := bk_mark hA hM
  have hb := b64_back l
  refine ⟨by rw [em]; exact hu, ?_, ?_, ?_⟩
  · unfold rdO
    rw [txt_dAdr, c1, c2, c3]
    unfold unO
    rw [hb]
    simp
    rfl
  · unfold rdK
    rw [txt_dAdr, c1]
    unfold unK
    rw [m1, if_pos rfl, m2, word_com hA hM]
    exact (word_typ hA hM).1
  · unfold rdB
    rw [txt_dAdr, c1, c2]
    unfold unB
    rw [m1, if_pos rfl, hb]
    rfl

end Go.Proofs.YtjmkccnjjofmeaaGreatDoor

namespace Go.Proofs.YtjmkccnjjofmeaaGreatDoor
open Go.RowKit

def LtW (T : List UInt8) : Prop := ∀ c ∈ T, ltC c = true

theorem ltW_snoc {T : List UInt8} {c : UInt8} (h : LtW T) (hc : ltC c = true) : LtW (T ++ [c]) := fun d hd => by
  rcases List.mem_append.1 hd with hd | hd
  · exact h d hd
  · obtain rfl := List.mem_singleton.1 hd
    exact hc

set_option maxHeartbeats 4000000 in
set_option maxRecDepth 100000 in
theorem letters_d (s : ByteArray) (w : World) (hs : s.size ≤ 9223372036854775807) :
    Calls Tryz.prog 16 #[.string s] w fun e w' => ∃ T, e = .returned (.string ⟨T.toArray⟩) ∧ LtW T ∧ T.length ≤ 10 ∧ w = w' := by
  go_enter Tryz.func16, Tryz.ntmps16
  go_wp2
  go_loop [3, 4] (fun o i => ∃ (k : Nat) (T : List UInt8), k ≤ s.size ∧ i = .int .i64 k ∧ o = .string ⟨T.toArray⟩ ∧ LtW T ∧ T.length ≤ 10) (fun o i => s.size - (intOf i).toNat)
  case atStart => exact ⟨0, [], Nat.zero_le _, rfl, rfl, fun c hc => by simp at hc, by decide⟩
  case round =>
    obtain ⟨k, T, hk, rfl, rfl, hT, hTl⟩ := hrel
    have HT := hid hT
    clear hT
    by_cases hlt : k < s.size
    · have hlt' : (k : Int) < (s.size : Int) := by omega
      have HW := hid (word_app s k hlt T)
      by_cases h12 : T.length < 10
      · have h12' : (T.length : Int) < 10 := by omega
        have hb := s[k].toNat_lt
        have HN : Hid (ltC s[k] = true → LtW (T ++ [s[k]])) := fun h => ltW_snoc HT.out h
        have hwk : k + 1 ≤ s.size := by omega
        by_cases ha : 97 ≤ s[k].toNat
        · have ha1 : decide ((97 : Int) ≤ (s[k].toNat : Int)) = true := by rw [decide_eq_true_iff]; omega
          have h48 : decide ((48 : Int) ≤ (s[k].toNat : Int)) = true := by rw [decide_eq_true_iff]; omega
          have h57 : decide ((s[k].toNat : Int) ≤ 57) = false := by rw [decide_eq_false_iff_not]; omega
          have h45 : ((s[k].toNat : Int) == 45) = false := by rw [beq_eq_false_iff_ne]; omega
          by_cases hz : s[k].toNat ≤ 122
          · have hz1 : decide ((s[k].toNat : Int) ≤ 122) = true := by rw [decide_eq_true_iff]; omega
            have HN2 := hid (HN.out (by unfold ltC; simp [ha, hz]))
            go_wp2
            go_round
            case rel => exact ⟨k + 1, T ++ [s[k]], by omega, by go_num, by rw [HW.out], HN2.out, by simp; omega⟩
            case measure => simp [intOf]; omega
          · have hz1 : decide ((s[k].toNat : Int) ≤ 122) = false := by rw [decide_eq_false_iff_not]; omega
            go_wp2
            go_round
            case rel => exact ⟨k + 1, T, by omega, by go_num, rfl, HT.out, hTl⟩
            case measure => simp [intOf]; omega
        · have ha1 : decide ((97 : Int) ≤ (s[k].toNat : Int)) = false := by rw [decide_eq_false_iff_not]; omega
          by_cases h4 : 48 ≤ s[k].toNat
          · have h48 : decide ((48 : Int) ≤ (s[k].toNat : Int)) = true := by rw [decide_eq_true_iff]; omega
            have h45 : ((s[k].toNat : Int) == 45) = false := by rw [beq_eq_false_iff_ne]; omega
            by_cases h5 : s[k].toNat ≤ 57
            · have h57 : decide ((s[k].toNat : Int) ≤ 57) = true := by rw [decide_eq_true_iff]; omega
              have HN2 := hid (HN.out (by unfold ltC; simp [h4, h5]))
              go_wp2
              go_round
              case rel => exact ⟨k + 1, T ++ [s[k]], by omega, by go_num, by rw [HW.out], HN2.out, by simp; omega⟩
              case measure => simp [intOf]; omega
            · have h57 : decide ((s[k].toNat : Int) ≤ 57) = false := by rw [decide_eq_false_iff_not]; omega
              go_wp2
              go_round
              case rel => exact ⟨k + 1, T, by omega, by go_num, rfl, HT.out, hTl⟩
              case measure => simp [intOf]; omega
          · have h48 : decide ((48 : Int) ≤ (s[k].toNat : Int)) = false := by rw [decide_eq_false_iff_not]; omega
            by_cases h6 : s[k].toNat = 45
            · have h45 : ((s[k].toNat : Int) == 45) = true := by rw [beq_iff_eq]; omega
              have HN2 := hid (HN.out (by
                have : s[k] = 45 := UInt8.toNat_inj.1 h6
                rw [this]; decide))
              go_wp2
              go_round
              case rel => exact ⟨k + 1, T ++ [s[k]], by omega, by go_num, by rw [HW.out], HN2.out, by simp; omega⟩
              case measure => simp [intOf]; omega
            · have h45 : ((s[k].toNat : Int) == 45) = false := by rw [beq_eq_false_iff_ne]; omega
              go_wp2
              go_round
              case rel => exact ⟨k + 1, T, by omega, by go_num, rfl, HT.out, hTl⟩
              case measure => simp [intOf]; omega
      · go_wp2
        go_ret
        exact ⟨T, rfl, HT.out, hTl, rfl⟩
    · have hlt' : decide ((k : Int) < (s.size : Int)) = false := by rw [decide_eq_false_iff_not]; omega
      go_wp2
      go_ret
      exact ⟨T, rfl, HT.out, hTl, rfl⟩

end Go.Proofs.YtjmkccnjjofmeaaGreatDoor

namespace Go.Proofs.YtjmkccnjjofmeaaGreatDoor
open Go.RowKit

theorem e64_tight (l : List UInt8) : 3 * (e64 l).length ≤ 4 * (l.length + 2) := by
  have key : ∀ (n : Nat) (l : List UInt8), l.length ≤ n → 3 * (e64 l).length ≤ 4 * (l.length + 2) := by
    intro n
    induction n with
    | zero => intro l h; obtain rfl := List.eq_nil_of_length_eq_zero (show l.length = 0 by omega); simp [e64]
    | succ n ih =>
      intro l h
      match l, h with
      | [], _ => simp [e64]
      | [a], _ => simp [e64]
      | [a, b], _ => simp [e64]
      | a :: b :: c :: r, h =>
        have := ih r (by simp at h; omega)
        simp only [e64, List.length_cons, List.length_append, List.length_nil]
        omega
  exact key _ l (Nat.le_refl _)

theorem own_nought {w : World} {B k : Nat} {e : TypeId} {v : Value} {xs : List Value} (h : w.ownsRow B e k v 0 xs) : ∃ a c, v = .slice a 0 c := by
  rcases h.2 with ⟨hv, _⟩ | ⟨g, cap, cur, hv, _⟩
  · exact ⟨_, _, hv⟩
  · exact ⟨_, _, hv⟩

set_option maxHeartbeats 4000000 in
set_option maxRecDepth 100000 in
theorem dataBack_walk (ma mi : ByteArray) (q0 : Option Addr) (len0 cap0 : Nat) (z0 : List Int) (w : World) (hma : ma.size ≤ 140737488351232) (hmi : mi.size ≤ 140737488351232) (w0 : IsRow .u8 w q0 len0 cap0 z0) (hg : Gd w) (hG : G5 w) :
    Calls Tryz.prog 5 #[.string ma, .string mi, .slice q0 len0 cap0] w fun e w' => e = .returned (.bool true) ∧ Below w.heap.size w w' := by
  obtain ⟨l0, hl0, hS0, hc0, hm0⟩ := w0.bytes
  have Hg := hid hg
  have HG := hid hG
  have HL1 := hid (fun w => letters_d ma w (by omega))
  have HL2 := hid (fun w => letters_d mi w (by omega))
  clear w0 hg hG
  go_enter Tryz.func5, Tryz.ntmps5
  go_wp2_with fail
  refine (fewBytes_any q0 len0 cap0 180 l0 w hl0 hS0 hc0 hm0 (by decide)).mono ?_
  rintro e w1 ⟨len, hlen, hlc, rfl, hS, rfl⟩
  obtain ⟨l, hl⟩ : ∃ l, l = l0.take 180 := ⟨_, rfl⟩
  rw [← hl] at hS hlen
  have hll : l.length ≤ 180 := by rw [hl]; simp; omega
  have HS := hid hS
  have HLen := hid hlen
  have HLL := hid hll
  have HLc := hid hlc
  have HM := hid hm0
  clear hl hS0 hl0 hS hlen hll hlc hm0 hc0
  go_wp2_with fail
  refine (HL1.out _).mono ?_
  rintro e w' ⟨T1, rfl, hT1, hT1l, rfl⟩
  have hq1 : ((⟨T1.toArray⟩ : ByteArray)).size ≤ 10 := by rw [Lib.size_eq]; exact hT1l
  go_wp2_with fail
  refine (HL2.out _).mono ?_
  rintro e w' ⟨T2, rfl, hT2, hT2l, rfl⟩
  have hq2 : ((⟨T2.toArray⟩ : ByteArray)).size ≤ 10 := by rw [Lib.size_eq]; exact hT2l
  obtain ⟨A, hA⟩ : ∃ A : ByteArray, (⟨#[120]⟩ : ByteArray) ++ ⟨T1.toArray⟩ = A := ⟨_, rfl⟩
  obtain ⟨M, hM⟩ : ∃ A : ByteArray, (⟨#[121]⟩ : ByteArray) ++ ⟨T2.toArray⟩ = A := ⟨_, rfl⟩
  have hAl : A.data.toList = 120 :: T1 := by rw [← hA]; simp
  have hMl : M.data.toList = 121 :: T2 := by rw [← hM]; simp
  have WA : Word7 A.data.toList := by
    rw [hAl]; exact ⟨by simp, fun c hc => by rcases List.mem_cons.1 hc with rfl | hc; exact (by decide); exact hT1 c hc⟩
  have WM : Word7 M.data.toList := by
    rw [hMl]; exact ⟨by simp, fun c hc => by rcases List.mem_cons.1 hc with rfl | hc; exact (by decide); exact hT2 c hc⟩
  have hAs : A.size ≤ 11 := by rw [Lib.size_eq, hAl]; simp; omega
  have hMs : M.size ≤ 11 := by rw [Lib.size_eq, hMl]; simp; omega
  obtain ⟨k1, k2, k3, k4⟩ := back_data (l := l) WA WM (by have := e64_tight l; have := HLL.out; rw [← Lib.size_eq, ← Lib.size_eq]; omega)
  obtain ⟨u, hu⟩ : ∃ u, dAdr (bkK A.data.toList M.data.toList ++ 44 :: e64 l) = u := ⟨_, rfl⟩
  rw [hu] at k1 k2 k3 k4
  obtain ⟨X, hX⟩ : ∃ X, ba (mkV A.data.toList M.data.toList l) = X := ⟨_, rfl⟩
  have hXl : urlV X.data.toList = .ok u := by rw [← hX]; exact k1
  have hXs : X.size ≤ 1000 := by
    rw [← hX, ba_size]
    have h1 := e64_le l
    have h2 := HLL.out
    simp only [mkV, List.length_append, List.length_cons, List.length_nil]
    rw [← Lib.size_eq, ← Lib.size_eq]
    omega
  have HMk : Hid (∀ w, G5 w → SlB w (.slice q0 len cap0) l → Calls Tryz.prog 9 #[.agg #[.string A, .string M, .slice none 0 0], .slice q0 len cap0] w fun e w' => e = .returned (.string X) ∧ Below w.heap.size w w') := fun w hG hv => by
    rw [← hX]
    exact make_d A M q0 len cap0 l w hG (fun c hc => (lt_facts (WA.2 c hc)).2.1) (fun c hc => (lt_facts (WM.2 c hc)).2.1) (by omega) (by omega) hv HLc.out HM.out (by have := HLL.out; omega)
  have HUr : Hid (∀ w, Calls Tryz.prog 12 #[.string X] w (UPost (.ok u) w)) := fun w => by
    have := url_k X w (by omega)
    rw [hXl] at this
    exact this
  have hfi := parse_fine (s := X.data.toList.take 300) (u := u) hXl
  have HRd := hid (fun pv w hg hG hp => read_d u pv w hg hG hfi hp)
  have HK2 := hid k2
  have HK3 := hid k3
  have HK4 := hid k4
  have hb0 : Below w.heap.size w (w.alloc (.cells #[.string A, .string M, .slice none 0 0] 26)) := (Below.refl _ _).alloc (Nat.le_refl _) _
  have h7 : Tri (w.alloc (.cells #[.string A, .string M, .slice none 0 0] 26)) w.heap.size A M (.slice none 0 0) := heap_alloc_new _ _
  have HB0 := hid hb0
  have H7 := hid h7
  clear k1 k2 k3 k4 hu hX hXl WA WM hAl hMl hT1 hT2 hfi hb0 h7 hAs hMs
  go_wp2_with fail
  refine (HMk.out _ (HG.out.kept HB0.out) (HS.out.kept HB0.out)).mono ?_
  rintro e w2 ⟨rfl, hb2⟩
  have HB2 := hid (below2 HB0.out hb2)
  have H72 := hid (H7.out.kept hb2)
  clear hb2
  go_wp2_with fail
  refine (HUr.out _).mono ?_
  rintro e w3 ⟨pv, rfl, hown, hb3⟩
  simp only [adrOf, isOk] at *
  have HB3 := hid (below2 HB2.out hb3)
  have H73 := hid (H72.out.kept hb3)
  have hsl := own_sl hown
  have hpa := own_path hown
  obtain ⟨a0, n0, c0, rfl⟩ := hsl
  obtain ⟨s0, s1, s2, s3, b4, i5, b6, s8, s9, b10, b11, hx⟩ : ∃ s0 s1 s2 s3 b4 i5 b6 s8 s9 b10 b11, adrCells u (.slice a0 n0 c0) = [.string s0, .string s1, .string s2, .string s3, .bool b4, .int .i64 i5, .bool b6, .slice a0 n0 c0, .string s8, .string s9, .bool b10, .bool b11] := ⟨_, _, _, _, _, _, _, _, _, _, _, rfl⟩
  have hva : adrVal u (.slice a0 n0 c0) = .agg #[.string s0, .string s1, .string s2, .string s3, .bool b4, .int .i64 i5, .bool b6, .slice a0 n0 c0, .string s8, .string s9, .bool b10, .bool b11] := by unfold adrVal; rw [hx]
  have hb4 : Below w3.heap.size w3 (w3.alloc (.cells #[.string s0, .string s1, .string s2, .string s3, .bool b4, .int .i64 i5, .bool b6, .slice a0 n0 c0, .string s8, .string s9, .bool b10, .bool b11] 32)) := (Below.refl _ _).alloc (Nat.le_refl _) _
  have HB4 := hid (below2 HB3.out hb4)
  have H74 := hid (H73.out.kept hb4)
  have HPa := hid (hpa.kept hb4)
  have HRd2 := hid (fun w hg hG hp => HRd.out (.slice a0 n0 c0) w hg hG hp)
  rw [hva] at HRd2
  rw [hva]
  clear hva hx hpa hb4 hown hb3 HRd
  go_wp2_with fail
  refine (HRd2.out _ (Hg.out.kept HB4.out) (HG.out.kept HB4.out) HPa.out).mono ?_
  rintro e w5 ⟨hb5, ⟨ho, rfl⟩ | ⟨ho, v, sl, rfl, hown, hnew⟩⟩
  · rw [HK2.out] at ho; cases ho
  · rw [HK3.out] at hown ⊢
    rw [HK4.out] at hnew
    have HB5 := hid (below2 HB4.out hb5)
    have H75 := hid (H74.out.kept hb5)
    obtain ⟨v1, v3, rfl⟩ := own_nought (show w5.ownsRow _ 43 2 v 0 _ from hown)
    have HN := hid hnew.sl
    obtain ⟨g, cap, rfl, hgb, hgc, hgm, hgr⟩ := hnew
    unfold knVal
    simp only [mba_self]
    have h6 : Tri (w5.alloc (.cells #[.string A, .string M, .slice v1 0 v3] 26)) w5.heap.size A M (.slice v1 0 v3) := heap_alloc_new _ _
    have hb6 : Below w5.heap.size w5 (w5.alloc (.cells #[.string A, .string M, .slice v1 0 v3] 26)) := (Below.refl _ _).alloc (Nat.le_refl _) _
    have HB6 := hid (below2 HB5.out hb6)
    have h76 := H75.out.kept hb6
    have HN6 := hid (HN.out.kept hb6)
    have HS6 := hid (HS.out.kept HB6.out)
    have HLe := hid HLen.out
    clear hb5 ho hown hgb hgc hgm hgr
    have HSm := hid (same_any (some ⟨g, 0, none⟩) q0 l.length len cap cap0 l l _ HN6.out HS6.out (by have := HLL.out; omega) (by have := HLL.out; omega))
    rw [show (l == l) = true from beq_self_eq_true l] at HSm
    have H6 := hid h6
    have H76 := hid h76
    clear h6 h76 hb6
    go_wp2_with fail
    refine HSm.out.mono ?_
    rintro e w7 ⟨rfl, hb7⟩
    have HB7 := hid (below2 HB6.out hb7)
    obtain ⟨c0', c1', c2'⟩ := (H6.out.kept hb7).cells
    obtain ⟨d0', d1', d2'⟩ := (H76.out.kept hb7).cells
    clear hb7 HSm
    have HKn := hid (known_d w7 (Hg.out.kept HB7.out) (HG.out.kept HB7.out))
    go_wp2_with fail
    refine HKn.out.mono ?_
    rintro e w8 ⟨rfl, hb8⟩
    have HB8 := hid (below2 HB7.out hb8)
    clear hb8
    go_wp2_with fail
    go_ret
    exact ⟨rfl, HB8.out⟩

end Go.Proofs.YtjmkccnjjofmeaaGreatDoor
