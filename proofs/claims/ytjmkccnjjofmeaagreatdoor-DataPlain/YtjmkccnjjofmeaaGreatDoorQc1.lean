/-
  Walks and plain facts that this claim leans on, put together out of 4 texts: Xg, Do, Dp, Dr.
-/
import Derived.Test.YtjmkccnjjofmeaaGreatDoorProg
import Derived.Test.YtjmkccnjjofmeaaGreatDoorQa1
import Derived.Test.YtjmkccnjjofmeaaGreatDoorQa2
import Derived.Test.YtjmkccnjjofmeaaGreatDoorQa3
import Derived.Test.YtjmkccnjjofmeaaGreatDoorQa4
import Derived.Test.YtjmkccnjjofmeaaGreatDoorQa5
import Derived.Test.YtjmkccnjjofmeaaGreatDoorQa6
import Derived.Test.YtjmkccnjjofmeaaGreatDoorQa7
import Derived.Test.YtjmkccnjjofmeaaGreatDoorQa8
import Derived.Test.YtjmkccnjjofmeaaGreatDoorQa9
import Derived.Test.YtjmkccnjjofmeaaGreatDoorQa10
import Derived.Test.YtjmkccnjjofmeaaGreatDoorQa11
import Derived.Test.YtjmkccnjjofmeaaGreatDoorQa12
import Derived.Test.YtjmkccnjjofmeaaGreatDoorQa13
import Derived.Test.YtjmkccnjjofmeaaGreatDoorQa14
import Derived.Test.YtjmkccnjjofmeaaGreatDoorQa15
import Derived.Test.YtjmkccnjjofmeaaGreatDoorQa16
import Derived.Test.YtjmkccnjjofmeaaGreatDoorQa17
import Derived.Test.YtjmkccnjjofmeaaGreatDoorQa18
import Derived.Test.YtjmkccnjjofmeaaGreatDoorQa19
import Derived.Test.YtjmkccnjjofmeaaGreatDoorQa20
import Derived.Test.YtjmkccnjjofmeaaGreatDoorQa21
import Derived.Test.YtjmkccnjjofmeaaGreatDoorQa22
import Derived.Test.YtjmkccnjjofmeaaGreatDoorQa23
import Derived.Test.YtjmkccnjjofmeaaGreatDoorQa24
import Derived.Test.YtjmkccnjjofmeaaGreatDoorQa25
import Derived.Test.YtjmkccnjjofmeaaGreatDoorQa26
import Derived.Test.YtjmkccnjjofmeaaGreatDoorQa27
import Derived.Test.YtjmkccnjjofmeaaGreatDoorQa28
import Derived.WalkKit
import Derived.WalkSpells
import Derived.WalkLawsBesides
import Derived.Lib.BufferMore
import Derived.Deep.QuietTactic
import Derived.BigQuiet
import Derived.Lib.Strings
import Derived.Lib.UnsafeStr
import Derived.Laws.IdiomStrings
import Derived.Laws.AppendOwn
import Derived.Laws.BitsAllLaws
import Derived.Laws.OwnMore
import Derived.Below
import Derived.WalkSmall
import Derived.Lib.SmallJoins
import Derived.Lib.Bytealg
import Derived.Deep.LoopGhost
import Derived.Lib.SlTrimSet
import Derived.Lib.Join
import Derived.Lib.IndexMore
import Derived.WalkMore
import Derived.Deep.RegionHeldLaw
import Derived.LoopN
import Derived.Laws.CopyRow
import Derived.Laws.AppendOwnNone
import Derived.OwnWalk
import Derived.Deep.RegionLaw
import Derived.Deep.RegionWith
import Derived.Lib.BufferRead
import Derived.Lib.RuneBytes
import Derived.Laws.RangeAny
import Derived.Lib.AppendIntMem
import Derived.Scope
import Derived.ScopeJumps
import Derived.Deep.RegionHeld
import Derived.RegionTactic
import Derived.BigRegion
import Derived.Lib.FrozenHead2
import Derived.Lib.OthersKept
import Derived.Lib.Builder
import Derived.Lib.LastIndexByte
import Derived.Laws.Runes
import Derived.Lib.DecodeN
import Derived.Deep.WholeRow
import Derived.Maps.OwnSet
import Derived.Maps.OwnOps
import Derived.Maps.AppendAt
import Derived.StringKeys
import Derived.Shelf.Strings.Builder1
import Derived.Shelf.Strings.Builder2
import Derived.Shelf.Strings.OnBuilder
import Derived.Shelf.Strings.Trim
import Derived.Shelf.Small.Utf8
import Derived.Shelf.Small.Strs
import Derived.Shelf.Small.Wraps
import Derived.Shelf.Strings.BuilderF
import Derived.Shelf.Strings.BuilderK
import Derived.Shelf.Strings.Builder2Cap
import Derived.Shelf.Strconv.Itoa0
import Derived.Shelf.Strconv.Itoa1
import Derived.Shelf.LaysM
import Derived.Shelf.Strconv.Itoa2
import Derived.Shelf.Strconv.Itoa3
import Derived.Shelf.Strings.Search1
import Derived.Shelf.Strings.Search2
import Derived.Shelf.Strings.Search3
import Derived.Shelf.Strings.Cut
import Derived.Shelf.Strings.Count
import Derived.Shelf.Strings.Shaped
import Derived.Shelf.Strings.Prefix
import Derived.Shelf.Strings.Split
import Derived.Shelf.Strings.Replace
import Derived.Shelf.Strings.Runes
import Derived.Shelf.Strings.IndexAny
import Derived.Shelf.Strings.AsciiSet
import Derived.Shelf.Strings.IndexAnyAll
import Derived.Shelf.Unicode.DecodeSlow
import Derived.Lib.IndexAny
import Derived.Lib.Replace
import Derived.Lib.TrimByte
import Derived.Lib.ItoaNum
import Derived.Deep.MidRow
import Derived.Shelf.Strings.SlTrimAscii
import Derived.Laws.CopyOwn
import Derived.Laws.ResultCell
import Derived.Lib.AppendStr
import Derived.Laws.BytesString
import Derived.Deep.Cut
set_option linter.unusedSimpArgs false
set_option linter.unusedVariables false

namespace Go.Proofs.YtjmkccnjjofmeaaGreatDoor
open Go.RowKit

theorem word_app (s : ByteArray) (k : Nat) (h : k < s.size) (T : List UInt8) : (⟨T.toArray⟩ : ByteArray) ++ s.extract k (k + 1) = ⟨(T ++ [s[k]]).toArray⟩ := by
  refine xext ?_
  rw [ByteArray.data_append, Array.toList_append, Lib.extract_data, show k + 1 - k = 1 by omega, drop_cons s k h]
  rfl

end Go.Proofs.YtjmkccnjjofmeaaGreatDoor

namespace Go.Proofs.YtjmkccnjjofmeaaGreatDoor
/-- A byte that stands for itself in an address' text. -/
def adC (c : UInt8) : Bool := decide (33 ≤ c.toNat) && (decide (c.toNat ≤ 126) && (c != 35 && c != 63))

theorem adC_facts {c : UInt8} (h : adC c = true) : 33 ≤ c.toNat ∧ c.toNat ≤ 126 ∧ c ≠ 35 ∧ c ≠ 63 := by
  unfold adC at h
  simpa [Bool.and_eq_true] using h

def dAdr (X : List UInt8) : Adr := ⟨dataB, [], [], [], false, -1, true, [X], [], [], false, false⟩

theorem drop_no (p : UInt8 → Bool) (l : List UInt8) (h : ∀ c ∈ l, p c = false) : l.dropWhile p = l := by
  cases l with
  | nil => rfl
  | cons c l => rw [List.dropWhile_cons, h c (by simp)]; rfl

theorem clean_id (l : List UInt8) (h : ∀ c ∈ l, 33 ≤ c.toNat) : cleanV l = l := by
  have hw : ∀ c ∈ l, wsC c = false := fun c hc => by unfold wsC; rw [decide_eq_false]; have := h c hc; omega
  unfold cleanV trimV
  rw [drop_no wsC l hw, drop_no wsC l.reverse (fun c hc => hw c (by simpa using hc)), List.reverse_reverse, List.filter_eq_self]
  intro c hc
  have := h c hc
  unfold eyeC
  simp only [Bool.not_eq_true', Bool.or_eq_false_iff, beq_eq_false_iff_ne]
  refine ⟨?_, ?_, ?_⟩ <;> (intro e; subst e; revert this; decide)

theorem take_yes (p : UInt8 → Bool) (l : List UInt8) (h : ∀ c ∈ l, p c = true) : l.takeWhile p = l := by
  induction l with
  | nil => rfl
  | cons c l ih => rw [List.takeWhile_cons, h c (by simp), if_pos rfl, ih fun d hd => h d (by simp [hd])]

theorem drop_yes (p : UInt8 → Bool) (l : List UInt8) (h : ∀ c ∈ l, p c = true) : l.dropWhile p = [] := by
  induction l with
  | nil => rfl
  | cons c l ih => rw [List.dropWhile_cons, h c (by simp), if_pos rfl, ih fun d hd => h d (by simp [hd])]

theorem ahead_none (l : List UInt8) (h : ∀ c ∈ l, c ≠ 63) : aheadV [63] l = (l, []) := by
  have key : ∀ c ∈ l, (!([63] : List UInt8).contains c) = true := fun c hc => by simp [h c hc]
  unfold aheadV
  rw [take_yes _ l key]
  rw [drop_yes _ l key]

theorem url_data (X : List UInt8) (h : ∀ c ∈ X, adC c = true) (h0 : X.head? ≠ some 47) (hl : X.length ≤ 290) : urlV (dataB ++ 58 :: X) = .ok (dAdr X) := by
  have hd0 : ∀ c ∈ dataB, adC c = true := by decide
  have hall : ∀ c ∈ dataB ++ 58 :: X, adC c = true := fun c hc => by
    rcases List.mem_append.1 hc with hc | hc
    · exact hd0 c hc
    · rcases List.mem_cons.1 hc with rfl | hc
      · decide
      · exact h c hc
  have hlen : (dataB ++ 58 :: X).length ≤ 300 := by simp [dataB]; omega
  unfold urlV
  rw [List.take_of_length_le hlen]
  have hcl := clean_id (dataB ++ 58 :: X) (fun c hc => (adC_facts (hall c hc)).1)
  have hp35 : part 35 (dataB ++ 58 :: X) = (dataB ++ 58 :: X, [], false) := part_none 35 _ (fun hm => (adC_facts (hall 35 hm)).2.2.1 rfl)
  have hp58 : part 58 (dataB ++ 58 :: X) = (dataB, X, true) := part_some 58 dataB X (by decide)
  have hsch : schemeV (dataB ++ 58 :: X) = some (dataB, X) := by
    unfold schemeV
    rw [hp58]
    rw [show (schOk (dataB, X, true).1) = true from (by decide : schOk dataB = true), show low (dataB, X, true).1 = dataB from (by decide : low dataB = dataB)]
    rfl
  have hbe : beginU (dataB ++ 58 :: X) = (⟨dataB, [], [], [], false, -1, false, [], [], [], false, false⟩, X) := by
    unfold beginU
    simp only [hcl, hp35, hsch, Option.getD_some]
    rfl
  have hpct : pct 1 X = X := pct_none 1 X fun d hd => set1_out d (by have := adC_facts (h d hd); omega) (adC_facts (h d hd)).2.1
  have hah := ahead_none X fun c hc => (adC_facts (h c hc)).2.2.2
  have hs1 : Lib.hasPrefix X [47, 47] = false := by
    cases X with
    | nil => rfl
    | cons c r => simp at h0; simp [Lib.hasPrefix, List.isPrefixOf]; intro e; exact absurd e.symm h0
  have hs2 : Lib.hasPrefix X [47] = false := by
    cases X with
    | nil => rfl
    | cons c r => simp at h0; simp [Lib.hasPrefix, List.isPrefixOf]; intro e; exact absurd e.symm h0
  unfold readV
  rw [if_neg (by omega), hbe]
  simp only
  rw [if_neg (by decide)]
  unfold startV
  simp only
  rw [show specV dataB = false from by decide, hs1, hs2, hah, hpct]
  simp [withQuery, dAdr]

theorem txt_dAdr (X : List UInt8) : txtD (dAdr X) = X := by
  unfold txtD bareV authT pathT dAdr
  simp [Lib.trimPrefix, Lib.hasPrefix, dataB]

theorem strip_id (K : List UInt8) (h : ∀ c ∈ K, 33 ≤ c.toNat) : strip K = K := by
  have hb : ∀ c ∈ K, blC c = false := fun c hc => by
    have := h c hc
    unfold blC blankI
    simp only [Bool.or_eq_false_iff, beq_eq_false_iff_ne]
    refine ⟨?_, ?_, ?_, ?_, ?_⟩ <;> omega
  unfold strip
  rw [drop_no blC K hb, drop_no blC K.reverse (fun c hc => hb c (by simpa using hc)), List.reverse_reverse]

theorem cut_data (K S : List UInt8) (h : ∀ c ∈ K, 33 ≤ c.toNat) (h44 : 44 ∉ K) : cutK (K ++ 44 :: S) = K ∧ cutD (K ++ 44 :: S) = unpct S ∧ cutO (K ++ 44 :: S) = true := by
  unfold cutK cutD cutO
  rw [part_some 44 K S h44]
  exact ⟨strip_id K h, rfl, rfl⟩

/-- The address of a kind K and a text S is read as that. -/
theorem lr_data (K S : List UInt8) (hK : ∀ c ∈ K, adC c = true) (hS : ∀ c ∈ S, adC c = true) (h44 : 44 ∉ K) (h0 : K.head? ≠ some 47) (hl : K.length + S.length ≤ 280) (hO : unO K (unpct S) = true) :
    lrV (dataB ++ 58 :: (K ++ 44 :: S)) = txtV (typV (comK (unK K))) ++ 124 :: unB K (unpct S) := by
  have hX : ∀ c ∈ K ++ 44 :: S, adC c = true := fun c hc => by
    rcases List.mem_append.1 hc with hc | hc
    · exact hK c hc
    · rcases List.mem_cons.1 hc with rfl | hc
      · decide
      · exact hS c hc
  have hh : (K ++ 44 :: S).head? ≠ some 47 := by
    cases K with
    | nil => simp
    | cons c K => simpa using h0
  obtain ⟨c1, c2, c3⟩ := cut_data K S (fun c hc => (adC_facts (hK c hc)).1) h44
  have hu := url_data (K ++ 44 :: S) hX hh (by simp; omega)
  unfold lrV
  rw [hu]
  simp only
  have ho : rdO (dAdr (K ++ 44 :: S)) = true := by
    unfold rdO
    rw [txt_dAdr, c1, c2, c3, hO]
    rfl
  rw [ho, if_pos rfl]
  unfold rdK rdB
  rw [txt_dAdr, c1, c2]

/-- Letters, digits and '-'. -/
def ltC (c : UInt8) : Bool := (decide (97 ≤ c.toNat) && decide (c.toNat ≤ 122)) || ((decide (48 ≤ c.toNat) && decide (c.toNat ≤ 57)) || c == 45)

theorem lt_all : ((List.range 256).all fun n => !ltC (UInt8.ofNat n) || (adC (UInt8.ofNat n) && (pkC (UInt8.ofNat n) && (tokC (UInt8.ofNat n) && (lowC (UInt8.ofNat n) == UInt8.ofNat n && (UInt8.ofNat n != 59 && UInt8.ofNat n != 32)))))) = true := by decide +kernel

theorem lt_facts {c : UInt8} (h : ltC c = true) : adC c = true ∧ pkC c = true ∧ tokC c = true ∧ lowC c = c ∧ c ≠ 59 ∧ c ≠ 32 := by
  have := byte_all (p := fun c => !ltC c || (adC c && (pkC c && (tokC c && (lowC c == c && (c != 59 && c != 32)))))) lt_all c
  simp only [h, Bool.not_true, Bool.false_or, Bool.and_eq_true, beq_iff_eq, bne_iff_ne] at this
  exact ⟨this.1, this.2.1, this.2.2.1, this.2.2.2.1, this.2.2.2.2.1, this.2.2.2.2.2⟩

/-- A word: a letter, and letters, digits and '-' behind it. -/
def Word7 (A : List UInt8) : Prop := A ≠ [] ∧ ∀ c ∈ A, ltC c = true

theorem word_good {A M : List UInt8} (hA : Word7 A) (hM : Word7 M) : GoodK ⟨A, M, []⟩ := by
  have key : ∀ {A : List UInt8}, Word7 A → tokL A = true ∧ low A = A := fun {A} hA => by
    refine ⟨tokL_of (fun c hc => (lt_facts (hA.2 c hc)).2.2.1) hA.1, ?_⟩
    unfold low
    have h := hA.2
    generalize A = l at h
    induction l with
    | nil => rfl
    | cons c l ih => rw [List.map_cons, (lt_facts (h c (by simp))).2.2.2.1, ih fun d hd => h d (by simp [hd])]
  exact ⟨(key hA).1, (key hA).2, (key hM).1, (key hM).2, fun p hp => by simp at hp, List.Pairwise.nil⟩

theorem word_typ {A M : List UInt8} (hA : Word7 A) (hM : Word7 M) : typV (A ++ 47 :: M) = ⟨A, M, []⟩ ∧ txtV ⟨A, M, []⟩ = A ++ 47 :: M := by
  have e : txtV ⟨A, M, []⟩ = A ++ 47 :: M := by simp [txtV, essV]
  have h := kn_back ⟨A, M, []⟩ (word_good hA hM)
  rw [e] at h
  refine ⟨?_, e⟩
  unfold typV
  rw [h.1, if_pos rfl, h.2]

theorem word_kind {A M : List UInt8} (hA : Word7 A) (hM : Word7 M) : ∀ c ∈ A ++ 47 :: M, adC c = true ∧ pkC c = true ∧ c ≠ 59 ∧ c ≠ 32 := fun c hc => by
  have key : ∀ {A : List UInt8}, Word7 A → ∀ c ∈ A, adC c = true ∧ pkC c = true ∧ c ≠ 59 ∧ c ≠ 32 := fun {A} hA c hc => by
    have := lt_facts (hA.2 c hc)
    exact ⟨this.1, this.2.1, this.2.2.2.2.1, this.2.2.2.2.2⟩
  rcases List.mem_append.1 hc with hc | hc
  · exact key hA c hc
  · rcases List.mem_cons.1 hc with rfl | hc
    · exact ⟨by decide, by decide, by decide, by decide⟩
    · exact key hM c hc

theorem word_com {A M : List UInt8} (hA : Word7 A) (hM : Word7 M) : comK (A ++ 47 :: M) = A ++ 47 :: M := by
  unfold comK
  rw [if_neg]
  cases A with
  | nil => exact absurd rfl hA.1
  | cons c A =>
    have := (lt_facts (hA.2 c (by simp))).2.2.2.2.1
    simp [Lib.hasPrefix, List.isPrefixOf]
    exact fun e => this e.symm

end Go.Proofs.YtjmkccnjjofmeaaGreatDoor

namespace Go.Proofs.YtjmkccnjjofmeaaGreatDoor
open Go.RowKit

def LtW (T : List UInt8) : Prop := ∀ c ∈ T, ltC c = true

theorem ltW_snoc {T : List UInt8} {c : UInt8} (h : LtW T) (hc : ltC c = true) : LtW (T ++ [c]) := fun d hd => by
  rcases List.mem_append.1 hd with hd | hd
  · exact h d hd
  · obtain rfl := List.mem_singleton.1 hd
    exact hc

set_option maxHeartbeats 4000000 in
set_option maxRecDepth 100000 in
theorem letters_d (s : ByteArray) (w : World) (hs : s.size ≤ 9223372036854775807) :
    Calls Tryz.prog 16 #[.string s] w fun e w' => ∃ T, e = .returned (.string ⟨T.toArray⟩) ∧ LtW T ∧ T.length ≤ 10 ∧ w = w' := by
  go_enter Tryz.func16, Tryz.ntmps16
  go_wp2
  go_loop [3, 4] (fun o i => ∃ (k : Nat) (T : List UInt8), k ≤ s.size ∧ i = .int .i64 k ∧ o = .string ⟨T.toArray⟩ ∧ LtW T ∧ T.length ≤ 10) (fun o i => s.size - (intOf i).toNat)
  case atStart => exact ⟨0, [], Nat.zero_le _, rfl, rfl, fun c hc => by simp at hc, by decide⟩
  case round =>
    obtain ⟨k, T, hk, rfl, rfl, hT, hTl⟩ := hrel
    have HT := hid hT
    clear hT
    by_cases hlt : k < s.size
    · have hlt' : (k : Int) < (s.size : Int) := by omega
      have HW := hid (word_app s k hlt T)
      by_cases h12 : T.length < 10
      · have h12' : (T.length : Int) < 10 := by omega
        have hb := s[k].toNat_lt
        have HN : Hid (ltC s[k] = true → LtW (T ++ [s[k]])) := fun h => ltW_snoc HT.out h
        have hwk : k + 1 ≤ s.size := by omega
        by_cases ha : 97 ≤ s[k].toNat
        · have ha1 : decide ((97 : Int) ≤ (s[k].toNat : Int)) = true := by rw [decide_eq_true_iff]; omega
          have h48 : decide ((48 : Int) ≤ (s[k].toNat : Int)) = true := by rw [decide_eq_true_iff]; omega
          have h57 : decide ((s[k].toNat : Int) ≤ 57) = false := by rw [decide_eq_false_iff_not]; omega
          have h45 : ((s[k].toNat : Int) == 45) = false := by rw [beq_eq_false_iff_ne]; omega
          by_cases hz : s[k].toNat ≤ 122
          · have hz1 : decide ((s[k].toNat : Int) ≤ 122) = true := by rw [decide_eq_true_iff]; omega
            have HN2 := hid (HN.out (by unfold ltC; simp [ha, hz]))
            go_wp2
            go_round
            case rel => exact ⟨k + 1, T ++ [s[k]], by omega, by go_num, by rw [HW.out], HN2.out, by simp; omega⟩
            case measure => simp [intOf]; omega
          · have hz1 : decide ((s[k].toNat : Int) ≤ 122) = false := by rw [decide_eq_false_iff_not]; omega
            go_wp2
            go_round
            case rel => exact ⟨k + 1, T, by omega, by go_num, rfl, HT.out, hTl⟩
            case measure => simp [intOf]; omega
        · have ha1 : decide ((97 : Int) ≤ (s[k].toNat : Int)) = false := by rw [decide_eq_false_iff_not]; omega
          by_cases h4 : 48 ≤ s[k].toNat
          · have h48 : decide ((48 : Int) ≤ (s[k].toNat : Int)) = true := by rw [decide_eq_true_iff]; omega
            have h45 : ((s[k].toNat : Int) == 45) = false := by rw [beq_eq_false_iff_ne]; omega
            by_cases h5 : s[k].toNat ≤ 57
            · have h57 : decide ((s[k].toNat : Int) ≤ 57) = true := by rw [decide_eq_true_iff]; omega
              have HN2 := hid (HN.out (by unfold ltC; simp [h4, h5]))
              go_wp2
              go_round
              case rel => exact ⟨k + 1, T ++ [s[k]], by omega, by go_num, by rw [HW.out], HN2.out, by simp; omega⟩
              case measure => simp [intOf]; omega
            · have h57 : decide ((s[k].toNat : Int) ≤ 57) = false := by rw [decide_eq_false_iff_not]; omega
              go_wp2
              go_round
              case rel => exact ⟨k + 1, T, by omega, by go_num, rfl, HT.out, hTl⟩
              case measure => simp [intOf]; omega
          · have h48 : decide ((48 : Int) ≤ (s[k].toNat : Int)) = false := by rw [decide_eq_false_iff_not]; omega
            by_cases h6 : s[k].toNat = 45
            · have h45 : ((s[k].toNat : Int) == 45) = true := by rw [beq_iff_eq]; omega
              have HN2 := hid (HN.out (by
                have : s[k] = 45 := UInt8.toNat_inj.1 h6
                rw [this]; decide))
              go_wp2
              go_round
              case rel => exact ⟨k + 1, T ++ [s[k]], by omega, by go_num, by rw [HW.out], HN2.out, by simp; omega⟩
              case measure => simp [intOf]; omega
            · have h45 : ((s[k].toNat : Int) == 45) = false := by rw [beq_eq_false_iff_ne]; omega
              go_wp2
              go_round
              case rel => exact ⟨k + 1, T, by omega, by go_num, rfl, HT.out, hTl⟩
              case measure => simp [intOf]; omega
      · go_wp2
        go_ret
        exact ⟨T, rfl, HT.out, hTl, rfl⟩
    · have hlt' : decide ((k : Int) < (s.size : Int)) = false := by rw [decide_eq_false_iff_not]; omega
      go_wp2
      go_ret
      exact ⟨T, rfl, HT.out, hTl, rfl⟩

end Go.Proofs.YtjmkccnjjofmeaaGreatDoor

namespace Go.Proofs.YtjmkccnjjofmeaaGreatDoor
open Go.RowKit

def lo16 (n : Nat) : UInt8 := if n < 10 then UInt8.ofNat (48 + n) else UInt8.ofNat (87 + n)

/-- A byte as a percent sign and two digits, the first a small one. -/
def pB (c : UInt8) : List UInt8 := [37, lo16 (c.toNat / 16), hexD (c.toNat % 16)]

def pcB (l : List UInt8) : List UInt8 := l.flatMap pB

theorem lo_hex : ∀ n, n < 16 → ((ByteArray.mk #[48, 49, 50, 51, 52, 53, 54, 55, 56, 57, 97, 98, 99, 100, 101, 102]).extract n (n + 1)).data.toList = [lo16 n] := by decide +kernel

theorem lo_facts : ∀ n, n < 16 → is16I (lo16 n).toNat = true ∧ val16I (lo16 n).toNat = n ∧ adC (lo16 n) = true := by decide +kernel

theorem up_facts : ∀ n, n < 16 → is16I (hexD n).toNat = true ∧ val16I (hexD n).toNat = n ∧ adC (hexD n) = true := by decide +kernel

theorem unpct_pB (c : UInt8) (r : List UInt8) : unpct (pB c ++ r) = c :: unpct r := by
  have h8 := c.toNat_lt
  have h1 := lo_facts (c.toNat / 16) (by omega)
  have h2 := up_facts (c.toNat % 16) (by omega)
  have e : pB c ++ r = 37 :: lo16 (c.toNat / 16) :: hexD (c.toNat % 16) :: r := rfl
  rw [e, unpct_cons, pcd_three, h1.1, h2.1]
  simp only [Bool.and_self, if_true, h1.2.1, h2.2.1, List.drop_succ_cons, List.drop_zero]
  congr 1
  have : (((c.toNat / 16 : Nat) : Int) * 16 + ((c.toNat % 16 : Nat) : Int)).toNat = c.toNat := by omega
  rw [this]
  exact UInt8.ofNat_toNat

theorem unpct_pcB (l : List UInt8) : unpct (pcB l) = l := by
  induction l with
  | nil => rfl
  | cons c l ih =>
    show unpct (pB c ++ pcB l) = _
    rw [unpct_pB, ih]

theorem pcB_ad (l : List UInt8) : ∀ d ∈ pcB l, adC d = true := fun d hd => by
  obtain ⟨c, _, hc⟩ := List.mem_flatMap.1 hd
  have h8 := c.toNat_lt
  have h1 := lo_facts (c.toNat / 16) (by omega)
  have h2 := up_facts (c.toNat % 16) (by omega)
  simp only [pB, List.mem_cons, List.not_mem_nil, or_false] at hc
  rcases hc with rfl | rfl | rfl
  · decide
  · exact h1.2.2
  · exact h2.2.2

theorem pcB_len (l : List UInt8) : (pcB l).length = 3 * l.length := by
  induction l with
  | nil => rfl
  | cons c l ih =>
    show (pB c ++ pcB l).length = _
    rw [List.length_append, ih, List.length_cons]
    show 3 + _ = _
    omega

theorem pcB_snoc (l : List UInt8) (c : UInt8) : pcB (l ++ [c]) = pcB l ++ pB c := by simp [pcB]

theorem suffix_mem {l : List UInt8} {c : UInt8} (h : Lib.hasSuffix l [c] = true) : c ∈ l := by
  unfold Lib.hasSuffix at h
  rw [List.isSuffixOf_iff_suffix] at h
  exact h.subset (by simp)

theorem ahead6_sub (k : List UInt8) : ∀ c ∈ ahead6 k, c ∈ k := fun c hc => by
  unfold ahead6 noBl Lib.trimRightB at hc
  rw [List.mem_reverse] at hc
  have h1 := (List.dropWhile_suffix (fun x => x == (32 : UInt8)) (l := (k.take (k.length - 6)).reverse)).subset hc
  rw [List.mem_reverse] at h1
  exact List.mem_of_mem_take h1

theorem plain_mark {K : List UInt8} (h : 59 ∉ K) : isM K = false := by
  unfold isM
  cases hs : Lib.hasSuffix (ahead6 K) [59] with
  | false => rw [Bool.and_false]
  | true => exact absurd (ahead6_sub K 59 (suffix_mem hs)) h

theorem plain_read (T l : List UInt8) (hT : LtW T) (hTl : T.length ≤ 10) (hl : l.length ≤ 80) :
    lrV (dataB ++ 58 :: (([120, 47, 121] ++ T) ++ 44 :: pcB l)) = ([120, 47, 121] ++ T) ++ 124 :: l := by
  have WA : Word7 [120] := ⟨by simp, by decide⟩
  have WM : Word7 (121 :: T) := ⟨by simp, fun c hc => by rcases List.mem_cons.1 hc with rfl | hc; exact (by decide); exact hT c hc⟩
  have eK : [120, 47, 121] ++ T = [120] ++ 47 :: (121 :: T) := rfl
  have hk := word_kind WA WM
  have hm : isM ([120] ++ 47 :: (121 :: T)) = false := plain_mark fun h => (hk 59 h).2.2.1 rfl
  rw [eK]
  rw [lr_data ([120] ++ 47 :: (121 :: T)) (pcB l) (fun c hc => (hk c hc).1) (pcB_ad l) (fun h => (pkC_facts 44 (hk 44 h).2.1).2.2.2.2.2 rfl) (by simp) (by rw [pcB_len]; simp; omega) (by unfold unO; rw [hm]; rfl)]
  unfold unK unB
  rw [hm, if_neg (by decide), if_neg (by decide), unpct_pcB, word_com WA WM, (word_typ WA WM).1, (word_typ WA WM).2]

theorem usual_read (l : List UInt8) (hl : l.length ≤ 80) :
    lrV (dataB ++ 58 :: ([] ++ 44 :: pcB l)) = [116, 101, 120, 116, 47, 112, 108, 97, 105, 110, 59, 99, 104, 97, 114, 115, 101, 116, 61, 85, 83, 45, 65, 83, 67, 73, 73] ++ 124 :: l := by
  have hm : isM [] = false := by decide
  rw [lr_data [] (pcB l) (fun c hc => by simp at hc) (pcB_ad l) (by simp) (by simp) (by rw [pcB_len]; simp; omega) (by unfold unO; rw [hm]; rfl)]
  unfold unK unB
  rw [hm, if_neg (by decide), if_neg (by decide), unpct_pcB]
  rw [show txtV (typV (comK [])) = [116, 101, 120, 116, 47, 112, 108, 97, 105, 110, 59, 99, 104, 97, 114, 115, 101, 116, 61, 85, 83, 45, 65, 83, 67, 73, 73] from by decide +kernel]

theorem pcB_app (t : ByteArray) (c : UInt8) : (t ++ ⟨#[37]⟩ ++ (ByteArray.mk #[48, 49, 50, 51, 52, 53, 54, 55, 56, 57, 97, 98, 99, 100, 101, 102]).extract (c.toNat / 16) (c.toNat / 16 + 1) ++ (ByteArray.mk #[48, 49, 50, 51, 52, 53, 54, 55, 56, 57, 65, 66, 67, 68, 69, 70]).extract (c.toNat % 16) (c.toNat % 16 + 1)).data.toList = t.data.toList ++ pB c := by
  have h8 := c.toNat_lt
  rw [ByteArray.data_append, ByteArray.data_append, ByteArray.data_append, Array.toList_append, Array.toList_append, Array.toList_append, lo_hex _ (by omega), extract_hex _ (by omega)]
  simp [pB]

set_option maxHeartbeats 2000000 in
set_option maxRecDepth 100000 in
theorem dataPlain_walk (q0 : Option Addr) (len0 cap0 : Nat) (z0 : List Int) (mi : ByteArray) (w : World) (w0 : IsRow .u8 w q0 len0 cap0 z0) (hmi : mi.size ≤ 140737488351232) (hg : Gd w) (hG : G5 w) :
    Calls Tryz.prog 7 #[.slice q0 len0 cap0, .string mi] w fun e w' => e = .returned (.bool true) ∧ Below w.heap.size w w' := by
  obtain ⟨l0, hl0, hS0, hc0, hm0⟩ := w0.bytes
  have Hg := hid hg
  have HG := hid hG
  have HL2 := hid (fun w => letters_d mi w (by omega))
  clear w0 hg hG
  go_enter Tryz.func7, Tryz.ntmps7
  go_wp2_with fail
  refine (fewBytes_any q0 len0 cap0 80 l0 w hl0 hS0 hc0 hm0 (by decide)).mono ?_
  rintro e w1 ⟨len, hlen, hlc, rfl, hS, rfl⟩
  obtain ⟨l, hl⟩ : ∃ l, l = l0.take 80 := ⟨_, rfl⟩
  rw [← hl] at hS hlen
  have hll : l.length ≤ 80 := by rw [hl]; simp; omega
  have HS := hid hS
  clear hl hS0 hl0 hS hlc hm0 hc0
  subst hlen
  go_wp2_with fail
  go_loopw [5, 6] (fun o i wr => ∃ (k : Nat) (t : ByteArray), k ≤ l.length ∧ i = .int .i64 k ∧ o = .string t ∧ t.data.toList = pcB (l.take k) ∧ Below w.heap.size w wr) (fun _ i _ => l.length - (intOf i).toNat)
  case atStart => exact ⟨0, _, Nat.zero_le _, rfl, rfl, rfl, Below.refl _ w⟩
  case round =>
    obtain ⟨k, t, hk, rfl, rfl, ht, hbw⟩ := hrel
    have hts : t.size ≤ 240 := by rw [Lib.size_eq, ht, pcB_len, List.length_take]; omega
    have HT := hid ht
    have HBw := hid hbw
    clear ht
    by_cases hlt : k < l.length
    · obtain ⟨p, hp, _, hpc⟩ := (HS.out.kept hbw).some (by omega)
      subst hp
      have c1 := hpc k hlt
      have HX := hid (List.take_succ_eq_append_getElem hlt)
      generalize l[k] = c at *
      have hlt' : (k : Int) < (l.length : Int) := by omega
      have hc8 := c.toNat_lt
      have ha := and15 c.toNat hc8
      have hsz1 : (ByteArray.mk #[48, 49, 50, 51, 52, 53, 54, 55, 56, 57, 97, 98, 99, 100, 101, 102]).size = 16 := rfl
      have hsz : (ByteArray.mk #[48, 49, 50, 51, 52, 53, 54, 55, 56, 57, 65, 66, 67, 68, 69, 70]).size = 16 := rfl
      have h1 : (c.toNat : Int) / 16 ≤ 15 := by omega
      have h2 : (c.toNat : Int) % 16 ≤ 15 := by omega
      have h3 : (0 : Int) ≤ (c.toNat : Int) / 16 := by omega
      have h4 : (0 : Int) ≤ (c.toNat : Int) % 16 := by omega
      have HP := hid (pcB_app t c)
      clear hpc hbw
      go_wp2
      go_quiet (fail)
      go_wp2
      go_roundw
      case rel =>
        refine ⟨k + 1, _, by omega, by go_num, rfl, ?_, below_drewN HBw.out _⟩
        rw [HP.out, HT.out, HX.out, pcB_snoc]
      case measure => simp [intOf]; omega
    · have hkl : k = l.length := by omega
      subst hkl
      have HT2 := hid (show t.data.toList = pcB l by rw [HT.out, List.take_length])
      have hlt' : ¬ (l.length : Int) < (l.length : Int) := by omega
      clear HT hlt hk hbw
      go_wp2_with fail
      refine (HL2.out _).mono ?_
      rintro e w' ⟨T, rfl, hT, hTl, rfl⟩
      obtain ⟨TB, hTB⟩ : ∃ X : ByteArray, ⟨T.toArray⟩ = X := ⟨_, rfl⟩
      have hTs : TB.size ≤ 10 := by rw [← hTB, Lib.size_eq]; exact hTl
      rw [hTB]
      obtain ⟨BB, hBB⟩ : ∃ X : ByteArray, ba l = X := ⟨_, rfl⟩
      have hBs : BB.size ≤ 80 := by rw [← hBB, ba_size]; exact hll
      have e1 : lrV (⟨#[100, 97, 116, 97, 58]⟩ ++ (⟨#[120, 47, 121]⟩ ++ TB) ++ ⟨#[44]⟩ ++ t : ByteArray).data.toList = (⟨#[120, 47, 121]⟩ ++ TB ++ ⟨#[124]⟩ ++ BB : ByteArray).data.toList := by
        have := plain_read T l hT hTl hll
        rw [← hTB, ← hBB]
        simp only [ByteArray.data_append, Array.toList_append, HT2.out]
        simpa [dataB, ba] using this
      have e2 : lrV (⟨#[100, 97, 116, 97, 58, 44]⟩ ++ t : ByteArray).data.toList = (⟨#[116, 101, 120, 116, 47, 112, 108, 97, 105, 110, 59, 99, 104, 97, 114, 115, 101, 116, 61, 85, 83, 45, 65, 83, 67, 73, 73, 124]⟩ ++ BB : ByteArray).data.toList := by
        have := usual_read l hll
        rw [← hBB]
        simp only [ByteArray.data_append, Array.toList_append, HT2.out]
        simpa [dataB, ba] using this
      have HR1 := hid (fun w hg hG => lread_at _ _ e1 (by simp only [ByteArray.size_append]; show 3 + _ + 1 + _ ≤ _; omega) (by simp only [ByteArray.size_append]; show 5 + (3 + _) + 1 + _ ≤ _; omega) w hg hG)
      have HR2 := hid (fun w hg hG => lread_at _ _ e2 (by simp only [ByteArray.size_append]; show 28 + _ ≤ _; omega) (by simp only [ByteArray.size_append]; show 6 + _ ≤ _; omega) w hg hG)
      have HCv : Hid (∀ X : World, Below w.heap.size w X → (convert 27 9 (.slice q0 l.length cap0)).run Tryz.prog X = .ok (.string BB) X) := fun X hX => by
        rw [← hBB]
        exact (HS.out.kept hX).string (P := Tryz.prog) Tryz.underlying27 Tryz.underlying5 Tryz.underlying9
      clear e1 e2 hT hTl hBB hTB
      go_wp2_with fail
      have HQ0 := hid (HBw.out.drew)
      refine wp_region_held_drew (S := (fun wx => Below w.heap.size w wx)) (by kernel_rfl) HQ0.out (fun hHeld => ?_)
      refine' wpAnyH_take (i := 0) (v := _) rfl (by kernel_rfl) (by kernel_rfl) (by kernel_rfl) (fun _ _ _ h => h) (Or.inl ⟨by kernel_rfl, ?hy0⟩) (by assumption) ?rest0
      case hy0 => (intro w hSw; (try dsimp only at hSw); go_simp; first | done | with_reducible rfl | (rw [if_neg (by omega)]))
      (try simp only [Act.put, List.setIfInBounds_toArray, List.set_cons_zero, List.set_cons_succ])
      refine' wpAnyH_take (i := 1) (v := _) rfl (by kernel_rfl) (by kernel_rfl) (by kernel_rfl) (fun _ _ _ h => h) (Or.inl ⟨by kernel_rfl, ?hy1⟩) (by assumption) ?rest1
      case hy1 => (intro w hSw; (try dsimp only at hSw); go_simp; first | done | with_reducible rfl | (rw [if_neg (by omega)]))
      (try simp only [Act.put, List.setIfInBounds_toArray, List.set_cons_zero, List.set_cons_succ])
      refine' wpAnyH_take (i := 2) (v := _) rfl (by kernel_rfl) (by kernel_rfl) (by kernel_rfl) (fun _ _ _ h => h) (Or.inl ⟨by kernel_rfl, ?hy2⟩) (by assumption) ?rest2
      case hy2 => (intro w hSw; (try dsimp only at hSw); go_simp; first | done | with_reducible rfl | (rw [if_neg (by omega)]))
      (try simp only [Act.put, List.setIfInBounds_toArray, List.set_cons_zero, List.set_cons_succ])
      refine' wpAnyH_take (i := 3) (v := _) rfl (by kernel_rfl) (by kernel_rfl) (by kernel_rfl) (fun _ _ _ h => h) (Or.inl ⟨by kernel_rfl, ?hy3⟩) (by assumption) ?rest3
      case hy3 => (intro w hSw; (try dsimp only at hSw); go_simp; first | done | with_reducible rfl | (rw [if_neg (by omega)]))
      (try simp only [Act.put, List.setIfInBounds_toArray, List.set_cons_zero, List.set_cons_succ])
      refine' wpAnyH_take (i := 4) (v := _) rfl (by kernel_rfl) (by kernel_rfl) (by kernel_rfl) (fun _ _ _ h => h) (Or.inl ⟨by kernel_rfl, ?hy4⟩) (by assumption) ?rest4
      case hy4 => (intro w hSw; (try dsimp only at hSw); go_simp; first | done | with_reducible rfl | (rw [if_neg (by omega)]))
      (try simp only [Act.put, List.setIfInBounds_toArray, List.set_cons_zero, List.set_cons_succ])
      refine' wpAnyH_take (i := 6) (v := _) rfl (by kernel_rfl) (by kernel_rfl) (by kernel_rfl) (fun _ _ _ h => h) (Or.inl ⟨by kernel_rfl, ?hy6⟩) (by assumption) ?rest6
      case hy6 => (intro w hSw; (try dsimp only at hSw); go_simp; first | done | with_reducible rfl | (rw [if_neg (by omega)]))
      (try simp only [Act.put, List.setIfInBounds_toArray, List.set_cons_zero, List.set_cons_succ])
      refine' wpAnyH_take (i := 7) (v := _) rfl (by kernel_rfl) (by kernel_rfl) (by kernel_rfl) (fun _ _ _ h => h) (Or.inl ⟨by kernel_rfl, ?hy7⟩) (by assumption) ?rest7
      case hy7 => (intro w hSw; (try dsimp only at hSw); go_simp; first | done | with_reducible rfl | (rw [if_neg (by omega)]))
      (try simp only [Act.put, List.setIfInBounds_toArray, List.set_cons_zero, List.set_cons_succ])
      refine' wpAnyH_take (i := 8) (v := _) rfl (by kernel_rfl) (by kernel_rfl) (by kernel_rfl) (fun _ _ _ h => h) (Or.inl ⟨by kernel_rfl, ?hy8⟩) (by assumption) ?rest8
      case hy8 => (intro w hSw; (try dsimp only at hSw); go_simp; first | done | with_reducible rfl | (rw [if_neg (by omega)]))
      (try simp only [Act.put, List.setIfInBounds_toArray, List.set_cons_zero, List.set_cons_succ])
      refine' wpAnyH_take (i := 9) (v := _) rfl (by kernel_rfl) (by kernel_rfl) (by kernel_rfl) (fun _ _ _ h => h) (Or.inl ⟨by kernel_rfl, ?hy9⟩) (by assumption) ?rest9
      case hy9 => (intro w hSw; (try dsimp only at hSw); have hcv := HCv.out w hSw; go_simp; first | done | with_reducible rfl | (rw [if_neg (by omega)]))
      (try simp only [Act.put, List.setIfInBounds_toArray, List.set_cons_zero, List.set_cons_succ])
      refine' wpAnyH_take (i := 10) (v := _) rfl (by kernel_rfl) (by kernel_rfl) (by kernel_rfl) (fun _ _ _ h => h) (Or.inl ⟨by kernel_rfl, ?hy10⟩) (by assumption) ?rest10
      case hy10 => (intro w hSw; (try dsimp only at hSw); go_simp; first | done | with_reducible rfl | (rw [if_neg (by omega)]))
      (try simp only [Act.put, List.setIfInBounds_toArray, List.set_cons_zero, List.set_cons_succ])
      refine wpAnyH_ready (rs := [5]) (by kernel_rfl) (by simp) ?_
      refine AllReadyH.cons rfl (fun K hK => ?_) AllReadyH.nil
      rw [if_pos (by kernel_rfl)]
      go_simp
      go_wp2_with (go_at_call 8; refine (HR1.out _ (Hg.out.kept HQ0.out) (HG.out.kept HQ0.out)).mono ?_; rintro e wa1 ⟨rfl, hwa1⟩)
      have HQ1 := hid (below2 HQ0.out hwa1)
      clear hwa1
      refine hK.out _ _ HQ1.out (fun hHeld2 => ?_)
      clear hK K hHeld
      rename _ => hHeld
      refine' wpAnyH_take (i := 11) (v := _) rfl (by kernel_rfl) (by kernel_rfl) (by kernel_rfl) (fun _ _ _ h => h) (Or.inl ⟨by kernel_rfl, ?hy11⟩) (by assumption) ?rest11
      case hy11 => (intro w hSw; (try dsimp only at hSw); go_simp; first | done | with_reducible rfl | (rw [if_neg (by omega)]))
      (try simp only [Act.put, List.setIfInBounds_toArray, List.set_cons_zero, List.set_cons_succ])
      refine' wpAnyH_take (i := 12) (v := _) rfl (by kernel_rfl) (by kernel_rfl) (by kernel_rfl) (fun _ _ _ h => h) (Or.inl ⟨by kernel_rfl, ?hy12⟩) (by assumption) ?rest12
      case hy12 => (intro w hSw; (try dsimp only at hSw); go_simp; first | done | with_reducible rfl | (rw [if_neg (by omega)]))
      (try simp only [Act.put, List.setIfInBounds_toArray, List.set_cons_zero, List.set_cons_succ])
      refine' wpAnyH_take (i := 13) (v := _) rfl (by kernel_rfl) (by kernel_rfl) (by kernel_rfl) (fun _ _ _ h => h) (Or.inl ⟨by kernel_rfl, ?hy13⟩) (by assumption) ?rest13
      case hy13 => (intro w hSw; (try dsimp only at hSw); go_simp; first | done | with_reducible rfl | (rw [if_neg (by omega)]))
      (try simp only [Act.put, List.setIfInBounds_toArray, List.set_cons_zero, List.set_cons_succ])
      refine' wpAnyH_take (i := 14) (v := _) rfl (by kernel_rfl) (by kernel_rfl) (by kernel_rfl) (fun _ _ _ h => h) (Or.inl ⟨by kernel_rfl, ?hy14⟩) (by assumption) ?rest14
      case hy14 => (intro w hSw; (try dsimp only at hSw); go_simp; first | done | with_reducible rfl | (rw [if_neg (by omega)]))
      (try simp only [Act.put, List.setIfInBounds_toArray, List.set_cons_zero, List.set_cons_succ])
      refine' wpAnyH_take (i := 16) (v := _) rfl (by kernel_rfl) (by kernel_rfl) (by kernel_rfl) (fun _ _ _ h => h) (Or.inl ⟨by kernel_rfl, ?hy16⟩) (by assumption) ?rest16
      case hy16 => (intro w hSw; (try dsimp only at hSw); go_simp; first | done | with_reducible rfl | (rw [if_neg (by omega)]))
      (try simp only [Act.put, List.setIfInBounds_toArray, List.set_cons_zero, List.set_cons_succ])
      refine' wpAnyH_take (i := 17) (v := _) rfl (by kernel_rfl) (by kernel_rfl) (by kernel_rfl) (fun _ _ _ h => h) (Or.inl ⟨by kernel_rfl, ?hy17⟩) (by assumption) ?rest17
      case hy17 => (intro w hSw; (try dsimp only at hSw); have hcv := HCv.out w hSw; go_simp; first | done | with_reducible rfl | (rw [if_neg (by omega)]))
      (try simp only [Act.put, List.setIfInBounds_toArray, List.set_cons_zero, List.set_cons_succ])
      refine' wpAnyH_take (i := 18) (v := _) rfl (by kernel_rfl) (by kernel_rfl) (by kernel_rfl) (fun _ _ _ h => h) (Or.inl ⟨by kernel_rfl, ?hy18⟩) (by assumption) ?rest18
      case hy18 => (intro w hSw; (try dsimp only at hSw); go_simp; first | done | with_reducible rfl | (rw [if_neg (by omega)]))
      (try simp only [Act.put, List.setIfInBounds_toArray, List.set_cons_zero, List.set_cons_succ])
      refine wpAnyH_ready (rs := [15]) (by kernel_rfl) (by simp) ?_
      refine AllReadyH.cons rfl (fun K hK => ?_) AllReadyH.nil
      rw [if_pos (by kernel_rfl)]
      go_simp
      go_wp2_with (go_at_call 8; refine (HR2.out _ (Hg.out.kept HQ1.out) (HG.out.kept HQ1.out)).mono ?_; rintro e wa2 ⟨rfl, hwa2⟩)
      have HQ2 := hid (below2 HQ1.out hwa2)
      clear hwa2
      refine hK.out _ _ HQ2.out (fun hHeld2 => ?_)
      clear hK K hHeld
      rename _ => hHeld
      refine' wpAnyH_take (i := 19) (v := _) rfl (by kernel_rfl) (by kernel_rfl) (by kernel_rfl) (fun _ _ _ h => h) (Or.inl ⟨by kernel_rfl, ?hy19⟩) (by assumption) ?rest19
      case hy19 => (intro w hSw; (try dsimp only at hSw); go_simp; first | done | with_reducible rfl | (rw [if_neg (by omega)]))
      (try simp only [Act.put, List.setIfInBounds_toArray, List.set_cons_zero, List.set_cons_succ])
      refine' wpAnyH_take (i := 20) (v := _) rfl (by kernel_rfl) (by kernel_rfl) (by kernel_rfl) (fun _ _ _ h => h) (Or.inl ⟨by kernel_rfl, ?hy20⟩) (by assumption) ?rest20
      case hy20 => (intro w hSw; (try dsimp only at hSw); go_simp; first | done | with_reducible rfl | (rw [if_neg (by omega)]))
      (try simp only [Act.put, List.setIfInBounds_toArray, List.set_cons_zero, List.set_cons_succ])
      refine' wpAnyH_take (i := 21) (v := _) rfl (by kernel_rfl) (by kernel_rfl) (by kernel_rfl) (fun _ _ _ h => h) (Or.inl ⟨by kernel_rfl, ?hy21⟩) (by assumption) ?rest21
      case hy21 => (intro w hSw; (try dsimp only at hSw); go_simp; first | done | with_reducible rfl | (rw [if_neg (by omega)]))
      (try simp only [Act.put, List.setIfInBounds_toArray, List.set_cons_zero, List.set_cons_succ])
      refine wpAnyH_ready (rs := [22]) (by kernel_rfl) (by simp) ?_
      refine AllReadyH.cons rfl (fun K hK => ?_) AllReadyH.nil
      rw [if_pos (by kernel_rfl)]
      go_simp
      go_wp2_with (go_at_call 10; refine (known_d _ (Hg.out.kept HQ2.out) (HG.out.kept HQ2.out)).mono ?_; rintro e wa3 ⟨rfl, hwa3⟩)
      have HQ3 := hid (below2 HQ2.out hwa3)
      clear hwa3
      refine hK.out _ _ HQ3.out (fun hHeld2 => ?_)
      clear hK K hHeld
      rename _ => hHeld
      refine' wpAnyH_take (i := 23) (oi := ⟨some 70, _, _, _, _, _⟩) (v := _) rfl (by kernel_rfl) (by kernel_rfl) (by kernel_rfl) (fun _ _ _ h => h) (Or.inl ⟨by kernel_rfl, ?hy23⟩) (by assumption) ?rest23
      case hy23 => (intro w hSw; (try dsimp only at hSw); go_simp; first | done | with_reducible rfl | (rw [if_neg (by omega)]))
      (try simp only [Act.put, List.setIfInBounds_toArray, List.set_cons_zero, List.set_cons_succ])
      refine' wpAnyH_take (i := 24) (oi := ⟨some 4, _, _, _, _, _⟩) (v := _) rfl (by kernel_rfl) (by kernel_rfl) (by kernel_rfl) (fun _ _ _ h => h) (Or.inl ⟨by kernel_rfl, ?hy24⟩) (by assumption) ?rest24
      case hy24 => (intro w hSw; (try dsimp only at hSw); go_simp; first | done | with_reducible rfl | (rw [if_neg (by omega)]))
      (try simp only [Act.put, List.setIfInBounds_toArray, List.set_cons_zero, List.set_cons_succ])
      refine wpAnyH_done (by kernel_rfl) ?_ _
      go_wp2
      go_ret
      exact ⟨rfl, HQ3.out⟩

end Go.Proofs.YtjmkccnjjofmeaaGreatDoor
