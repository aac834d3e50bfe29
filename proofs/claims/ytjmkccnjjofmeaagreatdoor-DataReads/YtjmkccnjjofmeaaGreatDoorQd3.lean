/-
  Walks and plain facts that this claim leans on, put together out of 1 texts: Eb.
-/
import Derived.Test.YtjmkccnjjofmeaaGreatDoorProg
import Derived.Test.YtjmkccnjjofmeaaGreatDoorQa1
import Derived.Test.YtjmkccnjjofmeaaGreatDoorQa2
import Derived.Test.YtjmkccnjjofmeaaGreatDoorQa3
import Derived.Test.YtjmkccnjjofmeaaGreatDoorQa4
import Derived.Test.YtjmkccnjjofmeaaGreatDoorQa5
import Derived.Test.YtjmkccnjjofmeaaGreatDoorQa6
import Derived.Test.YtjmkccnjjofmeaaGreatDoorQa7
import Derived.Test.YtjmkccnjjofmeaaGreatDoorQa8
import Derived.Test.YtjmkccnjjofmeaaGreatDoorQa9
import Derived.Test.YtjmkccnjjofmeaaGreatDoorQa10
import Derived.Test.YtjmkccnjjofmeaaGreatDoorQa11
import Derived.Test.YtjmkccnjjofmeaaGreatDoorQa12
import Derived.Test.YtjmkccnjjofmeaaGreatDoorQa13
import Derived.Test.YtjmkccnjjofmeaaGreatDoorQa14
import Derived.Test.YtjmkccnjjofmeaaGreatDoorQa15
import Derived.Test.YtjmkccnjjofmeaaGreatDoorQa16
import Derived.Test.YtjmkccnjjofmeaaGreatDoorQa17
import Derived.Test.YtjmkccnjjofmeaaGreatDoorQa18
import Derived.Test.YtjmkccnjjofmeaaGreatDoorQa19
import Derived.Test.YtjmkccnjjofmeaaGreatDoorQa20
import Derived.Test.YtjmkccnjjofmeaaGreatDoorQa21
import Derived.Test.YtjmkccnjjofmeaaGreatDoorQa22
import Derived.Test.YtjmkccnjjofmeaaGreatDoorQa23
import Derived.Test.YtjmkccnjjofmeaaGreatDoorQa24
import Derived.Test.YtjmkccnjjofmeaaGreatDoorQa25
import Derived.Test.YtjmkccnjjofmeaaGreatDoorQa26
import Derived.Test.YtjmkccnjjofmeaaGreatDoorQa27
import Derived.Test.YtjmkccnjjofmeaaGreatDoorQa28
import Derived.Test.YtjmkccnjjofmeaaGreatDoorQd1
import Derived.Test.YtjmkccnjjofmeaaGreatDoorQd2
import Derived.Laws.OwnMore
import Derived.Below
import Derived.WalkSmall
import Derived.Lib.SmallJoins
import Derived.Lib.SlTrimSet
import Derived.Lib.Join
import Derived.Lib.IndexMore
import Derived.BigRegion
import Derived.WalkKit
import Derived.Deep.RegionHeld
import Derived.LoopN
import Derived.RegionTactic
import Derived.Deep.Cut
import Derived.Deep.CutRange
import Derived.Deep.DeepCutAuto
import Derived.BigQuiet
import Derived.Deep.QuietTactic
import Derived.Deep.RegionWith
import Derived.Deep.RegionLaw
import Derived.Deep.WholeRow
import Derived.Scope
import Derived.ScopeJumps
import Derived.WalkMore
import Derived.Laws.AppendOwn
import Derived.OwnWalk
import Derived.Lib.AppendStr
import Derived.Lib.Replace
import Derived.Laws.IdiomStrings
import Derived.Laws.BytesString
import Derived.Deep.MidRow
import Derived.Maps.OwnSet
import Derived.Maps.OwnOps
import Derived.Maps.AppendAt
import Derived.StringKeys
import Derived.Lib.LastIndexByte
import Derived.Lib.BufferMore
import Derived.Shelf.Strings.Builder1
import Derived.Shelf.Strings.Builder2
import Derived.Shelf.Strings.OnBuilder
import Derived.Shelf.Strings.Trim
import Derived.Shelf.Small.Utf8
import Derived.Shelf.Small.Strs
import Derived.Shelf.Small.Wraps
import Derived.Shelf.Strings.BuilderF
import Derived.Shelf.Strings.BuilderK
import Derived.Shelf.Strings.Builder2Cap
import Derived.Shelf.Strconv.Itoa0
import Derived.Shelf.Strconv.Itoa1
import Derived.Shelf.LaysM
import Derived.Shelf.Strconv.Itoa2
import Derived.Shelf.Strconv.Itoa3
import Derived.Shelf.Strings.Search1
import Derived.Shelf.Strings.Search2
import Derived.Shelf.Strings.Search3
import Derived.Shelf.Strings.Cut
import Derived.Shelf.Strings.Count
import Derived.Shelf.Strings.Shaped
import Derived.Shelf.Strings.Prefix
import Derived.Shelf.Strings.Split
import Derived.Shelf.Strings.Replace
import Derived.Shelf.Strings.Runes
import Derived.Shelf.Strings.IndexAny
import Derived.Shelf.Strings.AsciiSet
import Derived.Shelf.Strings.IndexAnyAll
import Derived.Shelf.Unicode.DecodeSlow
import Derived.Lib.IndexAny
import Derived.Deep.LoopGhost
import Derived.WalkSpells
import Derived.WalkLawsBesides
import Derived.Laws.BitsAllLaws
import Derived.Lib.UnsafeStr
import Derived.Lib.AppendIntMem
import Derived.Laws.CopyOwn
import Derived.Laws.ResultCell
import Derived.Lib.BufferRead
import Derived.Lib.RuneBytes
import Derived.Laws.RangeAny
import Derived.Laws.CopyRow
import Derived.Lib.DecodeN
import Derived.Lib.OthersKept
import Derived.Lib.Strings
import Derived.Shelf.Strings.SlTrimAscii
import Derived.Lib.FrozenHead2
import Derived.Lib.Builder
import Derived.Laws.AppendOwnNone
import Derived.Lib.TrimByte
import Derived.Laws.Runes
import Derived.Lib.Bytealg
import Derived.Lib.ItoaNum
import Derived.Deep.RegionHeldLaw
set_option linter.unusedSimpArgs false
set_option linter.unusedVariables false

namespace Go.Proofs.YtjmkccnjjofmeaaGreatDoor
open Go.RowKit

theorem withQuery_same (u : Adr) (q : List UInt8) : (withQuery u q).opq = u.opq ∧ (withQuery u q).path = u.path ∧ (withQuery u q).hasHost = u.hasHost := by
  unfold withQuery
  split <;> exact ⟨rfl, rfl, rfl⟩

theorem withPath_opq (u : Adr) (hv : List (List UInt8)) (r : List UInt8) : (withPath u hv r).opq = u.opq := by
  unfold withPath
  exact (withQuery_same _ _).1

theorem withAuth_opq {u v : Adr} {r : List UInt8} (h : withAuth u r = .ok v) : v.opq = u.opq := by
  unfold withAuth at h
  split at h
  · cases h
  · injection h with h
    subst h
    exact withPath_opq _ _ _

theorem opq_path {s : List UInt8} {u : Adr} (e : readV s none = .ok u) (ho : u.opq = true) : (∃ p, u.path = [p]) ∧ u.hasHost = false := by
  have hb : (beginU s).1.opq = false ∧ (beginU s).1.hasHost = false := ⟨rfl, rfl⟩
  unfold readV at e
  split at e
  · cases e
  · simp only at e
    split at e
    · cases e
    · unfold startV at e
      split at e
      · rw [withAuth_opq e, hb.1] at ho; cases ho
      · split at e
        · rw [withAuth_opq e, hb.1] at ho; cases ho
        · split at e
          · injection e with e
            subst e
            rw [withPath_opq, hb.1] at ho; cases ho
          · injection e with e
            subst e
            obtain ⟨h1, h2, h3⟩ := withQuery_same { (beginU s).1 with opq := true, path := [pct 1 (aheadV [63] (beginU s).2).1] } (aheadV [63] (beginU s).2).2
            exact ⟨⟨_, h2⟩, by rw [h3]; exact hb.2⟩

theorem ends_low (k : List UInt8) : Lib.hasSuffix (low k) markB = ends6 k := by
  unfold ends6 Lib.hasSuffix
  have hl : (low k).length = k.length := by unfold low; simp
  by_cases h : 6 ≤ k.length
  · rw [decide_eq_true h, Bool.true_and]
    have e : (low k).drop (k.length - 6) = low (k.drop (k.length - 6)) := by unfold low; rw [List.map_drop]
    rw [Bool.eq_iff_iff, List.isSuffixOf_iff_suffix, List.suffix_iff_eq_drop, hl, show k.length - markB.length = k.length - 6 from rfl, e, beq_iff_eq]
    exact ⟨fun h => h.symm, fun h => h.symm⟩
  · rw [decide_eq_false h, Bool.false_and, Bool.eq_false_iff]
    intro hs
    rw [List.isSuffixOf_iff_suffix] at hs
    have := hs.length_le
    rw [hl] at this
    exact h this

theorem noBl_blank (l : List UInt8) : noBl (l ++ [32]) = noBl l := by
  unfold noBl Lib.trimRightB
  rw [List.reverse_append]
  simp [List.dropWhile_cons]

theorem noBl_other (l : List UInt8) (c : UInt8) (h : c ≠ 32) : noBl (l ++ [c]) = l ++ [c] := by
  unfold noBl Lib.trimRightB
  rw [List.reverse_append]
  have : (c == 32) = false := by rw [beq_eq_false_iff_ne]; exact h
  simp [List.dropWhile_cons, this]

theorem last_split (X : ByteArray) (h : 0 < X.size) : X.data.toList = (X.extract 0 (X.size - 1)).data.toList ++ [X[X.size - 1]] := by
  have e : (X.extract 0 (X.size - 1)).data.toList = X.data.toList.take (X.size - 1) := by rw [Lib.extract_data]; simp
  have hl : X.size - 1 < X.data.toList.length := by simp; omega
  rw [e]
  have h2 := List.take_succ_eq_append_getElem hl
  rw [show X.size - 1 + 1 = X.data.toList.length by simp; omega, List.take_length] at h2
  exact h2

theorem txt_isD {u : Adr} {p : List UInt8} (hd : isD u = true) (hp : u.path = [p]) (hh : u.hasHost = false) : txtD u = p ++ (if u.hasQuery then 63 :: u.query else []) := by
  unfold isD at hd
  simp only [Bool.and_eq_true, beq_iff_eq] at hd
  unfold txtD bareV authT pathT
  rw [hd.1, hd.2, hp, hh]
  simp [Lib.trimPrefix, Lib.hasPrefix, dataB]

end Go.Proofs.YtjmkccnjjofmeaaGreatDoor
