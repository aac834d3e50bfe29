/-
  Walks and plain facts that this claim leans on, put together out of 11 texts: Wc, Wd, Wq, Db, Dc, Dd, Uc, Ue, Uf, Ug, Wr.
-/
import Derived.Test.YtjmkccnjjofmeaaGreatDoorProg
import Derived.Test.YtjmkccnjjofmeaaGreatDoorQa1
import Derived.Test.YtjmkccnjjofmeaaGreatDoorQa2
import Derived.Test.YtjmkccnjjofmeaaGreatDoorQa3
import Derived.Test.YtjmkccnjjofmeaaGreatDoorQa4
import Derived.Test.YtjmkccnjjofmeaaGreatDoorQa5
import Derived.Test.YtjmkccnjjofmeaaGreatDoorQa6
import Derived.Test.YtjmkccnjjofmeaaGreatDoorQa7
import Derived.Test.YtjmkccnjjofmeaaGreatDoorQa8
import Derived.Test.YtjmkccnjjofmeaaGreatDoorQa9
import Derived.WalkKit
import Derived.WalkSpells
import Derived.WalkLawsBesides
import Derived.Shelf.Strings.Builder1
import Derived.Shelf.Strings.Builder2
import Derived.Shelf.Strings.OnBuilder
import Derived.Shelf.Strings.Trim
import Derived.Shelf.Small.Utf8
import Derived.Shelf.Small.Strs
import Derived.Shelf.Small.Wraps
import Derived.Shelf.Strings.BuilderF
import Derived.Shelf.Strings.BuilderK
import Derived.Shelf.Strings.Builder2Cap
import Derived.Shelf.Strconv.Itoa0
import Derived.Shelf.Strconv.Itoa1
import Derived.Shelf.LaysM
import Derived.Shelf.Strconv.Itoa2
import Derived.Shelf.Strconv.Itoa3
import Derived.Shelf.Strings.Search1
import Derived.Shelf.Strings.Search2
import Derived.Shelf.Strings.Search3
import Derived.Shelf.Strings.Cut
import Derived.Shelf.Strings.Count
import Derived.Shelf.Strings.Shaped
import Derived.Shelf.Strings.Prefix
import Derived.Shelf.Strings.Split
import Derived.Shelf.Strings.Replace
import Derived.Shelf.Strings.Runes
import Derived.Shelf.Strings.IndexAny
import Derived.Shelf.Strings.AsciiSet
import Derived.Shelf.Strings.IndexAnyAll
import Derived.Shelf.Unicode.DecodeSlow
import Derived.Lib.Strings
import Derived.Lib.UnsafeStr
import Derived.Laws.IdiomStrings
import Derived.Laws.AppendOwn
import Derived.Lib.FrozenHead2
import Derived.Lib.OthersKept
import Derived.Lib.Builder
import Derived.Laws.BytesString
import Derived.Laws.BitsAllLaws
import Derived.Laws.OwnMore
import Derived.Below
import Derived.WalkSmall
import Derived.Lib.SmallJoins
import Derived.Maps.OwnSet
import Derived.Maps.OwnOps
import Derived.Maps.AppendAt
import Derived.StringKeys
import Derived.Lib.IndexAny
import Derived.Lib.Replace
import Derived.Lib.TrimByte
import Derived.Lib.ItoaNum
import Derived.Deep.RegionWith
import Derived.Deep.QuietTactic
import Derived.BigQuiet
import Derived.Deep.LoopGhost
import Derived.WalkMore
import Derived.OwnWalk
import Derived.Lib.Bytealg
import Derived.Lib.BufferMore
import Derived.Lib.AppendIntMem
import Derived.Deep.MidRow
import Derived.Lib.BufferRead
import Derived.Lib.RuneBytes
import Derived.Laws.RangeAny
import Derived.Shelf.Strings.SlTrimAscii
import Derived.Lib.AppendStr
import Derived.Lib.LastIndexByte
import Derived.Laws.CopyOwn
import Derived.Laws.ResultCell
import Derived.Lib.SlTrimSet
import Derived.Lib.Join
import Derived.Lib.IndexMore
import Derived.Laws.Runes
import Derived.Lib.DecodeN
import Derived.RegionTactic
import Derived.Scope
import Derived.ScopeJumps
import Derived.Deep.RegionLaw
set_option linter.unusedSimpArgs false
set_option linter.unusedVariables false

namespace Go.Proofs.YtjmkccnjjofmeaaGreatDoor
open Go.RowKit

set_option maxHeartbeats 1000000 in
theorem withoutBlanks_any (s : ByteArray) (w : World) (hs : s.size ≤ 140737488351232) :
    Calls Tryz.prog 96 #[.string s] w fun e w' => e = .returned (.string ⟨(noBlanks s.data.toList).toArray⟩) ∧ Below w.heap.size w w' := by
  obtain ⟨i0, hi, hz0, hz1, hz2⟩ := info_parts infoByte
  go_enter Tryz.func96, Tryz.ntmps96
  go_wp2_with (at_make; refine wpList_make_own _ rfl _ _ 27 rfl w.heap.size 5 i0 (.int .u8 0) 1 Tryz.underlying27 hi hz0 hz1 .i64 .i64 _ s.size rfl rfl rfl (by rw [hz2]; omega) (by unfold maxLen; omega) (Nat.le_refl _) ?_)
  intro w0 hown0 hgrow0
  have hb0 : Below w.heap.size w w0 := (Below.refl _ w).grown hgrow0 (Nat.le_refl _) (fun k hk => by simp at hk)
  clear hgrow0
  go_wp2
  go_loopw [3, 10] (fun v i wr => ∃ k : Nat, k ≤ s.size ∧ i = .int .i64 k ∧ wr.ownsRow w.heap.size 5 1 v (noBlanks (s.data.toList.take k)).length (Lib.byteCells (noBlanks (s.data.toList.take k))) ∧ Below w.heap.size w wr ∧ v ≠ .slice none 0 0)
    (fun _ i _ => s.size - (intOf i).toNat)
  case atStart => exact ⟨0, Nat.zero_le _, rfl, hown0, hb0, by simp⟩
  case round =>
    obtain ⟨k, hk, rfl, hown, hbw, hnn⟩ := hrel
    have hle := noBlanks_le (s.data.toList.take k)
    have htl : (s.data.toList.take k).length ≤ k := List.length_take_le _ _
    by_cases hlt : k < s.size
    · have HT : Hid (s.data.toList.take (k + 1) = s.data.toList.take k ++ [s[k]]) := take_snoc s k hlt
      by_cases hbl : blankI (s[k].toNat : Int) = true
      · go_wp2_with (go_at_call 90; refine (blank_any _ _).mono ?_; rintro e w' ⟨rfl, rfl⟩)
        go_roundw
        case rel =>
          refine ⟨k + 1, by omega, by go_num, ?_, hbw, hnn⟩
          rw [HT.out, noBlanks_snoc_yes _ _ hbl]; exact hown
        case measure => simp [intOf]; omega
      · have hbl' : blankI (s[k].toNat : Int) = false := by simpa using hbl
        clear hbl
        go_wp2_with (first | (go_at_call 90; refine (blank_any _ _).mono ?_; rintro e w' ⟨rfl, rfl⟩) | (at_builtin; refine wpList_append_own _ rfl _ _ 27 rfl w.heap.size 5 i0 (.int .u8 0) 1 1 Tryz.underlying27 hi hz0 hz1 hz2 rfl (by decide) _ _ _ rfl (hown.alloc _) ⟨wr.heap.size, 0, none⟩ 1 1 [.int .u8 s[k].toNat] rfl rfl ?c1 ?c2 ?c3 ?c4 ?c5 ?_))
        case c1 =>
          intro j u hj
          match j, hj with
          | 0, hj => simp at hj; subst hj; simp [Addr.add]
        case c2 => intro u hu; simp at hu; subst hu; rfl
        case c3 => unfold maxLen; omega
        case c4 => omega
        case c5 => have := hbw.size; simp; omega
        intro v' w2 hown' hgrow hnil
        go_wp2
        go_roundw
        case rel =>
          refine ⟨k + 1, by omega, by go_num, ?_, ?_, fun h => by first | exact hnil h | exact absurd (hnil.1 h).2 (by decide)⟩
          · rw [HT.out, noBlanks_snoc_no _ _ hbl', Lib.byteCells_append, byteCells_one]; simpa using hown'
          · exact (hbw.alloc hbw.size _).grown hgrow (by have := hbw.size; simp; omega) (fun g hg => (hown.lt g hg).1)
        case measure => simp [intOf]; omega
    · rw [take_all s k hlt] at hown
      have hcv := run_string_own (P := Tryz.prog) (src := 27) (dst := 9) Tryz.underlying27 Tryz.underlying5 Tryz.underlying9 hown hnn
      go_wp2
      go_ret
      exact ⟨rfl, hbw⟩

set_option maxHeartbeats 400000 in
theorem withoutPadding_any (s : ByteArray) (w : World) (hs : s.size ≤ 140737488351232) :
    Calls Tryz.prog 95 #[.string s] w fun e w' => e = .returned (.string ⟨(noPadding s.data.toList).toArray⟩) ∧ w = w' := by
  by_cases h4 : s.size % 4 = 0
  · have h4' : ((s.size : Int) % 4 != 0) = false := by simp; omega
    have HN := hid (show noPadding s.data.toList = Lib.trimSuffix (Lib.trimSuffix s.data.toList [61]) [61] by simp [noPadding, h4])
    have ht := Lib.trimSuffix_le s.data.toList [61]
    have hsz : s.data.toList.length ≤ 140737488351232 := by simpa using hs
    go_enter Tryz.func95, Tryz.ntmps95
    go_wp2_with fail
    refine (Tryz.strings_TrimSuffix s _ w (by omega)).mono ?_
    rintro e w1 ⟨rfl, hw1⟩
    have hw1 := hw1.symm; subst hw1
    go_wp2_with fail
    refine (Tryz.strings_TrimSuffix ⟨(Lib.trimSuffix s.data.toList [61]).toArray⟩ _ w (by show (Lib.trimSuffix s.data.toList [61]).toArray.size ≤ _; simp; omega)).mono ?_
    rintro e w1 ⟨rfl, hw1⟩
    have hw1 := hw1.symm; subst hw1
    go_wp2
    go_ret
    rw [HN.out]
    exact ⟨rfl, rfl⟩
  · have h4' : ((s.size : Int) % 4 != 0) = true := by simp; omega
    have HN := hid (show noPadding s.data.toList = s.data.toList by simp [noPadding, h4])
    go_enter Tryz.func95, Tryz.ntmps95
    go_wp2
    go_ret
    rw [HN.out]
    exact ⟨rfl, rfl⟩

end Go.Proofs.YtjmkccnjjofmeaaGreatDoor

namespace Go.Proofs.YtjmkccnjjofmeaaGreatDoor
open Go.RowKit

theorem b64_bounds (l : List UInt8) : (noPadding (noBlanks l)).length ≤ l.length := by
  have h1 := noBlanks_le l
  have h2 : (noPadding (noBlanks l)).length ≤ (noBlanks l).length := by
    unfold noPadding
    split
    · have a := Lib.trimSuffix_le (Lib.trimSuffix (noBlanks l) [61]) [61]
      have b := Lib.trimSuffix_le (noBlanks l) [61]
      omega
    · omega
  omega

end Go.Proofs.YtjmkccnjjofmeaaGreatDoor

namespace Go.Proofs.YtjmkccnjjofmeaaGreatDoor
open Go.RowKit

theorem run64_bits (l : List UInt8) : 8 * (run64 l).2.2.length + (run64 l).2.1 = 6 * l.length := by
  suffices h : ∀ (l : List UInt8) (t : Nat × Nat × List UInt8), 8 * (l.foldl step64 t).2.2.length + (l.foldl step64 t).2.1 = 8 * t.2.2.length + t.2.1 + 6 * l.length by simpa [run64] using h l (0, 0, [])
  intro l
  induction l with
  | nil => intro t; simp
  | cons c l ih =>
    intro t
    rw [List.foldl_cons, ih]
    obtain ⟨N, H, O⟩ := t
    unfold step64
    simp only [List.length_cons]
    split
    · simp only [List.length_append, List.length_singleton]; omega
    · simp only; omega

set_option maxHeartbeats 2000000 in
set_option maxRecDepth 100000 in
theorem base64_fit (s : ByteArray) (w : World) (hs : s.size ≤ 140737488351232) :
    Calls Tryz.prog 60 #[.string s] w fun e w' => Below w.heap.size w w' ∧
      ((b64 s.data.toList = none ∧ e = .returned (.tuple #[.slice none 0 0, .bool false])) ∨
       ∃ l g cap, b64 s.data.toList = some l ∧ cap ≤ s.size ∧ e = .returned (.tuple #[.slice (some ⟨g, 0, none⟩) l.length cap, .bool true]) ∧ w'.ownsRow w.heap.size 5 1 (.slice (some ⟨g, 0, none⟩) l.length cap) l.length (Lib.byteCells l)) := by
  obtain ⟨i0, hi, hz0, hz1, hz2⟩ := info_parts infoByte
  go_enter Tryz.func60, Tryz.ntmps60
  go_wp2_with fail
  refine (withoutBlanks_any s w hs).mono ?_
  rintro e w1 ⟨rfl, hb1⟩
  go_wp2_with fail
  refine (withoutPadding_any _ w1 (by show (noBlanks s.data.toList).toArray.size ≤ _; have := noBlanks_le s.data.toList; simp at this ⊢; omega)).mono ?_
  rintro e w2 ⟨rfl, rfl⟩
  obtain ⟨d, hd⟩ : ∃ d : ByteArray, d = (⟨(noPadding (ByteArray.mk (noBlanks s.data.toList).toArray).data.toList).toArray⟩ : ByteArray) := ⟨_, rfl⟩
  rw [← hd]
  have hdd : d.data.toList = noPadding (noBlanks s.data.toList) := by rw [hd]
  have hds : d.size ≤ s.size := by
    have h1 := b64_bounds s.data.toList
    rw [← hdd] at h1
    simpa using h1
  have hdl : d.size ≤ 140737488351232 := by
    have h1 := b64_bounds s.data.toList
    rw [← hdd] at h1
    simp at h1
    omega
  have HB : Hid (b64 s.data.toList = if d.data.toList.length % 4 = 1 then none else if d.data.toList.all is64 then some (run64 d.data.toList).2.2 else none) := by rw [hdd]; rfl
  clear hd hdd
  by_cases h1 : d.size % 4 = 1
  · have h1' : ((d.size : Int) % 4 == 1) = true := by simp; omega
    go_wp2
    go_ret2
    refine ⟨hb1, .inl ⟨?_, rfl⟩⟩
    rw [HB.out]; simp [h1]
  · have h1' : ((d.size : Int) % 4 == 1) = false := by simp; omega
    go_wp2_with (at_make; refine wpList_make_own _ rfl _ _ 27 rfl w.heap.size 5 i0 (.int .u8 0) 1 Tryz.underlying27 hi hz0 hz1 .i64 .i64 _ (d.size / 4 * 3 + d.size % 4 * 3 / 4) rfl rfl (by omega) (by rw [hz2]; omega) (by unfold maxLen; omega) hb1.size ?_)
    intro w3 hown0 hgrow0
    have hb3 : Below w.heap.size w w3 := hb1.grown hgrow0 hb1.size (fun k hk => by simp at hk)
    clear hgrow0 hb1
    obtain ⟨K, hK⟩ : ∃ K : Nat, K = d.size / 4 * 3 + d.size % 4 * 3 / 4 := ⟨_, rfl⟩
    have hKK : 4 * K ≤ 3 * d.size ∧ 3 * d.size < 4 * K + 4 := by omega
    rw [← hK] at hown0 ⊢
    clear hK
    generalize w1.heap.size = g0 at hown0 ⊢
    go_wp2
    go_loopw [4, 5, 6, 30] (fun v b h i wr => ∃ k n : Nat, k ≤ d.size ∧ i = .int .i64 k ∧ h = .int .i64 (run64 (d.data.toList.take k)).2.1 ∧ b = .int .u32 n ∧ n = (run64 (d.data.toList.take k)).1 % 4294967296 ∧
        v = .slice (some ⟨g0, 0, none⟩) (run64 (d.data.toList.take k)).2.2.length K ∧ wr.ownsRow w.heap.size 5 1 (.slice (some ⟨g0, 0, none⟩) (run64 (d.data.toList.take k)).2.2.length K) (run64 (d.data.toList.take k)).2.2.length (Lib.byteCells (run64 (d.data.toList.take k)).2.2) ∧ (d.data.toList.take k).all is64 = true ∧ Below w.heap.size w wr)
      (fun _ _ _ i _ => d.size - (intOf i).toNat)
    case atStart => exact ⟨0, 0, Nat.zero_le _, rfl, rfl, rfl, rfl, rfl, hown0, rfl, hb3⟩
    case round =>
      obtain ⟨k, n, hk, rfl, rfl, rfl, hn, rfl, hown, hall, hbw⟩ := hrel
      have hn32 : n ≤ 4294967295 := by omega
      have hh := run64_held (d.data.toList.take k)
      have hle := run64_len (d.data.toList.take k)
      have hbt := run64_bits (d.data.toList.take k)
      have htl : (d.data.toList.take k).length ≤ k := List.length_take_le _ _
      by_cases hlt : k < d.size
      · have HT := hid (take_snoc d k hlt)
        have HA := hid hall
        clear hall
        have HS := hid (run64_snoc (d.data.toList.take k) d[k])
        have ho0 := or64 (run64 (d.data.toList.take k)).1 d[k].toNat
        rw [← hn] at ho0
        have HO := hid ho0
        clear ho0
        generalize hr : run64 (d.data.toList.take k) = R at *
        obtain ⟨N, H, O⟩ := R
        have HR := hid hr
        clear hr
        simp only at hown hh hle hbt HO hn
        have HN := hid hn
        clear hn
        obtain ⟨m, hm⟩ : ∃ m : Nat, m = (N * 64 + (val64I d[k].toNat).toNat) % 4294967296 := ⟨_, rfl⟩
        have HM := hid hm
        have ho : bits .or .u32 ((n : Int) * 64 % 4294967296) (val64I d[k].toNat) = (m : Int) := by rw [hm]; exact HO.out
        clear hm
        by_cases h64 : is64I (d[k].toNat : Int) = true
        · by_cases hH : 2 ≤ H
          · have hHI : (8 : Int) ≤ (H : Int) + 6 := by omega
            have HX : Hid ((m : Int) / 2 ^ (H - 2) % 256 = ((UInt8.ofNat ((N * 64 + (val64I d[k].toNat).toNat) / 2 ^ (H - 2))).toNat : Int)) := by rw [HM.out]; exact shr64 _ _ (by omega)
            go_wp2_with (first | (go_at_call 97; refine (value64_any _ _ (by omega) (by have := d[k].toNat_lt; omega)).mono ?_; rintro e w' ⟨rfl, rfl⟩) | (at_builtin; refine wpList_append_fits _ rfl _ _ 27 rfl w.heap.size 5 i0 1 Tryz.underlying27 hi hz1 g0 O.length K (Lib.byteCells O) rfl (hown.alloc _) ⟨wr.heap.size, 0, none⟩ 1 1 [.int .u8 ((m : Int) / 2 ^ (H - 2) % 256)] rfl rfl ?c1 ?c2 ?c3 ?_))
            case c1 =>
              intro j u hj
              match j, hj with
              | 0, hj => simp at hj; subst hj; simp [Addr.add]
            case c2 => intro u hu; simp at hu; subst hu; rfl
            case c3 => omega
            intro w4 hown' hgrow
            have hst : run64 (d.data.toList.take (k + 1)) = (N * 64 + (val64I d[k].toNat).toNat, H - 2, O ++ [UInt8.ofNat ((N * 64 + (val64I d[k].toNat).toNat) / 2 ^ (H - 2))]) := by
              rw [HT.out, HS.out, step64, if_pos hH]
            have HSt := hid hst
            clear hst
            go_wp2
            go_roundw
            case rel =>
              refine ⟨k + 1, m, by omega, by go_num, ?_, rfl, ?_, ?_, ?_, ?_, ?_⟩
              · rw [HSt.out]; go_num
              · rw [HSt.out]; exact HM.out
              · rw [HSt.out]; simp
              · rw [HSt.out, Lib.byteCells_append, byteCells_one, ← HX.out]; simpa using hown'
              · rw [HT.out, List.all_append, HA.out]; simp [is64, h64]
              · exact (hbw.alloc hbw.size _).grown hgrow (by have := hbw.size; simp; omega) (fun g hg => (hown.lt g hg).1)
            case measure => simp [intOf]; omega
          · have hHI : (H : Int) + 6 < 8 := by omega
            have hst : run64 (d.data.toList.take (k + 1)) = (N * 64 + (val64I d[k].toNat).toNat, H + 6, O) := by
              rw [HT.out, HS.out, step64, if_neg hH]
            have HSt := hid hst
            clear hst
            go_wp2_with (go_at_call 97; refine (value64_any _ _ (by omega) (by have := d[k].toNat_lt; omega)).mono ?_; rintro e w' ⟨rfl, rfl⟩)
            go_roundw
            case rel =>
              refine ⟨k + 1, m, by omega, by go_num, ?_, rfl, ?_, ?_, ?_, ?_, hbw⟩
              · rw [HSt.out]; go_num
              · rw [HSt.out]; exact HM.out
              · rw [HSt.out]
              · rw [HSt.out]; exact hown
              · rw [HT.out, List.all_append, HA.out]; simp [is64, h64]
            case measure => simp [intOf]; omega
        · have h64' : is64I (d[k].toNat : Int) = false := by simpa using h64
          clear h64
          go_wp2_with (go_at_call 97; refine (value64_any _ _ (by omega) (by have := d[k].toNat_lt; omega)).mono ?_; rintro e w' ⟨rfl, rfl⟩)
          go_ret2
          refine ⟨hbw, .inl ⟨?_, rfl⟩⟩
          rw [HB.out]
          have : d.data.toList.all is64 = false := by
            rw [List.all_eq_false]
            refine ⟨d[k], ?_, by simp [is64, h64']⟩
            have : d[k] = d.data.toList[k]'(by simpa using hlt) := rfl
            rw [this]; exact List.getElem_mem _
          simp [h1, this]
      · rw [take_all d k hlt] at hown hall ⊢
        go_wp2
        go_ret2
        refine ⟨hbw, .inr ⟨_, g0, K, ?_, by omega, rfl, hown⟩⟩
        rw [HB.out]; simp [h1, hall]

end Go.Proofs.YtjmkccnjjofmeaaGreatDoor

namespace Go.Proofs.YtjmkccnjjofmeaaGreatDoor
open Go.RowKit

/-- The block b holds a kind and a body. -/
def TwoD (w : World) (b : Nat) (n v : ByteArray) : Prop := w.heap[b]? = some (.cells #[.string n, .string v] 67 (0, 0))

theorem TwoD.lt {w : World} {b : Nat} {n v : ByteArray} (h : TwoD w b n v) : b < w.heap.size := (Array.getElem?_eq_some_iff.1 h).1

theorem TwoD.range {w : World} {b : Nat} {n v : ByteArray} (h : TwoD w b n v) : w.rangeAt b 0 [.string n, .string v] := fun j u hu => by
  rw [Nat.zero_add, Lib.cell_of_heap h]
  match j, hu with
  | 0, hu => simpa using hu
  | 1, hu => simpa using hu
  | j + 2, hu => simp at hu

theorem TwoD.cells {w : World} {b : Nat} {n v : ByteArray} (h : TwoD w b n v) : w.cell? ⟨b, 0, none⟩ = some (.string n) ∧ w.cell? ⟨b, 1, none⟩ = some (.string v) ∧ w.frozen? ⟨b, 0, none⟩ = false ∧ w.frozen? ⟨b, 1, none⟩ = false :=
  ⟨by rw [Lib.cell_of_heap h]; rfl, by rw [Lib.cell_of_heap h]; rfl, Lib.frozen_of_heap h 0, Lib.frozen_of_heap h 1⟩

theorem TwoD.set {w : World} {b : Nat} {n v n' v' : ByteArray} (h : TwoD w b n v) : TwoD ((w.setCell ⟨b, 0, none⟩ (.string n')).setCell ⟨b, 1, none⟩ (.string v')) b n' v' := by
  have h1 := Lib.heap_setCell_same h (i := 0) (.string n')
  have h2 := Lib.heap_setCell_same h1 (i := 1) (.string v')
  exact h2

theorem TwoD.set0 {w : World} {b : Nat} {n v n' : ByteArray} (h : TwoD w b n v) : TwoD (w.setCell ⟨b, 0, none⟩ (.string n')) b n' v := Lib.heap_setCell_same h (i := 0) (.string n')

theorem TwoD.set1 {w : World} {b : Nat} {n v v' : ByteArray} (h : TwoD w b n v) : TwoD (w.setCell ⟨b, 1, none⟩ (.string v')) b n v' := Lib.heap_setCell_same h (i := 1) (.string v')

theorem TwoD.kept {w w' : World} {b : Nat} {n v : ByteArray} (h : TwoD w b n v) (hb : Below w.heap.size w w') : TwoD w' b n v := (hb.block b h.lt).trans h

theorem TwoD.far {w : World} {b c i : Nat} {n v : ByteArray} {x : Value} (h : TwoD w b n v) (hne : b ≠ c) : TwoD (w.setCell ⟨c, i, none⟩ x) b n v := by
  unfold TwoD
  rw [heap_setCell_other _ _ _ _ hne]
  exact h

theorem results_d2 {fn : Func} {p q : Tmp} (h : fn.results = #[.cell p 67, .tmp q]) (tmps : Array Value) (w : World) (b : Nat) (n v : ByteArray) (hp : tmps.getD p undef = .pointer (some ⟨b, 0, none⟩)) (hc : w.rangeAt b 0 [.string n, .string v]) : (results fn tmps).run Tryz.prog w = .ok (.tuple #[hdVal n v, tmps.getD q undef]) w := by
  rw [Array.getD_eq_getD_getElem?] at hp
  simp only [results, h]
  simp [Sem.run_bind, Result.andThen, hp, asAddr, run_loadVar_mid w b 0 67 [.string n, .string v] _ hc Tryz.underlying67 rfl (by kernel_rfl), hdVal]

/-- What a step answers. -/
def StPost (k b : List UInt8) (ok : Bool) (w : World) (e : Ending) (w' : World) : Prop := e = .returned (.tuple #[hdVal (ba k) (ba b), .bool ok]) ∧ Below w.heap.size w w'

abbrev pObj (a b : ByteArray) : Obj := .cells #[.string a, .string b] 67

/-- A world with what a step lays first: what it is told, and what it will answer. -/
abbrev laidD (w : World) (a b : ByteArray) : World := (w.alloc (pObj a b)).alloc (pObj ⟨#[]⟩ ⟨#[]⟩)

theorem laidD_facts (w : World) (a b : ByteArray) : TwoD (laidD w a b) w.heap.size a b ∧ TwoD (laidD w a b) (w.heap.size + 1) ⟨#[]⟩ ⟨#[]⟩ ∧ Below w.heap.size w (laidD w a b) := by
  have h1 : TwoD (w.alloc (pObj a b)) w.heap.size a b := heap_alloc_new _ _
  have hb1 : Below w.heap.size w (w.alloc (pObj a b)) := (Below.refl _ w).alloc (Nat.le_refl _) _
  have hz : (w.alloc (pObj a b)).heap.size = w.heap.size + 1 := by simp
  have hb2 : Below (w.alloc (pObj a b)).heap.size (w.alloc (pObj a b)) (laidD w a b) := (Below.refl _ _).alloc (Nat.le_refl _) _
  refine ⟨h1.kept hb2, ?_, below2 hb1 hb2⟩
  have := heap_alloc_new (w.alloc (pObj a b)) (pObj ⟨#[]⟩ ⟨#[]⟩)
  rw [hz] at this
  exact this

theorem strip_le2 (l : List UInt8) : (strip l).length ≤ l.length := by
  unfold strip
  have h1 := (List.dropWhile_suffix blC (l := l)).length_le
  have h2 := (List.dropWhile_suffix blC (l := (l.dropWhile blC).reverse)).length_le
  simp at h2 ⊢
  omega

theorem unpct_le2 (l : List UInt8) : (unpct l).length ≤ l.length := by
  have key : ∀ (f : Nat) (l : List UInt8), (unpctN f l).length ≤ l.length := by
    intro f
    induction f with
    | zero => intro l; simp [unpctN]
    | succ f ih =>
      intro l
      cases l with
      | nil => simp [unpctN]
      | cons c l =>
        simp only [unpctN, List.length_cons]
        have := ih (if (pcd (c :: l)).2 then l.drop 2 else l)
        have h2 : (if (pcd (c :: l)).2 then l.drop 2 else l).length ≤ l.length := by split <;> simp
        omega
  exact key _ _

set_option maxHeartbeats 2000000 in
set_option maxRecDepth 100000 in
theorem cut_d (a b : ByteArray) (w : World) (hG : G5 w) (hs : b.size ≤ 40000000) :
    Calls Tryz.prog 27 #[hdVal a b] w (StPost (cutK b.data.toList) (cutD b.data.toList) (cutO b.data.toList) w) := by
  obtain ⟨h1, h2, hb0⟩ := laidD_facts w a b
  obtain ⟨c0, c1, f0, f1⟩ := h1.cells
  have HG := hid (hG.kept hb0)
  have H2 := hid h2
  have HB := hid hb0
  have hpl := part_le 44 b.data.toList
  rw [← Lib.size_eq] at hpl
  have hcp := cut_part 44 b.data.toList
  obtain ⟨K, hK⟩ : ∃ K, ba (part 44 b.data.toList).1 = K := ⟨_, rfl⟩
  obtain ⟨B, hB⟩ : ∃ B, ba (part 44 b.data.toList).2.1 = B := ⟨_, rfl⟩
  obtain ⟨ok, hok⟩ : ∃ ok, (part 44 b.data.toList).2.2 = ok := ⟨_, rfl⟩
  have hKl : K.data.toList = (part 44 b.data.toList).1 := by rw [← hK]; rfl
  have hBl : B.data.toList = (part 44 b.data.toList).2.1 := by rw [← hB]; rfl
  have hKs : K.size ≤ 40000000 := by rw [Lib.size_eq, hKl]; omega
  have hBs : B.size ≤ 40000000 := by rw [Lib.size_eq, hBl]; omega
  have HCt : Hid (∀ w : World, G5 w → Calls Tryz.prog 56 #[.string b, .string ⟨#[44]⟩] w fun e w' => e = .returned (.tuple #[.string K, .string B, .bool ok]) ∧ Below w.heap.size w w') := fun w hg => by
    have := cut5_any b ⟨#[44]⟩ w hg (by omega)
    rw [show (⟨#[44]⟩ : ByteArray).data.toList = [44] from rfl, hcp] at this
    rw [← hK, ← hB, ← hok]
    exact this
  obtain ⟨S, hS⟩ : ∃ S, ba (strip K.data.toList) = S := ⟨_, rfl⟩
  obtain ⟨U, hU⟩ : ∃ U, ba (unpct B.data.toList) = U := ⟨_, rfl⟩
  have HSt : Hid (∀ w : World, Calls Tryz.prog 57 #[.string K] w fun e w' => e = .returned (.string S) ∧ w = w') := fun w => by rw [← hS]; exact strip_any K w (by omega)
  have HUn : Hid (∀ w : World, Calls Tryz.prog 58 #[.string B] w fun e w' => e = .returned (.string U) ∧ Below w.heap.size w w') := fun w => by rw [← hU]; exact unpercent_any B w (by omega)
  have HE := hid (show ba (cutK b.data.toList) = S ∧ ba (cutD b.data.toList) = U ∧ cutO b.data.toList = ok by
    refine ⟨?_, ?_, hok⟩
    · rw [← hS, hKl]; rfl
    · rw [← hU, hBl]; rfl)
  clear hpl hcp hK hB hok hKl hBl hKs hBs hS hU h1 h2 hb0 hG
  show Calls Tryz.prog 27 #[.agg #[.string a, .string b]] w _
  go_enter Tryz.func27, Tryz.ntmps27
  go_wp2_with fail
  refine (HCt.out _ HG.out).mono ?_
  rintro e w1 ⟨rfl, hb1⟩
  go_wp2_with fail
  refine (HSt.out _).mono ?_
  rintro e w2 ⟨rfl, rfl⟩
  go_wp2_with fail
  refine (HUn.out _).mono ?_
  rintro e w3 ⟨rfl, hb3⟩
  have HT := hid ((H2.out.kept hb1).kept hb3)
  have HB3 := hid (below2 (below2 HB.out hb1) hb3)
  obtain ⟨d0, d1, g0, g1⟩ := HT.out.cells
  clear hb1 hb3 c0 c1 f0 f1
  go_wp2_with fail
  refine bodyPost_ret (results_d2 rfl _ _ (w.heap.size + 1) S U rfl HT.out.set.range) rfl ⟨?_, ?_⟩
  · rw [HE.out.1, HE.out.2.1, HE.out.2.2]; rfl
  · exact (HB3.out.setCell (p := ⟨w.heap.size + 1, 0, none⟩) (Nat.le_succ _) _).setCell (p := ⟨w.heap.size + 1, 1, none⟩) (Nat.le_succ _) _

end Go.Proofs.YtjmkccnjjofmeaaGreatDoor

namespace Go.Proofs.YtjmkccnjjofmeaaGreatDoor
open Go.RowKit

theorem noBl_le (l : List UInt8) : (noBl l).length ≤ l.length := by
  unfold noBl Lib.trimRightB
  have h := (List.dropWhile_suffix (fun x => x == (32 : UInt8)) (l := l.reverse)).length_le
  simp at h ⊢
  omega

theorem trimR1_any (s : ByteArray) (w : World) (hs : s.size ≤ 9223372036854775807) :
    Calls Tryz.prog 94 #[.string s, .string ⟨#[32]⟩] w fun e w' => e = .returned (.string (ba (noBl s.data.toList))) ∧ w' = w :=
  Any.strings_TrimRight_one Tryz.lays162 s 32 (by decide) w hs

def WmPost (k : List UInt8) (w : World) (e : Ending) (w' : World) : Prop := ∃ t : List UInt8, e = .returned (.tuple #[.string (ba t), .bool (isM k)]) ∧ (isM k = true → t = offM k) ∧ Below w.heap.size w w'

set_option maxHeartbeats 2000000 in
set_option maxRecDepth 100000 in
theorem withoutMark_d (k : ByteArray) (w : World) (hs : k.size ≤ 40000000) :
    Calls Tryz.prog 59 #[.string k] w (WmPost k.data.toList w) := by
  by_cases h6 : k.size < 6
  · have hc : (k.size : Int) - 6 < 0 := by omega
    have HE := hid (show isM k.data.toList = false by
      unfold isM ends6
      rw [decide_eq_false (by rw [← Lib.size_eq]; omega)]; rfl)
    clear h6
    go_enter Tryz.func59, Tryz.ntmps59
    go_wp2
    go_ret2
    refine ⟨[], ?_, fun h => ?_, Below.refl _ _⟩
    · rw [HE.out]; rfl
    · rw [HE.out] at h; cases h
  · have hc : ¬ (k.size : Int) - 6 < 0 := by omega
    obtain ⟨n, hn⟩ : ∃ n, k.size = n + 6 := ⟨k.size - 6, by omega⟩
    have hni : (k.size : Int) - 6 = (n : Int) := by omega
    have hn0 : ¬ (n : Int) < 0 := by omega
    obtain ⟨T, hT⟩ : ∃ T, k.extract n (n + 6) = T := ⟨_, rfl⟩
    obtain ⟨A, hA⟩ : ∃ A, k.extract 0 n = A := ⟨_, rfl⟩
    have hTl : T.data.toList = k.data.toList.drop n := by rw [← hT, ← hn]; exact extract_drop k n
    have hAl : A.data.toList = k.data.toList.take n := by rw [← hA]; simp
    have hTs : T.size ≤ 40000000 := by rw [Lib.size_eq, hTl, List.length_drop, ← Lib.size_eq]; omega
    have hAs : A.size ≤ 40000000 := by rw [Lib.size_eq, hAl, List.length_take, ← Lib.size_eq]; omega
    obtain ⟨L, hL⟩ : ∃ L, ba (low T.data.toList) = L := ⟨_, rfl⟩
    have HLw : Hid (∀ w : World, Calls Tryz.prog 92 #[.string T] w fun e w' => e = .returned (.string L) ∧ Below w.heap.size w w') := fun w => by
      rw [← hL]; exact lower_any T w (by omega)
    have hkl : k.data.toList.length - 6 = n := by rw [← Lib.size_eq]; omega
    have hend : ends6 k.data.toList = (L.data.toList == markB) := by
      unfold ends6
      rw [decide_eq_true (by rw [← Lib.size_eq]; omega), hkl, ← hTl, ← hL]; rfl
    have hah : ahead6 k.data.toList = noBl A.data.toList := by unfold ahead6; rw [hkl, hAl]
    by_cases hm : L = ⟨#[98, 97, 115, 101, 54, 52]⟩
    · have he : ends6 k.data.toList = true := by rw [hend, hm]; decide
      have hnl := noBl_le A.data.toList
      rw [← Lib.size_eq] at hnl
      obtain ⟨X, hX⟩ : ∃ X, ba (noBl A.data.toList) = X := ⟨_, rfl⟩
      have hXl : X.data.toList = noBl A.data.toList := by rw [← hX]; rfl
      have hXs : X.size ≤ 40000000 := by rw [Lib.size_eq, hXl]; omega
      obtain ⟨O, hO⟩ : ∃ O, ba (Lib.trimSuffix X.data.toList [59]) = O := ⟨_, rfl⟩
      obtain ⟨b, hb⟩ : ∃ b, Lib.hasSuffix X.data.toList [59] = b := ⟨_, rfl⟩
      have HTr : Hid (∀ w : World, Calls Tryz.prog 94 #[.string A, .string ⟨#[32]⟩] w fun e w' => e = .returned (.string X) ∧ w' = w) := fun w => by
        rw [← hX]; exact trimR1_any A w (by omega)
      have HCs : Hid (∀ w : World, Calls Tryz.prog 93 #[.string X, .string ⟨#[59]⟩] w fun e w' => e = .returned (.tuple #[.string O, .bool b]) ∧ w' = w) := fun w => by
        rw [← hO, ← hb]; exact Tryz.strings_CutSuffix X ⟨#[59]⟩ w (by omega)
      have HE := hid (show isM k.data.toList = b ∧ ba (offM k.data.toList) = O by
        unfold isM offM
        rw [he, hah, ← hXl, hb, ← hO]; exact ⟨rfl, rfl⟩)
      clear hTl hAl hTs hAs hL hkl hend hah he hnl hX hXl hXs hO hb h6
      subst hm
      go_enter Tryz.func59, Tryz.ntmps59
      go_wp2_with fail
      refine (HLw.out _).mono ?_
      rintro e w1 ⟨rfl, hb1⟩
      go_wp2_with fail
      refine (HTr.out _).mono ?_
      rintro e w2 ⟨rfl, rfl⟩
      go_wp2_with fail
      refine (HCs.out _).mono ?_
      rintro e w3 ⟨rfl, rfl⟩
      go_wp2
      go_ret2
      refine ⟨O.data.toList, ?_, fun _ => ?_, hb1⟩
      · rw [HE.out.1, mba_self]; rfl
      · rw [← HE.out.2]; rfl
    · have he : ends6 k.data.toList = false := by
        rw [hend]
        cases h : L.data.toList == markB with
        | false => rfl
        | true =>
          exfalso
          apply hm
          rw [← mba_self L, eq_of_beq h]; rfl
      have HE := hid (show isM k.data.toList = false by unfold isM; rw [he]; rfl)
      have hLf : (L.toList == [98, 97, 115, 101, 54, 52]) = false := by rw [Lib.toList_data, ← hend.symm.trans he]; rfl
      clear hTl hAl hTs hAs hL hkl hend hah he h6
      go_enter Tryz.func59, Tryz.ntmps59
      go_wp2_with fail
      refine (HLw.out _).mono ?_
      rintro e w1 ⟨rfl, hb1⟩
      go_wp2
      go_ret2
      refine ⟨[], ?_, fun h => ?_, hb1⟩
      · rw [HE.out]; rfl
      · rw [HE.out] at h; cases h

end Go.Proofs.YtjmkccnjjofmeaaGreatDoor

namespace Go.Proofs.YtjmkccnjjofmeaaGreatDoor
open Go.RowKit

set_option maxHeartbeats 2000000 in
set_option maxRecDepth 100000 in
theorem unwrapped_d (a b : ByteArray) (w : World) (ha : a.size ≤ 40000000) (hs : b.size ≤ 40000000) :
    Calls Tryz.prog 28 #[hdVal a b] w (StPost (unK a.data.toList) (unB a.data.toList b.data.toList) (unO a.data.toList b.data.toList) w) := by
  obtain ⟨h1, h2, hb0⟩ := laidD_facts w a b
  obtain ⟨c0, c1, f0, f1⟩ := h1.cells
  have H1 := hid h1
  have H2 := hid h2
  have HB := hid hb0
  have HW := hid (fun w => withoutMark_d a w ha)
  have HQ := hid (fun w => base64_fit b w (by omega))
  obtain ⟨m, hm⟩ : ∃ m, isM a.data.toList = m := ⟨_, rfl⟩
  clear h1 h2 hb0
  cases m with
  | false =>
    have HE := hid (show unK a.data.toList = a.data.toList ∧ unB a.data.toList b.data.toList = b.data.toList ∧ unO a.data.toList b.data.toList = true by
      unfold unK unB unO; rw [hm]; exact ⟨rfl, rfl, rfl⟩)
    have HM := hid hm
    clear hm
    show Calls Tryz.prog 28 #[.agg #[.string a, .string b]] w _
    go_enter Tryz.func28, Tryz.ntmps28
    go_wp2_with fail
    refine (HW.out _).mono ?_
    rintro e w1 ⟨t, rfl, _, hb1⟩
    rw [HM.out]
    have HT1 := hid (H1.out.kept hb1)
    have HT2 := hid (H2.out.kept hb1)
    have HB1 := hid (below2 HB.out hb1)
    obtain ⟨d0, d1, g0, g1⟩ := HT1.out.cells
    obtain ⟨e0, e1, k0, k1⟩ := HT2.out.cells
    clear hb1 c0 c1 f0 f1
    go_wp2_with fail
    refine bodyPost_ret (results_d2 rfl _ _ (w.heap.size + 1) a b rfl HT2.out.set.range) rfl ⟨?_, ?_⟩
    · rw [HE.out.1, HE.out.2.1, HE.out.2.2, mba_self, mba_self]; rfl
    · exact (HB1.out.setCell (p := ⟨w.heap.size + 1, 0, none⟩) (Nat.le_succ _) _).setCell (p := ⟨w.heap.size + 1, 1, none⟩) (Nat.le_succ _) _
  | true =>
    have HM := hid hm
    show Calls Tryz.prog 28 #[.agg #[.string a, .string b]] w _
    go_enter Tryz.func28, Tryz.ntmps28
    go_wp2_with fail
    refine (HW.out _).mono ?_
    rintro e w1 ⟨t, rfl, ht, hb1⟩
    rw [HM.out]
    have ht := ht hm
    subst ht
    clear hm
    have HT1 := hid (H1.out.kept hb1)
    have HT2 := hid (H2.out.kept hb1)
    have HB1 := hid (below2 HB.out hb1)
    obtain ⟨d0, d1, g0, g1⟩ := HT1.out.cells
    clear hb1 c0 c1 f0 f1
    go_wp2_with fail
    refine (HQ.out _).mono ?_
    rintro e w2 ⟨hb2, ⟨hno, rfl⟩ | ⟨l, g, cap, hl, hcap, rfl, hown⟩⟩
    · have HE := hid (show unK a.data.toList = offM a.data.toList ∧ unB a.data.toList b.data.toList = [] ∧ unO a.data.toList b.data.toList = false by
        unfold unK unB unO; rw [HM.out, hno]; exact ⟨rfl, rfl, rfl⟩)
      have hcv : (convert 27 9 (.slice none 0 0)).run Tryz.prog w2 = .ok (.string ⟨#[]⟩) w2 := Lib.run_convert_nil_bytes w2 27 9 5 0 Tryz.underlying27 Tryz.underlying5 Tryz.underlying9
      have HT3 := hid (HT2.out.kept hb2)
      have HB3 := hid (below2 HB1.out hb2)
      obtain ⟨e0, e1, k0, k1⟩ := HT3.out.cells
      clear hb2 hno d0 d1 g0 g1
      go_wp2_with fail
      refine bodyPost_ret (results_d2 rfl _ _ (w.heap.size + 1) (ba (offM a.data.toList)) ⟨#[]⟩ rfl HT3.out.set.range) rfl ⟨?_, ?_⟩
      · rw [HE.out.1, HE.out.2.1, HE.out.2.2]; rfl
      · exact (HB3.out.setCell (p := ⟨w.heap.size + 1, 0, none⟩) (Nat.le_succ _) _).setCell (p := ⟨w.heap.size + 1, 1, none⟩) (Nat.le_succ _) _
    · have HE := hid (show unK a.data.toList = offM a.data.toList ∧ unB a.data.toList b.data.toList = l ∧ unO a.data.toList b.data.toList = true by
        unfold unK unB unO; rw [HM.out, hl]; exact ⟨rfl, rfl, rfl⟩)
      have hcv : (convert 27 9 (.slice (some ⟨g, 0, none⟩) l.length cap)).run Tryz.prog w2 = .ok (.string (ba l)) w2 := run_string_own Tryz.underlying27 Tryz.underlying5 Tryz.underlying9 hown (by simp)
      have HT3 := hid (HT2.out.kept hb2)
      have HB3 := hid (below2 HB1.out hb2)
      obtain ⟨e0, e1, k0, k1⟩ := HT3.out.cells
      clear hb2 hl d0 d1 g0 g1 hown hcap
      go_wp2_with fail
      refine bodyPost_ret (results_d2 rfl _ _ (w.heap.size + 1) (ba (offM a.data.toList)) (ba l) rfl HT3.out.set.range) rfl ⟨?_, ?_⟩
      · rw [HE.out.1, HE.out.2.1, HE.out.2.2]; rfl
      · exact (HB3.out.setCell (p := ⟨w.heap.size + 1, 0, none⟩) (Nat.le_succ _) _).setCell (p := ⟨w.heap.size + 1, 1, none⟩) (Nat.le_succ _) _

theorem two_laid (w : World) (o : Obj) (a b : ByteArray) : TwoD ((w.alloc o).alloc (pObj a b)) (w.heap.size + 1) a b ∧ Below w.heap.size w ((w.alloc o).alloc (pObj a b)) := by
  have hb1 : Below w.heap.size w (w.alloc o) := (Below.refl _ w).alloc (Nat.le_refl _) _
  have hz : (w.alloc o).heap.size = w.heap.size + 1 := by simp
  have hb2 : Below (w.alloc o).heap.size (w.alloc o) ((w.alloc o).alloc (pObj a b)) := (Below.refl _ _).alloc (Nat.le_refl _) _
  refine ⟨?_, below2 hb1 hb2⟩
  have := heap_alloc_new (w.alloc o) (pObj a b)
  rw [hz] at this
  exact this

set_option maxHeartbeats 2000000 in
set_option maxRecDepth 100000 in
theorem completed_d (a b : ByteArray) (w : World) (ha : a.size ≤ 40000000) :
    Calls Tryz.prog 29 #[hdVal a b] w (StPost (comK a.data.toList) b.data.toList true w) := by
  obtain ⟨h1, h2, hb0⟩ := laidD_facts w a b
  obtain ⟨c0, c1, f0, f1⟩ := h1.cells
  obtain ⟨e0, e1, k0, k1⟩ := h2.cells
  have HB := hid hb0
  have HP := hid (fun w : World => hasPrefix_any a ⟨#[59]⟩ w)
  rw [show (⟨#[59]⟩ : ByteArray).data.toList = [59] from rfl] at HP
  obtain ⟨m, hm⟩ : ∃ m, Lib.hasPrefix a.data.toList [59] = m := ⟨_, rfl⟩
  rw [hm] at HP
  cases m with
  | false =>
    have HE := hid (show comK a.data.toList = a.data.toList by unfold comK; rw [hm]; rfl)
    have HT2 := hid h2
    clear hm h1 h2 hb0
    show Calls Tryz.prog 29 #[.agg #[.string a, .string b]] w _
    go_enter Tryz.func29, Tryz.ntmps29
    go_wp2_with fail
    refine (HP.out _).mono ?_
    rintro e w1 ⟨rfl, rfl⟩
    go_wp2_with fail
    refine bodyPost_ret (results_d2 rfl _ _ (w.heap.size + 1) a b rfl (two_laid w _ a b).1.range) rfl ⟨?_, (two_laid w _ a b).2⟩
    rw [HE.out, mba_self, mba_self]; rfl
  | true =>
    have HE := hid (show ba (comK a.data.toList) = ⟨#[116, 101, 120, 116, 47, 112, 108, 97, 105, 110]⟩ ++ a by
      unfold comK; rw [hm, if_pos rfl]
      exact xext (by simp [ba, tplB]))
    obtain ⟨X, hX⟩ : ∃ X : ByteArray, ⟨#[116, 101, 120, 116, 47, 112, 108, 97, 105, 110]⟩ ++ a = X := ⟨_, rfl⟩
    have h1' : TwoD ((laidD w a b).setCell ⟨w.heap.size, 0, none⟩ (.string X)) w.heap.size X b := h1.set0
    have h2' : TwoD ((laidD w a b).setCell ⟨w.heap.size, 0, none⟩ (.string X)) (w.heap.size + 1) ⟨#[]⟩ ⟨#[]⟩ := h2.far (by omega)
    obtain ⟨d0, d1, g0, g1⟩ := h1'.cells
    obtain ⟨p0, p1, q0, q1⟩ := h2'.cells
    have HT2 := hid h2'
    rw [hX] at HE
    clear hm h1 h2 hb0 h1' h2'
    show Calls Tryz.prog 29 #[.agg #[.string a, .string b]] w _
    go_enter Tryz.func29, Tryz.ntmps29
    go_wp2_with fail
    refine (HP.out _).mono ?_
    rintro e w1 ⟨rfl, rfl⟩
    go_wp2_with fail
    refine bodyPost_ret (results_d2 rfl _ _ (w.heap.size + 1) X b rfl (two_laid w _ X b).1.range) rfl ⟨?_, (two_laid w _ X b).2⟩
    rw [HE.out, mba_self]; rfl

end Go.Proofs.YtjmkccnjjofmeaaGreatDoor

namespace Go.Proofs.YtjmkccnjjofmeaaGreatDoor
open Go.RowKit

theorem beq_no (a : ByteArray) (l : List UInt8) (h : a.data.toList ≠ l) : (a.toList == l) = false := by
  rw [Lib.toList_data, beq_eq_false_iff_ne]; exact h

theorem beq_yes (a : ByteArray) (l : List UInt8) (h : a.data.toList = l) : (a.toList == l) = true := by
  rw [Lib.toList_data, h]; exact beq_self_eq_true _

end Go.Proofs.YtjmkccnjjofmeaaGreatDoor

namespace Go.Proofs.YtjmkccnjjofmeaaGreatDoor
open Go.RowKit

theorem ret_ss {a b c d : ByteArray} (h : a = b) (g : c = d) : Ending.returned (.tuple #[.string a, .string c]) = .returned (.tuple #[.string b, .string d]) := by rw [h, g]

theorem ret_str' {a b : ByteArray} (h : a = b) : Ending.returned (.string a) = .returned (.string b) := by rw [h]

theorem slash_len (l : List UInt8) : (slashV l).length = l.length := by
  have := congrArg List.length (ahead_app [63] l)
  rw [List.length_append] at this
  rw [slashV, List.length_append, List.length_map, this]

end Go.Proofs.YtjmkccnjjofmeaaGreatDoor

namespace Go.Proofs.YtjmkccnjjofmeaaGreatDoor
open Go.RowKit

theorem intV_range (l : List UInt8) : 0 ≤ intV l ∧ intV l ≤ 9223372036854775807 := by
  unfold intV
  split
  · rename_i h
    simp only [Bool.and_eq_true] at h
    exact numI_range l h.1
  · omega

end Go.Proofs.YtjmkccnjjofmeaaGreatDoor

namespace Go.Proofs.YtjmkccnjjofmeaaGreatDoor
open Go.RowKit

def cutS (l : List UInt8) : List UInt8 × List UInt8 := (schemeV l).getD ([], l)

theorem cutS_none {l : List UInt8} (h : ((part 58 l).2.2 && schOk (part 58 l).1) = false) : cutS l = ([], l) := by rw [cutS, schemeV, h]; rfl

theorem cutS_some {l : List UInt8} (h : ((part 58 l).2.2 && schOk (part 58 l).1) = true) : cutS l = (low (part 58 l).1, (part 58 l).2.1) := by rw [cutS, schemeV, if_pos h]; rfl

end Go.Proofs.YtjmkccnjjofmeaaGreatDoor

namespace Go.Proofs.YtjmkccnjjofmeaaGreatDoor
open Go.RowKit

/-- An owned row stays where its block stays. -/
theorem ownsRow_same {w w' : World} {B : Nat} {e : TypeId} {size : Nat} {v : Value} {n : Nat} {xs : List Value} (h : w.ownsRow B e size v n xs) (hk : ∀ g, v.ownBlock = some g → w'.heap[g]? = w.heap[g]?) : w'.ownsRow B e size v n xs := by
  refine ⟨h.1, ?_⟩
  rcases h.2 with hn | ⟨g, cap, cur, rfl, hb, hgg, rest⟩
  · exact .inl hn
  · exact .inr ⟨g, cap, cur, rfl, hb, (hk g rfl).trans hgg, rest⟩

theorem ownsRow_lower {w : World} {B B' : Nat} {e : TypeId} {size : Nat} {v : Value} {n : Nat} {xs : List Value} (h : w.ownsRow B e size v n xs) (hB : B' ≤ B) : w.ownsRow B' e size v n xs := by
  refine ⟨h.1, ?_⟩
  rcases h.2 with hn | ⟨g, cap, cur, rfl, hb, rest⟩
  · exact .inl hn
  · exact .inr ⟨g, cap, cur, rfl, Nat.le_trans hB hb, rest⟩

/-- What an append leaves: a slice at the head of the same block, or of a new one. -/
def AppAt (w : World) (v v' : Value) (n : Nat) : Prop := ∃ g cap, v' = .slice (some ⟨g, 0, none⟩) n cap ∧ (v.ownBlock = some g ∨ w.heap.size ≤ g)

/-- Where an append to an owned row puts what is there afterwards: into the same block, or into a new one. -/
theorem run_append_where {P : Program} (w : World) (base : Nat) (t ty e : TypeId) (i : TypeInfo) (z : Value) (size bytes : Nat) (ht : P.underlying t = some (.slice e)) (hi : P.info? e = some i) (hz : i.zero = some z)
    (hsize : i.size = size) (hby : i.bytes = bytes) (hzs : z.cells.size = size) (hsz : 0 < size)
    (v : Value) (n : Nat) (xs : List Value) (hown : w.ownsRow base e size v n xs)
    (a : Addr) (m c : Nat) (news : List Value) (hl : news.length = m * size) (hnews : ∀ j u, news[j]? = some u → w.cell? (a.add j) = some u) (h1 : ∀ u ∈ news, u.oneCell' = true)
    (h63 : n + m ≤ maxLen) (hbytes : (n + m) * bytes ≤ 140737488355328) (hbase : base ≤ w.heap.size) (hm : 0 < m) :
    ∃ v' w', (Builtin.append_ #[t, t] ty #[v, .slice (some a) m c]).run P w = .ok v' w' ∧ w'.ownsRow base e size v' (n + m) (xs ++ news) ∧ w.grownBy w' v.ownBlock ∧
      AppAt w v v' (n + m) := by
  obtain ⟨v', w', hr, ho, hg, _⟩ := run_append_own (P := P) w base t ty e i z size bytes ht hi hz hsize hby hzs hsz v n xs hown a m c news hl hnews h1 h63 hbytes hbase
  refine ⟨v', w', hr, ho, hg, ?_⟩
  subst hsize
  subst hby
  have hML : n + m ≤ 9223372036854775807 := by simp only [maxLen] at h63; omega
  rcases hown.2 with ⟨rfl, rfl⟩ | ⟨g, cap, cur, rfl, hbg, hgg, hnc, hcm, hcs, htake⟩
  · have hr2 := run_append_nil (P := P) w t ty e i z ht hi hz a m c news hl hnews hm (by omega) (by have hb := hbytes; simp only [Nat.zero_add] at hb; omega)
    rw [hr2] at hr
    injection hr with e1 e2
    exact ⟨w.heap.size, _, by rw [← e1]; simp; rfl, .inr (Nat.le_refl _)⟩
  · by_cases hroom : n + m ≤ cap
    · have hfit : n * i.size + news.length ≤ cur.size := by rw [hl, hcs, ← Nat.add_mul]; exact Nat.mul_le_mul_right _ hroom
      have hr2 := run_append_room (P := P) w t ty e i ht hi g n cap cur hgg a m c news hl hnews h1 hroom hfit
      rw [hr2] at hr
      injection hr with e1 e2
      exact ⟨g, cap, e1.symm, .inl rfl⟩
    · have hr2 := run_append_grow (P := P) w t ty e i z ht hi hz ⟨g, 0, none⟩ n cap xs hown.1 (hown.cells (g := g) rfl) a m c news hl hnews (by omega) (by omega) (growslice_fits (by omega) hbytes)
      rw [hr2] at hr
      injection hr with e1 e2
      exact ⟨w.heap.size, _, e1.symm, .inr (Nat.le_refl _)⟩

theorem wp_append_where {P : Program} (w : World) {o : Oper} {a : Act} {K : Act → World → Prop} {Q : Exit → Act → World → Prop} (s x : Operand) (t : TypeId)
    (ho : o.op = .call { callee := .builtin .append, args := #[s, x], argTypes := #[t, t] })
    (base : Nat) (e : TypeId) (i : TypeInfo) (z : Value) (size bytes : Nat) (ht : P.underlying t = some (.slice e)) (hi : P.info? e = some i) (hz : i.zero = some z)
    (hsize : i.size = size) (hby : i.bytes = bytes) (hzs : z.cells.size = size) (hsz : 0 < size)
    (v : Value) (n : Nat) (xs : List Value) (hs : a.eval s = v) (hown : w.ownsRow base e size v n xs)
    (ad : Addr) (m c : Nat) (news : List Value) (hx : a.eval x = .slice (some ad) m c) (hl : news.length = m * size) (hnews : ∀ j u, news[j]? = some u → w.cell? (ad.add j) = some u) (h1 : ∀ u ∈ news, u.oneCell' = true)
    (h63 : n + m ≤ maxLen) (hbytes : (n + m) * bytes ≤ 140737488355328) (hbase : base ≤ w.heap.size) (hm : 0 < m)
    (h : ∀ v' w', w'.ownsRow base e size v' (n + m) (xs ++ news) → w.grownBy w' v.ownBlock → AppAt w v v' (n + m) → K (a.put o.dst v') w') : o.wp P a w K Q := by
  obtain ⟨v', w', hr, h2, h3, h4⟩ := run_append_where (P := P) w base t o.type e i z size bytes ht hi hz hsize hby hzs hsz v n xs hown ad m c news hl hnews h1 h63 hbytes hbase hm
  unfold Oper.wp
  simp [execOp, ho, resolve, invoke, builtin, hs, hx, hr, Result.andThen]
  exact h v' w' h2 h3 h4

theorem wpList_append_where {P : Program} (w : World) {ops : Array Oper} {rest : List Oper} {o : Oper} {a : Act} {Q : Exit → Act → World → Prop} (hgd : o.guard = none) (s x : Operand) (t : TypeId)
    (ho : o.op = .call { callee := .builtin .append, args := #[s, x], argTypes := #[t, t] })
    (base : Nat) (e : TypeId) (i : TypeInfo) (z : Value) (size bytes : Nat) (ht : P.underlying t = some (.slice e)) (hi : P.info? e = some i) (hz : i.zero = some z)
    (hsize : i.size = size) (hby : i.bytes = bytes) (hzs : z.cells.size = size) (hsz : 0 < size)
    (v : Value) (n : Nat) (xs : List Value) (hs : a.eval s = v) (hown : w.ownsRow base e size v n xs)
    (ad : Addr) (m c : Nat) (news : List Value) (hx : a.eval x = .slice (some ad) m c) (hl : news.length = m * size) (hnews : ∀ j u, news[j]? = some u → w.cell? (ad.add j) = some u) (h1 : ∀ u ∈ news, u.oneCell' = true)
    (h63 : n + m ≤ maxLen) (hbytes : (n + m) * bytes ≤ 140737488355328) (hbase : base ≤ w.heap.size) (hm : 0 < m)
    (h : ∀ v' w', w'.ownsRow base e size v' (n + m) (xs ++ news) → w.grownBy w' v.ownBlock → AppAt w v v' (n + m) → wpList P ops Q rest (a.put o.dst v') w') : wpList P ops Q (o :: rest) a w :=
  wpList_plain hgd fun _ hK => wp_append_where w s x t ho base e i z size bytes ht hi hz hsize hby hzs hsz v n xs hs hown ad m c news hx hl hnews h1 h63 hbytes hbase hm fun v' w' h2 h3 h4 => hK _ _ (h v' w' h2 h3 h4)

end Go.Proofs.YtjmkccnjjofmeaaGreatDoor
