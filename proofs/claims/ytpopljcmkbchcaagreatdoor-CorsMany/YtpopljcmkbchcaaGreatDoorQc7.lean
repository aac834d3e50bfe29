/-
  Walks and plain facts that this claim leans on, put together out of 5 texts: Cf, Yrg, Cg, Efa, Cc.
-/
import Derived.Test.YtpopljcmkbchcaaGreatDoorProg
import Derived.Test.YtpopljcmkbchcaaGreatDoorQc1
import Derived.Test.YtpopljcmkbchcaaGreatDoorQc2
import Derived.Test.YtpopljcmkbchcaaGreatDoorQc3
import Derived.Test.YtpopljcmkbchcaaGreatDoorQc4
import Derived.Test.YtpopljcmkbchcaaGreatDoorQc5
import Derived.Test.YtpopljcmkbchcaaGreatDoorQc6
import Derived.BigRegion
import Derived.Deep.RegionHeld
import Derived.Deep.RegionHeldLaw
import Derived.WalkKit
import Derived.Lib.Strings
import Derived.Lib.UnsafeStr
import Derived.Laws.IdiomStrings
import Derived.Laws.AppendOwn
import Derived.Laws.BitsAllLaws
import Derived.Lib.Bytealg
import Derived.Lib.BufferMore
import Derived.LoopN
import Derived.Shelf.Strings.Builder1
import Derived.Shelf.Strings.Builder2
import Derived.Shelf.Strings.OnBuilder
import Derived.Shelf.Strings.Trim
import Derived.Shelf.Small.Utf8
import Derived.Shelf.Small.Bits
import Derived.Shelf.Small.Strs
import Derived.Shelf.Small.Wraps
import Derived.Shelf.Strings.BuilderF
import Derived.Shelf.Strings.BuilderK
import Derived.Shelf.Strings.BuilderRune
import Derived.Shelf.Utf8.AppendRune
import Derived.Shelf.Utf8.AppendRunePlain
import Derived.Shelf.Strings.Builder2Cap
import Derived.Shelf.Strconv.Itoa0
import Derived.Shelf.Strconv.Itoa1
import Derived.Shelf.LaysM
import Derived.Shelf.Strconv.Itoa2
import Derived.Shelf.Strconv.Itoa3
import Derived.Shelf.Strings.Search1
import Derived.Shelf.Strings.Search2
import Derived.Shelf.Strings.Cut
import Derived.Shelf.Strings.Shaped
import Derived.Shelf.Sort.Plain
import Derived.Shelf.Strings.Prefix
import Derived.Shelf.Unicode.Latin
import Derived.Shelf.Strings.Runes
import Derived.Shelf.Strings.IndexAny
import Derived.Shelf.Strings.AsciiSet
import Derived.Shelf.Strings.IndexAnyAll
import Derived.Shelf.Unicode.DecodeSlow
import Derived.Shelf.Unicode.DecodeAny
import Derived.Shelf.Unicode.DecodeLast
import Derived.Shelf.Unicode.CaseLookup
import Derived.Shelf.Unicode.CaseConvert
import Derived.Shelf.Unicode.CaseTo
import Derived.Shelf.Unicode.CaseLaid
import Derived.Shelf.Slices.CompactS
import Derived.Shelf.Slices.In.SortNone
import Derived.WalkSpells
import Derived.WalkLawsBesides
import Derived.Lib.SlTrimSet
import Derived.Lib.Join
import Derived.Lib.IndexMore
import Derived.Laws.OwnMore
import Derived.Below
import Derived.WalkSmall
import Derived.Lib.SmallJoins
import Derived.Deep.QuietTactic
import Derived.BigQuiet
import Derived.Deep.LoopGhost
import Derived.Deep.MidRow
import Derived.Shelf.Strings.SlTrimAscii
import Derived.Deep.CutRange
import Derived.Laws.Rows
import Derived.Laws.CopyOwn
import Derived.Laws.MakeOwn
import Derived.Laws.RangeAny
import Derived.Lib.DecodeN
import Derived.Lib.OthersKept
import Derived.RegionTactic
import Derived.Deep.RegionWith
import Derived.Laws.Runes
import Derived.Deep.WholeRow
import Derived.Deep.RegionLaw
import Derived.Laws.AppendOwnNone
import Derived.Lib.IndexAny
import Derived.Lib.BufferRead
import Derived.Lib.RuneBytes
import Derived.Maps.OwnSet
import Derived.Maps.OwnOps
import Derived.Maps.AppendAt
import Derived.StringKeys
import Derived.Lib.FieldsP
import Derived.Laws.ResultCell
import Derived.Lib.LaidTab
import Derived.Lib.AppendIntMem
import Derived.Lib.FrozenHead2
import Derived.Lib.Builder
import Derived.Lib.AppendStr
import Derived.Lib.Replace
import Derived.Shelf.GgClosure.GivesRunes
import Derived.Laws.BitsAll
import Derived.Laws.Shifts
import Derived.Deep.DeepAppendRoom
import Derived.Laws.BytesString
import Derived.Laws.CopyRow
import Derived.Sort.OwnSorted
import Derived.Lib.SlicesCompact
set_option linter.unusedSimpArgs false
set_option linter.unusedVariables false

namespace Go.Proofs.YtpopljcmkbchcaaGreatDoor
open Go.RowKit

def insN (x : List UInt8) : List (List UInt8) → List (List UInt8)
 | [] => [x]
 | y :: t => if ltN y x = true then y :: insN x t else if y = x then y :: t else x :: y :: t

theorem insN_mem (x n : List UInt8) : ∀ O : List (List UInt8), n ∈ insN x O ↔ n = x ∨ n ∈ O
 | [] => by simp [insN]
 | y :: t => by
  have ih := insN_mem x n t
  unfold insN
  split
  ·simp only [List.mem_cons, ih]
   constructor
   ·rintro (h | h | h)
    ·exact .inr (.inl h)
    ·exact .inl h
    ·exact .inr (.inr h)
   ·rintro (h | h | h)
    ·exact .inr (.inl h)
    ·exact .inl h
    ·exact .inr (.inr h)
  ·split
   ·rename_i h
    subst h
    simp only [List.mem_cons]
    constructor
    ·exact .inr
    ·rintro (h | h)
     ·exact .inl h
     ·exact h
   ·simp only [List.mem_cons]

theorem insN_pw (x : List UInt8) : ∀ O : List (List UInt8), O.Pairwise (fun a b => ltN a b = true) → (insN x O).Pairwise (fun a b => ltN a b = true)
 | [], _ => by simp [insN]
 | y :: t, h => by
  have h2 := List.pairwise_cons.1 h
  have ih := insN_pw x t h2.2
  unfold insN
  split
  ·rename_i hlt
   refine List.pairwise_cons.2 ⟨fun z hz => ?_, ih⟩
   rcases (insN_mem x z t).1 hz with rfl | hz
   ·exact hlt
   ·exact h2.1 z hz
  ·rename_i hnl
   split
   ·exact h
   ·rename_i hne
    have hxy : ltN x y = true := by
     rcases ltN_total x y with h3 | h3 | h3
     ·exact h3
     ·exact absurd h3.symm hne
     ·exact absurd h3 hnl
    refine List.pairwise_cons.2 ⟨fun z hz => ?_, h⟩
    rcases List.mem_cons.1 hz with rfl | hz
    ·exact hxy
    ·exact ltN_trans hxy (h2.1 z hz)

def srtN (L : List (List UInt8)) : List (List UInt8) := L.foldl (fun O x => insN x O) []

theorem srtN_snoc (L : List (List UInt8)) (x : List UInt8) : srtN (L ++ [x]) = insN x (srtN L) := by simp [srtN]

theorem srtN_take (L : List (List UInt8)) (k : Nat) (h : k < L.length) : srtN (L.take (k + 1)) = insN L[k] (srtN (L.take k)) := by
 rw [List.take_add_one, List.getElem?_eq_getElem h, ← srtN_snoc]
 rfl

theorem srtN_facts (L : List (List UInt8)) : (srtN L).Pairwise (fun a b => ltN a b = true) ∧ (∀ n, n ∈ srtN L ↔ n ∈ L) ∧ (srtN L).length ≤ L.length := by
 suffices H : ∀ (L O : List (List UInt8)), O.Pairwise (fun a b => ltN a b = true) → (L.foldl (fun O x => insN x O) O).Pairwise (fun a b => ltN a b = true) ∧ (∀ n, n ∈ L.foldl (fun O x => insN x O) O ↔ n ∈ L ∨ n ∈ O) ∧ (L.foldl (fun O x => insN x O) O).length ≤ L.length + O.length by
  obtain ⟨h1, h2, h3⟩ := H L [] List.Pairwise.nil
  exact ⟨h1, fun n => by rw [srtN, h2 n]; simp, h3⟩
 have hlen : ∀ (x : List UInt8) (O : List (List UInt8)), (insN x O).length ≤ O.length + 1 := by
  intro x O
  induction O with
  | nil => simp [insN]
  | cons y t ih =>
   unfold insN
   split
   ·simp; omega
   ·split
    ·simp
    ·simp
 intro L
 induction L with
 | nil => intro O h; exact ⟨h, fun n => by simp, by simp⟩
 | cons x L ih =>
  intro O h
  obtain ⟨h1, h2, h3⟩ := ih (insN x O) (insN_pw x O h)
  refine ⟨h1, fun n => ?_, ?_⟩
  ·rw [List.foldl_cons, h2 n, insN_mem]
   simp only [List.mem_cons]
   constructor
   ·rintro (h | h | h)
    ·exact .inl (.inr h)
    ·exact .inl (.inl h)
    ·exact .inr h
   ·rintro ((h | h) | h)
    ·exact .inr (.inl h)
    ·exact .inl h
    ·exact .inr (.inr h)
  ·rw [List.foldl_cons]
   have := hlen x O
   simp
   omega

theorem insN_at (x : List UInt8) : ∀ (k : Nat) (O : List (List UInt8)), (∀ j (h : j < O.length), j < k → ltN O[j] x = true) → k ≤ O.length → insN x O = O.take k ++ insN x (O.drop k)
 | 0, O, _, _ => by simp
 | k + 1, [], _, hk => by simp at hk
 | k + 1, y :: t, h, hk => by
  have h0 := h 0 (by simp) (by omega)
  simp only [List.getElem_cons_zero] at h0
  rw [insN, if_pos h0]
  rw [insN_at x k t (fun j hj hjk => h (j + 1) (by simpa using hj) (by omega)) (by simpa using hk)]
  simp

theorem insN_end (x : List UInt8) (O : List (List UInt8)) (h : ∀ j (hj : j < O.length), ltN O[j] x = true) : insN x O = O ++ [x] := by
 rw [insN_at x O.length O (fun j hj _ => h j hj) (Nat.le_refl _)]
 simp [insN]

theorem insN_in (x : List UInt8) (O : List (List UInt8)) (k : Nat) (hk : k < O.length) (h : ∀ j (hj : j < O.length), j < k → ltN O[j] x = true) (he : O[k] = x) : insN x O = O := by
 rw [insN_at x k O h (by omega)]
 have : O.drop k = O[k] :: O.drop (k + 1) := List.drop_eq_getElem_cons hk
 rw [this, insN, he, ltN_irrefl]
 simp
 rw [← he, ← this, List.take_append_drop]

theorem insN_mid (x : List UInt8) (O : List (List UInt8)) (k : Nat) (hk : k < O.length) (h : ∀ j (hj : j < O.length), j < k → ltN O[j] x = true) (hn : ltN O[k] x = false) (hne : O[k] ≠ x) : insN x O = O.take k ++ x :: O.drop k := by
 rw [insN_at x k O h (by omega)]
 have : O.drop k = O[k] :: O.drop (k + 1) := List.drop_eq_getElem_cons hk
 rw [this, insN, hn]
 simp [hne]

end Go.Proofs.YtpopljcmkbchcaaGreatDoor

namespace Go.Proofs.YtpopljcmkbchcaaGreatDoor
open Go.RowKit

theorem wpAnyH_to {P : Program} {md : Region.Mode} {ops : Array Oper} {Q : Exit → Act → World → Prop} {S : World → Prop} {fuel fuel' : Nat} {listed listed' : Array Bool} {a : Act} {w : World} (hf : fuel = fuel') (hl : listed = listed') (h : wpAnyH P md ops Q S fuel' listed' a w) : wpAnyH P md ops Q S fuel listed a w := by
 subst hf; subst hl; exact h

end Go.Proofs.YtpopljcmkbchcaaGreatDoor

namespace Go.Proofs.YtpopljcmkbchcaaGreatDoor
open Go.RowKit

theorem less_ltN6 : ∀ a b : List UInt8, Op.bytesLess a b = ltN a b
 | [], [] => rfl
 | [], _ :: _ => rfl
 | _ :: _, [] => rfl
 | x :: a, y :: b => by
  have ih := less_ltN6 a b
  unfold ltN at ih ⊢
  rw [Op.bytesLess, cmp_cons, ih]
  by_cases h1 : x < y
  ·simp [h1]
  ·by_cases h2 : y < x
   ·have : x ≠ y := fun e => by subst e; exact h1 h2
    simp [h1, h2, this]
   ·have : x = y := by
     rw [UInt8.lt_iff_toNat_lt] at h1 h2
     exact UInt8.toNat_inj.1 (by omega)
    simp [h1, h2, this]

theorem take_ins (C : List Value) (O : List (List UInt8)) (k m : Nat) (x z : Value) (hm : O.length = m) (hk : k ≤ m) (hC : C.take (m + 1) = cellsT O ++ [z]) :
  ((splice C (k + 1) (cellsT (O.drop k))).set k x).take (m + 1) = cellsT (O.take k) ++ x :: cellsT (O.drop k) := by
 have hl : m + 1 ≤ C.length := by
  have h := congrArg List.length hC
  rw [List.length_take, List.length_append, cellsT_len, hm] at h
  simp at h
  omega
 have h1 : C.take k = cellsT (O.take k) := by
  have h := congrArg (List.take k) hC
  rw [List.take_take, Nat.min_eq_left (by omega), List.take_append_of_le_length (by rw [cellsT_len]; omega)] at h
  rw [h]
  unfold cellsT
  rw [List.map_take]
 have hd : (cellsT (O.drop k)).length = m - k := by rw [cellsT_len, List.length_drop, hm]
 have h2 : C.take (k + 1) = C.take k ++ [C[k]] := List.take_succ_eq_append_getElem (by omega)
 have hs : (splice C (k + 1) (cellsT (O.drop k))).set k x = C.take k ++ (x :: (cellsT (O.drop k) ++ C.drop (k + 1 + (cellsT (O.drop k)).length))) := by
  unfold splice
  rw [h2, List.append_assoc, List.set_append_right _ _ (by rw [List.length_take]; omega)]
  rw [List.length_take, Nat.min_eq_left (by omega), Nat.sub_self]
  rfl
 rw [hs, List.take_append, List.length_take, Nat.min_eq_left (by omega), h1]
 rw [List.take_of_length_le (by rw [cellsT_len, List.length_take]; omega)]
 congr 1
 rw [show m + 1 - k = (m - k) + 1 by omega, List.take_succ_cons, List.take_append_of_le_length (by omega), List.take_of_length_le (by omega)]

def SoI (w : World) (vv : Value) (O : List (List UInt8)) (wr : World) : Prop := wr.ownsRow w.heap.size 9 1 vv O.length (cellsT O) ∧ Below w.heap.size w wr

theorem SoI.drewN {w wr : World} {vv : Value} {O : List (List UInt8)} (h : SoI w vv O wr) (n : Nat) : SoI w vv O (wr.drewN n) := ⟨h.1, Go.below_drewN h.2 n⟩

theorem SoI.tx {w wr : World} {vv : Value} {O : List (List UInt8)} (h : SoI w vv O wr) : TxAt wr vv O := own_txt' h.1

theorem SoI.ins {w w5 : World} {g k m cap : Nat} {C : List Value} {O : List (List UInt8)} {X : ByteArray} {z : Value} (hm : O.length = m) (hk : k ≤ m) (hB : w.heap.size ≤ g) (hc : m + 1 ≤ cap) (hcm : cap ≤ maxLen) (hC : C.take (m + 1) = cellsT O ++ [z]) (hl : C.length = cap)
  (hrow : w5.heap[g]? = some (.cells (splice C (k + 1) (cellsT (O.drop k))).toArray 9 (0, 0))) (hb : Below w.heap.size w w5) :
  SoI w (.slice (some ⟨g, 0, none⟩) (m + 1) cap) (O.take k ++ X.data.toList :: O.drop k) (w5.setCell ⟨g, k, none⟩ (.string X)) := by
 have hlen : (O.take k ++ X.data.toList :: O.drop k).length = m + 1 := by
  rw [List.length_append, List.length_cons, List.length_take, List.length_drop, hm, Nat.min_eq_left hk]; omega
 have hd : (cellsT (O.drop k)).length = m - k := by rw [cellsT_len, List.length_drop, hm]
 refine ⟨⟨by rw [cellsT_len]; simp, .inr ⟨g, cap, _, by rw [hlen], hB, Lib.heap_setCell_same hrow (.string X), by rw [hlen]; exact hc, hcm, ?_, ?_⟩⟩, hb.setCell (p := ⟨g, k, none⟩) hB _⟩
 ·rw [Array.size_setIfInBounds, List.size_toArray, length_splice _ _ _ (by rw [hd]; omega), hl, Nat.mul_one]
 ·rw [hlen, Nat.mul_one, List.setIfInBounds_toArray, List.toList_toArray, take_ins C O k m (.string X) z hm hk hC, cellsT_app]
  congr 1

theorem infoTx6 : (Tryz.prog.info? 9).map (fun i => (i.zero, i.size, i.bytes)) = some (some (.string ByteArray.empty), 1, 16) := by kernel_rfl

set_option maxHeartbeats 16000000 in
set_option maxRecDepth 100000 in
theorem rsorted1_any (v : Value) (L : List (List UInt8)) (w : World) (h : TxAt w v L) (hl : L.length ≤ 100000) (hz : ∀ x ∈ L, x.length ≤ 1000000) :
  Calls Tryz.prog 97 #[v] w fun e w' => ∃ u, e = .returned u ∧ w'.ownsRow w.heap.size 9 1 u (srtN L).length (cellsT (srtN L)) ∧ Below w.heap.size w w' := by
 obtain ⟨i0, hi, hz0, hz1, hz2⟩ := info3 infoTx6
 obtain ⟨a1, c1, rfl, hc1, hm1, hv1⟩ := h.view
 have V1 := hid hv1
 have HZ := hid hz
 obtain ⟨n, hn⟩ : ∃ n, n = L.length := ⟨_, rfl⟩
 have HN := hid hn
 rw [← hn] at hl ⊢
 clear h hv1 hz hn hc1 hm1
 go_enter Tryz.func97, Tryz.ntmps97
 go_wp2
 go_loopw [3, 4] (fun vv iv wr => ∃ (i : Nat) (a : Option Addr) (m c : Nat), i ≤ n ∧ m ≤ 100000 ∧ iv = .int .i64 i ∧ vv = .slice a m c ∧ Hid (m = (srtN (L.take i)).length ∧ SoI w (.slice a m c) (srtN (L.take i)) wr)) (fun _ iv _ => n - (intOf iv).toNat)
 case atStart => exact ⟨0, none, 0, 0, Nat.zero_le _, by omega, rfl, rfl, rfl, World.ownsRow_nil _ _ _ _, Below.refl _ _⟩
 case round =>
  obtain ⟨i, ao, m, co, hil, hm1000, rfl, rfl, HS0⟩ := hrel
  by_cases hlt : i < n
  ·have hlt' : (i : Int) < (n : Int) := by omega
   have hiL : i < L.length := by have := HN.out; omega
   have HT := hid (srtN_take L i hiL)
   have HLe := hid (show (srtN (L.take (i + 1))).length ≤ 100000 by have := (srtN_facts (L.take (i + 1))).2.2; rw [List.length_take] at this; omega)
   obtain ⟨O, hO⟩ : ∃ O, O = srtN (L.take i) := ⟨_, rfl⟩
   rw [← hO] at HS0 HT
   have HS := hid HS0.out.2
   have HM := hid HS0.out.1
   obtain ⟨b1, o1, rfl, e1⟩ := V1.out i hiL
   obtain ⟨X, hX⟩ : ∃ x : ByteArray, x = ⟨L[i].toArray⟩ := ⟨_, rfl⟩
   have hXl : L[i] = X.data.toList := by rw [hX]
   rw [hXl] at HT
   rw [← hX] at e1
   have HK := hid (fun (Y : World) (hY : Below w.heap.size w Y) => (hY.cell (World.block_lt_of_cell? w _ e1)).trans e1)
   obtain ⟨WR, hWR⟩ : ∃ W, W = wr := ⟨_, rfl⟩
   subst hWR
   clear hX hXl e1 hO HS0 hiL
   go_wp2
   go_loopw [5] (fun v5 wq => ∃ k : Nat, k ≤ m ∧ v5 = .int .i64 k ∧ Hid ((∀ j (hj : j < O.length), j < k → ltN O[j] X.data.toList = true) ∧ SoI w (.slice ao m co) O wq)) (fun v5 _ => m - (intOf v5).toNat)
   case atStart => exact ⟨0, Nat.zero_le _, rfl, fun j _ h => by omega, HS.out⟩
   case round =>
    obtain ⟨k, hk, rfl, HBI⟩ := hrel
    by_cases hkm : k < m
    ·have hkm' : (k : Int) < (m : Int) := by omega
     have hkO : k < O.length := by have := HM.out; omega
     obtain ⟨a', c', e', _, _, hv'⟩ := HBI.out.2.tx.view
     obtain ⟨bo, oo, eo, f1⟩ := hv' k hkO
     injection e' with ea eb ec
     obtain rfl : ao = some ⟨bo, oo, none⟩ := ea.trans eo
     obtain ⟨Y, hY⟩ : ∃ x : ByteArray, x = ⟨O[k].toArray⟩ := ⟨_, rfl⟩
     have hYl : O[k] = Y.data.toList := by rw [hY]
     rw [← hY] at f1
     have e1 := HK.out wr HBI.out.2.2
     have HLs := hid (show Op.bytesLess Y.toList X.toList = ltN O[k] X.data.toList by rw [less_ltN6, Lib.toList_data, Lib.toList_data, hYl])
     have HEq := hid (show (Y.toList == X.toList) = true ↔ O[k] = X.data.toList by rw [beq_iff_eq, Lib.toList_data, Lib.toList_data, hYl])
     clear hv' ea eb ec eo hY hYl
     by_cases hls : ltN O[k] X.data.toList = true
     ·have hless : Op.bytesLess Y.toList X.toList = true := by rw [HLs.out]; exact hls
      have HB2 := hid (show ∀ j (hj : j < O.length), j < k + 1 → ltN O[j] X.data.toList = true from fun j hj hjk => by
       by_cases h : j = k
       ·subst h; exact hls
       ·exact HBI.out.1 j hj (by omega))
      clear hls HLs HEq
      go_wp2
      go_quiet (fail)
      go_wp2
      go_roundw
      case rel => exact ⟨k + 1, by omega, by go_num, HB2.out, HBI.out.2.drewN _⟩
      case measure => simp [intOf]; omega
     ·have hless : Op.bytesLess Y.toList X.toList = false := by rw [HLs.out]; simpa using hls
      by_cases heq : O[k] = X.data.toList
      ·have hbe : (Y.toList == X.toList) = true := HEq.out.2 heq
       have HIN := hid (show srtN (L.take (i + 1)) = O by rw [HT.out]; exact insN_in _ O k hkO HBI.out.1 heq)
       clear hls HLs HEq heq HT
       go_wp2
       go_quiet (fail)
       go_wp2
       go_quiet (fail)
       go_wp2
       go_roundw
       case rel => exact ⟨i + 1, _, m, co, by omega, hm1000, by go_num, rfl, by rw [HIN.out]; exact ⟨HM.out, HBI.out.2.drewN _⟩⟩
       case measure => simp [intOf]; omega
      ·have hbe : (Y.toList == X.toList) = false := by rw [← Bool.not_eq_true]; exact fun h => heq (HEq.out.1 h)
       have HIN := hid (show srtN (L.take (i + 1)) = O.take k ++ X.data.toList :: O.drop k by rw [HT.out]; exact insN_mid _ O k hkO HBI.out.1 (by simpa using hls) heq)
       clear hls HLs HEq heq HT
       go_wp2
       go_quiet (fail)
       go_wp2
       go_quiet (fail)
       go_upto_region 9 with fail
       generalize hW3 : (wr.drewN _).drewN _ = W3
       have HI3 := hid (show SoI w (.slice (some ⟨bo, oo, none⟩) m co) O W3 by rw [← hW3]; exact (HBI.out.2.drewN _).drewN _)
       have HO := hid (show W3.ownsRow w.heap.size 9 1 (.slice (some ⟨bo, oo, none⟩) m co) m (cellsT O) by have := HI3.out.1; rw [← HM.out] at this; exact this)
       have hw3 := HI3.out.2.size
       clear hW3 HBI f1 e1 hbe hless
       go_upto_region 10 with (at_builtin; go_must (refine wpList_append_own _ rfl _ _ 50 rfl w.heap.size 9 i0 (.string ByteArray.empty) 1 16 Tryz.underlying50 hi hz0 hz1 hz2 rfl (by decide) _ _ _ rfl (HO.out.alloc _) ⟨W3.heap.size, 0, none⟩ 1 1 [.string ⟨#[]⟩] rfl rfl ?c1im ?c2im ?c3im ?c4im ?c5im ?_))
       case c1im =>
        intro q u hq
        match q, hq with
        | 0, hq => simp at hq; subst hq; simp [Addr.add]
       case c2im => intro u hu; simp at hu; subst hu; rfl
       case c3im => unfold maxLen; omega
       case c4im => omega
       case c5im => simp; omega
       intro v' w4 hown' hgrow hnil
       have HB4 := hid (show Below w.heap.size w w4 from (HI3.out.2.alloc HI3.out.2.size _).grown hgrow (by simp; omega) (fun g hg => (HO.out.lt g hg).1))
       clear hgrow hnil HI3 HO
       rcases hown'.2 with ⟨_, h0⟩ | ⟨g, cap, cur, rfl, hBg, hrow, hnc, hcm, hcs, htake⟩
       ·omega
       have HRow := hid hrow
       have hmk : m + 1 ≤ cap := hnc
       have hcap : cap ≤ 9223372036854775807 := by unfold maxLen at hcm; omega
       rw [Nat.mul_one] at hcs htake
       have HTk := hid htake
       have hCl : cur.toList.length = cap := by rw [Array.length_toList]; exact hcs
       have HCl := hid hCl
       have HCm := hid hcm
       have HMO := hid (show O.length = m from HM.out.symm)
       obtain ⟨C, hC⟩ : ∃ C, C = cur.toList := ⟨_, rfl⟩
       have HCr := hid (show w4.heap[g]? = some (.cells C.toArray 9 (0, 0)) by rw [hC]; simpa using HRow.out)
       rw [← hC] at HTk HCl
       obtain ⟨k1, hk1⟩ : ∃ k1, k1 = k + 1 := ⟨_, rfl⟩
       have hwr : IntKind.i64.wrap ((k : Int) + 1) = (k1 : Int) := by
        rw [hk1]
        have := wrap_small ((k : Int) + 1) (by omega) (by omega)
        rw [this]; omega
       have hcl1 : (k1 : Int) ≤ (m : Int) + 1 := by omega
       have hcl2 : (k : Int) ≤ (m : Int) + 1 := by omega
       have hcl3 : ¬ cap = k := by omega
       obtain ⟨dp, hdp⟩ : ∃ d : Option Addr, (if cap = k1 then some ⟨g, 0, none⟩ else some ⟨g, k1, none⟩) = d := ⟨_, rfl⟩
       have HDp := hid (show ¬ cap = k1 → dp = some ⟨g, k + 1, none⟩ from fun h => by rw [← hdp, if_neg h, hk1])
       have HK1 := hid hk1
       have HQ0 := hid (show Below w.heap.size w w4.drew from HB4.out.drew)
       have hdl : (cellsT (O.drop k)).length = m - k := by rw [cellsT_len, List.length_drop, HMO.out]
       have HDl := hid hdl
       have HSrc := hid (show ∀ (j : Nat) (v : Value), (cellsT (O.drop k))[j]? = some v → w4.cell? ((⟨g, k, none⟩ : Addr).add j) = some v from fun j v hj => by
        have hjl : j < (cellsT (O.drop k)).length := (List.getElem?_eq_some_iff.1 hj).1
        rw [HDl.out] at hjl
        rw [Addr.add_mid, Lib.cell_of_heap HCr.out, List.getElem?_toArray]
        have h1 : (C.take (m + 1))[k + j]? = C[k + j]? := by rw [List.getElem?_take, if_pos (by omega)]
        rw [← h1, HTk.out, List.getElem?_append_left (by rw [cellsT_len, HMO.out]; omega), ← hj]
        unfold cellsT
        rw [List.getElem?_map, List.getElem?_map, List.getElem?_drop])
       clear hrow hown' hcs htake hC hCl hcm hnc HRow hk1 hdl
       go_upto_region 10 with fail
       refine wp_region_held_drew (S := (fun wx => Below w.heap.size w wx)) (by kernel_rfl) HQ0.out (fun hHeld => ?_)
       refine wpAnyH_to (fuel' := 8) (listed' := #[false, false, false, false, false, false, false, false]) rfl rfl ?_
       refine' wpAnyH_take (i := 0) (oi := ⟨some 47, _, _, _, _, _⟩) (v := _) rfl (by kernel_rfl) (by kernel_rfl) (by kernel_rfl) (fun _ _ _ h => h) (Or.inl ⟨by kernel_rfl, ?hyim1⟩) (by assumption) ?restim1
       case hyim1 => (intro wx hSw; (try dsimp only at hSw); go_simp; first | done | with_reducible rfl)
       (try simp only [Act.put, List.setIfInBounds_toArray, List.set_cons_zero, List.set_cons_succ])
       refine' wpAnyH_take (i := 1) (oi := ⟨some 48, _, _, _, _, _⟩) (v := _) rfl (by kernel_rfl) (by kernel_rfl) (by kernel_rfl) (fun _ _ _ h => h) (Or.inl ⟨by kernel_rfl, ?hyim2⟩) (by assumption) ?restim2
       case hyim2 => (intro wx hSw; (try dsimp only at hSw); go_simp; first | done | with_reducible rfl)
       (try simp only [Act.put, List.setIfInBounds_toArray, List.set_cons_zero, List.set_cons_succ])
       refine' wpAnyH_take (i := 2) (oi := ⟨some 49, _, _, _, _, _⟩) (v := .int .i64 (k1 : Int)) rfl (by kernel_rfl) (by kernel_rfl) (by kernel_rfl) (fun _ _ _ h => h) (Or.inl ⟨by kernel_rfl, ?hv2im⟩) (by assumption) ?rv2im
       case hv2im => (intro wx hSw; (try dsimp only at hSw); go_simp; first | done | (rw [hwr]; done) | (simp only [hwr]; done) | with_reducible rfl)
       (try simp only [Act.put, List.setIfInBounds_toArray, List.set_cons_zero, List.set_cons_succ])
       refine' wpAnyH_take (i := 3) (oi := ⟨some 50, _, _, _, _, _⟩) (v := .slice dp (m + 1 - k1) (cap - k1)) rfl (by kernel_rfl) (by kernel_rfl) (by kernel_rfl) (fun _ _ _ h => h) (Or.inl ⟨by kernel_rfl, ?hv3im⟩) (by assumption) ?rv3im
       case hv3im => (intro wx hSw; (try dsimp only at hSw); go_simp; first | done | with_reducible rfl)
       (try simp only [Act.put, List.setIfInBounds_toArray, List.set_cons_zero, List.set_cons_succ])
       refine' wpAnyH_take (i := 4) (oi := ⟨some 51, _, _, _, _, _⟩) (v := _) rfl (by kernel_rfl) (by kernel_rfl) (by kernel_rfl) (fun _ _ _ h => h) (Or.inl ⟨by kernel_rfl, ?hyim3⟩) (by assumption) ?restim3
       case hyim3 => (intro wx hSw; (try dsimp only at hSw); go_simp; first | done | with_reducible rfl)
       (try simp only [Act.put, List.setIfInBounds_toArray, List.set_cons_zero, List.set_cons_succ])
       refine' wpAnyH_take (i := 5) (oi := ⟨some 52, _, _, _, _, _⟩) (v := _) rfl (by kernel_rfl) (by kernel_rfl) (by kernel_rfl) (fun _ _ _ h => h) (Or.inl ⟨by kernel_rfl, ?hyim4⟩) (by assumption) ?restim4
       case hyim4 => (intro wx hSw; (try dsimp only at hSw); go_simp; first | done | with_reducible rfl)
       (try simp only [Act.put, List.setIfInBounds_toArray, List.set_cons_zero, List.set_cons_succ])
       refine' wpAnyH_take (i := 6) (oi := ⟨some 53, _, _, _, _, _⟩) (v := .slice (some ⟨g, k, none⟩) (m + 1 - k) (cap - k)) rfl (by kernel_rfl) (by kernel_rfl) (by kernel_rfl) (fun _ _ _ h => h) (Or.inl ⟨by kernel_rfl, ?hv6im⟩) (by assumption) ?rv6im
       case hv6im => (intro wx hSw; (try dsimp only at hSw); go_simp; first | done | with_reducible rfl)
       (try simp only [Act.put, List.setIfInBounds_toArray, List.set_cons_zero, List.set_cons_succ])
       refine wpAnyH_ready (rs := [7]) (by kernel_rfl) (by simp) ?_
       refine AllReadyH.cons rfl (fun K9 hK => ?_) AllReadyH.nil
       refine step_copy_splice rfl (.tmp 50) (.tmp 53) 50 50 rfl 9 Tryz.underlying50 (by kernel_rfl) dp (some ⟨g, k, none⟩) (m + 1 - k1) (cap - k1) (m + 1 - k) (cap - k) rfl rfl g (k + 1) C 9 HCr.out (cellsT (O.drop k)) ?nim ?pim ?fim ?oim w.heap.size w HQ0.out hBg ?_
       case nim => rw [HDl.out, HK1.out]; show _ = min _ _; omega
       case pim => exact fun hpos => ⟨HDp.out (by have := HK1.out; rw [HDl.out] at hpos; omega), _, rfl, HSrc.out⟩
       case fim => rw [HDl.out, HCl.out]; omega
       case oim =>
        intro u hu
        obtain ⟨x, _, rfl⟩ := List.mem_map.1 hu
        rfl
       intro w5 HRow5 hb5
       refine hK.out _ _ hb5 (fun hHeld2 => ?_)
       refine wpAnyH_done (by kernel_rfl) ?_ _
       have e1 := HK.out w5 hb5
       have HB5 := hid hb5
       have hsp : k < (splice C (k + 1) (cellsT (O.drop k))).length := by rw [length_splice _ _ _ (by rw [HDl.out, HCl.out]; omega), HCl.out]; omega
       obtain ⟨zz, hzz⟩ : ∃ z, (splice C (k + 1) (cellsT (O.drop k)))[k]? = some z := ⟨_, List.getElem?_eq_getElem hsp⟩
       have f5 : w5.cell? ⟨g, k, none⟩ = some zz := by rw [Lib.cell_of_heap HRow5.out, List.getElem?_toArray]; exact hzz
       have f6 : w5.frozen? ⟨g, k, none⟩ = false := Lib.frozen_of_heap HRow5.out k
       have HFin := hid (SoI.ins (X := X) HMO.out hk hBg hmk HCm.out HTk.out HCl.out HRow5.out hb5)
       rw [← HIN.out] at HFin
       have hkc : k < m + 1 := by omega
       have hkc' : (k : Int) < (m : Int) + 1 := by omega
       have HLn := hid (show m + 1 = (srtN (L.take (i + 1))).length by
        rw [HIN.out, List.length_append, List.length_cons, List.length_take, List.length_drop, HMO.out, Nat.min_eq_left hk]; omega)
       clear hK hb5 hHeld hHeld2 hsp hzz hwr hcl1 hcl2 hcl3 hdp
       go_wp2
       go_roundw
       case rel => exact ⟨i + 1, _, m + 1, cap, by omega, by have := HLe.out; have := HLn.out; omega, by go_num, rfl, HLn.out, HFin.out⟩
       case measure => simp [intOf]; omega
    ·have hkm' : decide ((k : Int) < (m : Int)) = false := by rw [decide_eq_false_iff_not]; omega
     obtain rfl : k = m := by omega
     have HIN := hid (show srtN (L.take (i + 1)) = O.take k ++ X.data.toList :: O.drop k by
      rw [HT.out, List.take_of_length_le (by have := HM.out; omega), List.drop_eq_nil_of_le (by have := HM.out; omega)]
      exact insN_end _ O fun j hj => HBI.out.1 j hj (by have := HM.out; omega))
     clear HT
     go_wp2
     go_quiet (fail)
     go_wp2
     go_quiet (fail)
     go_upto_region 9 with fail
     generalize hW3 : (wr.drewN _).drewN _ = W3
     have HI3 := hid (show SoI w (.slice ao k co) O W3 by rw [← hW3]; exact (HBI.out.2.drewN _).drewN _)
     have HO := hid (show W3.ownsRow w.heap.size 9 1 (.slice ao k co) k (cellsT O) by have := HI3.out.1; rw [← HM.out] at this; exact this)
     have hw3 := HI3.out.2.size
     clear hW3 HBI
     go_upto_region 10 with (at_builtin; go_must (refine wpList_append_own _ rfl _ _ 50 rfl w.heap.size 9 i0 (.string ByteArray.empty) 1 16 Tryz.underlying50 hi hz0 hz1 hz2 rfl (by decide) _ _ _ rfl (HO.out.alloc _) ⟨W3.heap.size, 0, none⟩ 1 1 [.string ⟨#[]⟩] rfl rfl ?c1ie ?c2ie ?c3ie ?c4ie ?c5ie ?_))
     case c1ie =>
      intro q u hq
      match q, hq with
      | 0, hq => simp at hq; subst hq; simp [Addr.add]
     case c2ie => intro u hu; simp at hu; subst hu; rfl
     case c3ie => unfold maxLen; omega
     case c4ie => omega
     case c5ie => simp; omega
     intro v' w4 hown' hgrow hnil
     have HB4 := hid (show Below w.heap.size w w4 from (HI3.out.2.alloc HI3.out.2.size _).grown hgrow (by simp; omega) (fun g hg => (HO.out.lt g hg).1))
     clear hgrow hnil HI3 HO
     rcases hown'.2 with ⟨_, h0⟩ | ⟨g, cap, cur, rfl, hBg, hrow, hnc, hcm, hcs, htake⟩
     ·omega
     have HRow := hid hrow
     have hmk : k + 1 ≤ cap := hnc
     have hcap : cap ≤ 9223372036854775807 := by unfold maxLen at hcm; omega
     rw [Nat.mul_one] at hcs htake
     have HTk := hid htake
     have hCl : cur.toList.length = cap := by rw [Array.length_toList]; exact hcs
     have HCl := hid hCl
     have HCm := hid hcm
     have HMO := hid (show O.length = k from HM.out.symm)
     obtain ⟨C, hC⟩ : ∃ C, C = cur.toList := ⟨_, rfl⟩
     have HCr := hid (show w4.heap[g]? = some (.cells C.toArray 9 (0, 0)) by rw [hC]; simpa using HRow.out)
     rw [← hC] at HTk HCl
     obtain ⟨k1, hk1⟩ : ∃ k1, k1 = k + 1 := ⟨_, rfl⟩
     have hwr : IntKind.i64.wrap ((k : Int) + 1) = (k1 : Int) := by
      rw [hk1]
      have := wrap_small ((k : Int) + 1) (by omega) (by omega)
      rw [this]; omega
     have hcl1 : (k1 : Int) ≤ (k : Int) + 1 := by omega
     have hcl2 : (k : Int) ≤ (k : Int) + 1 := by omega
     have hcl3 : ¬ cap = k := by omega
     obtain ⟨dp, hdp⟩ : ∃ d : Option Addr, (if cap = k1 then some ⟨g, 0, none⟩ else some ⟨g, k1, none⟩) = d := ⟨_, rfl⟩
     have HDp := hid (show ¬ cap = k1 → dp = some ⟨g, k + 1, none⟩ from fun h => by rw [← hdp, if_neg h, hk1])
     have HK1 := hid hk1
     have HQ0 := hid (show Below w.heap.size w w4.drew from HB4.out.drew)
     have hdl : (cellsT (O.drop k)).length = k - k := by rw [cellsT_len, List.length_drop, HMO.out]
     have HDl := hid hdl
     have HSrc := hid (show ∀ (j : Nat) (v : Value), (cellsT (O.drop k))[j]? = some v → w4.cell? ((⟨g, k, none⟩ : Addr).add j) = some v from fun j v hj => by
      have hjl : j < (cellsT (O.drop k)).length := (List.getElem?_eq_some_iff.1 hj).1
      rw [HDl.out] at hjl
      rw [Addr.add_mid, Lib.cell_of_heap HCr.out, List.getElem?_toArray]
      have h1 : (C.take (k + 1))[k + j]? = C[k + j]? := by rw [List.getElem?_take, if_pos (by omega)]
      rw [← h1, HTk.out, List.getElem?_append_left (by rw [cellsT_len, HMO.out]; omega), ← hj]
      unfold cellsT
      rw [List.getElem?_map, List.getElem?_map, List.getElem?_drop])
     clear hrow hown' hcs htake hC hCl hcm hnc HRow hk1 hdl
     go_upto_region 10 with fail
     refine wp_region_held_drew (S := (fun wx => Below w.heap.size w wx)) (by kernel_rfl) HQ0.out (fun hHeld => ?_)
     refine wpAnyH_to (fuel' := 8) (listed' := #[false, false, false, false, false, false, false, false]) rfl rfl ?_
     refine' wpAnyH_take (i := 0) (oi := ⟨some 47, _, _, _, _, _⟩) (v := _) rfl (by kernel_rfl) (by kernel_rfl) (by kernel_rfl) (fun _ _ _ h => h) (Or.inl ⟨by kernel_rfl, ?hyie1⟩) (by assumption) ?restie1
     case hyie1 => (intro wx hSw; (try dsimp only at hSw); go_simp; first | done | with_reducible rfl)
     (try simp only [Act.put, List.setIfInBounds_toArray, List.set_cons_zero, List.set_cons_succ])
     refine' wpAnyH_take (i := 1) (oi := ⟨some 48, _, _, _, _, _⟩) (v := _) rfl (by kernel_rfl) (by kernel_rfl) (by kernel_rfl) (fun _ _ _ h => h) (Or.inl ⟨by kernel_rfl, ?hyie2⟩) (by assumption) ?restie2
     case hyie2 => (intro wx hSw; (try dsimp only at hSw); go_simp; first | done | with_reducible rfl)
     (try simp only [Act.put, List.setIfInBounds_toArray, List.set_cons_zero, List.set_cons_succ])
     refine' wpAnyH_take (i := 2) (oi := ⟨some 49, _, _, _, _, _⟩) (v := .int .i64 (k1 : Int)) rfl (by kernel_rfl) (by kernel_rfl) (by kernel_rfl) (fun _ _ _ h => h) (Or.inl ⟨by kernel_rfl, ?hv2ie⟩) (by assumption) ?rv2ie
     case hv2ie => (intro wx hSw; (try dsimp only at hSw); go_simp; first | done | (rw [hwr]; done) | (simp only [hwr]; done) | with_reducible rfl)
     (try simp only [Act.put, List.setIfInBounds_toArray, List.set_cons_zero, List.set_cons_succ])
     refine' wpAnyH_take (i := 3) (oi := ⟨some 50, _, _, _, _, _⟩) (v := .slice dp (k + 1 - k1) (cap - k1)) rfl (by kernel_rfl) (by kernel_rfl) (by kernel_rfl) (fun _ _ _ h => h) (Or.inl ⟨by kernel_rfl, ?hv3ie⟩) (by assumption) ?rv3ie
     case hv3ie => (intro wx hSw; (try dsimp only at hSw); go_simp; first | done | with_reducible rfl)
     (try simp only [Act.put, List.setIfInBounds_toArray, List.set_cons_zero, List.set_cons_succ])
     refine' wpAnyH_take (i := 4) (oi := ⟨some 51, _, _, _, _, _⟩) (v := _) rfl (by kernel_rfl) (by kernel_rfl) (by kernel_rfl) (fun _ _ _ h => h) (Or.inl ⟨by kernel_rfl, ?hyie3⟩) (by assumption) ?restie3
     case hyie3 => (intro wx hSw; (try dsimp only at hSw); go_simp; first | done | with_reducible rfl)
     (try simp only [Act.put, List.setIfInBounds_toArray, List.set_cons_zero, List.set_cons_succ])
     refine' wpAnyH_take (i := 5) (oi := ⟨some 52, _, _, _, _, _⟩) (v := _) rfl (by kernel_rfl) (by kernel_rfl) (by kernel_rfl) (fun _ _ _ h => h) (Or.inl ⟨by kernel_rfl, ?hyie4⟩) (by assumption) ?restie4
     case hyie4 => (intro wx hSw; (try dsimp only at hSw); go_simp; first | done | with_reducible rfl)
     (try simp only [Act.put, List.setIfInBounds_toArray, List.set_cons_zero, List.set_cons_succ])
     refine' wpAnyH_take (i := 6) (oi := ⟨some 53, _, _, _, _, _⟩) (v := .slice (some ⟨g, k, none⟩) (k + 1 - k) (cap - k)) rfl (by kernel_rfl) (by kernel_rfl) (by kernel_rfl) (fun _ _ _ h => h) (Or.inl ⟨by kernel_rfl, ?hv6ie⟩) (by assumption) ?rv6ie
     case hv6ie => (intro wx hSw; (try dsimp only at hSw); go_simp; first | done | with_reducible rfl)
     (try simp only [Act.put, List.setIfInBounds_toArray, List.set_cons_zero, List.set_cons_succ])
     refine wpAnyH_ready (rs := [7]) (by kernel_rfl) (by simp) ?_
     refine AllReadyH.cons rfl (fun K9 hK => ?_) AllReadyH.nil
     refine step_copy_splice rfl (.tmp 50) (.tmp 53) 50 50 rfl 9 Tryz.underlying50 (by kernel_rfl) dp (some ⟨g, k, none⟩) (k + 1 - k1) (cap - k1) (k + 1 - k) (cap - k) rfl rfl g (k + 1) C 9 HCr.out (cellsT (O.drop k)) ?nie ?pie ?fie ?oie w.heap.size w HQ0.out hBg ?_
     case nie => rw [HDl.out, HK1.out]; show _ = min _ _; omega
     case pie => exact fun hpos => ⟨HDp.out (by have := HK1.out; rw [HDl.out] at hpos; omega), _, rfl, HSrc.out⟩
     case fie => rw [HDl.out, HCl.out]; omega
     case oie =>
      intro u hu
      obtain ⟨x, _, rfl⟩ := List.mem_map.1 hu
      rfl
     intro w5 HRow5 hb5
     refine hK.out _ _ hb5 (fun hHeld2 => ?_)
     refine wpAnyH_done (by kernel_rfl) ?_ _
     have e1 := HK.out w5 hb5
     have HB5 := hid hb5
     have hsp : k < (splice C (k + 1) (cellsT (O.drop k))).length := by rw [length_splice _ _ _ (by rw [HDl.out, HCl.out]; omega), HCl.out]; omega
     obtain ⟨zz, hzz⟩ : ∃ z, (splice C (k + 1) (cellsT (O.drop k)))[k]? = some z := ⟨_, List.getElem?_eq_getElem hsp⟩
     have f5 : w5.cell? ⟨g, k, none⟩ = some zz := by rw [Lib.cell_of_heap HRow5.out, List.getElem?_toArray]; exact hzz
     have f6 : w5.frozen? ⟨g, k, none⟩ = false := Lib.frozen_of_heap HRow5.out k
     have HFin := hid (SoI.ins (X := X) HMO.out hk hBg hmk HCm.out HTk.out HCl.out HRow5.out hb5)
     rw [← HIN.out] at HFin
     have hkc : k < k + 1 := by omega
     have hkc' : (k : Int) < (k : Int) + 1 := by omega
     have HLn := hid (show k + 1 = (srtN (L.take (i + 1))).length by
      rw [HIN.out, List.length_append, List.length_cons, List.length_take, List.length_drop, HMO.out, Nat.min_eq_left hk]; omega)
     clear hK hb5 hHeld hHeld2 hsp hzz hwr hcl1 hcl2 hcl3 hdp
     go_wp2
     go_roundw
     case rel => exact ⟨i + 1, _, k + 1, cap, by omega, by have := HLe.out; have := HLn.out; omega, by go_num, rfl, HLn.out, HFin.out⟩
     case measure => simp [intOf]; omega
  ·have hlt' : decide ((i : Int) < (n : Int)) = false := by rw [decide_eq_false_iff_not]; omega
   have HF := hid (show wr.ownsRow w.heap.size 9 1 (.slice ao m co) (srtN L).length (cellsT (srtN L)) ∧ Below w.heap.size w wr by
    have h := HS0.out.2
    rw [List.take_of_length_le (by have := HN.out; omega)] at h
    exact h)
   clear HS0
   go_wp2
   go_ret
   exact ⟨_, rfl, HF.out⟩

end Go.Proofs.YtpopljcmkbchcaaGreatDoor

namespace Go.Proofs.YtpopljcmkbchcaaGreatDoor
open Go.RowKit

structure Ctl where
 ns : Bool
 nc : Bool
 mx : Int
deriving DecidableEq

def srt16 (X : List (List UInt8)) : List (List UInt8) := X.mergeSort fun x y => decide (x ≤ y)

theorem le_ltN (a b : List UInt8) : a ≤ b ↔ ltN b a = false := by
 have h : ltN b a = decide (b < a) := by rw [← less_ltN6, bytesLess_eq]
 rw [h, decide_eq_false_iff_not, List.not_lt]

end Go.Proofs.YtpopljcmkbchcaaGreatDoor

namespace Go.Proofs.YtpopljcmkbchcaaGreatDoor
open Go.RowKit

theorem xint_range (l : List UInt8) : 0 ≤ intV l ∧ intV l ≤ 9223372036854775807 := by
 unfold intV
 split
 ·rename_i h
  simp only [Bool.and_eq_true] at h
  exact numI_range l h.1
 ·omega

theorem ba_nil {A : ByteArray} (h : A.data.toList = []) : A = ⟨#[]⟩ := xext h

set_option maxHeartbeats 4000000 in
set_option maxRecDepth 100000 in
theorem rrange_any (s : ByteArray) (w : World) (hs : s.size ≤ 4000000000) :
  Calls Tryz.prog 152 #[.string s] w fun e w' => e = .returned (.tuple #[.int .i64 (rFrom s.data.toList), .int .i64 (rTo s.data.toList), .bool (rOk s.data.toList)]) ∧ Below w.heap.size w w' := by
 have HOk := hid (rdOk_eq s.data.toList fun x => (xint_range x).1)
 have HBad := hid (show rOk s.data.toList = false → rFrom s.data.toList = 0 ∧ rTo s.data.toList = 0 from fun h => by unfold rFrom rTo; rw [h]; exact ⟨rfl, rfl⟩)
 obtain ⟨U, hU⟩ : ∃ x, x = rUnit s.data.toList := ⟨_, rfl⟩
 have HBg : Hid (∀ w, Calls Tryz.prog 201 #[.string s, .string ⟨#[98, 121, 116, 101, 115, 61]⟩] w fun e w' => e = .returned (.bool U) ∧ w = w') := fun w => by
  rw [hU]
  exact begins_any_Cb s ⟨#[98, 121, 116, 101, 115, 61]⟩ w hs (by decide)
 cases U with
 | false =>
  have h : Hid (rOk s.data.toList = false) := by rw [← HOk.out]; unfold rdOk; rw [← hU]; rfl
  clear hU
  go_enter Tryz.func152, Tryz.ntmps152
  go_wp2_with fail
  refine (HBg.out _).mono ?_
  rintro e w0 ⟨rfl, rfl⟩
  go_wp2
  go_ret3
  exact ⟨ret_iib (HBad.out h.out).1.symm (HBad.out h.out).2.symm h.out.symm, Below.refl _ _⟩
 | true =>
  have h6 : 6 ≤ s.size := by
   refine Classical.byContradiction fun hn => ?_
   have := begins_no_Cb s ⟨#[98, 121, 116, 101, 115, 61]⟩ (show ¬ (6 ≤ s.size) from hn)
   unfold rUnit at hU
   rw [this] at hU
   cases hU
  have h6' : (6 : Int) ≤ (s.size : Int) := by omega
  obtain ⟨R, hR⟩ : ∃ x : ByteArray, x = s.extract 6 s.size := ⟨_, rfl⟩
  have hRl : R.data.toList = rRest s.data.toList := by
   rw [hR, Lib.extract_data]
   unfold rRest
   rw [← hU]
   simp
   exact List.take_of_length_le (by rw [List.length_drop, ← Lib.size_eq]; omega)
  have hRn : (rRest s.data.toList).length = R.size := by rw [← hRl, ← Lib.size_eq]
  have hRs : R.size ≤ 4000000000 := by rw [hR]; simp; omega
  have HPt := hid (fun X => rpart9_any R 45 X hRs)
  rw [← cut_part_Cb, hRl] at HPt
  have hle := xcut_le (rRest s.data.toList) 45
  obtain ⟨A, hA⟩ : ∃ x : ByteArray, x = ⟨(Lib.cut (rRest s.data.toList) [45]).1.toArray⟩ := ⟨_, rfl⟩
  obtain ⟨B, hB⟩ : ∃ x : ByteArray, x = ⟨(Lib.cut (rRest s.data.toList) [45]).2.1.toArray⟩ := ⟨_, rfl⟩
  obtain ⟨D, hD⟩ : ∃ x, x = (Lib.cut (rRest s.data.toList) [45]).2.2 := ⟨_, rfl⟩
  have hAl : A.data.toList = rL s.data.toList := by rw [hA]; rfl
  have hBl : B.data.toList = rR s.data.toList := by rw [hB]; rfl
  have hAs : A.size ≤ 140737488351232 := by rw [hA, xsize]; have h1 := hle.1; omega
  have hBs : B.size ≤ 140737488351232 := by rw [hB, xsize]; have h1 := hle.2; omega
  rw [← hA, ← hB, ← hD] at HPt
  obtain ⟨p, hp⟩ : ∃ x, x = intV A.data.toList := ⟨_, rfl⟩
  obtain ⟨q, hq⟩ : ∃ x, x = intV B.data.toList := ⟨_, rfl⟩
  obtain ⟨po, hpo⟩ : ∃ x, x = intOk A.data.toList := ⟨_, rfl⟩
  obtain ⟨qo, hqo⟩ : ∃ x, x = intOk B.data.toList := ⟨_, rfl⟩
  have HIA := hid (fun X => rint_any_Ra A X hAs)
  have HIB := hid (fun X => rint_any_Ra B X hBs)
  rw [← hp, ← hpo] at HIA
  rw [← hq, ← hqo] at HIB
  have hp0 : 0 ≤ p ∧ p ≤ 9223372036854775807 := by rw [hp]; exact xint_range _
  have hq0 : 0 ≤ q ∧ q ≤ 9223372036854775807 := by rw [hq]; exact xint_range _
  have HK := hid (show rOk s.data.toList = (D && !(A.data.toList == [] && B.data.toList == []) && (A.data.toList == [] || po) && (B.data.toList == [] || qo) && !(decide (0 ≤ bndV A.data.toList) && decide (0 ≤ bndV B.data.toList) && decide (bndV B.data.toList < bndV A.data.toList))) by
   rw [← HOk.out]
   unfold rdOk bndOk
   rw [← hU, ← hD, ← hAl, ← hBl, ← hpo, ← hqo]
   simp)
  have HF := hid (show rFrom s.data.toList = if rOk s.data.toList then bndV A.data.toList else 0 by unfold rFrom; rw [hAl])
  have HT := hid (show rTo s.data.toList = if rOk s.data.toList then bndV B.data.toList else 0 by unfold rTo; rw [hBl])
  have HR := hid hR
  have hbA : A.data.toList ≠ [] → bndV A.data.toList = p := fun h => by unfold bndV; rw [if_neg h, hp]
  have hbB : B.data.toList ≠ [] → bndV B.data.toList = q := fun h => by unfold bndV; rw [if_neg h, hq]
  have HbA := hid hbA
  have HbB := hid hbB
  clear hU hR hRl hRn hRs hle hA hB hD hAl hBl hAs hBs hp hq hpo hqo hbA hbB HOk
  cases D with
  | false =>
   have h : Hid (rOk s.data.toList = false) := by rw [HK.out]; rfl
   go_enter Tryz.func152, Tryz.ntmps152
   go_wp2_with fail
   refine (HBg.out _).mono ?_
   rintro e w0 ⟨rfl, rfl⟩
   go_wp2_with fail
   rw [← HR.out]
   refine (HPt.out _).mono ?_
   rintro e w1 ⟨rfl, hb1⟩
   go_wp2
   go_ret3
   exact ⟨ret_iib (HBad.out h.out).1.symm (HBad.out h.out).2.symm h.out.symm, hb1⟩
  | true =>
   by_cases ha : A.data.toList = []
   ·obtain rfl := ba_nil ha
    by_cases hb : B.data.toList = []
    ·obtain rfl := ba_nil hb
     have h : Hid (rOk s.data.toList = false) := by rw [HK.out]; rfl
     clear ha hb
     go_enter Tryz.func152, Tryz.ntmps152
     go_wp2_with fail
     refine (HBg.out _).mono ?_
     rintro e w0 ⟨rfl, rfl⟩
     go_wp2_with fail
     rw [← HR.out]
     refine (HPt.out _).mono ?_
     rintro e w1 ⟨rfl, hb1⟩
     go_wp2
     go_ret3
     exact ⟨ret_iib (HBad.out h.out).1.symm (HBad.out h.out).2.symm h.out.symm, hb1⟩
    ·have hb' : (B.toList == []) = false := lst_ne hb
     have HQ := hid (HbB.out hb)
     have HK2 := hid (show rOk s.data.toList = qo by
      rw [HK.out, HQ.out]
      have h1 : (B.data.toList == []) = false := by rw [beq_eq_false_iff_ne]; exact hb
      rw [h1]
      cases qo <;> rfl)
     have HF2 := hid (show qo = true → rFrom s.data.toList = -1 ∧ rTo s.data.toList = q from fun h => by rw [HF.out, HT.out, HK2.out, h, HQ.out]; exact ⟨rfl, rfl⟩)
     clear ha hb HK HbA HbB
     cases qo
     all_goals
      go_enter Tryz.func152, Tryz.ntmps152
      go_wp2_with fail
      refine (HBg.out _).mono ?_
      rintro e w0 ⟨rfl, rfl⟩
      go_wp2_with fail
      rw [← HR.out]
      refine (HPt.out _).mono ?_
      rintro e w1 ⟨rfl, hb1⟩
      go_wp2_with fail
      refine (HIB.out _).mono ?_
      rintro e w2 ⟨rfl, rfl⟩
      go_wp2
      go_ret3
      first
       | exact ⟨ret_iib (HBad.out HK2.out).1.symm (HBad.out HK2.out).2.symm HK2.out.symm, hb1⟩
       | exact ⟨ret_iib (HF2.out trivial).1.symm (HF2.out trivial).2.symm HK2.out.symm, hb1⟩
       | exact ⟨ret_iib HF2.out.1.symm HF2.out.2.symm HK2.out.symm, hb1⟩
       | exact ⟨ret_iib (HF2.out rfl).1.symm (HF2.out rfl).2.symm HK2.out.symm, hb1⟩
   ·have ha' : (A.toList == []) = false := lst_ne ha
    have HP := hid (HbA.out ha)
    by_cases hb : B.data.toList = []
    ·obtain rfl := ba_nil hb
     have HK2 := hid (show rOk s.data.toList = po by
      rw [HK.out, HP.out]
      have h1 : (A.data.toList == []) = false := by rw [beq_eq_false_iff_ne]; exact ha
      rw [h1]
      cases po <;> simp [bndV])
     have HF2 := hid (show po = true → rFrom s.data.toList = p ∧ rTo s.data.toList = -1 from fun h => by rw [HF.out, HT.out, HK2.out, h, HP.out]; exact ⟨rfl, rfl⟩)
     clear ha hb HK HbA HbB
     cases po
     all_goals
      go_enter Tryz.func152, Tryz.ntmps152
      go_wp2_with fail
      refine (HBg.out _).mono ?_
      rintro e w0 ⟨rfl, rfl⟩
      go_wp2_with fail
      rw [← HR.out]
      refine (HPt.out _).mono ?_
      rintro e w1 ⟨rfl, hb1⟩
      go_wp2_with fail
      refine (HIA.out _).mono ?_
      rintro e w2 ⟨rfl, rfl⟩
      go_wp2
      go_ret3
      first
       | exact ⟨ret_iib (HBad.out HK2.out).1.symm (HBad.out HK2.out).2.symm HK2.out.symm, hb1⟩
       | exact ⟨ret_iib (HF2.out trivial).1.symm (HF2.out trivial).2.symm HK2.out.symm, hb1⟩
       | exact ⟨ret_iib HF2.out.1.symm HF2.out.2.symm HK2.out.symm, hb1⟩
       | exact ⟨ret_iib (HF2.out rfl).1.symm (HF2.out rfl).2.symm HK2.out.symm, hb1⟩
    ·have hb' : (B.toList == []) = false := lst_ne hb
     have HQ := hid (HbB.out hb)
     have HK2 := hid (show rOk s.data.toList = (po && qo && !decide (q < p)) by
      rw [HK.out, HP.out, HQ.out]
      have h1 : (A.data.toList == []) = false := by rw [beq_eq_false_iff_ne]; exact ha
      have h2 : (B.data.toList == []) = false := by rw [beq_eq_false_iff_ne]; exact hb
      rw [h1, h2]
      have h3 : decide (0 ≤ p) = true := by simpa using hp0.1
      have h4 : decide (0 ≤ q) = true := by simpa using hq0.1
      rw [h3, h4]
      cases po <;> cases qo <;> rfl)
     have HF2 := hid (show rOk s.data.toList = true → rFrom s.data.toList = p ∧ rTo s.data.toList = q from fun h => by rw [HF.out, HT.out, h, HP.out, HQ.out]; exact ⟨rfl, rfl⟩)
     clear ha hb HK HbA HbB
     by_cases hqp : q < p
     ·have HK4 := hid (show rOk s.data.toList = false by rw [HK2.out]; simp [hqp])
      clear HK2
      cases po <;> cases qo
      all_goals
       go_enter Tryz.func152, Tryz.ntmps152
       go_wp2_with fail
       refine (HBg.out _).mono ?_
       rintro e w0 ⟨rfl, rfl⟩
       go_wp2_with fail
       rw [← HR.out]
       refine (HPt.out _).mono ?_
       rintro e w1 ⟨rfl, hb1⟩
       go_wp2_with fail
       refine (HIA.out _).mono ?_
       rintro e w2 ⟨rfl, rfl⟩
       go_wp2_with fail
       refine (HIB.out _).mono ?_
       rintro e w2 ⟨rfl, rfl⟩
       go_wp2
       go_ret3
       exact ⟨ret_iib (HBad.out HK4.out).1.symm (HBad.out HK4.out).2.symm HK4.out.symm, hb1⟩
     ·have HK4 := hid (show rOk s.data.toList = (po && qo) by rw [HK2.out]; simp [hqp])
      clear HK2
      cases po <;> cases qo
      all_goals
       go_enter Tryz.func152, Tryz.ntmps152
       go_wp2_with fail
       refine (HBg.out _).mono ?_
       rintro e w0 ⟨rfl, rfl⟩
       go_wp2_with fail
       rw [← HR.out]
       refine (HPt.out _).mono ?_
       rintro e w1 ⟨rfl, hb1⟩
       go_wp2_with fail
       refine (HIA.out _).mono ?_
       rintro e w2 ⟨rfl, rfl⟩
       go_wp2_with fail
       refine (HIB.out _).mono ?_
       rintro e w2 ⟨rfl, rfl⟩
       go_wp2
       go_ret3
       have HK3 := HK4.out
       simp at HK3
       first
        | exact ⟨ret_iib (HBad.out HK3).1.symm (HBad.out HK3).2.symm HK3.symm, hb1⟩
        | exact ⟨ret_iib (HF2.out HK3).1.symm (HF2.out HK3).2.symm HK3.symm, hb1⟩

end Go.Proofs.YtpopljcmkbchcaaGreatDoor
