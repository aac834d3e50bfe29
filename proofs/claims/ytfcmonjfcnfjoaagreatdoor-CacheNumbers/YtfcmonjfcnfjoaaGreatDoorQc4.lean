/-
  Walks and plain facts that this claim leans on, put together out of 8 texts: Xu, Xv, Xx, Za, Zc, Zf, Zh, Zj.
-/
import Derived.Test.YtfcmonjfcnfjoaaGreatDoorProg
import Derived.Test.YtfcmonjfcnfjoaaGreatDoorQc1
import Derived.Test.YtfcmonjfcnfjoaaGreatDoorQc2
import Derived.Test.YtfcmonjfcnfjoaaGreatDoorQc3
import Derived.WalkKit
import Derived.Lib.Strings
import Derived.Lib.UnsafeStr
import Derived.Laws.IdiomStrings
import Derived.Laws.AppendOwn
import Derived.Laws.BitsAllLaws
import Derived.Lib.Bytealg
import Derived.Lib.BufferMore
import Derived.Shelf.Strings.Builder1
import Derived.Shelf.Strings.Builder2
import Derived.Shelf.Strings.OnBuilder
import Derived.Shelf.Strings.Trim
import Derived.Shelf.Small.Utf8
import Derived.Shelf.Small.Bits
import Derived.Shelf.Small.Strs
import Derived.Shelf.Small.Wraps
import Derived.Shelf.Strings.BuilderF
import Derived.Shelf.Strings.BuilderK
import Derived.Shelf.Strings.Builder2Cap
import Derived.Shelf.Strconv.Itoa0
import Derived.Shelf.Strconv.Itoa1
import Derived.Shelf.LaysM
import Derived.Shelf.Strconv.Itoa2
import Derived.Shelf.Strconv.Itoa3
import Derived.Shelf.Strings.Search1
import Derived.Shelf.Strings.Search2
import Derived.Shelf.Strings.Cut
import Derived.Shelf.Strings.Shaped
import Derived.Shelf.Sort.Plain
import Derived.Shelf.Strings.Prefix
import Derived.Shelf.Strings.Runes
import Derived.Shelf.Strings.IndexAny
import Derived.Shelf.Strings.AsciiSet
import Derived.Shelf.Strings.IndexAnyAll
import Derived.Shelf.Unicode.DecodeSlow
import Derived.Shelf.Unicode.DecodeAny
import Derived.Shelf.Unicode.DecodeLast
import Derived.Shelf.Slices.CompactS
import Derived.Shelf.Slices.In.SortNone
import Derived.WalkSpells
import Derived.WalkLawsBesides
import Derived.Lib.SlTrimSet
import Derived.Lib.Join
import Derived.Lib.IndexMore
import Derived.Laws.OwnMore
import Derived.Below
import Derived.WalkSmall
import Derived.Lib.SmallJoins
import Derived.Deep.QuietTactic
import Derived.BigQuiet
import Derived.Deep.LoopGhost
import Derived.Deep.MidRow
import Derived.Shelf.Strings.SlTrimAscii
import Derived.Deep.CutRange
import Derived.Laws.Rows
import Derived.Laws.CopyOwn
import Derived.Laws.MakeOwn
import Derived.Laws.RangeAny
import Derived.Lib.DecodeN
import Derived.Lib.OthersKept
import Derived.RegionTactic
import Derived.Deep.RegionWith
import Derived.Laws.Runes
import Derived.Deep.WholeRow
import Derived.Deep.RegionLaw
import Derived.Deep.RegionHeldLaw
import Derived.LoopN
import Derived.Laws.AppendOwnNone
set_option linter.unusedSimpArgs false
set_option linter.unusedVariables false

namespace Go.Proofs.YtfcmonjfcnfjoaaGreatDoor
open Go.RowKit

theorem results_h2 {fn : Func} {p q : Tmp} (h : fn.results = #[.cell p 30, .tmp q]) (tmps : Array Value) (w : World) (b : Nat) (n v : ByteArray) (hp : tmps.getD p undef = .pointer (some ⟨b, 0, none⟩)) (hc : w.rangeAt b 0 [.string n, .string v]) : (results fn tmps).run Tryz.prog w = .ok (.tuple #[hdVal n v, tmps.getD q undef]) w := by
 rw [Array.getD_eq_getD_getElem?] at hp
 simp only [results, h]
 simp [Sem.run_bind, Result.andThen, hp, asAddr, run_loadVar_mid w b 0 30 [.string n, .string v] _ hc Tryz.underlying30 rfl (by kernel_rfl), hdVal]

def hdE (n v : List UInt8) : Nat := if valB v = false ∨ tokL n = false then 1 else if 4096 < n.length ∨ 4096 < (valT v).length then 3 else 0

def Two (w : World) (b : Nat) (n v : ByteArray) : Prop := w.heap[b]? = some (.cells #[.string n, .string v] 30 (0, 0))

theorem Two.range {w : World} {b : Nat} {n v : ByteArray} (h : Two w b n v) : w.rangeAt b 0 [.string n, .string v] := fun j u hu => by
 rw [Nat.zero_add, Lib.cell_of_heap h]
 match j, hu with
 | 0, hu => simpa using hu
 | 1, hu => simpa using hu
 | j + 2, hu => simp at hu

theorem Two.cells {w : World} {b : Nat} {n v : ByteArray} (h : Two w b n v) : w.cell? ⟨b, 0, none⟩ = some (.string n) ∧ w.cell? ⟨b, 1, none⟩ = some (.string v) ∧ w.frozen? ⟨b, 0, none⟩ = false ∧ w.frozen? ⟨b, 1, none⟩ = false :=
 ⟨by rw [Lib.cell_of_heap h]; rfl, by rw [Lib.cell_of_heap h]; rfl, Lib.frozen_of_heap h 0, Lib.frozen_of_heap h 1⟩

theorem Two.set {w : World} {b : Nat} {n v n' v' : ByteArray} (h : Two w b n v) : Two ((w.setCell ⟨b, 0, none⟩ (.string n')).setCell ⟨b, 1, none⟩ (.string v')) b n' v' := by
 have h1 := Lib.heap_setCell_same h (i := 0) (.string n')
 have h2 := Lib.heap_setCell_same h1 (i := 1) (.string v')
 exact h2

set_option maxHeartbeats 1000000 in
theorem header_any (n v : ByteArray) (w : World) (hn : n.size ≤ 140737488351232) (hv : v.size ≤ 9223372036854775807) :
  Calls Tryz.prog 114 #[.string n, .string v] w fun e w' => ∃ N V : ByteArray, e = .returned (.tuple #[hdVal N V, .int .i64 (hdE n.data.toList v.data.toList : Int)]) ∧ Below w.heap.size w w' ∧ (hdE n.data.toList v.data.toList = 0 → N = n ∧ V.data.toList = valT v.data.toList) := by
 obtain ⟨T, hT⟩ : ∃ x : ByteArray, x = ⟨(valA v.data.toList).toArray⟩ := ⟨_, rfl⟩
 obtain ⟨ok, hok⟩ : ∃ x, x = valB v.data.toList := ⟨_, rfl⟩
 obtain ⟨tk, htk⟩ : ∃ x, x = tokL n.data.toList := ⟨_, rfl⟩
 have HV : Hid (∀ w : World, Calls Tryz.prog 150 #[.string v] w fun e w' => e = .returned (.tuple #[.string T, .bool ok]) ∧ Below w.heap.size w w') := fun w => by
  have := value_any v w hv
  rw [← hT, ← hok] at this
  exact this
 have HTk : Hid (∀ w : World, Calls Tryz.prog 151 #[.string n] w fun e w' => e = .returned (.bool tk) ∧ w = w') := fun w => by
  have := token_any n w hn
  rw [← htk] at this
  exact this
 have HE := hid (show hdE n.data.toList v.data.toList = if ok = false ∨ tk = false then 1 else if 4096 < n.size ∨ 4096 < (valT v.data.toList).length then 3 else 0 by unfold hdE; rw [hok, htk]; simp)
 have HT := hid (show ok = true → T.data.toList = valT v.data.toList by intro h; rw [hT]; show valA _ = _; unfold valA; rw [← hok, if_pos h])
 have hTs : T.size ≤ 9223372036854775807 := by
  rw [hT, xsize]; unfold valA
  split
  ·have := trimS_le v.data.toList [9, 10, 13, 32]; unfold valT; simp at this; omega
  ·simp
 clear hT hok htk
 have h0 : Two (w.alloc (.cells #[.string ByteArray.empty, .string ByteArray.empty] 30)) w.heap.size ByteArray.empty ByteArray.empty := heap_alloc_new _ _
 have H0 := hid h0
 clear h0
 cases ok with
 | false =>
  have HEk := hid (show hdE n.data.toList v.data.toList = 1 by rw [HE.out, if_pos (.inl rfl)])
  go_enter Tryz.func114, Tryz.ntmps114
  go_wp2_with fail
  refine (HV.out _).mono ?_
  rintro e w1 ⟨rfl, hb1⟩
  have hh1 : Two w1 w.heap.size ByteArray.empty ByteArray.empty := (hb1.block _ (by simp)).trans H0.out
  obtain ⟨c0, c1, f0, f1⟩ := hh1.cells
  have hbw : Below w.heap.size w w1 := (belowA (Below.refl _ w) _).trans (hb1.mono (by simp))
  have HH := hid hh1
  clear hh1
  go_wp2
  refine bodyPost_ret (results_h2 rfl _ _ w.heap.size ⟨#[]⟩ ⟨#[]⟩ rfl HH.out.set.range) rfl ⟨⟨#[]⟩, ⟨#[]⟩, ?_, ((hbw.setCell (p := ⟨w.heap.size, 0, none⟩) (Nat.le_refl _) _).setCell (p := ⟨w.heap.size, 1, none⟩) (Nat.le_refl _) _), ?_⟩
  ·rw [HEk.out]; rfl
  ·intro h; rw [HEk.out] at h; cases h
 | true =>
  cases tk with
  | false =>
   have HEk := hid (show hdE n.data.toList v.data.toList = 1 by rw [HE.out, if_pos (.inr rfl)])
   go_enter Tryz.func114, Tryz.ntmps114
   go_wp2_with fail
   refine (HV.out _).mono ?_
   rintro e w1 ⟨rfl, hb1⟩
   have hh1 : Two w1 w.heap.size ByteArray.empty ByteArray.empty := (hb1.block _ (by simp)).trans H0.out
   obtain ⟨c0, c1, f0, f1⟩ := hh1.cells
   have hbw : Below w.heap.size w w1 := (belowA (Below.refl _ w) _).trans (hb1.mono (by simp))
   have HH := hid hh1
   clear hh1
   go_wp2_with (go_at_call 151; refine (HTk.out _).mono ?_; rintro e w' ⟨rfl, rfl⟩)
   refine bodyPost_ret (results_h2 rfl _ _ w.heap.size ⟨#[]⟩ ⟨#[]⟩ rfl HH.out.set.range) rfl ⟨⟨#[]⟩, ⟨#[]⟩, ?_, ((hbw.setCell (p := ⟨w.heap.size, 0, none⟩) (Nat.le_refl _) _).setCell (p := ⟨w.heap.size, 1, none⟩) (Nat.le_refl _) _), ?_⟩
   ·rw [HEk.out]; rfl
   ·intro h; rw [HEk.out] at h; cases h
  | true =>
   have hTl : T.data.toList = valT v.data.toList := HT.out rfl
   have hTz : T.size = (valT v.data.toList).length := by rw [← hTl]; simp
   have hE2 : hdE n.data.toList v.data.toList = if 4096 < n.size ∨ 4096 < T.size then 3 else 0 := by rw [HE.out, if_neg (by simp), hTz]
   have HTl := hid hTl
   clear hTl hTz
   by_cases h1 : 4096 < n.size
   ·have HEk := hid (show hdE n.data.toList v.data.toList = 3 by rw [hE2, if_pos (.inl h1)])
    have h1' : (4096 : Int) < (n.size : Int) := by omega
    clear hE2
    go_enter Tryz.func114, Tryz.ntmps114
    go_wp2_with fail
    refine (HV.out _).mono ?_
    rintro e w1 ⟨rfl, hb1⟩
    have hh1 : Two w1 w.heap.size ByteArray.empty ByteArray.empty := (hb1.block _ (by simp)).trans H0.out
    obtain ⟨c0, c1, f0, f1⟩ := hh1.cells
    have hbw : Below w.heap.size w w1 := (belowA (Below.refl _ w) _).trans (hb1.mono (by simp))
    have HH := hid hh1
    clear hh1
    go_wp2_with (go_at_call 151; refine (HTk.out _).mono ?_; rintro e w' ⟨rfl, rfl⟩)
    refine bodyPost_ret (results_h2 rfl _ _ w.heap.size ⟨#[]⟩ ⟨#[]⟩ rfl HH.out.set.range) rfl ⟨⟨#[]⟩, ⟨#[]⟩, ?_, ((hbw.setCell (p := ⟨w.heap.size, 0, none⟩) (Nat.le_refl _) _).setCell (p := ⟨w.heap.size, 1, none⟩) (Nat.le_refl _) _), ?_⟩
    ·rw [HEk.out]; rfl
    ·intro h; rw [HEk.out] at h; cases h
   ·have h1' : decide ((4096 : Int) < (n.size : Int)) = false := by rw [decide_eq_false_iff_not]; omega
    by_cases h2 : 4096 < T.size
    ·have HEk := hid (show hdE n.data.toList v.data.toList = 3 by rw [hE2, if_pos (.inr h2)])
     have h2' : (4096 : Int) < (T.size : Int) := by omega
     clear hE2
     go_enter Tryz.func114, Tryz.ntmps114
     go_wp2_with fail
     refine (HV.out _).mono ?_
     rintro e w1 ⟨rfl, hb1⟩
     have hh1 : Two w1 w.heap.size ByteArray.empty ByteArray.empty := (hb1.block _ (by simp)).trans H0.out
     obtain ⟨c0, c1, f0, f1⟩ := hh1.cells
     have hbw : Below w.heap.size w w1 := (belowA (Below.refl _ w) _).trans (hb1.mono (by simp))
     have HH := hid hh1
     clear hh1
     go_wp2_with (go_at_call 151; refine (HTk.out _).mono ?_; rintro e w' ⟨rfl, rfl⟩)
     refine bodyPost_ret (results_h2 rfl _ _ w.heap.size ⟨#[]⟩ ⟨#[]⟩ rfl HH.out.set.range) rfl ⟨⟨#[]⟩, ⟨#[]⟩, ?_, ((hbw.setCell (p := ⟨w.heap.size, 0, none⟩) (Nat.le_refl _) _).setCell (p := ⟨w.heap.size, 1, none⟩) (Nat.le_refl _) _), ?_⟩
     ·rw [HEk.out]; rfl
     ·intro h; rw [HEk.out] at h; cases h
    ·have HEk := hid (show hdE n.data.toList v.data.toList = 0 by rw [hE2, if_neg (by omega)])
     have h2' : ¬ (4096 : Int) < (T.size : Int) := by omega
     clear hE2
     go_enter Tryz.func114, Tryz.ntmps114
     go_wp2_with fail
     refine (HV.out _).mono ?_
     rintro e w1 ⟨rfl, hb1⟩
     have hh1 : Two w1 w.heap.size ByteArray.empty ByteArray.empty := (hb1.block _ (by simp)).trans H0.out
     obtain ⟨c0, c1, f0, f1⟩ := hh1.cells
     have hbw : Below w.heap.size w w1 := (belowA (Below.refl _ w) _).trans (hb1.mono (by simp))
     have HH := hid hh1
     clear hh1
     go_wp2_with (go_at_call 151; refine (HTk.out _).mono ?_; rintro e w' ⟨rfl, rfl⟩)
     refine bodyPost_ret (results_h2 rfl _ _ w.heap.size n T rfl HH.out.set.range) rfl ⟨n, T, ?_, ((hbw.setCell (p := ⟨w.heap.size, 0, none⟩) (Nat.le_refl _) _).setCell (p := ⟨w.heap.size, 1, none⟩) (Nat.le_refl _) _), ?_⟩
     ·rw [HEk.out]; rfl
     ·exact fun _ => ⟨rfl, HTl.out⟩

def addE (L : List Hd) (n v : List UInt8) : Nat := if hdE n v ≠ 0 then hdE n v else if 64 ≤ L.length then 4 else 0

def AddPost (L : List Hd) (n v : List UInt8) (w : World) (e : Ending) (w' : World) : Prop :=
 Below w.heap.size w w' ∧ ((addE L n v ≠ 0 ∧ e = .returned (.tuple #[.slice none 0 0, .int .i64 (addE L n v : Int)])) ∨
  (addE L n v = 0 ∧ ∃ vv, e = .returned (.tuple #[vv, .int .i64 0]) ∧ w'.ownsRow w.heap.size 30 2 vv (L.length + 1) (cellsH (L ++ [⟨n, valT v⟩]))))

set_option maxHeartbeats 1000000 in
theorem add_any (vv : Value) (L : List Hd) (n v : ByteArray) (w : World) (h : HdAt w vv L) (hl : L.length ≤ 1000000) (hn : n.size ≤ 140737488351232) (hv : v.size ≤ 9223372036854775807) :
  Calls Tryz.prog 113 #[vv, .string n, .string v] w (AddPost L n.data.toList v.data.toList w) := by
 have HL := hid h
 obtain ⟨a1, c1, rfl, hc1, hm1, hv1⟩ := h.view
 clear h hv1
 obtain ⟨k, hk⟩ : ∃ k, k = hdE n.data.toList v.data.toList := ⟨_, rfl⟩
 have hk3 : k = 0 ∨ k = 1 ∨ k = 3 := by rw [hk]; unfold hdE; split; exact .inr (.inl rfl); split; exact .inr (.inr rfl); exact .inl rfl
 have HK := hid hk
 clear hk
 go_enter Tryz.func113, Tryz.ntmps113
 go_wp2_with fail
 refine (header_any n v _ hn hv).mono ?_
 rintro e w1 ⟨N, V, rfl, hb1, hNV⟩
 rw [← HK.out] at hNV
 rw [← HK.out]
 unfold hdVal
 rcases hk3 with rfl | hk3
 ·obtain ⟨rfl, hV⟩ := hNV rfl
  have HV := hid hV
  clear hV hNV
  by_cases h64 : 64 ≤ L.length
  ·have h64' : (64 : Int) ≤ (L.length : Int) := by omega
   have HA := hid (show addE L N.data.toList v.data.toList = 4 by unfold addE; rw [← HK.out]; simp [h64])
   go_wp2
   go_ret2
   refine ⟨belowA hb1 _, .inl ⟨by rw [HA.out]; decide, by rw [HA.out]; rfl⟩⟩
  ·have h64' : ¬ (64 : Int) ≤ (L.length : Int) := by omega
   have HA := hid (show addE L N.data.toList v.data.toList = 0 by unfold addE; rw [← HK.out]; simp [h64])
   have hba := belowA hb1 (.cells #[.string N, .string V] 30)
   have HW := hid (with_any _ L N V _ (HL.out.kept hba) hl)
   unfold hdVal at HW
   go_wp2_with fail
   refine HW.out.mono ?_
   rintro e w2 ⟨v2, rfl, hown2, hb2⟩
   have HO := hid hown2
   clear hown2
   go_wp2
   go_ret2
   refine ⟨belowT hba hb2, .inr ⟨HA.out, _, rfl, ?_⟩⟩
   have := HO.out
   rw [HV.out, List.length_append] at this
   rcases this.2 with ⟨h1, h2⟩ | ⟨g, cap, cur, e1, e2, e3⟩
   ·simp at h2
   ·exact ⟨this.1, .inr ⟨g, cap, cur, e1, Nat.le_trans hba.size e2, e3⟩⟩
 ·have hkz : k ≠ 0 := by omega
  have HA := hid (show addE L n.data.toList v.data.toList = k by unfold addE; rw [← HK.out, if_pos hkz])
  rcases hk3 with rfl | rfl
  ·go_wp2
   go_ret2
   refine ⟨belowA hb1 _, .inl ⟨by rw [HA.out]; decide, by rw [HA.out]; rfl⟩⟩
  ·go_wp2
   go_ret2
   refine ⟨belowA hb1 _, .inl ⟨by rw [HA.out]; decide, by rw [HA.out]; rfl⟩⟩

end Go.Proofs.YtfcmonjfcnfjoaaGreatDoor

namespace Go.Proofs.YtfcmonjfcnfjoaaGreatDoor
open Go.RowKit

def dropV (L : List Hd) (n : List UInt8) : List Hd := L.filter fun h => !isN n h

theorem dropV_snoc (L : List Hd) (h : Hd) (n : List UInt8) : dropV (L ++ [h]) n = dropV L n ++ (if isN n h then [] else [h]) := by
 unfold dropV
 rw [List.filter_append]
 by_cases hh : isN n h = true <;> simp [hh]

theorem dropV_len (L : List Hd) (n : List UInt8) : (dropV L n).length ≤ L.length := List.length_filter_le _ _

theorem hd_eta (h : Hd) (a b : ByteArray) (ha : a = ⟨h.name.toArray⟩) (hb : b = ⟨h.value.toArray⟩) : [Value.string a, .string b] = cellsH [h] := by rw [ha, hb]; rfl

def NonNil (v : Value) : Prop := v ≠ .slice none 0 0

def HdPost2 (L : List Hd) (w : World) (e : Ending) (w' : World) : Prop := ∃ v, e = .returned v ∧ w'.ownsRow w.heap.size 30 2 v L.length (cellsH L) ∧ Below w.heap.size w w' ∧ NonNil v

theorem NonNil.form {w : World} {B n : Nat} {e : TypeId} {k : Nat} {v : Value} {xs : List Value} (h : NonNil v) (ho : w.ownsRow B e k v n xs) : ∃ g cap, v = .slice (some ⟨g, 0, none⟩) n cap ∧ n ≤ cap ∧ cap ≤ maxLen := by
 rcases ho.2 with ⟨hv, _⟩ | ⟨g, cap, cur, rfl, _, _, h1, h2, _⟩
 ·exact absurd hv h
 ·exact ⟨g, cap, rfl, h1, h2⟩

set_option maxHeartbeats 2000000 in
set_option maxRecDepth 100000 in
theorem drop_any (v : Value) (L : List Hd) (n : ByteArray) (w : World) (h : HdAt w v L) (hs : n.size ≤ 140737488351232) (hz : Szd 140737488351232 L) (hl : L.length ≤ 1000000) :
  Calls Tryz.prog 90 #[v, .string n] w (HdPost2 (dropV L n.data.toList) w) := by
 obtain ⟨a1, c1, rfl, hc1, hm1, hv1⟩ := h.view
 have V1 := hid hv1
 clear h hv1
 obtain ⟨i0, hi, hz0, hz1, hz2⟩ := info3 infoHd
 have HZ := hid hz
 clear hz
 obtain ⟨N, hN⟩ : ∃ N : ByteArray, N = ⟨(low n.data.toList).toArray⟩ := ⟨_, rfl⟩
 have HN := hid (show N.data.toList = low n.data.toList by rw [hN])
 have HNe := hid hN
 clear hN
 go_enter Tryz.func90, Tryz.ntmps90
 go_wp2_with fail
 refine (lower_any n _ hs).mono ?_
 rintro e w0 ⟨rfl, hb0⟩
 rw [← HNe.out]
 obtain ⟨w1, hmk, hown1, hgr1⟩ := run_make_own (P := Tryz.prog) w0 w0.heap.size 25 30 i0 _ 2 Tryz.underlying25 hi hz0 hz1 .i64 .i64 L.length (by rw [hz2]; omega) (by unfold maxLen; omega) (Nat.le_refl _)
 have hb1 : Below w.heap.size w w1 := hb0.grown hgr1 hb0.size (fun g hg => by cases hg)
 have hown1' : w1.ownsRow w.heap.size 30 2 (.slice (some ⟨w0.heap.size, 0, none⟩) 0 L.length) 0 [] := by
  rcases hown1.2 with ⟨h1, h2⟩ | ⟨g, cap, cur, e1, e2, e3⟩
  ·cases h1
  ·exact ⟨hown1.1, .inr ⟨g, cap, cur, e1, Nat.le_trans hb0.size e2, e3⟩⟩
 have HO1 := hid hown1'
 have HB1 := hid hb1
 clear hown1 hown1' hgr1 hb1 hb0
 go_wp2
 go_loopw [5, 7, 15] (fun vv x i wr => ∃ k : Nat, k ≤ L.length ∧ i = .int .i64 k ∧ wr.ownsRow w.heap.size 30 2 vv (dropV (L.take k) n.data.toList).length (cellsH (dropV (L.take k) n.data.toList)) ∧ Below w.heap.size w wr ∧ NonNil vv)
  (fun _ _ i _ => L.length - (intOf i).toNat)
 case atStart => exact ⟨0, Nat.zero_le _, rfl, HO1.out, HB1.out, fun h => by cases h⟩
 case round =>
  obtain ⟨k, hk, rfl, hown, hbw, hnn⟩ := hrel
  have HO := hid hown
  have HNN := hid hnn
  clear hnn
  have hwr := hbw.size
  clear hown
  by_cases hlt : k < L.length
  ·have hlt' : (k : Int) < (L.length : Int) := by omega
   obtain ⟨b1, o1, rfl, e1, e2⟩ := V1.out k hlt
   have f1 : wr.cell? ⟨b1, o1 + k * 2, none⟩ = some (.string ⟨L[k].name.toArray⟩) := (hbw.cell (World.block_lt_of_cell? w _ e1)).trans e1
   have f2 : wr.cell? ⟨b1, o1 + k * 2 + 1, none⟩ = some (.string ⟨L[k].value.toArray⟩) := (hbw.cell (World.block_lt_of_cell? w _ e2)).trans e2
   clear e1 e2
   obtain ⟨nm, hnm⟩ : ∃ x : ByteArray, x = ⟨L[k].name.toArray⟩ := ⟨_, rfl⟩
   obtain ⟨vl, hvl⟩ : ∃ x : ByteArray, x = ⟨L[k].value.toArray⟩ := ⟨_, rfl⟩
   rw [← hnm] at f1
   rw [← hvl] at f2
   have hsz : nm.size ≤ 140737488351232 := by rw [hnm, xsize]; exact (HZ.out _ (List.getElem_mem hlt)).1
   have HV := hid hvl
   have HM := hid hnm
   clear hnm hvl
   have HT := hid (show L.take (k + 1) = L.take k ++ [L[k]] by rw [List.take_add_one, List.getElem?_eq_getElem hlt]; rfl)
   obtain ⟨M, hM⟩ : ∃ x : ByteArray, x = ⟨(low nm.data.toList).toArray⟩ := ⟨_, rfl⟩
   have HMe := hid hM
   clear hM
   go_wp2_with fail
   refine (lower_any nm _ hsz).mono ?_
   rintro e w1 ⟨rfl, hb1⟩
   rw [← HMe.out]
   have hbw1 := (hbw.alloc hwr (.cells #[.string nm, .string vl] 30)).trans (hb1.mono (by simp; omega))
   have g1 : w1.cell? ⟨wr.heap.size, 0, none⟩ = some (.string nm) := (hb1.cell (p := ⟨wr.heap.size, 0, none⟩) (by simp)).trans (by simp [go_sem])
   have g2 : w1.cell? ⟨wr.heap.size, 1, none⟩ = some (.string vl) := (hb1.cell (p := ⟨wr.heap.size, 1, none⟩) (by simp)).trans (by simp [go_sem])
   have HO1 := hid (own_same (HO.out.alloc (.cells #[.string nm, .string vl] 30)) hb1)
   have hw1 := hbw1.size
   have hdl := dropV_len (L.take k) n.data.toList
   rw [List.length_take] at hdl
   by_cases hmn : M = N
   ·subst hmn
    have HS := hid (show dropV (L.take (k + 1)) n.data.toList = dropV (L.take k) n.data.toList by
     rw [HT.out, dropV_snoc, if_pos, List.append_nil]
     rw [isN, beq_iff_eq, ← HN.out, HMe.out, HM.out])
    go_wp2
    go_roundw
    case rel =>
     refine ⟨k + 1, by omega, by go_num, ?_, hbw1, HNN.out⟩
     rw [HS.out]
     exact HO1.out
    case measure => simp [intOf]; omega
   ·have hne := strNe hmn
    have HS := hid (show dropV (L.take (k + 1)) n.data.toList = dropV (L.take k) n.data.toList ++ [L[k]] by
     rw [HT.out, dropV_snoc, if_neg]
     rw [isN, beq_iff_eq, ← HN.out]
     intro e
     exact hmn (xba (by rw [← e, HMe.out, HM.out])))
    clear hmn
    go_wp2_with (at_builtin; go_must (refine wpList_append_own _ rfl _ _ 25 rfl w.heap.size 30 i0 _ 2 32 Tryz.underlying25 hi hz0 hz1 hz2 rfl (by decide) _ _ _ rfl (HO1.out.alloc _) ⟨w1.heap.size, 0, none⟩ 1 1 [.string nm, .string vl] rfl rfl ?c1 ?c2 ?c3 ?c4 ?c5 ?_))
    case c1 =>
     intro q u hq
     match q, hq with
     | 0, hq => simp at hq; subst hq; simp [Addr.add]
     | 1, hq => simp at hq; subst hq; simp [Addr.add]
    case c2 => intro u hu; simp at hu; rcases hu with rfl | rfl <;> rfl
    case c3 => unfold maxLen; omega
    case c4 => omega
    case c5 => simp; omega
    intro v' w2 hown' hgrow hnil
    have HO2 := hid hown'
    have HB2 := hid (show Below w.heap.size w w2 from (hbw1.alloc hw1 _).grown hgrow (by simp; omega) (fun g hg => (HO1.out.lt g hg).1))
    have HNN2 := hid (show NonNil v' from hnil)
    clear hown' hgrow hnil
    go_wp2
    go_roundw
    case rel =>
     refine ⟨k + 1, by omega, by go_num, ?_, HB2.out, HNN2.out⟩
     rw [HS.out, cellsH_app, List.length_append, ← hd_eta L[k] nm vl HM.out HV.out]
     exact HO2.out
    case measure => simp [intOf]; omega
  ·have hke : k = L.length := by omega
   subst hke
   have HT := hid (show dropV (L.take L.length) n.data.toList = dropV L n.data.toList by rw [List.take_length])
   go_wp2
   go_ret
   refine ⟨_, rfl, ?_, hbw, HNN.out⟩
   rw [← HT.out]
   exact HO.out

def firstV (L : List Hd) (n : List UInt8) : Option Nat := L.findIdx? (isN n)

set_option maxHeartbeats 2000000 in
set_option maxRecDepth 100000 in
theorem first_any (v : Value) (L : List Hd) (n : ByteArray) (w : World) (h : HdAt w v L) (hs : n.size ≤ 140737488351232) (hz : Szd 140737488351232 L) (hl : L.length ≤ 1000000) :
  Calls Tryz.prog 112 #[v, .string n] w fun e w' => Below w.heap.size w w' ∧ ((firstV L n.data.toList = none ∧ e = .returned (.int .i64 (-1))) ∨ ∃ k : Nat, firstV L n.data.toList = some k ∧ e = .returned (.int .i64 (k : Int))) := by
 obtain ⟨a1, c1, rfl, hc1, hm1, hv1⟩ := h.view
 have V1 := hid hv1
 clear h hv1
 have HZ := hid hz
 clear hz
 obtain ⟨N, hN⟩ : ∃ N : ByteArray, N = ⟨(low n.data.toList).toArray⟩ := ⟨_, rfl⟩
 have HN := hid (show N.data.toList = low n.data.toList by rw [hN])
 have HNe := hid hN
 clear hN
 go_enter Tryz.func112, Tryz.ntmps112
 go_wp2_with fail
 refine (lower_any n _ hs).mono ?_
 rintro e w0 ⟨rfl, hb0⟩
 rw [← HNe.out]
 go_wp2
 go_loopw [5, 6, 11] (fun y x i wr => ∃ k : Nat, k ≤ L.length ∧ i = .int .i64 k ∧ (∀ j (hj : j < L.length), j < k → isN n.data.toList L[j] = false) ∧ Below w.heap.size w wr)
  (fun _ _ i _ => L.length - (intOf i).toNat)
 case atStart => exact ⟨0, Nat.zero_le _, rfl, fun j _ h => absurd h (by omega), hb0⟩
 case round =>
  obtain ⟨k, hk, rfl, hno, hbw⟩ := hrel
  have HO := hid hno
  have hwr := hbw.size
  clear hno
  by_cases hlt : k < L.length
  ·have hlt' : (k : Int) < (L.length : Int) := by omega
   obtain ⟨b1, o1, rfl, e1, e2⟩ := V1.out k hlt
   have f1 : wr.cell? ⟨b1, o1 + k * 2, none⟩ = some (.string ⟨L[k].name.toArray⟩) := (hbw.cell (World.block_lt_of_cell? w _ e1)).trans e1
   have f2 : wr.cell? ⟨b1, o1 + k * 2 + 1, none⟩ = some (.string ⟨L[k].value.toArray⟩) := (hbw.cell (World.block_lt_of_cell? w _ e2)).trans e2
   clear e1 e2
   obtain ⟨nm, hnm⟩ : ∃ x : ByteArray, x = ⟨L[k].name.toArray⟩ := ⟨_, rfl⟩
   obtain ⟨vl, hvl⟩ : ∃ x : ByteArray, x = ⟨L[k].value.toArray⟩ := ⟨_, rfl⟩
   rw [← hnm] at f1
   rw [← hvl] at f2
   have hsz : nm.size ≤ 140737488351232 := by rw [hnm, xsize]; exact (HZ.out _ (List.getElem_mem hlt)).1
   have HM := hid hnm
   clear hnm hvl
   obtain ⟨M, hM⟩ : ∃ x : ByteArray, x = ⟨(low nm.data.toList).toArray⟩ := ⟨_, rfl⟩
   have HMe := hid hM
   clear hM
   go_wp2_with fail
   refine (lower_any nm _ hsz).mono ?_
   rintro e w1 ⟨rfl, hb1⟩
   rw [← HMe.out]
   have hbw1 := (hbw.alloc hwr (.cells #[.string nm, .string vl] 30)).trans (hb1.mono (by simp; omega))
   by_cases hmn : M = N
   ·subst hmn
    have HS := hid (show isN n.data.toList L[k] = true by rw [isN, beq_iff_eq, ← HN.out, HMe.out, HM.out])
    go_wp2
    go_ret
    refine ⟨hbw1, .inr ⟨k, ?_, rfl⟩⟩
    unfold firstV
    rw [List.findIdx?_eq_some_iff_getElem]
    exact ⟨hlt, HS.out, fun j hj => by have := HO.out j (by omega) hj; simp [this]⟩
   ·have hne := strNe hmn
    have HS := hid (show isN n.data.toList L[k] = false by
     rw [isN, beq_eq_false_iff_ne, ← HN.out]
     intro e
     exact hmn (xba (by rw [← e, HMe.out, HM.out])))
    clear hmn
    go_wp2
    go_roundw
    case rel =>
     refine ⟨k + 1, by omega, by go_num, fun j hj hjk => ?_, hbw1⟩
     by_cases he : j = k
     ·subst he; exact HS.out
     ·exact HO.out j hj (by omega)
    case measure => simp [intOf]; omega
  ·go_wp2
   go_ret
   refine ⟨hbw, .inl ⟨?_, rfl⟩⟩
   unfold firstV
   rw [List.findIdx?_eq_none_iff]
   intro x hx
   obtain ⟨j, hj, rfl⟩ := List.getElem_of_mem hx
   exact HO.out j hj (by omega)

end Go.Proofs.YtfcmonjfcnfjoaaGreatDoor

namespace Go.Proofs.YtfcmonjfcnfjoaaGreatDoor
open Go.RowKit

theorem xstep_append_own {P : Program} {ops : Array Oper} {o : Oper} {a : Act} {w : World} {K : Act → World → Prop} {Q : Exit → Act → World → Prop} {E : Prop} (hgd : o.guard = none) (s x : Operand) (t : TypeId)
  (ho : o.op = .call { callee := .builtin .append, args := #[s, x], argTypes := #[t, t] })
  (base : Nat) (e : TypeId) (i : TypeInfo) (z : Value) (size bytes : Nat) (ht : P.underlying t = some (.slice e)) (hi : P.info? e = some i) (hz : i.zero = some z)
  (hsize : i.size = size) (hby : i.bytes = bytes) (hzs : z.cells.size = size) (hsz : 0 < size)
  (v : Value) (n : Nat) (xs : List Value) (hs : a.eval s = v) (hown : w.ownsRow base e size v n xs)
  (ad : Addr) (m c : Nat) (news : List Value) (hx : a.eval x = .slice (some ad) m c) (hl : news.length = m * size) (hnews : ∀ j u, news[j]? = some u → w.cell? (ad.add j) = some u) (h1 : ∀ u ∈ news, u.oneCell' = true)
  (h63 : n + m ≤ maxLen) (hbytes : (n + m) * bytes ≤ 140737488355328) (hbase : base ≤ w.heap.size)
  (h : ∀ v' w', w'.ownsRow base e size v' (n + m) (xs ++ news) → w.grownBy w' v.ownBlock → (v' = .slice none 0 0 ↔ v = .slice none 0 0 ∧ m = 0) → K (a.put o.dst v') w') :
  if Region.wanted o (yielded ops a.tmps) = true then Oper.wp P o a w K Q else E := by
 rw [if_pos (by simp [Region.wanted, hgd])]
 exact wp_append_own w s x t ho base e i z size bytes ht hi hz hsize hby hzs hsz v n xs hs hown ad m c news hx hl hnews h1 h63 hbytes hbase h

theorem hd_take {w : World} {a : Option Addr} {n cap : Nat} {L : List Hd} (h : HdAt w (.slice a n cap) L) (k : Nat) (hk : k ≤ L.length) : HdAt w (.slice a k cap) (L.take k) := by
 obtain ⟨a', cap', e, h1, h2, h3⟩ := h
 cases e
 have hl : (L.take k).length = k := by simp; omega
 refine ⟨a, cap, by rw [hl], by omega, h2, fun j hj => ?_⟩
 rw [hl] at hj
 have := h3 j (by omega)
 simpa using this

theorem hd_drop {w : World} {b off n cap : Nat} {L : List Hd} (h : HdAt w (.slice (some ⟨b, off, none⟩) n cap) L) (k : Nat) (hk : k ≤ L.length) : HdAt w (.slice (some ⟨b, off + k * 2, none⟩) (n - k) (cap - k)) (L.drop k) := by
 obtain ⟨a', cap', e, h1, h2, h3⟩ := h
 cases e
 have hl : (L.drop k).length = L.length - k := by simp
 refine ⟨_, cap - k, by rw [hl], by omega, by omega, fun j hj => ?_⟩
 rw [hl] at hj
 obtain ⟨b', off', e, c1, c2⟩ := h3 (k + j) (by omega)
 cases e
 refine ⟨b, off + k * 2, rfl, ?_, ?_⟩
 ·rw [show off + k * 2 + j * 2 = off + (k + j) * 2 by omega, c1]; simp
 ·rw [show off + k * 2 + j * 2 = off + (k + j) * 2 by omega, c2]; simp

def setE (L : List Hd) (n v : List UInt8) : Nat := match firstV L n with | none => addE L n v | some _ => hdE n v

def setV (L : List Hd) (n v : List UInt8) : List Hd := match firstV L n with
 | none => L ++ [⟨n, valT v⟩]
 | some k => L.take k ++ [⟨(L.getD k ⟨[], []⟩).name, valT v⟩] ++ dropV (L.drop (k + 1)) n

def SetPost (L : List Hd) (n v : List UInt8) (w : World) (e : Ending) (w' : World) : Prop :=
 Below w.heap.size w w' ∧ ((setE L n v ≠ 0 ∧ e = .returned (.tuple #[.slice none 0 0, .int .i64 (setE L n v : Int)])) ∨
  (setE L n v = 0 ∧ ∃ vv, e = .returned (.tuple #[vv, .int .i64 0]) ∧ w'.ownsRow w.heap.size 30 2 vv (setV L n v).length (cellsH (setV L n v))))

set_option maxHeartbeats 2000000 in
set_option maxRecDepth 100000 in
theorem set_any (vv : Value) (L : List Hd) (n v : ByteArray) (w : World) (h : HdAt w vv L) (hl : L.length ≤ 1000000) (hn : n.size ≤ 140737488351232) (hv : v.size ≤ 9223372036854775807) (hz : Szd 140737488351232 L) :
  Calls Tryz.prog 88 #[vv, .string n, .string v] w (SetPost L n.data.toList v.data.toList w) := by
 have HL := hid h
 have HZ := hid hz
 obtain ⟨i0, hi, hz0, hz1, hz2⟩ := info3 infoHd
 obtain ⟨a1, c1, rfl, hc1, hm1, hv1⟩ := h.view
 have V1 := hid hv1
 clear h hv1 hz
 go_enter Tryz.func88, Tryz.ntmps88
 go_wp2_with fail
 refine (first_any _ L n _ HL.out hn HZ.out hl).mono ?_
 rintro e w1 ⟨hb1, ⟨hf, rfl⟩ | ⟨k, hf, rfl⟩⟩
 ·have HE := hid (show setE L n.data.toList v.data.toList = addE L n.data.toList v.data.toList by unfold setE; rw [hf])
  have HV := hid (show setV L n.data.toList v.data.toList = L ++ [⟨n.data.toList, valT v.data.toList⟩] by unfold setV; rw [hf])
  clear hf
  go_wp2_with fail
  refine (add_any _ L n v _ (HL.out.kept hb1) hl hn hv).mono ?_
  rintro e w2 ⟨hb2, ⟨hne, rfl⟩ | ⟨he, v2, rfl, hown2⟩⟩
  ·go_wp2
   go_ret2
   refine ⟨belowT hb1 hb2, .inl ⟨by rw [HE.out]; exact hne, by rw [HE.out]; rfl⟩⟩
  ·have HO := hid hown2
   clear hown2
   go_wp2
   go_ret2
   refine ⟨belowT hb1 hb2, .inr ⟨by rw [HE.out]; exact he, _, rfl, ?_⟩⟩
   rw [HV.out, List.length_append]
   rcases HO.out.2 with ⟨h1, h2⟩ | ⟨g, cap, cur, e1, e2, e3⟩
   ·simp at h2
   ·exact ⟨HO.out.1, .inr ⟨g, cap, cur, e1, Nat.le_trans hb1.size e2, e3⟩⟩
 ·have hkl : k < L.length := by unfold firstV at hf; rw [List.findIdx?_eq_some_iff_getElem] at hf; exact hf.1
  have HE := hid (show setE L n.data.toList v.data.toList = hdE n.data.toList v.data.toList by unfold setE; rw [hf])
  have HV := hid (show setV L n.data.toList v.data.toList = L.take k ++ [⟨L[k].name, valT v.data.toList⟩] ++ dropV (L.drop (k + 1)) n.data.toList by unfold setV; rw [hf]; simp [List.getD, hkl])
  clear hf
  have hk0 : ¬ (k : Int) < 0 := by omega
  obtain ⟨q, hq⟩ : ∃ q, q = hdE n.data.toList v.data.toList := ⟨_, rfl⟩
  have hk3 : q = 0 ∨ q = 1 ∨ q = 3 := by rw [hq]; unfold hdE; split; exact .inr (.inl rfl); split; exact .inr (.inr rfl); exact .inl rfl
  have HQ := hid hq
  clear hq
  go_wp2_with fail
  refine (header_any n v _ hn hv).mono ?_
  rintro e w2 ⟨N, V, rfl, hb2, hNV⟩
  rw [← HQ.out] at hNV
  rw [← HQ.out]
  unfold hdVal
  have hbw2 := belowT hb1 hb2
  have HB3 := hid (belowA hbw2 (.cells #[.string N, .string V] 30))
  have HTwo : Hid (Two (w2.alloc (.cells #[.string N, .string V] 30)) w2.heap.size N V) := heap_alloc_new _ _
  obtain ⟨W3, hW3⟩ : ∃ W3, W3 = w2.alloc (.cells #[.string N, .string V] 30) := ⟨_, rfl⟩
  rcases hk3 with rfl | hk3
  ·obtain ⟨rfl, hVv⟩ := hNV rfl
   have HVv := hid hVv
   clear hVv hNV
   have hkl' : (k : Int) < (L.length : Int) := by omega
   obtain ⟨b1, o1, rfl, e1, e2⟩ := V1.out k hkl
   have f1 : (w2.alloc (.cells #[.string N, .string V] 30)).cell? ⟨b1, o1 + k * 2, none⟩ = some (.string ⟨L[k].name.toArray⟩) := (HB3.out.cell (World.block_lt_of_cell? w _ e1)).trans e1
   clear e1 e2
   clear hW3 W3
   obtain ⟨nk, hnk⟩ : ∃ x : ByteArray, x = ⟨L[k].name.toArray⟩ := ⟨_, rfl⟩
   rw [← hnk] at f1
   have HNk := hid (show nk.data.toList = L[k].name by rw [hnk])
   have HB4 := hid (belowA hbw2 (.cells #[.string nk, .string V] 30))
   clear hnk
   go_wp2_with fail
   obtain ⟨W, hW⟩ : ∃ W, W = w2.alloc (.cells #[.string nk, .string V] 30) := ⟨_, rfl⟩
   have hTW : Two W w2.heap.size nk V := by rw [hW]; exact heap_alloc_new _ _
   rw [← hW]
   rw [← hW] at HB4
   obtain ⟨g0, g1, _, _⟩ := hTW.cells
   have HLW := hid (HL.out.kept HB4.out)
   have hkc : (k : Int) ≤ (c1 : Int) := by omega
   have hk1c : (k : Int) + 1 ≤ (L.length : Int) := by omega
   have hk1n : ((k : Int) + 1).toNat = k + 1 := by omega
   have hlc : (L.length : Int) ≤ (c1 : Int) := by omega
   have hwrap : IntKind.i64.wrap ((k : Int) + 1) = (k : Int) + 1 := by rw [IntKind.wrap_i64]; omega
   have hq0 : (0 : Int) ≤ (k : Int) + 1 := by omega
   have hwl : w2.heap.size < W.heap.size := by rw [hW]; simp
   have HK := hid (fun (X : World) (hX : Below W.heap.size W X) => (⟨hX, (hX.cell hwl).trans g0, (hX.cell hwl).trans g1⟩ : Below W.heap.size W X ∧ X.cell? ⟨w2.heap.size, 0, none⟩ = some (.string nk) ∧ X.cell? ⟨w2.heap.size, 1, none⟩ = some (.string V)))
   have hbD : Below W.heap.size W W.drew := (Below.refl _ W).drew
   obtain ⟨C4, hC4⟩ : ∃ C, cellsH (L.take k ++ [⟨nk.data.toList, V.data.toList⟩]) = C := ⟨_, rfl⟩
   obtain ⟨C5, hC5⟩ : ∃ C, cellsH (dropV (L.drop (k + 1)) N.data.toList) = C := ⟨_, rfl⟩
   obtain ⟨m5, hm5⟩ : ∃ m, (dropV (L.drop (k + 1)) N.data.toList).length = m := ⟨_, rfl⟩
   have hm5l : m5 ≤ 1000000 := by have := dropV_len (L.drop (k + 1)) N.data.toList; simp at this; omega
   have HC5l := hid (show C5.length = m5 * 2 by rw [← hC5, ← hm5]; exact cellsH_len _)
   have HC5o := hid (show ∀ u ∈ C5, u.oneCell' = true by rw [← hC5]; exact cellsH_oneCell _)
   have HC4 := hid hC4
   have HC5 := hid hC5
   have HM5 := hid hm5
   have HVe := hid (show L.take k ++ [⟨L[k].name, valT v.data.toList⟩] = L.take k ++ [⟨nk.data.toList, V.data.toList⟩] by rw [HNk.out, HVv.out])
   clear hW hTW f1 HB3 HTwo hC4 hC5 hm5 hwl
   by_cases hce : c1 = k + 1
   ·have HTL : Hid (HdAt W (.slice (some ⟨b1, o1, none⟩) (L.length - (k + 1)) (c1 - (k + 1))) (L.drop (k + 1))) := by
     rw [show L.drop (k + 1) = [] from List.drop_eq_nil_of_le (by omega)]
     refine ⟨_, c1 - (k + 1), by rw [show L.length - (k + 1) = 0 by omega]; rfl, by simp, by omega, fun j hj => by simp at hj⟩
    have hcet : (c1 = k + 1) = True := by simp [hce]
    clear hce
    have HWith : Hid (∀ X : World, Below W.heap.size W X → Calls Tryz.prog 115 #[.slice (some ⟨b1, o1, none⟩) k c1, .agg #[.string nk, .string V]] X fun e X' => ∃ v4, e = .returned v4 ∧ X'.ownsRow W.heap.size 30 2 v4 (k + 1) C4 ∧ Below W.heap.size W X') := fun X hX => by
     have := with_any _ _ nk V X ((hd_take HLW.out k (by omega)).kept hX) (by simp; omega)
     unfold hdVal at this
     refine this.mono ?_
     rintro e X' ⟨v4, rfl, ho, hb⟩
     rw [HC4.out, show (L.take k ++ [(⟨nk.data.toList, V.data.toList⟩ : Hd)]).length = k + 1 by simp; omega] at ho
     refine ⟨v4, rfl, ?_, hX.trans (hb.mono hX.size)⟩
     rcases ho.2 with ⟨h1, h2⟩ | ⟨g, cap, cur, e1, e2, e3⟩
     ·simp at h2
     ·exact ⟨ho.1, .inr ⟨g, cap, cur, e1, Nat.le_trans hX.size e2, e3⟩⟩
    have HDrop : Hid (∀ X : World, Below W.heap.size W X → Calls Tryz.prog 90 #[.slice (some ⟨b1, o1, none⟩) (L.length - (k + 1)) (c1 - (k + 1)), .string N] X fun e X' => ∃ g5 cap5, e = .returned (.slice (some ⟨g5, 0, none⟩) m5 cap5) ∧ (∀ j u, C5[j]? = some u → X'.cell? ((⟨g5, 0, none⟩ : Addr).add j) = some u) ∧ Below W.heap.size W X' ∧ Below X.heap.size X X') := fun X hX => by
     refine (drop_any _ (L.drop (k + 1)) N X (HTL.out.kept hX) hn (fun h hh => HZ.out h (List.mem_of_mem_drop hh)) (by simp; omega)).mono ?_
     rintro e X' ⟨v5, rfl, ho, hb, hnn⟩
     obtain ⟨g5, cap5, rfl, hcap5, hmax5⟩ := hnn.form ho
     have hc := (own_hd ho).cells.2
     rw [HC5.out] at hc
     rw [← HM5.out]
     exact ⟨g5, cap5, rfl, fun j u hj => by obtain ⟨x, e, h⟩ := hc j u hj; cases e; exact h, hX.trans (hb.mono hX.size), hb⟩
    go_region_held_law (fun wx => Below W.heap.size W wx ∧ wx.cell? ⟨w2.heap.size, 0, none⟩ = some (.string nk) ∧ wx.cell? ⟨w2.heap.size, 1, none⟩ = some (.string V))
     (first | exact HK.out _ hbD | exact HK.out _ (by assumption) | (go_split_ands; exact HK.out _ (by assumption)))
     (first
      | (go_at_call 115; refine (HWith.out _ (by (try dsimp only at *); go_split_ands; assumption)).mono ?_; rintro e w4 ⟨v4, rfl, ho4, hbW4⟩)
      | (go_at_call 90; refine (HDrop.out _ (by (try dsimp only at *); go_split_ands; assumption)).mono ?_; rintro e w5 ⟨g5, cap5, rfl, hcell5, hbW5, hb5⟩)
      | (refine xstep_append_own rfl (.tmp 41) (.tmp 47) 25 rfl W.heap.size 30 i0 _ 2 32 Tryz.underlying25 hi hz0 hz1 hz2 rfl (by decide) v4 (k + 1) C4 rfl (own_same ho4 hb5) ⟨g5, 0, none⟩ m5 cap5 C5 rfl HC5l.out hcell5 HC5o.out (by unfold maxLen; omega) (by omega) hbW5.size ?_; intro v6 w6 hown6 hgrow6 hnil6; have hbW6 : Below W.heap.size W w6 := hbW5.grown hgrow6 hbW5.size (fun g hg => (ho4.lt g hg).1)))
    all_goals
     (try dsimp only at *)
     go_wp2
     go_ret2
     refine ⟨HB4.out.trans (hbW6.mono HB4.out.size), .inr ⟨by rw [HE.out, ← HQ.out], v6, by simp, ?_⟩⟩
     rw [HV.out, HVe.out, cellsH_app, HC4.out, HC5.out, List.length_append, HM5.out, show (L.take k ++ [(⟨nk.data.toList, V.data.toList⟩ : Hd)]).length = k + 1 by simp; omega]
     rcases hown6.2 with ⟨h1, h2⟩ | ⟨g, cap, cur, e1, e2, e3⟩
     ·omega
     ·exact ⟨hown6.1, .inr ⟨g, cap, cur, e1, Nat.le_trans HB4.out.size e2, e3⟩⟩
   ·have HTL := hid (hd_drop HLW.out (k + 1) (by omega))
    have HWith : Hid (∀ X : World, Below W.heap.size W X → Calls Tryz.prog 115 #[.slice (some ⟨b1, o1, none⟩) k c1, .agg #[.string nk, .string V]] X fun e X' => ∃ v4, e = .returned v4 ∧ X'.ownsRow W.heap.size 30 2 v4 (k + 1) C4 ∧ Below W.heap.size W X') := fun X hX => by
     have := with_any _ _ nk V X ((hd_take HLW.out k (by omega)).kept hX) (by simp; omega)
     unfold hdVal at this
     refine this.mono ?_
     rintro e X' ⟨v4, rfl, ho, hb⟩
     rw [HC4.out, show (L.take k ++ [(⟨nk.data.toList, V.data.toList⟩ : Hd)]).length = k + 1 by simp; omega] at ho
     refine ⟨v4, rfl, ?_, hX.trans (hb.mono hX.size)⟩
     rcases ho.2 with ⟨h1, h2⟩ | ⟨g, cap, cur, e1, e2, e3⟩
     ·simp at h2
     ·exact ⟨ho.1, .inr ⟨g, cap, cur, e1, Nat.le_trans hX.size e2, e3⟩⟩
    have HDrop : Hid (∀ X : World, Below W.heap.size W X → Calls Tryz.prog 90 #[.slice (some ⟨b1, o1 + (k + 1) * 2, none⟩) (L.length - (k + 1)) (c1 - (k + 1)), .string N] X fun e X' => ∃ g5 cap5, e = .returned (.slice (some ⟨g5, 0, none⟩) m5 cap5) ∧ (∀ j u, C5[j]? = some u → X'.cell? ((⟨g5, 0, none⟩ : Addr).add j) = some u) ∧ Below W.heap.size W X' ∧ Below X.heap.size X X') := fun X hX => by
     refine (drop_any _ (L.drop (k + 1)) N X (HTL.out.kept hX) hn (fun h hh => HZ.out h (List.mem_of_mem_drop hh)) (by simp; omega)).mono ?_
     rintro e X' ⟨v5, rfl, ho, hb, hnn⟩
     obtain ⟨g5, cap5, rfl, hcap5, hmax5⟩ := hnn.form ho
     have hc := (own_hd ho).cells.2
     rw [HC5.out] at hc
     rw [← HM5.out]
     exact ⟨g5, cap5, rfl, fun j u hj => by obtain ⟨x, e, h⟩ := hc j u hj; cases e; exact h, hX.trans (hb.mono hX.size), hb⟩
    go_region_held_law (fun wx => Below W.heap.size W wx ∧ wx.cell? ⟨w2.heap.size, 0, none⟩ = some (.string nk) ∧ wx.cell? ⟨w2.heap.size, 1, none⟩ = some (.string V))
     (first | exact HK.out _ hbD | exact HK.out _ (by assumption) | (go_split_ands; exact HK.out _ (by assumption)))
     (first
      | (go_at_call 115; refine (HWith.out _ (by (try dsimp only at *); go_split_ands; assumption)).mono ?_; rintro e w4 ⟨v4, rfl, ho4, hbW4⟩)
      | (go_at_call 90; refine (HDrop.out _ (by (try dsimp only at *); go_split_ands; assumption)).mono ?_; rintro e w5 ⟨g5, cap5, rfl, hcell5, hbW5, hb5⟩)
      | (refine xstep_append_own rfl (.tmp 41) (.tmp 47) 25 rfl W.heap.size 30 i0 _ 2 32 Tryz.underlying25 hi hz0 hz1 hz2 rfl (by decide) v4 (k + 1) C4 rfl (own_same ho4 hb5) ⟨g5, 0, none⟩ m5 cap5 C5 rfl HC5l.out hcell5 HC5o.out (by unfold maxLen; omega) (by omega) hbW5.size ?_; intro v6 w6 hown6 hgrow6 hnil6; have hbW6 : Below W.heap.size W w6 := hbW5.grown hgrow6 hbW5.size (fun g hg => (ho4.lt g hg).1)))
    all_goals
     (try dsimp only at *)
     go_wp2
     go_ret2
     refine ⟨HB4.out.trans (hbW6.mono HB4.out.size), .inr ⟨by rw [HE.out, ← HQ.out], v6, by simp, ?_⟩⟩
     rw [HV.out, HVe.out, cellsH_app, HC4.out, HC5.out, List.length_append, HM5.out, show (L.take k ++ [(⟨nk.data.toList, V.data.toList⟩ : Hd)]).length = k + 1 by simp; omega]
     rcases hown6.2 with ⟨h1, h2⟩ | ⟨g, cap, cur, e1, e2, e3⟩
     ·omega
     ·exact ⟨hown6.1, .inr ⟨g, cap, cur, e1, Nat.le_trans HB4.out.size e2, e3⟩⟩
  ·clear hW3
   have hqz : q ≠ 0 := by omega
   have HE2 := hid (show setE L n.data.toList v.data.toList = q by rw [HE.out, ← HQ.out])
   rcases hk3 with rfl | rfl
   ·go_wp2
    go_ret2
    refine ⟨HB3.out, .inl ⟨by rw [HE2.out]; decide, by rw [HE2.out]; rfl⟩⟩
   ·go_wp2
    go_ret2
    refine ⟨HB3.out, .inl ⟨by rw [HE2.out]; decide, by rw [HE2.out]; rfl⟩⟩

end Go.Proofs.YtfcmonjfcnfjoaaGreatDoor

namespace Go.Proofs.YtfcmonjfcnfjoaaGreatDoor
open Go.RowKit

def RowZ (w : World) (g : Nat) (l : List UInt8) : Prop := w.heap[g]? = some (.cells (l.map fun c => Value.int .u8 (c.toNat : Int)).toArray 5 (0, 0))

theorem RowZ.cell {w : World} {g : Nat} {l : List UInt8} (h : RowZ w g l) (j : Nat) (hj : j < l.length) : w.cell? ⟨g, j, none⟩ = some (.int .u8 (l[j].toNat : Int)) := by
 rw [Lib.cell_of_heap h]; simp [hj]

theorem RowZ.set {w : World} {g : Nat} {l : List UInt8} (h : RowZ w g l) (j : Nat) (c : UInt8) : RowZ (w.setCell ⟨g, j, none⟩ (.int .u8 (c.toNat : Int))) g (l.set j c) := by
 have := Lib.heap_setCell_same h (i := j) (.int .u8 (c.toNat : Int))
 unfold RowZ
 rw [this]
 simp [List.map_set]

theorem RowZ.string {w : World} {g cap : Nat} {l : List UInt8} (h : RowZ w g l) : (convert 26 9 (.slice (some ⟨g, 0, none⟩) l.length cap)).run Tryz.prog w = .ok (.string ⟨l.toArray⟩) w := by
 refine run_convert_bytes_back w 26 9 5 ⟨g, 0, none⟩ cap l Tryz.underlying26 Tryz.underlying5 Tryz.underlying9 fun j hj => ?_
 have := h.cell j hj
 rw [Addr.add_lit]
 simpa using this

end Go.Proofs.YtfcmonjfcnfjoaaGreatDoor

namespace Go.Proofs.YtfcmonjfcnfjoaaGreatDoor
open Go.RowKit

theorem Szd.mono {a b : Nat} {L : List Hd} (h : Szd a L) (hab : a ≤ b) : Szd b L := fun x hx => ⟨Nat.le_trans (h x hx).1 hab, Nat.le_trans (h x hx).2 hab⟩

theorem Szd.bulk {a : Nat} {L : List Hd} (h : Szd a L) : bulkV L ≤ (a + 2) * L.length := by
 unfold bulkV
 induction L with
 | nil => simp
 | cons x L ih =>
  have h1 := (h x (by simp)).2
  have := ih (fun y hy => h y (by simp [hy]))
  simp only [List.map_cons, List.sum_cons, List.length_cons]
  rw [Nat.mul_add]
  omega

end Go.Proofs.YtfcmonjfcnfjoaaGreatDoor

namespace Go.Proofs.YtfcmonjfcnfjoaaGreatDoor
open Go.RowKit

def endT (c : Int) : Bool := c == 9 || c == 32

theorem dropWhile_left (p : UInt8 → Bool) (A X : List UInt8) (h : A.all p = true) : (A ++ X).dropWhile p = X.dropWhile p := by
 induction A with
 | nil => rfl
 | cons a A ih =>
  simp only [List.all_cons, Bool.and_eq_true] at h
  rw [List.cons_append, List.dropWhile_cons_of_pos h.1, ih h.2]

theorem dropWhile_stop5 (p : UInt8 → Bool) (X Y : List UInt8) (c : UInt8) (hc : p c = false) : (X ++ c :: Y).dropWhile p = X.dropWhile p ++ c :: Y := by
 induction X with
 | nil => rw [List.nil_append, List.dropWhile_cons_of_neg (by simp [hc])]; rfl
 | cons x X ih =>
  cases hx : p x with
  | true => rw [List.cons_append, List.dropWhile_cons_of_pos hx, List.dropWhile_cons_of_pos hx, ih]
  | false => rw [List.cons_append, List.dropWhile_cons_of_neg (by simp [hx]), List.dropWhile_cons_of_neg (by simp [hx])]; rfl

theorem all_split (p : UInt8 → Bool) : ∀ l : List UInt8, ¬ l.all p = true → ∃ A c r, A.all p = true ∧ p c = false ∧ l = A ++ c :: r
 | [], h => absurd rfl h
 | x :: l, h => by
  cases hx : p x with
  | false => exact ⟨[], x, l, rfl, hx, rfl⟩
  | true =>
   obtain ⟨A, c, r, h1, h2, h3⟩ := all_split p l (fun e => h (by rw [List.all_cons, hx, e]; rfl))
   exact ⟨x :: A, c, r, by rw [List.all_cons, hx, h1]; rfl, h2, by rw [h3]; rfl⟩

theorem trim_comm (p : UInt8 → Bool) (l : List UInt8) : ((l.dropWhile p).reverse.dropWhile p).reverse = (l.reverse.dropWhile p).reverse.dropWhile p := by
 by_cases h : l.all p = true
 ·have h1 : l.dropWhile p = [] := by
   have := dropWhile_left p l [] h
   simpa using this
  have h2 : l.reverse.dropWhile p = [] := by
   have := dropWhile_left p l.reverse [] (by simpa using h)
   simpa using this
  rw [h1, h2]; rfl
 ·obtain ⟨A, c, r, hA, hc, rfl⟩ := all_split p l h
  rw [dropWhile_left p A _ hA, List.dropWhile_cons_of_neg (by simp [hc])]
  rw [List.reverse_cons, List.reverse_append, List.reverse_cons, List.append_assoc, List.singleton_append]
  rw [dropWhile_stop5 p _ _ c hc, dropWhile_stop5 p _ _ c hc]
  rw [List.reverse_append, List.reverse_append, List.reverse_cons, List.reverse_cons, List.reverse_reverse]
  simp only [List.reverse_nil, List.nil_append, List.append_assoc, List.singleton_append]
  rw [dropWhile_left p A _ hA, List.dropWhile_cons_of_neg (by simp [hc])]

end Go.Proofs.YtfcmonjfcnfjoaaGreatDoor

namespace Go.Proofs.YtfcmonjfcnfjoaaGreatDoor
open Go.RowKit

def rsetV (n V : List UInt8) : Bool → List Hd → List Hd
 | _, [] => []
 | d, h :: r => if isN n h then (if d then rsetV n V d r else ⟨h.name, V⟩ :: rsetV n V true r) else h :: rsetV n V d r

def RsInv (L : List Hd) (n V : List UInt8) (k : Nat) (out : List Hd) (d : Bool) : Prop := out ++ rsetV n V d (L.drop k) = rsetV n V false L ∧ d = (L.take k).any (isN n) ∧ out.length ≤ k

theorem RsInv.skip {L : List Hd} {n V : List UInt8} {k : Nat} {out : List Hd} {d : Bool} (h : RsInv L n V k out d) (hk : k < L.length) (hn : isN n L[k] = false) : RsInv L n V (k + 1) (out ++ [L[k]]) d := by
 obtain ⟨h1, h2, h3⟩ := h
 refine ⟨?_, ?_, by simp; omega⟩
 ·rw [← h1, ← List.getElem_cons_drop hk, rsetV, if_neg (by simp [hn])]; simp
 ·rw [List.take_add_one, List.getElem?_eq_getElem hk, h2, List.any_append]; simp [hn]

theorem RsInv.place {L : List Hd} {n V : List UInt8} {k : Nat} {out : List Hd} (h : RsInv L n V k out false) (hk : k < L.length) (hn : isN n L[k] = true) : RsInv L n V (k + 1) (out ++ [⟨L[k].name, V⟩]) true := by
 obtain ⟨h1, h2, h3⟩ := h
 refine ⟨?_, ?_, by simp; omega⟩
 ·rw [← h1, ← List.getElem_cons_drop hk, rsetV, if_pos hn, if_neg (by simp)]; simp
 ·rw [List.take_add_one, List.getElem?_eq_getElem hk, List.any_append]; simp [hn]

end Go.Proofs.YtfcmonjfcnfjoaaGreatDoor

namespace Go.Proofs.YtfcmonjfcnfjoaaGreatDoor
open Go.RowKit

def RowH (w : World) (g : Nat) (M : List Hd) : Prop := w.heap[g]? = some (.cells (cellsH M).toArray 30 (0, 0))

theorem RowH.at {w : World} {g : Nat} {M : List Hd} (h : RowH w g M) (hm : M.length ≤ maxLen) : HdAt w (.slice (some ⟨g, 0, none⟩) M.length M.length) M :=
 hd_of (Nat.le_refl _) hm fun j hj => by
  have := cellsH_at M j hj
  rw [Nat.zero_add, Lib.cell_of_heap h, Lib.cell_of_heap h]
  simpa using this

theorem cellsH_set : ∀ (M : List Hd) (i : Nat) (h : Hd), ((cellsH M).set (i * 2) (.string ⟨h.name.toArray⟩)).set (i * 2 + 1) (.string ⟨h.value.toArray⟩) = cellsH (M.set i h)
 | [], i, h => by simp [cellsH]
 | a :: M, 0, h => rfl
 | a :: M, i + 1, h => by
  have ih := cellsH_set M i h
  have e : cellsH (a :: M) = Value.string ⟨a.name.toArray⟩ :: Value.string ⟨a.value.toArray⟩ :: cellsH M := rfl
  have e2 : cellsH ((a :: M).set (i + 1) h) = Value.string ⟨a.name.toArray⟩ :: Value.string ⟨a.value.toArray⟩ :: cellsH (M.set i h) := rfl
  rw [e, e2, show (i + 1) * 2 = i * 2 + 1 + 1 by omega, List.set_cons_succ, List.set_cons_succ, List.set_cons_succ, List.set_cons_succ, ih]

theorem RowH.set {w : World} {g : Nat} {M : List Hd} (h : RowH w g M) (i : Nat) (a b : ByteArray) : RowH ((w.setCell ⟨g, i * 2, none⟩ (.string a)).setCell ⟨g, i * 2 + 1, none⟩ (.string b)) g (M.set i ⟨a.data.toList, b.data.toList⟩) := by
 have h1 := Lib.heap_setCell_same h (i := i * 2) (.string a)
 have h2 := Lib.heap_setCell_same h1 (i := i * 2 + 1) (.string b)
 unfold RowH
 rw [h2]
 have := cellsH_set M i ⟨a.data.toList, b.data.toList⟩
 rw [← xself a, ← xself b] at this
 rw [← this]
 simp

end Go.Proofs.YtfcmonjfcnfjoaaGreatDoor
