/-
  Walks and plain facts that this claim leans on, put together out of 4 texts: Mi, Mj, Mk, Da.
-/
import Derived.Test.YtjmkccnjjofmeaaGreatDoorProg
import Derived.Test.YtjmkccnjjofmeaaGreatDoorQa1
import Derived.Test.YtjmkccnjjofmeaaGreatDoorQa2
import Derived.Test.YtjmkccnjjofmeaaGreatDoorQa3
import Derived.Test.YtjmkccnjjofmeaaGreatDoorQa4
import Derived.Test.YtjmkccnjjofmeaaGreatDoorQa5
import Derived.Test.YtjmkccnjjofmeaaGreatDoorQa6
import Derived.Test.YtjmkccnjjofmeaaGreatDoorQa7
import Derived.Test.YtjmkccnjjofmeaaGreatDoorQa8
import Derived.Laws.OwnMore
import Derived.Below
import Derived.WalkSmall
import Derived.Lib.SmallJoins
import Derived.Maps.OwnSet
import Derived.Maps.OwnOps
import Derived.Maps.AppendAt
import Derived.StringKeys
import Derived.Deep.QuietTactic
import Derived.BigQuiet
import Derived.Lib.IndexAny
import Derived.Deep.LoopGhost
import Derived.Laws.BitsAllLaws
import Derived.Deep.MidRow
import Derived.Lib.BufferMore
import Derived.Lib.Bytealg
import Derived.Lib.BufferRead
import Derived.Lib.RuneBytes
import Derived.Laws.RangeAny
import Derived.Shelf.Strings.SlTrimAscii
import Derived.Laws.AppendOwn
import Derived.Shelf.Strings.Builder1
import Derived.Shelf.Strings.Builder2
import Derived.Shelf.Strings.OnBuilder
import Derived.Shelf.Strings.Trim
import Derived.Shelf.Small.Utf8
import Derived.Shelf.Small.Strs
import Derived.Shelf.Small.Wraps
import Derived.Shelf.Strings.BuilderF
import Derived.Shelf.Strings.BuilderK
import Derived.Shelf.Strings.Builder2Cap
import Derived.Shelf.Strconv.Itoa0
import Derived.Shelf.Strconv.Itoa1
import Derived.Shelf.LaysM
import Derived.Shelf.Strconv.Itoa2
import Derived.Shelf.Strconv.Itoa3
import Derived.Shelf.Strings.Search1
import Derived.Shelf.Strings.Search2
import Derived.Shelf.Strings.Search3
import Derived.Shelf.Strings.Cut
import Derived.Shelf.Strings.Count
import Derived.Shelf.Strings.Shaped
import Derived.Shelf.Strings.Prefix
import Derived.Shelf.Strings.Split
import Derived.Shelf.Strings.Replace
import Derived.Shelf.Strings.Runes
import Derived.Shelf.Strings.IndexAny
import Derived.Shelf.Strings.AsciiSet
import Derived.Shelf.Strings.IndexAnyAll
import Derived.Shelf.Unicode.DecodeSlow
import Derived.Lib.Strings
import Derived.Lib.UnsafeStr
import Derived.Laws.IdiomStrings
import Derived.Lib.SlTrimSet
import Derived.Lib.Join
import Derived.Lib.IndexMore
import Derived.WalkKit
import Derived.WalkSpells
import Derived.WalkLawsBesides
import Derived.Laws.Runes
import Derived.Lib.DecodeN
import Derived.Lib.OthersKept
import Derived.RegionTactic
import Derived.Deep.RegionWith
import Derived.Lib.FrozenHead2
import Derived.Lib.Builder
import Derived.Lib.AppendStr
import Derived.Lib.Replace
import Derived.Lib.AppendIntMem
import Derived.Lib.TrimByte
import Derived.Lib.ItoaNum
import Derived.WalkMore
import Derived.OwnWalk
import Derived.Lib.LastIndexByte
import Derived.Laws.CopyOwn
import Derived.Laws.ResultCell
set_option linter.unusedSimpArgs false
set_option linter.unusedVariables false

namespace Go.Proofs.YtjmkccnjjofmeaaGreatDoor
open Go.RowKit

/-- A kind as a value. -/
def knVal (a m : ByteArray) (v : Value) : Value := .agg #[.string a, .string m, v]

/-- The block p holds a kind. -/
def Tri (w : World) (p : Nat) (a m : ByteArray) (v : Value) : Prop := w.heap[p]? = some (.cells #[.string a, .string m, v] 26 (0, 0))

theorem Tri.lt {w : World} {p : Nat} {a m : ByteArray} {v : Value} (h : Tri w p a m v) : p < w.heap.size := (Array.getElem?_eq_some_iff.1 h).1

theorem Tri.range {w : World} {p : Nat} {a m : ByteArray} {v : Value} (h : Tri w p a m v) : w.rangeAt p 0 [.string a, .string m, v] := fun j u hu => by
  rw [Nat.zero_add, Lib.cell_of_heap h]
  match j, hu with
  | 0, hu => simpa using hu
  | 1, hu => simpa using hu
  | 2, hu => simpa using hu
  | j + 3, hu => simp at hu

theorem Tri.cells {w : World} {p : Nat} {a m : ByteArray} {v : Value} (h : Tri w p a m v) : w.cell? ⟨p, 0, none⟩ = some (.string a) ∧ w.cell? ⟨p, 1, none⟩ = some (.string m) ∧ w.cell? ⟨p, 2, none⟩ = some v :=
  ⟨by rw [Lib.cell_of_heap h]; rfl, by rw [Lib.cell_of_heap h]; rfl, by rw [Lib.cell_of_heap h]; rfl⟩

theorem Tri.frozen {w : World} {p : Nat} {a m : ByteArray} {v : Value} (h : Tri w p a m v) (j : Nat) : w.frozen? ⟨p, j, none⟩ = false := Lib.frozen_of_heap h j

theorem Tri.set {w : World} {p : Nat} {a m a' m' : ByteArray} {v v' : Value} (h : Tri w p a m v) : Tri (((w.setCell ⟨p, 0, none⟩ (.string a')).setCell ⟨p, 1, none⟩ (.string m')).setCell ⟨p, 2, none⟩ v') p a' m' v' := by
  have h1 := Lib.heap_setCell_same h (i := 0) (.string a')
  have h2 := Lib.heap_setCell_same h1 (i := 1) (.string m')
  exact Lib.heap_setCell_same h2 (i := 2) v'

theorem Tri.kept {w w' : World} {p : Nat} {a m : ByteArray} {v : Value} (h : Tri w p a m v) (hb : Below w.heap.size w w') : Tri w' p a m v := (hb.block p h.lt).trans h

theorem Tri.but {w w' : World} {p c : Nat} {a m : ByteArray} {v : Value} (h : Tri w p a m v) (hb : But c w w') (hne : p ≠ c) : Tri w' p a m v := (hb.block p h.lt hne).trans h

theorem results_k2 {fn : Func} {p q : Tmp} (h : fn.results = #[.cell p 26, .tmp q]) (tmps : Array Value) (w : World) (b : Nat) (x y : ByteArray) (v : Value) (hp : tmps.getD p undef = .pointer (some ⟨b, 0, none⟩)) (hc : w.rangeAt b 0 [.string x, .string y, v]) : (results fn tmps).run Tryz.prog w = .ok (.tuple #[knVal x y v, tmps.getD q undef]) w := by
  rw [Array.getD_eq_getD_getElem?] at hp
  simp only [results, h]
  simp [Sem.run_bind, Result.andThen, hp, asAddr, run_loadVar_mid w b 0 26 [.string x, .string y, v] _ hc Tryz.underlying26 rfl (by kernel_rfl), knVal]

theorem results_k1 {fn : Func} {p : Tmp} (h : fn.results = #[.cell p 26]) (tmps : Array Value) (w : World) (b : Nat) (x y : ByteArray) (v : Value) (hp : tmps.getD p undef = .pointer (some ⟨b, 0, none⟩)) (hc : w.rangeAt b 0 [.string x, .string y, v]) : (results fn tmps).run Tryz.prog w = .ok (knVal x y v) w := by
  rw [Array.getD_eq_getD_getElem?] at hp
  simp only [results, h]
  simp [Sem.run_bind, Result.andThen, hp, asAddr, run_loadVar_mid w b 0 26 [.string x, .string y, v] _ hc Tryz.underlying26 rfl (by kernel_rfl), knVal]

theorem own_base {w : World} {B C n k : Nat} {e : TypeId} {v : Value} {xs : List Value} (h : w.ownsRow B e k v n xs) (hC : C ≤ B) : w.ownsRow C e k v n xs := by
  refine ⟨h.1, ?_⟩
  rcases h.2 with hn | ⟨g, cap, cur, hv, hb, rest⟩
  · exact .inl hn
  · exact .inr ⟨g, cap, cur, hv, by omega, rest⟩

theorem own_slice {w : World} {B n k : Nat} {e : TypeId} {v : Value} {xs : List Value} (h : w.ownsRow B e k v n xs) : ∃ a m c, v = .slice a m c := by
  rcases h.2 with ⟨hv, _⟩ | ⟨g, cap, cur, hv, _⟩
  · exact ⟨_, _, _, hv⟩
  · exact ⟨_, _, _, hv⟩

theorem cut6_le (l : List UInt8) (c : UInt8) : (Lib.cut l [c]).1.length ≤ l.length ∧ (Lib.cut l [c]).2.1.length ≤ l.length := by
  unfold Lib.cut
  split
  · simp; omega
  · simp

def KnPost (s : List UInt8) (w : World) (e : Ending) (w' : World) : Prop :=
  ∃ v, e = .returned (.tuple #[knVal (ba (knV s).major) (ba (knV s).minor) v, .bool (knOk s)]) ∧ w'.ownsRow w.heap.size 43 2 v (knV s).params.length (cellsH (knV s).params) ∧ Below w.heap.size w w'

set_option maxHeartbeats 4000000 in
set_option maxRecDepth 100000 in
theorem parse6_any (s : ByteArray) (w : World) (hG : G5 w) (hs : s.size ≤ 4000000000) :
    Calls Tryz.prog 62 #[.string s] w (KnPost s.data.toList w) := by
  have HG := hid hG
  clear hG
  have h0 : Tri (w.alloc (.cells #[.string ⟨#[]⟩, .string ⟨#[]⟩, .slice none 0 0] 26)) w.heap.size ⟨#[]⟩ ⟨#[]⟩ (.slice none 0 0) := heap_alloc_new _ _
  have H0 := hid h0
  clear h0
  have hbl := tB_le s.data.toList
  rw [← Lib.size_eq] at hbl
  have hcl := cut6_le (tB s.data.toList) 47
  obtain ⟨T, hT⟩ : ∃ T, ba (tB s.data.toList) = T := ⟨_, rfl⟩
  have hTl : T.data.toList = tB s.data.toList := by rw [← hT]; rfl
  have hTs : T.size ≤ 4000000000 := by rw [Lib.size_eq, hTl]; omega
  obtain ⟨M, hM⟩ : ∃ M, ba (mjr s.data.toList) = M := ⟨_, rfl⟩
  obtain ⟨H, hH⟩ : ∃ H, ba (bhn s.data.toList) = H := ⟨_, rfl⟩
  obtain ⟨cb, hcb⟩ : ∃ cb, (Lib.cut (tB s.data.toList) [47]).2.2 = cb := ⟨_, rfl⟩
  have hMl : M.data.toList = mjr s.data.toList := by rw [← hM]; rfl
  have hHl : H.data.toList = bhn s.data.toList := by rw [← hH]; rfl
  have hMs : M.size ≤ 4000000000 := by rw [Lib.size_eq, hMl]; unfold mjr; omega
  have hHs : H.size ≤ 4000000000 := by rw [Lib.size_eq, hHl]; unfold bhn; omega
  have HTr : Hid (∀ w : World, Calls Tryz.prog 99 #[.string s, .string ⟨#[9, 10, 13, 32]⟩] w fun e w' => e = .returned (.string T) ∧ Below w.heap.size w w') := fun w => by
    rw [← hT]; exact trim6_any s w (by omega)
  have HCt : Hid (∀ w : World, G5 w → Calls Tryz.prog 56 #[.string T, .string ⟨#[47]⟩] w fun e w' => e = .returned (.tuple #[.string M, .string H, .bool cb]) ∧ Below w.heap.size w w') := fun w hg => by
    have := cut5_any T ⟨#[47]⟩ w hg hTs
    rw [hTl] at this
    rw [← hM, ← hH, ← hcb]
    exact this
  have hul := upA_le [59] H.data.toList
  have hrl := upR_le [59] H.data.toList
  rw [← Lib.size_eq] at hul hrl
  obtain ⟨A, hA⟩ : ∃ A, ba (upA [59] H.data.toList) = A := ⟨_, rfl⟩
  obtain ⟨Z, hZ⟩ : ∃ Z, ba (upR [59] H.data.toList) = Z := ⟨_, rfl⟩
  have hAl : A.data.toList = upA [59] H.data.toList := by rw [← hA]; rfl
  have hZl : Z.data.toList = upR [59] H.data.toList := by rw [← hZ]; rfl
  have hAs : A.size ≤ 4000000000 := by rw [Lib.size_eq, hAl]; omega
  have hZs : Z.size ≤ 4000000000 := by rw [Lib.size_eq, hZl]; omega
  have HUp : Hid (∀ w b, Rdr w b H → Calls Tryz.prog 100 #[.pointer (some ⟨b, 0, none⟩), .string ⟨#[59]⟩] w fun e w' => e = .returned (.string A) ∧ Rdr w' b Z ∧ But b w w') := fun w b hw => by
    rw [← hA, ← hZ]; exact upTo1 b H w hw hHs
  have htl := tR_le A.data.toList
  rw [← Lib.size_eq] at htl
  obtain ⟨N, hN⟩ : ∃ N, ba (tR A.data.toList) = N := ⟨_, rfl⟩
  have hNl : N.data.toList = mnr s.data.toList := by rw [← hN, hAl, hHl]; rfl
  have hNs : N.size ≤ 4000000000 := by rw [← hN, ba_size]; omega
  have HTR : Hid (∀ w : World, Calls Tryz.prog 94 #[.string A, .string ⟨#[9, 10, 13, 32]⟩] w fun e w' => e = .returned (.string N) ∧ Below w.heap.size w w') := fun w => by
    rw [← hN]; exact trimR_any A w (by omega)
  obtain ⟨t1, ht1⟩ : ∃ t, tokL M.data.toList = t := ⟨_, rfl⟩
  obtain ⟨t2, ht2⟩ : ∃ t, tokL N.data.toList = t := ⟨_, rfl⟩
  have HT1 : Hid (∀ w : World, Calls Tryz.prog 72 #[.string M] w fun e w' => e = .returned (.bool t1) ∧ w = w') := fun w => by
    rw [← ht1]; exact token_any M w (by omega)
  have HT2 : Hid (∀ w : World, Calls Tryz.prog 72 #[.string N] w fun e w' => e = .returned (.bool t2) ∧ w = w') := fun w => by
    rw [← ht2]; exact token_any N w (by omega)
  have HOk := hid (show knOk s.data.toList = (t1 && t2) by unfold knOk; rw [← hMl, ← hNl, ht1, ht2])
  have HZl := hid (show Z.data.toList = upR [59] (bhn s.data.toList) by rw [hZl, hHl])
  have HMl := hid hMl
  have HNl := hid hNl
  clear hbl hcl hT hTl hM hH hcb hMl hHl hul hrl hA hZ hAl hZl htl hN hNl ht1 ht2
  go_enter Tryz.func62, Tryz.ntmps62
  go_wp2_with fail
  refine (HTr.out _).mono ?_
  rintro e w1 ⟨rfl, hb1⟩
  have hB0 : Below w.heap.size w (w.alloc (.cells #[.string ⟨#[]⟩, .string ⟨#[]⟩, .slice none 0 0] 26)) := (Below.refl _ w).alloc (Nat.le_refl _) _
  have hBw1 := belowT hB0 hb1
  have HTri1 := hid (H0.out.kept hb1)
  go_wp2_with fail
  refine (HCt.out _ (HG.out.kept hBw1)).mono ?_
  rintro e w2 ⟨rfl, hb2⟩
  have HBw2 := hid (belowT hBw1 hb2)
  have HTri2 := hid (HTri1.out.kept hb2)
  clear hb1 hb2 hB0 hBw1
  have HRd2 := hid (show Rdr (w2.alloc (.cells #[.string H] 122)) w2.heap.size H from heap_alloc_new _ _)
  have HBw3 := hid (HBw2.out.alloc HBw2.out.size (.cells #[.string H] 122))
  have HTri3 := hid (HTri2.out.kept ((Below.refl _ w2).alloc (Nat.le_refl _) (.cells #[.string H] 122)))
  have hlt2 := HTri2.out.lt
  go_wp2_with fail
  generalize (w2.alloc (.cells #[.string H] 122)) = w3 at *
  generalize hbb : w2.heap.size = b at *
  refine (HUp.out _ b HRd2.out).mono ?_
  rintro e w4 ⟨rfl, hr4, hb4⟩
  have HBw4 := hid (hb4.below HBw3.out (Nat.le_of_lt hlt2))
  have HTri4 := hid (HTri3.out.but hb4 (Nat.ne_of_lt hlt2))
  go_wp2_with fail
  refine (HTR.out _).mono ?_
  rintro e w5 ⟨rfl, hb5⟩
  have HBw5 := hid (belowT HBw4.out hb5)
  have HTri5 := hid (HTri4.out.kept hb5)
  have HRd5 := hid (hr4.kept hb5)
  clear hr4 hb4 hb5
  have hfin : (t1 && t2) = true ∨ (t1 && t2) = false := by cases (t1 && t2) <;> simp
  rcases hfin with hf | hf
  · rw [hf] at HOk
    obtain ⟨rfl, rfl⟩ : t1 = true ∧ t2 = true := by simpa using hf
    clear hf
    go_wp2_with fail
    refine (HT1.out _).mono ?_
    rintro e w' ⟨rfl, rfl⟩
    go_wp2_with fail
    refine (HT2.out _).mono ?_
    rintro e w' ⟨rfl, rfl⟩
    go_wp2_with fail
    refine (lower_any M _ (by omega)).mono ?_
    rintro e w6 ⟨rfl, hb6⟩
    have HTri6 := hid (HTri5.out.kept hb6)
    have HRd6 := hid (HRd5.out.kept hb6)
    have HBw6 := hid (belowT HBw5.out hb6)
    go_wp2_with fail
    refine (lower_any N _ (by omega)).mono ?_
    rintro e w7 ⟨rfl, hb7⟩
    have HTri7 := hid (HTri6.out.kept hb7)
    have HRd7 := hid (HRd6.out.kept hb7)
    have HBw7 := hid (belowT HBw6.out hb7)
    clear hb6 hb7
    go_wp2_with fail
    refine (params_any b Z _ HRd7.out hZs).mono ?_
    rintro e w8 ⟨v, rfl, ho8, hb8⟩
    obtain ⟨va, vn, vc, rfl⟩ := own_slice ho8
    have hTri8 := HTri7.out.but hb8 (Nat.ne_of_lt hlt2)
    have HBw8 := hid (hb8.below HBw7.out (Nat.le_of_lt hlt2))
    have HO8 := hid (own_base ho8 (show w.heap.size ≤ w7.heap.size + 1 by have := HBw7.out.size; omega))
    have HAp := hid (own_apart2 ho8 (show w.heap.size < w7.heap.size + 1 by have := HBw7.out.size; omega))
    obtain ⟨c0, c1, c2⟩ := hTri8.cells
    have f0 := hTri8.frozen 0
    have f1 := hTri8.frozen 1
    have f2 := hTri8.frozen 2
    have HTri8 := hid hTri8
    clear hTri8 ho8 hb8
    have HKV := hid (show knV s.data.toList = ⟨low M.data.toList, low N.data.toList, prm [] Z.data.toList⟩ by unfold knV; rw [HOk.out, if_pos rfl, HMl.out, HNl.out, HZl.out])
    go_wp2
    refine bodyPost_ret (results_k2 rfl _ _ w.heap.size (ba (low M.data.toList)) (ba (low N.data.toList)) (.slice va vn vc) rfl HTri8.out.set.range) rfl ⟨.slice va vn vc, ?_, ?_, ?_⟩
    · rw [HKV.out, HOk.out]; rfl
    · rw [HKV.out]
      exact ((((But.refl w.heap.size w8).set 0 _).set 1 _).set 2 _).own HO8.out HAp.out
    · exact ((HBw8.out.setCell (p := ⟨w.heap.size, 0, none⟩) (Nat.le_refl _) _).setCell (p := ⟨w.heap.size, 1, none⟩) (Nat.le_refl _) _).setCell (p := ⟨w.heap.size, 2, none⟩) (Nat.le_refl _) _
  · rw [hf] at HOk
    have HKV := hid (show knV s.data.toList = knNone by unfold knV; rw [HOk.out]; rfl)
    obtain ⟨c0, c1, c2⟩ := HTri5.out.cells
    have f0 := HTri5.out.frozen 0
    have f1 := HTri5.out.frozen 1
    have f2 := HTri5.out.frozen 2
    have hcs : (t1 = false) ∨ (t1 = true ∧ t2 = false) := by revert hf; cases t1 <;> cases t2 <;> simp
    clear hf
    rcases hcs with rfl | ⟨rfl, rfl⟩
    · go_wp2_with fail
      refine (HT1.out _).mono ?_
      rintro e w' ⟨rfl, rfl⟩
      go_wp2
      refine bodyPost_ret (results_k2 rfl _ _ w.heap.size ⟨#[]⟩ ⟨#[]⟩ (.slice none 0 0) rfl HTri5.out.set.range) rfl ⟨.slice none 0 0, ?_, ?_, ?_⟩
      · rw [HKV.out, HOk.out]; rfl
      · rw [HKV.out]; exact World.ownsRow_nil _ _ _ _
      · exact ((HBw5.out.setCell (p := ⟨w.heap.size, 0, none⟩) (Nat.le_refl _) _).setCell (p := ⟨w.heap.size, 1, none⟩) (Nat.le_refl _) _).setCell (p := ⟨w.heap.size, 2, none⟩) (Nat.le_refl _) _
    · go_wp2_with fail
      refine (HT1.out _).mono ?_
      rintro e w' ⟨rfl, rfl⟩
      go_wp2_with fail
      refine (HT2.out _).mono ?_
      rintro e w' ⟨rfl, rfl⟩
      go_wp2
      refine bodyPost_ret (results_k2 rfl _ _ w.heap.size ⟨#[]⟩ ⟨#[]⟩ (.slice none 0 0) rfl HTri5.out.set.range) rfl ⟨.slice none 0 0, ?_, ?_, ?_⟩
      · rw [HKV.out, HOk.out]; rfl
      · rw [HKV.out]; exact World.ownsRow_nil _ _ _ _
      · exact ((HBw5.out.setCell (p := ⟨w.heap.size, 0, none⟩) (Nat.le_refl _) _).setCell (p := ⟨w.heap.size, 1, none⟩) (Nat.le_refl _) _).setCell (p := ⟨w.heap.size, 2, none⟩) (Nat.le_refl _) _

end Go.Proofs.YtjmkccnjjofmeaaGreatDoor

namespace Go.Proofs.YtjmkccnjjofmeaaGreatDoor
open Go.RowKit

theorem split6 (c : UInt8) : ∀ l : List UInt8, c ∉ l ∨ ∃ a r, c ∉ a ∧ l = a ++ c :: r
  | [] => .inl (by simp)
  | x :: l => by
    by_cases hx : x = c
    · exact .inr ⟨[], l, by simp, by simp [hx]⟩
    · rcases split6 c l with h | ⟨a, r, ha, rfl⟩
      · exact .inl (by simp [h]; exact fun e => hx e.symm)
      · exact .inr ⟨x :: a, r, by simp [ha]; exact fun e => hx e.symm, rfl⟩

/-- One byte by others. -/
def repC (o : UInt8) (new : List UInt8) (c : UInt8) : List UInt8 := if c = o then new else [c]

theorem rep_none (o : UInt8) (new l : List UInt8) (h : o ∉ l) : l.flatMap (repC o new) = l := by
  induction l with
  | nil => rfl
  | cons c l ih =>
    have hc : c ≠ o := fun e => h (by simp [e])
    have hl : o ∉ l := fun e => h (by simp [e])
    rw [List.flatMap_cons, ih hl, repC, if_neg hc]; rfl

theorem rep_k (o : UInt8) (new : List UInt8) : ∀ (n : Nat) (l : List UInt8), l.count o ≤ n → Lib.replaceK [o] new n l = l.flatMap (repC o new) := by
  intro n
  induction n with
  | zero =>
    intro l h
    rw [Lib.replaceK, rep_none o new l]
    exact List.count_eq_zero.1 (by omega)
  | succ n ih =>
    intro l h
    rcases split6 o l with h1 | ⟨a, r, h1, rfl⟩
    · rw [Lib.replaceK, xindex_none l o h1, rep_none o new l h1]; rfl
    · rw [Lib.replaceK_hit [o] new n _ a.length (xindex_some a r o h1)]
      have hc : r.count o ≤ n := by
        rw [List.count_append, List.count_cons] at h
        simp at h; omega
      have e1 : (a ++ o :: r).take a.length = a := by simp
      have e2 : (a ++ o :: r).drop (a.length + [o].length) = r := by simp
      rw [e1, e2, ih r hc, List.flatMap_append, List.flatMap_cons, rep_none o new a h1, repC, if_pos rfl, List.append_assoc]

theorem count6 (c : UInt8) : ∀ (f : Nat) (l : List UInt8), l.length < f → Lib.countFrom [c] f l = l.count c := by
  intro f
  induction f with
  | zero => intro l h; omega
  | succ f ih =>
    intro l h
    rcases split6 c l with h1 | ⟨a, r, h1, rfl⟩
    · rw [Lib.countFrom, xindex_none l c h1, List.count_eq_zero.2 h1]; rfl
    · rw [Lib.countFrom, xindex_some a r c h1]
      have e : ((a.length : Int) == -1) = false := by rw [beq_eq_false_iff_ne]; omega
      have e2 : (a ++ c :: r).drop (a.length + [c].length) = r := by simp
      simp only [e, Int.toNat_natCast, e2]
      rw [ih r (by simp at h; omega), List.count_append, List.count_cons, List.count_eq_zero.2 h1]
      simp; omega

theorem rep_all (o : UInt8) (new l : List UInt8) (h : ([o] == new) = false) : Lib.replaceAll l [o] new = l.flatMap (repC o new) := by
  unfold Lib.replaceAll Lib.replace
  rw [h, if_neg (by simp)]
  refine rep_k o new _ l ?_
  unfold Lib.replaceNum
  rw [if_pos (.inl (by decide))]
  unfold Lib.count
  rw [count6 o _ l (by omega)]
  exact Nat.le_refl _

theorem countB6 (s : ByteArray) (o : UInt8) : Lib.countB s ⟨#[o]⟩ ≤ s.size := by
  show Lib.count s.data.toList [o] ≤ s.size
  unfold Lib.count
  rw [count6 o _ _ (by omega), Lib.size_eq]
  exact List.count_le_length

theorem esc_two (v : List UInt8) : (v.flatMap (repC 92 [92, 92])).flatMap (repC 34 [92, 34]) = v.flatMap escC := by
  induction v with
  | nil => rfl
  | cons c v ih =>
    rw [List.flatMap_cons, List.flatMap_append, ih, List.flatMap_cons]
    congr 1
    unfold repC escC
    by_cases h1 : c = 92
    · subst h1; decide
    · by_cases h2 : c = 34
      · subst h2; decide
      · rw [if_neg h1, if_neg (by simp [h1, h2])]
        simp [h2]

theorem rep_len (o : UInt8) (new : List UInt8) (hn : new.length = 2) (l : List UInt8) : (l.flatMap (repC o new)).length ≤ 2 * l.length := by
  induction l with
  | nil => simp
  | cons c l ih =>
    rw [List.flatMap_cons, List.length_append, List.length_cons]
    have : (repC o new c).length ≤ 2 := by unfold repC; split <;> simp [hn]
    omega

theorem esc_len (l : List UInt8) : (l.flatMap escC).length ≤ 2 * l.length := by
  induction l with
  | nil => simp
  | cons c l ih =>
    rw [List.flatMap_cons, List.length_append, List.length_cons]
    have : (escC c).length ≤ 2 := by unfold escC; split <;> simp
    omega

theorem repl6_any (s : ByteArray) (o : UInt8) (new : ByteArray) (w : World) (hG : G5 w) (hs : s.size ≤ 4000000000) (hn : new.size = 2) (hne : ([o] == new.data.toList) = false) :
    Calls Tryz.prog 44 #[.string s, .string ⟨#[o]⟩, .string new] w fun e w' => e = .returned (.string (ba (s.data.toList.flatMap (repC o new.data.toList)))) ∧ Below w.heap.size w w' := by
  obtain ⟨m, hm⟩ := hG
  have h := Tryz.strings_ReplaceAll s ⟨#[o]⟩ new m w (by omega) hm (show 1 ≤ 1 from Nat.le_refl _) (by have := countB6 s o; rw [hn]; omega)
  rw [show (⟨#[o]⟩ : ByteArray).data.toList = [o] from rfl, rep_all o _ _ hne] at h
  exact h

set_option maxHeartbeats 1000000 in
theorem written_any (s : ByteArray) (w : World) (hG : G5 w) (hs : s.size ≤ 1000000000) :
    Calls Tryz.prog 42 #[.string s] w fun e w' => e = .returned (.string (ba (wrtV s.data.toList))) ∧ Below w.heap.size w w' := by
  obtain ⟨t, ht⟩ : ∃ t, tokL s.data.toList = t := ⟨_, rfl⟩
  have HT : Hid (∀ w : World, Calls Tryz.prog 72 #[.string s] w fun e w' => e = .returned (.bool t) ∧ w = w') := fun w => by
    rw [← ht]; exact token_any s w (by omega)
  have HG := hid hG
  clear hG
  cases t with
  | true =>
    have HV := hid (show ba (wrtV s.data.toList) = s by rw [wrtV, if_pos ht]; exact mba_self s)
    clear ht
    go_enter Tryz.func42, Tryz.ntmps42
    go_wp2_with (go_at_call 72; refine (HT.out _).mono ?_; rintro e w' ⟨rfl, rfl⟩)
    go_ret
    rw [HV.out]
    exact ⟨rfl, Below.refl _ _⟩
  | false =>
    obtain ⟨A, hA⟩ : ∃ A, ba (s.data.toList.flatMap (repC 92 [92, 92])) = A := ⟨_, rfl⟩
    have hAl : A.data.toList = s.data.toList.flatMap (repC 92 [92, 92]) := by rw [← hA]; rfl
    have hAs : A.size ≤ 4000000000 := by have := rep_len 92 [92, 92] rfl s.data.toList; rw [← Lib.size_eq] at this; rw [Lib.size_eq, hAl]; omega
    obtain ⟨C, hC⟩ : ∃ C, ba (A.data.toList.flatMap (repC 34 [92, 34])) = C := ⟨_, rfl⟩
    have hCl : C.data.toList = s.data.toList.flatMap escC := by rw [← hC, hAl]; exact esc_two _
    have hCs : C.size ≤ 4000000000 := by have := esc_len s.data.toList; rw [← Lib.size_eq] at this; rw [Lib.size_eq, hCl]; omega
    have HV := hid (show ba (wrtV s.data.toList) = (⟨#[34]⟩ : ByteArray) ++ C ++ (⟨#[34]⟩ : ByteArray) by
      rw [wrtV, ht, if_neg (by simp), ← hCl]
      exact xba (by simp [ba]))
    have HR1 : Hid (∀ w, G5 w → Calls Tryz.prog 44 #[.string s, .string ⟨#[92]⟩, .string ⟨#[92, 92]⟩] w fun e w' => e = .returned (.string A) ∧ Below w.heap.size w w') := fun w hg => by
      rw [← hA]; exact repl6_any s 92 ⟨#[92, 92]⟩ w hg (by omega) rfl rfl
    have HR2 : Hid (∀ w, G5 w → Calls Tryz.prog 44 #[.string A, .string ⟨#[34]⟩, .string ⟨#[92, 34]⟩] w fun e w' => e = .returned (.string C) ∧ Below w.heap.size w w') := fun w hg => by
      rw [← hC]; exact repl6_any A 34 ⟨#[92, 34]⟩ w hg hAs rfl rfl
    clear ht hA hAl hC hCl
    go_enter Tryz.func42, Tryz.ntmps42
    go_wp2_with fail
    refine (HT.out _).mono ?_
    rintro e w' ⟨rfl, rfl⟩
    go_wp2_with fail
    refine (HR1.out _ HG.out).mono ?_
    rintro e w1 ⟨rfl, hb1⟩
    go_wp2_with fail
    refine (HR2.out _ (HG.out.kept hb1)).mono ?_
    rintro e w2 ⟨rfl, hb2⟩
    go_wp2
    go_ret
    rw [HV.out]
    exact ⟨rfl, belowT hb1 hb2⟩

set_option maxHeartbeats 1000000 in
theorem essence_any (a m : ByteArray) (v : Value) (w : World) (ha : a.size ≤ 4000000000) (hm : m.size ≤ 4000000000) (hv : ∃ x n c, v = .slice x n c) :
    Calls Tryz.prog 41 #[knVal a m v] w fun e w' => e = .returned (.string (ba (a.data.toList ++ 47 :: m.data.toList))) ∧ Below w.heap.size w w' := by
  have HV := hid (show ba (a.data.toList ++ 47 :: m.data.toList) = a ++ (⟨#[47]⟩ : ByteArray) ++ m from xba (by simp [ba]))
  have HB := hid (show Below w.heap.size w (w.alloc (.cells #[.string a, .string m, v] 26)) from (Below.refl _ w).alloc (Nat.le_refl _) _)
  unfold knVal
  obtain ⟨x, n, c, rfl⟩ := hv
  go_enter Tryz.func41, Tryz.ntmps41
  go_wp2
  go_ret
  rw [HV.out]
  exact ⟨rfl, HB.out⟩

end Go.Proofs.YtjmkccnjjofmeaaGreatDoor

namespace Go.Proofs.YtjmkccnjjofmeaaGreatDoor
open Go.RowKit

set_option maxHeartbeats 2000000 in
set_option maxRecDepth 100000 in
theorem wstr6 (B b : Nat) (bs : List Value) (s : ByteArray) (w : World) (h : Lib.IsBuilderF 80 5 B b bs w) (hlen : bs.length + s.size ≤ 140737488355328) (hBw : B ≤ w.heap.size) :
    Calls Tryz.prog 40 #[.pointer (some ⟨b, 0, none⟩), .string s] w fun e w' => e = .returned (.tuple #[.int .i64 s.size, .nilIface]) ∧ (Lib.BuilderAtF 80 5 B b (.pointer (some ⟨b, 0, none⟩)) (bs ++ Lib.strCells s) w' ∧ Below B w w') := by
  obtain ⟨i0, hi, hz0, hz1, hz2⟩ := info3 infoU8
  go_enter Tryz.func40, Tryz.ntmps40
  go_wp2_with (go_at_call 71; refine (copyCheck_k B b bs _ h).mono ?_)
  rintro e w1 ⟨rfl, h1, hb1, hk1⟩
  obtain ⟨hB, v, hbk, hown, hne⟩ := h1
  have c0 : w1.cell? ⟨b, 0, none⟩ = some (.pointer (some ⟨b, 0, none⟩)) := by rw [Lib.cell_of_heap hbk]; rfl
  have c1 : w1.cell? ⟨b, 1, none⟩ = some v := by rw [Lib.cell_of_heap hbk]; rfl
  go_wp2_with (at_builtin; refine Lib.wpList_append_own_stringF _ rfl _ _ 27 9 rfl B 5 i0 Tryz.underlying27 Tryz.underlying9 hi hz0 hz1 hz2 _ _ _ rfl hown s rfl ?c3 ?c4 ?c5 ?_)
  case c3 => unfold maxLen; omega
  case c4 => omega
  case c5 => have := hb1.size; omega
  intro v' w2 hown' hgrow _
  have hlt : b < w1.heap.size := by
    rcases Nat.lt_or_ge b w1.heap.size with h' | h'
    · exact h'
    · simp [Array.getElem?_eq_none h'] at hbk
  have hb2 : w2.heap[b]? = some (.cells #[.pointer (some ⟨b, 0, none⟩), v] 80 (0, 0)) := by
    rw [hgrow.block b hlt (fun e => hne e.symm)]
    exact hbk
  have d0 : w2.cell? ⟨b, 0, none⟩ = some (.pointer (some ⟨b, 0, none⟩)) := by rw [Lib.cell_of_heap hb2]; rfl
  have d1 : w2.cell? ⟨b, 1, none⟩ = some v := by rw [Lib.cell_of_heap hb2]; rfl
  have f1 : w2.frozen? ⟨b, 1, none⟩ = false := Lib.frozen_of_heap hb2 1
  obtain ⟨ao, n', cap, rfl⟩ : ∃ ao n' cap, v' = .slice ao n' cap := by
    rcases hown'.2 with ⟨hv, _⟩ | ⟨g, cap, cur, fz, hv, _⟩
    · exact ⟨_, _, _, hv⟩
    · exact ⟨_, _, _, hv⟩
  go_wp2
  go_ret2
  refine ⟨rfl, ?_, ?_⟩
  · exact Lib.BuilderAtF.put (T := 80) (e := 5) hB hb2 (bs' := bs ++ Lib.strCells s) (by simpa [Lib.strCells_length] using hown') (by decide)
  · exact (hb1.grown hgrow (by have := hb1.size; omega) (fun k hk => (hown.lt k hk).1)).setCell (p := ⟨b, 1, none⟩) hB _

theorem bat_below {T e : TypeId} {B b : Nat} {p : Value} {bs : List Value} {W W' : World} (h : Lib.BuilderAtF T e B b p bs W) (hb : Below W.heap.size W W') : Lib.BuilderAtF T e B b p bs W' := by
  have hlt := h.lt
  obtain ⟨hB, v, hv, hown, hne⟩ := h
  exact ⟨hB, v, (hb.block b hlt).trans hv, hown.kept (row := none) ⟨hb.os, hb.tape, hb.output, hb.size, fun k hk _ => hb.block k hk⟩ (Classical.em _), hne⟩

theorem bld_below {T e : TypeId} {B b : Nat} {bs : List Value} {W W' : World} (h : Lib.IsBuilderF T e B b bs W) (hb : Below W.heap.size W W') : Lib.IsBuilderF T e B b bs W' :=
  h.elim (fun x => .inl (bat_below x hb)) (fun x => .inr (bat_below x hb))

def pfx (t : Kn) (k : Nat) : List UInt8 := essV t ++ (t.params.take k).flatMap prmT

theorem pfx_succ (t : Kn) (k : Nat) (h : k < t.params.length) : pfx t (k + 1) = pfx t k ++ prmT t.params[k] := by
  unfold pfx
  rw [List.take_succ_eq_append_getElem h, List.flatMap_append, List.append_assoc]; simp

theorem pfx_all (t : Kn) : pfx t t.params.length = txtV t := by unfold pfx txtV; rw [List.take_length]

theorem pfx_le (t : Kn) (k : Nat) : (pfx t k).length ≤ (txtV t).length := by
  unfold pfx txtV
  rw [List.length_append, List.length_append]
  have : t.params.flatMap prmT = (t.params.take k).flatMap prmT ++ (t.params.drop k).flatMap prmT := by rw [← List.flatMap_append, List.take_append_drop]
  rw [this, List.length_append]; omega

set_option maxHeartbeats 4000000 in
set_option maxRecDepth 100000 in
theorem mtext_any (a m : ByteArray) (v : Value) (ps : List Hd) (w : World) (hG : G5 w) (h : HdAt w v ps) (hl : (txtV ⟨a.data.toList, m.data.toList, ps⟩).length ≤ 400000000) :
    Calls Tryz.prog 21 #[knVal a m v] w fun e w' => e = .returned (.string (ba (txtV ⟨a.data.toList, m.data.toList, ps⟩))) ∧ Below w.heap.size w w' := by
  obtain ⟨x1, c1, rfl, hc1, hm1, hv1⟩ := h.view
  have V1 := hid hv1
  have HG := hid hG
  clear h hv1 hG
  have hpl : ps.length ≤ 400000000 := by
    have h1 : ps.length ≤ (ps.flatMap prmT).length := by
      generalize ps = l
      induction l with
      | nil => simp
      | cons c l ih =>
        rw [List.flatMap_cons, List.length_append, List.length_cons]
        have : 1 ≤ (prmT c).length := by unfold prmT; simp
        omega
    have h2 : (ps.flatMap prmT).length ≤ (txtV ⟨a.data.toList, m.data.toList, ps⟩).length := by simp only [txtV, List.length_append]; omega
    omega
  have HE := hid (pfx_all ⟨a.data.toList, m.data.toList, ps⟩)
  have h0 := pfx_le ⟨a.data.toList, m.data.toList, ps⟩ 0
  have e0 : pfx ⟨a.data.toList, m.data.toList, ps⟩ 0 = a.data.toList ++ 47 :: m.data.toList := by simp [pfx, essV]
  rw [e0, List.length_append, List.length_cons, ← Lib.size_eq, ← Lib.size_eq] at h0
  have ha : a.size ≤ 4000000000 := by omega
  have hm : m.size ≤ 4000000000 := by omega
  have HTL := hid (fun k (hk : k < ps.length) => (show (pfx ⟨a.data.toList, m.data.toList, ps⟩ k).length + (prmT ps[k]).length ≤ 400000000 by
    have h1 := pfx_le ⟨a.data.toList, m.data.toList, ps⟩ (k + 1)
    rw [pfx_succ _ _ hk, List.length_append] at h1
    exact Nat.le_trans h1 hl))
  have HPS := hid (fun k (hk : k < ps.length) => pfx_succ ⟨a.data.toList, m.data.toList, ps⟩ k hk)
  obtain ⟨E, hE⟩ : ∃ E, ba (a.data.toList ++ 47 :: m.data.toList) = E := ⟨_, rfl⟩
  have hEs : E.size ≤ 4000000000 := by rw [← hE, ba_size, List.length_append, List.length_cons, ← Lib.size_eq, ← Lib.size_eq]; omega
  have hEl : E.data.toList = pfx ⟨a.data.toList, m.data.toList, ps⟩ 0 := by rw [e0, ← hE]; rfl
  have HEs : Hid (∀ w : World, Calls Tryz.prog 41 #[.agg #[.string a, .string m, .slice x1 ps.length c1]] w fun e w' => e = .returned (.string E) ∧ Below w.heap.size w w') := fun w => by
    rw [← hE]; exact essence_any a m _ w ha hm ⟨_, _, _, rfl⟩
  generalize hpf : pfx ⟨a.data.toList, m.data.toList, ps⟩ = PF at *
  generalize htx : txtV ⟨a.data.toList, m.data.toList, ps⟩ = TX at *
  clear h0 e0 hE hpf htx
  have hW : Below w.heap.size w ((w.alloc (.cells #[.string a, .string m, .slice x1 ps.length c1] 26)).alloc (.cells #[.pointer none, .slice none 0 0] 80)) := ((Below.refl _ w).alloc (Nat.le_refl _) _).alloc (by simp) _
  have hfb : Lib.IsBuilderF 80 5 (w.heap.size + 1) (w.heap.size + 1) (Lib.byteCells []) ((w.alloc (.cells #[.string a, .string m, .slice x1 ps.length c1] 26)).alloc (.cells #[.pointer none, .slice none 0 0] 80)) := by
    have := Lib.IsBuilderF.of (Lib.fresh_isBuilder 80 5 (w.alloc (.cells #[.string a, .string m, .slice x1 ps.length c1] 26)))
    rw [World.size_alloc] at this
    exact this
  have hT : Tri ((w.alloc (.cells #[.string a, .string m, .slice x1 ps.length c1] 26)).alloc (.cells #[.pointer none, .slice none 0 0] 80)) w.heap.size a m (.slice x1 ps.length c1) :=
    (show Tri (w.alloc (.cells #[.string a, .string m, .slice x1 ps.length c1] 26)) w.heap.size a m (.slice x1 ps.length c1) from heap_alloc_new _ _).kept ((Below.refl _ _).alloc (Nat.le_refl _) _)
  have hsz : ((w.alloc (.cells #[.string a, .string m, .slice x1 ps.length c1] 26)).alloc (.cells #[.pointer none, .slice none 0 0] 80)).heap.size = w.heap.size + 2 := by simp
  have HW := hid hW
  have HFb := hid hfb
  have HT := hid hT
  have HSz := hid hsz
  obtain ⟨q0, q1, q2⟩ := hT.cells
  clear hW hfb hT hsz
  unfold knVal
  go_enter Tryz.func21, Tryz.ntmps21
  go_wp2_with fail
  generalize ((w.alloc (.cells #[.string a, .string m, .slice x1 ps.length c1] 26)).alloc (.cells #[.pointer none, .slice none 0 0] 80)) = W at *
  refine (HEs.out _).mono ?_
  rintro e w1 ⟨rfl, hb1⟩
  have HF1 := hid (bld_below HFb.out hb1)
  have HT1 := hid (HT.out.kept hb1)
  have HW1 := hid (belowT HW.out hb1)
  have hw1 := hb1.size
  have hs1 : w.heap.size + 2 ≤ w1.heap.size := by rw [← HSz.out]; exact hw1
  clear hb1 q0 q1 q2
  go_wp2_with fail
  refine (wstr6 (w.heap.size + 1) (w.heap.size + 1) _ E _ HF1.out (by simp [Lib.byteCells]; omega) (by omega)).mono ?_
  rintro e w2 ⟨rfl, h2, hb2⟩
  have HF2 := hid (show Lib.IsBuilderF 80 5 (w.heap.size + 1) (w.heap.size + 1) (Lib.byteCells (PF 0)) w2 by
    rw [← hEl]
    refine .inr ?_
    have e1 : Lib.byteCells E.data.toList = Lib.byteCells [] ++ Lib.strCells E := by rw [← Lib.strCells_toArray, Lib.mk_data]; rfl
    rw [e1]; exact h2)
  have HW2 := hid (HW1.out.trans (hb2.mono (by omega)))
  have hs2 : w.heap.size + 2 ≤ w2.heap.size := by have := hb2.size; omega
  have q2 : w2.cell? ⟨w.heap.size, 2, none⟩ = some (.slice x1 ps.length c1) := (hb2.cell (p := ⟨w.heap.size, 2, none⟩) (by simp)).trans HT1.out.cells.2.2
  clear h2 hb2 hw1
  go_wp2
  clear q2
  go_loopw [12] (fun i wr => ∃ k : Nat, k ≤ ps.length ∧ i = .int .i64 k ∧ Lib.IsBuilderF 80 5 (w.heap.size + 1) (w.heap.size + 1) (Lib.byteCells (PF k)) wr ∧ Below w.heap.size w wr ∧ w.heap.size + 2 ≤ wr.heap.size) (fun i _ => ps.length - (intOf i).toNat)
  case atStart => exact ⟨0, Nat.zero_le _, rfl, HF2.out, HW2.out, hs2⟩
  case round =>
    obtain ⟨k, hk, rfl, hI, hbw, hsz⟩ := hrel
    have HI := hid hI
    have HBw := hid hbw
    clear hI hbw
    by_cases hlt : k < ps.length
    · have hlt' : (k : Int) < (ps.length : Int) := by omega
      obtain ⟨b1, o1, rfl, e1, e2⟩ := V1.out k hlt
      have f1 : wr.cell? ⟨b1, o1 + k * 2, none⟩ = some (.string ⟨ps[k].name.toArray⟩) := (HBw.out.cell (World.block_lt_of_cell? w _ e1)).trans e1
      have f2 : wr.cell? ⟨b1, o1 + k * 2 + 1, none⟩ = some (.string ⟨ps[k].value.toArray⟩) := (HBw.out.cell (World.block_lt_of_cell? w _ e2)).trans e2
      have hln := HTL.out k hlt
      have hst := HPS.out k hlt
      clear e1 e2
      obtain ⟨nm, hnm⟩ : ∃ x : ByteArray, x = ⟨ps[k].name.toArray⟩ := ⟨_, rfl⟩
      obtain ⟨vl, hvl⟩ : ∃ x : ByteArray, x = ⟨ps[k].value.toArray⟩ := ⟨_, rfl⟩
      rw [← hnm] at f1
      rw [← hvl] at f2
      have hp : prmT ps[k] = 59 :: (nm.data.toList ++ 61 :: wrtV vl.data.toList) := by unfold prmT; rw [hnm, hvl]
      rw [hp] at hln hst
      obtain ⟨WV, hWV⟩ : ∃ x, ba (wrtV vl.data.toList) = x := ⟨_, rfl⟩
      have hWl : WV.data.toList = wrtV vl.data.toList := by rw [← hWV]; rfl
      rw [← hWl] at hln hst
      simp only [List.length_cons, List.length_append, ← Lib.size_eq] at hln
      have hvs : vl.size ≤ 400000000 := by
        have : vl.size ≤ WV.size := by
          rw [Lib.size_eq, Lib.size_eq, hWl]; unfold wrtV
          split
          · exact Nat.le_refl _
          · have : vl.data.toList.length ≤ (vl.data.toList.flatMap escC).length := by
              generalize vl.data.toList = l
              induction l with
              | nil => simp
              | cons c l ih =>
                rw [List.flatMap_cons, List.length_append, List.length_cons]
                have : 1 ≤ (escC c).length := by unfold escC; split <;> simp
                omega
            rw [List.length_cons, List.length_append]; omega
        omega
      have HWr : Hid (∀ X : World, G5 X → Calls Tryz.prog 42 #[.string vl] X fun e w' => e = .returned (.string WV) ∧ Below X.heap.size X w') := hid (fun X hX => by rw [← hWV]; exact written_any vl X hX (by omega))
      have HS := hid (show Lib.byteCells (PF k) ++ Lib.strCells ((⟨#[59]⟩ : ByteArray) ++ nm ++ (⟨#[61]⟩ : ByteArray) ++ WV) = Lib.byteCells (PF (k + 1)) by
        rw [hst, Lib.byteCells_append]
        congr 1
        rw [← Lib.strCells_toArray]
        congr 1
        exact xba (by simp))
      have hPF : (PF k).length ≤ 400000000 := by omega
      have hnms : nm.size ≤ 400000000 := by omega
      have hWVs : WV.size ≤ 400000000 := by omega
      have HLn := hid (show (Lib.byteCells (PF k)).length + ((⟨#[59]⟩ : ByteArray) ++ nm ++ (⟨#[61]⟩ : ByteArray) ++ WV).size ≤ 140737488355328 by
        rw [Lib.byteCells_length, ByteArray.size_append, ByteArray.size_append, ByteArray.size_append]
        have : (⟨#[59]⟩ : ByteArray).size = 1 := rfl
        have : (⟨#[61]⟩ : ByteArray).size = 1 := rfl
        omega)
      have HGX := hid (show G5 (wr.alloc (.cells #[.string nm, .string vl] 43)).drew from HG.out.kept ((HBw.out.alloc HBw.out.size _).drew))
      have HY : Hid (∀ Y : World, Below (wr.heap.size + 1) (wr.alloc (.cells #[.string nm, .string vl] 43)).drew Y → (Y.cell? ⟨wr.heap.size, 0, none⟩ = some (.string nm) ∧ Y.cell? ⟨wr.heap.size, 1, none⟩ = some (.string vl)) ∧ Lib.IsBuilderF 80 5 (w.heap.size + 1) (w.heap.size + 1) (Lib.byteCells (PF k)) Y ∧ Below w.heap.size w Y ∧ w.heap.size + 2 ≤ Y.heap.size) := hid (fun Y hY => by
        have hb2 : Below wr.heap.size wr (wr.alloc (.cells #[.string nm, .string vl] 43)).drew := ((Below.refl wr.heap.size wr).alloc (Nat.le_refl _) _).drew
        have hb3 := hb2.trans (hY.mono (by omega))
        refine ⟨⟨?_, ?_⟩, bld_below HI.out hb3, HBw.out.trans (hb3.mono (by have := HBw.out.size; omega)), by have := hb3.size; omega⟩
        · rw [hY.cell (by show wr.heap.size < _; omega)]
          rw [Lib.cell_of_heap (show (wr.alloc (.cells #[.string nm, .string vl] 43)).drew.heap[wr.heap.size]? = some (.cells #[.string nm, .string vl] 43) from heap_alloc_new wr _)]
          rfl
        · rw [hY.cell (by show wr.heap.size < _; omega)]
          rw [Lib.cell_of_heap (show (wr.alloc (.cells #[.string nm, .string vl] 43)).drew.heap[wr.heap.size]? = some (.cells #[.string nm, .string vl] 43) from heap_alloc_new wr _)]
          rfl)
      clear hnm hvl hp hWV hWl hst hln
      go_wp2
      go_region_with (first
        | (go_at_call 42; refine (HWr.out _ HGX.out).mono ?_; rintro e wy ⟨rfl, hby⟩; have hby2 : Below (wr.heap.size + 1) (wr.alloc (.cells #[.string nm, .string vl] 43)).drew wy := (by first | exact hby | simpa using hby); obtain ⟨⟨s0, s1⟩, hIy, hbY, hsY⟩ := HY.out wy hby2; have HIy := hid hIy; have HbY := hid hbY; clear hIy hbY hby hby2)
        | (go_at_call 40; refine (wstr6 (w.heap.size + 1) (w.heap.size + 1) _ _ _ HIy.out HLn.out (by omega)).mono ?_; rintro e wz ⟨rfl, hz, hbz⟩))
      all_goals
        have HI3 := hid (show Lib.IsBuilderF 80 5 (w.heap.size + 1) (w.heap.size + 1) (Lib.byteCells (PF (k + 1))) wz by rw [← HS.out]; exact .inr hz)
        have HB3 := hid (HbY.out.trans (hbz.mono (by omega)))
        have hsz3 := hbz.size
        clear hz hbz
        go_wp2
        go_roundw
        case rel => exact ⟨k + 1, by omega, by go_num, HI3.out, HB3.out, by omega⟩
        case measure => simp [intOf]; omega
    · have hke : k = ps.length := by omega
      subst hke
      have HI4 := hid (show Lib.IsBuilderF 80 5 (w.heap.size + 1) (w.heap.size + 1) (Lib.byteCells TX) wr by rw [← HE.out]; exact HI.out)
      go_wp2_with fail
      refine (Tryz.Builder_String_any_k (w.heap.size + 1) (w.heap.size + 1) _ _ HI4.out (by omega)).mono ?_
      rintro e w4 ⟨rfl, _, hb4, _⟩
      have HB4 := hid (HBw.out.trans (hb4.mono (by omega)))
      clear hb4
      go_wp2
      go_ret
      exact ⟨rfl, HB4.out⟩

end Go.Proofs.YtjmkccnjjofmeaaGreatDoor

namespace Go.Proofs.YtjmkccnjjofmeaaGreatDoor
def dataB : List UInt8 := [100, 97, 116, 97]

def markB : List UInt8 := [98, 97, 115, 101, 54, 52]

def tplB : List UInt8 := [116, 101, 120, 116, 47, 112, 108, 97, 105, 110]

/-- Kind and body, told by a text; is there a comma? -/
def cutK (l : List UInt8) : List UInt8 := strip (part 44 l).1

def cutD (l : List UInt8) : List UInt8 := unpct (part 44 l).2.1

def cutO (l : List UInt8) : Bool := (part 44 l).2.2

def noBl (l : List UInt8) : List UInt8 := Lib.trimRightB l 32

/-- Ahead of the mark and its semicolon. -/
def ends6 (k : List UInt8) : Bool := decide (6 ≤ k.length) && (low (k.drop (k.length - 6)) == markB)

def ahead6 (k : List UInt8) : List UInt8 := noBl (k.take (k.length - 6))

def isM (k : List UInt8) : Bool := ends6 k && Lib.hasSuffix (ahead6 k) [59]

def offM (k : List UInt8) : List UInt8 := Lib.trimSuffix (ahead6 k) [59]

/-- Kind and body behind the mark; is it refused? -/
def unK (k : List UInt8) : List UInt8 := if isM k then offM k else k

def unB (k b : List UInt8) : List UInt8 := if isM k then (b64 b).getD [] else b

def unO (k b : List UInt8) : Bool := !isM k || (b64 b).isSome

def comK (k : List UInt8) : List UInt8 := if Lib.hasPrefix k [59] then tplB ++ k else k

/-- The text that an address is. -/
def txtD (u : Adr) : List UInt8 := Lib.trimPrefix (bareV u) (dataB ++ [58])

def isD (u : Adr) : Bool := (u.scheme == dataB) && u.opq

def rdK (u : Adr) : List UInt8 := comK (unK (cutK (txtD u)))

def rdB (u : Adr) : List UInt8 := unB (cutK (txtD u)) (cutD (txtD u))

def rdO (u : Adr) : Bool := isD u && (cutO (txtD u) && unO (cutK (txtD u)) (cutD (txtD u)))

def usual : Kn := ⟨[116, 101, 120, 116], [112, 108, 97, 105, 110], [⟨[99, 104, 97, 114, 115, 101, 116], [85, 83, 45, 65, 83, 67, 73, 73]⟩]⟩

def typV (k : List UInt8) : Kn := if knOk k then knV k else usual

end Go.Proofs.YtjmkccnjjofmeaaGreatDoor
