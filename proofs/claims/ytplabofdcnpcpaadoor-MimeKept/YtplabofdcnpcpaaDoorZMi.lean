/-
  The walk of mime's Parse.
-/
import Derived.Test.YtplabofdcnpcpaaDoorZMh
set_option linter.unusedSimpArgs false
set_option linter.unusedVariables false
namespace Go.Proofs.YtplabofdcnpcpaaDoor
open Go.RowKit

/-- A kind as a value. -/
def knVal (a m : ByteArray) (v : Value) : Value := .agg #[.string a, .string m, v]

/-- The block p holds a kind. -/
def Tri (w : World) (p : Nat) (a m : ByteArray) (v : Value) : Prop := w.heap[p]? = some (.cells #[.string a, .string m, v] 53 (0, 0))

theorem Tri.lt {w : World} {p : Nat} {a m : ByteArray} {v : Value} (h : Tri w p a m v) : p < w.heap.size := (Array.getElem?_eq_some_iff.1 h).1
theorem Tri.range {w : World} {p : Nat} {a m : ByteArray} {v : Value} (h : Tri w p a m v) : w.rangeAt p 0 [.string a, .string m, v] := fun j u hu => by
  rw [Nat.zero_add, Lib.cell_of_heap h]
  match j, hu with
  | 0, hu => simpa using hu
  | 1, hu => simpa using hu
  | 2, hu => simpa using hu
  | j + 3, hu => simp at hu
theorem Tri.cells {w : World} {p : Nat} {a m : ByteArray} {v : Value} (h : Tri w p a m v) : w.cell? ⟨p, 0, none⟩ = some (.string a) ∧ w.cell? ⟨p, 1, none⟩ = some (.string m) ∧ w.cell? ⟨p, 2, none⟩ = some v :=
  ⟨by rw [Lib.cell_of_heap h]; rfl, by rw [Lib.cell_of_heap h]; rfl, by rw [Lib.cell_of_heap h]; rfl⟩
theorem Tri.frozen {w : World} {p : Nat} {a m : ByteArray} {v : Value} (h : Tri w p a m v) (j : Nat) : w.frozen? ⟨p, j, none⟩ = false := Lib.frozen_of_heap h j
theorem Tri.set {w : World} {p : Nat} {a m a' m' : ByteArray} {v v' : Value} (h : Tri w p a m v) : Tri (((w.setCell ⟨p, 0, none⟩ (.string a')).setCell ⟨p, 1, none⟩ (.string m')).setCell ⟨p, 2, none⟩ v') p a' m' v' := by
  have h1 := Lib.heap_setCell_same h (i := 0) (.string a')
  have h2 := Lib.heap_setCell_same h1 (i := 1) (.string m')
  exact Lib.heap_setCell_same h2 (i := 2) v'
theorem Tri.kept {w w' : World} {p : Nat} {a m : ByteArray} {v : Value} (h : Tri w p a m v) (hb : Below w.heap.size w w') : Tri w' p a m v := (hb.block p h.lt).trans h
theorem Tri.but {w w' : World} {p c : Nat} {a m : ByteArray} {v : Value} (h : Tri w p a m v) (hb : But c w w') (hne : p ≠ c) : Tri w' p a m v := (hb.block p h.lt hne).trans h

theorem results_k2 {fn : Func} {p q : Tmp} (h : fn.results = #[.cell p 53, .tmp q]) (tmps : Array Value) (w : World) (b : Nat) (x y : ByteArray) (v : Value) (hp : tmps.getD p undef = .pointer (some ⟨b, 0, none⟩)) (hc : w.rangeAt b 0 [.string x, .string y, v]) : (results fn tmps).run Tryd.prog w = .ok (.tuple #[knVal x y v, tmps.getD q undef]) w := by
  rw [Array.getD_eq_getD_getElem?] at hp
  simp only [results, h]
  simp [Sem.run_bind, Result.andThen, hp, asAddr, run_loadVar_mid w b 0 53 [.string x, .string y, v] _ hc Tryd.underlying53 rfl (by kernel_rfl), knVal]

theorem results_k1 {fn : Func} {p : Tmp} (h : fn.results = #[.cell p 53]) (tmps : Array Value) (w : World) (b : Nat) (x y : ByteArray) (v : Value) (hp : tmps.getD p undef = .pointer (some ⟨b, 0, none⟩)) (hc : w.rangeAt b 0 [.string x, .string y, v]) : (results fn tmps).run Tryd.prog w = .ok (knVal x y v) w := by
  rw [Array.getD_eq_getD_getElem?] at hp
  simp only [results, h]
  simp [Sem.run_bind, Result.andThen, hp, asAddr, run_loadVar_mid w b 0 53 [.string x, .string y, v] _ hc Tryd.underlying53 rfl (by kernel_rfl), knVal]

theorem own_base {w : World} {B C n k : Nat} {e : TypeId} {v : Value} {xs : List Value} (h : w.ownsRow B e k v n xs) (hC : C ≤ B) : w.ownsRow C e k v n xs := by
  refine ⟨h.1, ?_⟩
  rcases h.2 with hn | ⟨g, cap, cur, hv, hb, rest⟩
  · exact .inl hn
  · exact .inr ⟨g, cap, cur, hv, by omega, rest⟩

theorem own_slice {w : World} {B n k : Nat} {e : TypeId} {v : Value} {xs : List Value} (h : w.ownsRow B e k v n xs) : ∃ a m c, v = .slice a m c := by
  rcases h.2 with ⟨hv, _⟩ | ⟨g, cap, cur, hv, _⟩
  · exact ⟨_, _, _, hv⟩
  · exact ⟨_, _, _, hv⟩

theorem cut6_le (l : List UInt8) (c : UInt8) : (Lib.cut l [c]).1.length ≤ l.length ∧ (Lib.cut l [c]).2.1.length ≤ l.length := by
  unfold Lib.cut
  split
  · simp; omega
  · simp

def KnPost (s : List UInt8) (w : World) (e : Ending) (w' : World) : Prop :=
  ∃ v, e = .returned (.tuple #[knVal (ba (knV s).major) (ba (knV s).minor) v, .bool (knOk s)]) ∧ w'.ownsRow w.heap.size 60 2 v (knV s).params.length (cellsH (knV s).params) ∧ Below w.heap.size w w'

set_option maxHeartbeats 4000000 in
set_option maxRecDepth 100000 in
theorem parse6_any (s : ByteArray) (w : World) (hG : G5 w) (hs : s.size ≤ 4000000000) :
    Calls Tryd.prog 18 #[.string s] w (KnPost s.data.toList w) := by
  have HG := hid hG
  clear hG
  have h0 : Tri (w.alloc (.cells #[.string ⟨#[]⟩, .string ⟨#[]⟩, .slice none 0 0] 53)) w.heap.size ⟨#[]⟩ ⟨#[]⟩ (.slice none 0 0) := heap_alloc_new _ _
  have H0 := hid h0
  clear h0
  have hbl := tB_le s.data.toList
  rw [← Lib.size_eq] at hbl
  have hcl := cut6_le (tB s.data.toList) 47
  obtain ⟨T, hT⟩ : ∃ T, ba (tB s.data.toList) = T := ⟨_, rfl⟩
  have hTl : T.data.toList = tB s.data.toList := by rw [← hT]; rfl
  have hTs : T.size ≤ 4000000000 := by rw [Lib.size_eq, hTl]; omega
  obtain ⟨M, hM⟩ : ∃ M, ba (mjr s.data.toList) = M := ⟨_, rfl⟩
  obtain ⟨H, hH⟩ : ∃ H, ba (bhn s.data.toList) = H := ⟨_, rfl⟩
  obtain ⟨cb, hcb⟩ : ∃ cb, (Lib.cut (tB s.data.toList) [47]).2.2 = cb := ⟨_, rfl⟩
  have hMl : M.data.toList = mjr s.data.toList := by rw [← hM]; rfl
  have hHl : H.data.toList = bhn s.data.toList := by rw [← hH]; rfl
  have hMs : M.size ≤ 4000000000 := by rw [Lib.size_eq, hMl]; unfold mjr; omega
  have hHs : H.size ≤ 4000000000 := by rw [Lib.size_eq, hHl]; unfold bhn; omega
  have HTr : Hid (∀ w : World, Calls Tryd.prog 31 #[.string s, .string ⟨#[9, 10, 13, 32]⟩] w fun e w' => e = .returned (.string T) ∧ Below w.heap.size w w') := fun w => by
    rw [← hT]; exact trim6_any s w (by omega)
  have HCt : Hid (∀ w : World, G5 w → Calls Tryd.prog 43 #[.string T, .string ⟨#[47]⟩] w fun e w' => e = .returned (.tuple #[.string M, .string H, .bool cb]) ∧ Below w.heap.size w w') := fun w hg => by
    have := cut5_any T ⟨#[47]⟩ w hg hTs
    rw [hTl] at this
    rw [← hM, ← hH, ← hcb]
    exact this
  have hul := upA_le [59] H.data.toList
  have hrl := upR_le [59] H.data.toList
  rw [← Lib.size_eq] at hul hrl
  obtain ⟨A, hA⟩ : ∃ A, ba (upA [59] H.data.toList) = A := ⟨_, rfl⟩
  obtain ⟨Z, hZ⟩ : ∃ Z, ba (upR [59] H.data.toList) = Z := ⟨_, rfl⟩
  have hAl : A.data.toList = upA [59] H.data.toList := by rw [← hA]; rfl
  have hZl : Z.data.toList = upR [59] H.data.toList := by rw [← hZ]; rfl
  have hAs : A.size ≤ 4000000000 := by rw [Lib.size_eq, hAl]; omega
  have hZs : Z.size ≤ 4000000000 := by rw [Lib.size_eq, hZl]; omega
  have HUp : Hid (∀ w b, Rdr w b H → Calls Tryd.prog 45 #[.pointer (some ⟨b, 0, none⟩), .string ⟨#[59]⟩] w fun e w' => e = .returned (.string A) ∧ Rdr w' b Z ∧ But b w w') := fun w b hw => by
    rw [← hA, ← hZ]; exact upTo1 b H w hw hHs
  have htl := tR_le A.data.toList
  rw [← Lib.size_eq] at htl
  obtain ⟨N, hN⟩ : ∃ N, ba (tR A.data.toList) = N := ⟨_, rfl⟩
  have hNl : N.data.toList = mnr s.data.toList := by rw [← hN, hAl, hHl]; rfl
  have hNs : N.size ≤ 4000000000 := by rw [← hN, ba_size]; omega
  have HTR : Hid (∀ w : World, Calls Tryd.prog 44 #[.string A, .string ⟨#[9, 10, 13, 32]⟩] w fun e w' => e = .returned (.string N) ∧ Below w.heap.size w w') := fun w => by
    rw [← hN]; exact trimR_any A w (by omega)
  obtain ⟨t1, ht1⟩ : ∃ t, tokL M.data.toList = t := ⟨_, rfl⟩
  obtain ⟨t2, ht2⟩ : ∃ t, tokL N.data.toList = t := ⟨_, rfl⟩
  have HT1 : Hid (∀ w : World, Calls Tryd.prog 46 #[.string M] w fun e w' => e = .returned (.bool t1) ∧ w = w') := fun w => by
    rw [← ht1]; exact token_any M w (by omega)
  have HT2 : Hid (∀ w : World, Calls Tryd.prog 46 #[.string N] w fun e w' => e = .returned (.bool t2) ∧ w = w') := fun w => by
    rw [← ht2]; exact token_any N w (by omega)
  have HOk := hid (show knOk s.data.toList = (t1 && t2) by unfold knOk; rw [← hMl, ← hNl, ht1, ht2])
  have HZl := hid (show Z.data.toList = upR [59] (bhn s.data.toList) by rw [hZl, hHl])
  have HMl := hid hMl
  have HNl := hid hNl
  clear hbl hcl hT hTl hM hH hcb hMl hHl hul hrl hA hZ hAl hZl htl hN hNl ht1 ht2
  go_enter Tryd.func18, Tryd.ntmps18
  go_wp2_with fail
  refine (HTr.out _).mono ?_
  rintro e w1 ⟨rfl, hb1⟩
  have hB0 : Below w.heap.size w (w.alloc (.cells #[.string ⟨#[]⟩, .string ⟨#[]⟩, .slice none 0 0] 53)) := (Below.refl _ w).alloc (Nat.le_refl _) _
  have hBw1 := belowT hB0 hb1
  have HTri1 := hid (H0.out.kept hb1)
  go_wp2_with fail
  refine (HCt.out _ (HG.out.kept hBw1)).mono ?_
  rintro e w2 ⟨rfl, hb2⟩
  have HBw2 := hid (belowT hBw1 hb2)
  have HTri2 := hid (HTri1.out.kept hb2)
  clear hb1 hb2 hB0 hBw1
  have HRd2 := hid (show Rdr (w2.alloc (.cells #[.string H] 87)) w2.heap.size H from heap_alloc_new _ _)
  have HBw3 := hid (HBw2.out.alloc HBw2.out.size (.cells #[.string H] 87))
  have HTri3 := hid (HTri2.out.kept ((Below.refl _ w2).alloc (Nat.le_refl _) (.cells #[.string H] 87)))
  have hlt2 := HTri2.out.lt
  go_wp2_with fail
  generalize (w2.alloc (.cells #[.string H] 87)) = w3 at *
  generalize hbb : w2.heap.size = b at *
  refine (HUp.out _ b HRd2.out).mono ?_
  rintro e w4 ⟨rfl, hr4, hb4⟩
  have HBw4 := hid (hb4.below HBw3.out (Nat.le_of_lt hlt2))
  have HTri4 := hid (HTri3.out.but hb4 (Nat.ne_of_lt hlt2))
  go_wp2_with fail
  refine (HTR.out _).mono ?_
  rintro e w5 ⟨rfl, hb5⟩
  have HBw5 := hid (belowT HBw4.out hb5)
  have HTri5 := hid (HTri4.out.kept hb5)
  have HRd5 := hid (hr4.kept hb5)
  clear hr4 hb4 hb5
  have hfin : (t1 && t2) = true ∨ (t1 && t2) = false := by cases (t1 && t2) <;> simp
  rcases hfin with hf | hf
  · rw [hf] at HOk
    obtain ⟨rfl, rfl⟩ : t1 = true ∧ t2 = true := by simpa using hf
    clear hf
    go_wp2_with fail
    refine (HT1.out _).mono ?_
    rintro e w' ⟨rfl, rfl⟩
    go_wp2_with fail
    refine (HT2.out _).mono ?_
    rintro e w' ⟨rfl, rfl⟩
    go_wp2_with fail
    refine (lower_any M _ (by omega)).mono ?_
    rintro e w6 ⟨rfl, hb6⟩
    have HTri6 := hid (HTri5.out.kept hb6)
    have HRd6 := hid (HRd5.out.kept hb6)
    have HBw6 := hid (belowT HBw5.out hb6)
    go_wp2_with fail
    refine (lower_any N _ (by omega)).mono ?_
    rintro e w7 ⟨rfl, hb7⟩
    have HTri7 := hid (HTri6.out.kept hb7)
    have HRd7 := hid (HRd6.out.kept hb7)
    have HBw7 := hid (belowT HBw6.out hb7)
    clear hb6 hb7
    go_wp2_with fail
    refine (params_any b Z _ HRd7.out hZs).mono ?_
    rintro e w8 ⟨v, rfl, ho8, hb8⟩
    obtain ⟨va, vn, vc, rfl⟩ := own_slice ho8
    have hTri8 := HTri7.out.but hb8 (Nat.ne_of_lt hlt2)
    have HBw8 := hid (hb8.below HBw7.out (Nat.le_of_lt hlt2))
    have HO8 := hid (own_base ho8 (show w.heap.size ≤ w7.heap.size + 1 by have := HBw7.out.size; omega))
    have HAp := hid (own_apart2 ho8 (show w.heap.size < w7.heap.size + 1 by have := HBw7.out.size; omega))
    obtain ⟨c0, c1, c2⟩ := hTri8.cells
    have f0 := hTri8.frozen 0
    have f1 := hTri8.frozen 1
    have f2 := hTri8.frozen 2
    have HTri8 := hid hTri8
    clear hTri8 ho8 hb8
    have HKV := hid (show knV s.data.toList = ⟨low M.data.toList, low N.data.toList, prm [] Z.data.toList⟩ by unfold knV; rw [HOk.out, if_pos rfl, HMl.out, HNl.out, HZl.out])
    go_wp2
    refine bodyPost_ret (results_k2 rfl _ _ w.heap.size (ba (low M.data.toList)) (ba (low N.data.toList)) (.slice va vn vc) rfl HTri8.out.set.range) rfl ⟨.slice va vn vc, ?_, ?_, ?_⟩
    · rw [HKV.out, HOk.out]; rfl
    · rw [HKV.out]
      exact ((((But.refl w.heap.size w8).set 0 _).set 1 _).set 2 _).own HO8.out HAp.out
    · exact ((HBw8.out.setCell (p := ⟨w.heap.size, 0, none⟩) (Nat.le_refl _) _).setCell (p := ⟨w.heap.size, 1, none⟩) (Nat.le_refl _) _).setCell (p := ⟨w.heap.size, 2, none⟩) (Nat.le_refl _) _
  · rw [hf] at HOk
    have HKV := hid (show knV s.data.toList = knNone by unfold knV; rw [HOk.out]; rfl)
    obtain ⟨c0, c1, c2⟩ := HTri5.out.cells
    have f0 := HTri5.out.frozen 0
    have f1 := HTri5.out.frozen 1
    have f2 := HTri5.out.frozen 2
    have hcs : (t1 = false) ∨ (t1 = true ∧ t2 = false) := by revert hf; cases t1 <;> cases t2 <;> simp
    clear hf
    rcases hcs with rfl | ⟨rfl, rfl⟩
    · go_wp2_with fail
      refine (HT1.out _).mono ?_
      rintro e w' ⟨rfl, rfl⟩
      go_wp2
      refine bodyPost_ret (results_k2 rfl _ _ w.heap.size ⟨#[]⟩ ⟨#[]⟩ (.slice none 0 0) rfl HTri5.out.set.range) rfl ⟨.slice none 0 0, ?_, ?_, ?_⟩
      · rw [HKV.out, HOk.out]; rfl
      · rw [HKV.out]; exact World.ownsRow_nil _ _ _ _
      · exact ((HBw5.out.setCell (p := ⟨w.heap.size, 0, none⟩) (Nat.le_refl _) _).setCell (p := ⟨w.heap.size, 1, none⟩) (Nat.le_refl _) _).setCell (p := ⟨w.heap.size, 2, none⟩) (Nat.le_refl _) _
    · go_wp2_with fail
      refine (HT1.out _).mono ?_
      rintro e w' ⟨rfl, rfl⟩
      go_wp2_with fail
      refine (HT2.out _).mono ?_
      rintro e w' ⟨rfl, rfl⟩
      go_wp2
      refine bodyPost_ret (results_k2 rfl _ _ w.heap.size ⟨#[]⟩ ⟨#[]⟩ (.slice none 0 0) rfl HTri5.out.set.range) rfl ⟨.slice none 0 0, ?_, ?_, ?_⟩
      · rw [HKV.out, HOk.out]; rfl
      · rw [HKV.out]; exact World.ownsRow_nil _ _ _ _
      · exact ((HBw5.out.setCell (p := ⟨w.heap.size, 0, none⟩) (Nat.le_refl _) _).setCell (p := ⟨w.heap.size, 1, none⟩) (Nat.le_refl _) _).setCell (p := ⟨w.heap.size, 2, none⟩) (Nat.le_refl _) _

end Go.Proofs.YtplabofdcnpcpaaDoor
