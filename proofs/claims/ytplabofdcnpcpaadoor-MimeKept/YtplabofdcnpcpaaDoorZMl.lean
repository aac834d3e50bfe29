/-
  The walks of mime's charset and withCharset.
-/
import Derived.Test.YtplabofdcnpcpaaDoorZMj
import Derived.Deep.RegionHeld
set_option linter.unusedSimpArgs false
set_option linter.unusedVariables false
namespace Go.Proofs.YtplabofdcnpcpaaDoor
open Go.RowKit

def isCs (p : Hd) : Bool := p.name == [99, 104, 97, 114, 115, 101, 116]
theorem csV_eq (t : Kn) : csV t = t.params.find? isCs := rfl

def CsPost (ps : List Hd) (w : World) (e : Ending) (w' : World) : Prop :=
  ∃ N V : ByteArray, e = .returned (.tuple #[.agg #[.string N, .string V], .bool (ps.find? isCs).isSome]) ∧ (∀ p, ps.find? isCs = some p → N.data.toList = p.name ∧ V.data.toList = p.value) ∧ Below w.heap.size w w'

theorem find_snoc_no (ps : List Hd) (k : Nat) (h : k < ps.length) (h1 : (ps.take k).find? isCs = none) (h2 : isCs ps[k] = false) : (ps.take (k + 1)).find? isCs = none := by
  rw [List.take_succ_eq_append_getElem h, List.find?_append, h1]
  simp [h2]

theorem find_hit (ps : List Hd) (k : Nat) (h : k < ps.length) (h1 : (ps.take k).find? isCs = none) (h2 : isCs ps[k] = true) : ps.find? isCs = some ps[k] := by
  have e : ps = ps.take k ++ ps[k] :: ps.drop (k + 1) := by rw [← List.drop_eq_getElem_cons h, List.take_append_drop]
  have e2 : ps.find? isCs = (ps.take k ++ ps[k] :: ps.drop (k + 1)).find? isCs := by rw [← e]
  rw [e2, List.find?_append, h1, List.find?_cons, h2]
  rfl

set_option maxHeartbeats 2000000 in
set_option maxRecDepth 100000 in
theorem charset_any (a m : ByteArray) (v : Value) (ps : List Hd) (w : World) (h : HdAt w v ps) (hl : ps.length ≤ 1000000000) :
    Calls Tryd.prog 75 #[knVal a m v] w (CsPost ps w) := by
  obtain ⟨x1, c1, rfl, hc1, hm1, hv1⟩ := h.view
  have V1 := hid hv1
  clear h hv1
  have H0 := hid (show TwoP ((w.alloc (.cells #[.string a, .string m, .slice x1 ps.length c1] 53)).alloc (.cells #[.string ⟨#[]⟩, .string ⟨#[]⟩] 60)) (w.heap.size + 1) ⟨#[]⟩ ⟨#[]⟩ by
    have := heap_alloc_new (w.alloc (.cells #[.string a, .string m, .slice x1 ps.length c1] 53)) (.cells #[.string ⟨#[]⟩, .string ⟨#[]⟩] 60)
    rw [World.size_alloc] at this
    exact this)
  have HB0 := hid (show Below w.heap.size w ((w.alloc (.cells #[.string a, .string m, .slice x1 ps.length c1] 53)).alloc (.cells #[.string ⟨#[]⟩, .string ⟨#[]⟩] 60)) from ((Below.refl _ w).alloc (Nat.le_refl _) _).alloc (by simp) _)
  have HS0 := hid (show w.heap.size + 2 ≤ ((w.alloc (.cells #[.string a, .string m, .slice x1 ps.length c1] 53)).alloc (.cells #[.string ⟨#[]⟩, .string ⟨#[]⟩] 60)).heap.size by simp)
  unfold knVal
  go_enter Tryd.func75, Tryd.ntmps75
  go_wp2
  go_loopw [9] (fun i wr => ∃ k : Nat, k ≤ ps.length ∧ i = .int .i64 k ∧ (ps.take k).find? isCs = none ∧ TwoP wr (w.heap.size + 1) ⟨#[]⟩ ⟨#[]⟩ ∧ Below w.heap.size w wr ∧ w.heap.size + 2 ≤ wr.heap.size) (fun i _ => ps.length - (intOf i).toNat)
  case atStart => exact ⟨0, Nat.zero_le _, rfl, rfl, H0.out, HB0.out, HS0.out⟩
  case round =>
    obtain ⟨k, hk, rfl, hnf, hT, hbw, hsz⟩ := hrel
    have HN := hid hnf
    have HT := hid hT
    have HBw := hid hbw
    clear hnf hT hbw
    by_cases hlt : k < ps.length
    · have hlt' : (k : Int) < (ps.length : Int) := by omega
      obtain ⟨b1, o1, rfl, e1, e2⟩ := V1.out k hlt
      have f1 : wr.cell? ⟨b1, o1 + k * 2, none⟩ = some (.string ⟨ps[k].name.toArray⟩) := (HBw.out.cell (World.block_lt_of_cell? w _ e1)).trans e1
      have f2 : wr.cell? ⟨b1, o1 + k * 2 + 1, none⟩ = some (.string ⟨ps[k].value.toArray⟩) := (HBw.out.cell (World.block_lt_of_cell? w _ e2)).trans e2
      clear e1 e2
      obtain ⟨nm, hnm⟩ : ∃ x : ByteArray, x = ⟨ps[k].name.toArray⟩ := ⟨_, rfl⟩
      obtain ⟨vl, hvl⟩ : ∃ x : ByteArray, x = ⟨ps[k].value.toArray⟩ := ⟨_, rfl⟩
      rw [← hnm] at f1
      rw [← hvl] at f2
      have HA := hid (show TwoP (wr.alloc (.cells #[.string nm, .string vl] 60)) (w.heap.size + 1) ⟨#[]⟩ ⟨#[]⟩ from HT.out.kept ((Below.refl _ wr).alloc (Nat.le_refl _) _))
      obtain ⟨q0, q1, g0, g1⟩ := HA.out.cells
      have HBx := hid (HBw.out.alloc HBw.out.size (.cells #[.string nm, .string vl] 60))
      have hne : w.heap.size + 1 ≠ wr.heap.size := by omega
      cases hc : isCs ps[k] with
      | true =>
        have hb : nm = ⟨#[99, 104, 97, 114, 115, 101, 116]⟩ := by
          rw [hnm]; unfold isCs at hc; exact xba (by simpa using hc)
        have HF := hid (find_hit ps k hlt HN.out hc)
        have HP := hid (show nm.data.toList = ps[k].name ∧ vl.data.toList = ps[k].value by rw [hnm, hvl]; exact ⟨rfl, rfl⟩)
        clear hc hnm hvl
        subst hb
        go_wp2
        refine bodyPost_ret (results_p2 rfl _ _ (w.heap.size + 1) ⟨#[99, 104, 97, 114, 115, 101, 116]⟩ vl rfl HA.out.set.range) rfl ⟨⟨#[99, 104, 97, 114, 115, 101, 116]⟩, vl, ?_, ?_, ?_⟩
        · rw [HF.out]; rfl
        · intro p hp
          rw [HF.out] at hp
          obtain rfl := Option.some.inj hp
          exact HP.out
        · exact (HBx.out.setCell (p := ⟨w.heap.size + 1, 0, none⟩) (Nat.le_succ _) _).setCell (p := ⟨w.heap.size + 1, 1, none⟩) (Nat.le_succ _) _
      | false =>
        have hb : (nm.toList == [99, 104, 97, 114, 115, 101, 116]) = false := by
          rw [Lib.toList_data, hnm]; exact hc
        have HF := hid (find_snoc_no ps k hlt HN.out hc)
        clear hc hnm hvl
        go_wp2
        go_roundw
        case rel => exact ⟨k + 1, by omega, by go_num, HF.out, HA.out, HBx.out, by simp; omega⟩
        case measure => simp [intOf]; omega
    · have hke : k = ps.length := by omega
      subst hke
      have HF := hid (show ps.find? isCs = none by have := HN.out; rwa [List.take_length] at this)
      obtain ⟨q0, q1, g0, g1⟩ := HT.out.cells
      go_wp2
      refine bodyPost_ret (results_p2 rfl _ _ (w.heap.size + 1) ⟨#[]⟩ ⟨#[]⟩ rfl HT.out.set.range) rfl ⟨⟨#[]⟩, ⟨#[]⟩, ?_, ?_, ?_⟩
      · rw [HF.out]; rfl
      · intro p hp; rw [HF.out] at hp; cases hp
      · exact (HBw.out.setCell (p := ⟨w.heap.size + 1, 0, none⟩) (Nat.le_succ _) _).setCell (p := ⟨w.heap.size + 1, 1, none⟩) (Nat.le_succ _) _

theorem withC_own (t a : Kn) (h : (t.params.find? isCs).isSome = true) : withC t a = t := by
  unfold withC; rw [csV_eq]
  cases hf : t.params.find? isCs with
  | none => rw [hf] at h; cases h
  | some p => rfl
theorem withC_other (t a : Kn) (h : essV t ≠ essV a) : withC t a = t := by
  unfold withC; split
  · rfl
  · rw [if_neg h]
theorem withC_none (t a : Kn) (h : (a.params.find? isCs).isSome = false) : withC t a = t := by
  unfold withC; rw [csV_eq a]
  cases hf : a.params.find? isCs with
  | none => split <;> simp
  | some p => rw [hf] at h; cases h
theorem withC_some (t a : Kn) (p : Hd) (h1 : (t.params.find? isCs).isSome = false) (h2 : essV t = essV a) (h3 : a.params.find? isCs = some p) : withC t a = { t with params := t.params ++ [p] } := by
  unfold withC; rw [csV_eq, csV_eq]
  cases hf : t.params.find? isCs with
  | none => simp only [if_pos h2, h3]
  | some p => rw [hf] at h1; cases h1

theorem own_far {w : World} {B n k j : Nat} {e : TypeId} {v : Value} {xs : List Value} (h : w.ownsRow B e k v n xs) : v.ownBlock ≠ some (w.heap.size + j) := fun e => by
  have := (h.lt _ e).2
  omega

theorem own_tri {w : World} {B n p : Nat} {v u : Value} {a m : ByteArray} {xs : List Value} (h : w.ownsRow B 60 2 v n xs) (ht : Tri w p a m u) : v.ownBlock ≠ some p := fun e => by
  rcases h.2 with ⟨hv, _⟩ | ⟨g, cap, cur, hv, _, hrow, _⟩
  · subst hv; cases e
  · subst hv
    cases e
    unfold Tri at ht
    rw [hrow] at ht
    simp at ht

def WcPost (B : Nat) (a m : ByteArray) (r : Kn) (w : World) (e : Ending) (w' : World) : Prop :=
  ∃ v, e = .returned (knVal a m v) ∧ w'.ownsRow B 60 2 v r.params.length (cellsH r.params) ∧ Below B w w'

theorem Tri.at {w w' : World} {p : Nat} {a m : ByteArray} {v : Value} (h : Tri w p a m v) (hb : Below w.heap.size w w') : w'.cell? ⟨p, 0, none⟩ = some (.string a) ∧ w'.cell? ⟨p, 1, none⟩ = some (.string m) ∧ w'.cell? ⟨p, 2, none⟩ = some v := (h.kept hb).cells

set_option maxHeartbeats 4000000 in
set_option maxRecDepth 100000 in
theorem withCharset_any (B : Nat) (a1 m1 a2 m2 : ByteArray) (v1 v2 : Value) (p1 p2 : List Hd) (w : World) (hB : B ≤ w.heap.size) (h1 : w.ownsRow B 60 2 v1 p1.length (cellsH p1)) (h2 : HdAt w v2 p2)
    (z1 : a1.size ≤ 4000000000) (z2 : m1.size ≤ 4000000000) (z3 : a2.size ≤ 4000000000) (z4 : m2.size ≤ 4000000000) (l1 : p1.length ≤ 1000000000) (l2 : p2.length ≤ 1000000000) :
    Calls Tryd.prog 49 #[knVal a1 m1 v1, knVal a2 m2 v2] w (WcPost B a1 m1 (withC ⟨a1.data.toList, m1.data.toList, p1⟩ ⟨a2.data.toList, m2.data.toList, p2⟩) w) := by
  obtain ⟨i0, hi, hz0, hz1, hz2⟩ := info3 infoPm
  obtain ⟨s1, n1, d1, rfl⟩ := own_slice h1
  obtain ⟨s2, d2, rfl, _, _, _⟩ := h2.view
  obtain ⟨o1, ho1⟩ : ∃ o, (p1.find? isCs).isSome = o := ⟨_, rfl⟩
  obtain ⟨o2, ho2⟩ : ∃ o, (p2.find? isCs).isSome = o := ⟨_, rfl⟩
  have HH1 := hid (own_hd h1)
  have HO := hid h1
  have HH2 := hid h2
  clear h1 h2
  obtain ⟨W, hW⟩ : ∃ W, W = (((w.alloc (.cells #[.string a1, .string m1, .slice s1 n1 d1] 53)).alloc (.cells #[.string a2, .string m2, .slice s2 p2.length d2] 53)).alloc (.cells #[.string ⟨#[]⟩, .string ⟨#[]⟩, .slice none 0 0] 53)) := ⟨_, rfl⟩
  have hWs : W.heap.size = w.heap.size + 3 := by rw [hW]; simp
  have hbW : Below w.heap.size w W := by rw [hW]; exact (((Below.refl _ w).alloc (Nat.le_refl _) _).alloc (by simp) _).alloc (by simp; omega) _
  have t1 : Tri W w.heap.size a1 m1 (.slice s1 n1 d1) := by
    rw [hW]
    exact ((show Tri (w.alloc (.cells #[.string a1, .string m1, .slice s1 n1 d1] 53)) w.heap.size a1 m1 (.slice s1 n1 d1) from heap_alloc_new _ _).kept ((Below.refl _ _).alloc (Nat.le_refl _) _)).kept ((Below.refl _ _).alloc (Nat.le_refl _) _)
  have t2 : Tri W (w.heap.size + 1) a2 m2 (.slice s2 p2.length d2) := by
    rw [hW]
    have := heap_alloc_new (w.alloc (.cells #[.string a1, .string m1, .slice s1 n1 d1] 53)) (.cells #[.string a2, .string m2, .slice s2 p2.length d2] 53)
    rw [World.size_alloc] at this
    exact (show Tri ((w.alloc (.cells #[.string a1, .string m1, .slice s1 n1 d1] 53)).alloc (.cells #[.string a2, .string m2, .slice s2 p2.length d2] 53)) (w.heap.size + 1) a2 m2 (.slice s2 p2.length d2) from this).kept ((Below.refl _ _).alloc (Nat.le_refl _) _)
  have t3 : Tri W (w.heap.size + 1 + 1) ⟨#[]⟩ ⟨#[]⟩ (.slice none 0 0) := by
    rw [hW]
    have := heap_alloc_new ((w.alloc (.cells #[.string a1, .string m1, .slice s1 n1 d1] 53)).alloc (.cells #[.string a2, .string m2, .slice s2 p2.length d2] 53)) (.cells #[.string ⟨#[]⟩, .string ⟨#[]⟩, .slice none 0 0] 53)
    rw [World.size_alloc, World.size_alloc] at this
    exact this
  have HC1 : Hid (∀ X, Below w.heap.size w X → Calls Tryd.prog 75 #[.agg #[.string a1, .string m1, .slice s1 n1 d1]] X (CsPost p1 X)) := fun X hX => charset_any a1 m1 _ p1 X (HH1.out.kept hX) l1
  have HC2 : Hid (∀ X, Below w.heap.size w X → Calls Tryd.prog 75 #[.agg #[.string a2, .string m2, .slice s2 p2.length d2]] X (CsPost p2 X)) := fun X hX => charset_any a2 m2 _ p2 X (HH2.out.kept hX) l2
  obtain ⟨E1, hE1⟩ : ∃ E, ba (a1.data.toList ++ 47 :: m1.data.toList) = E := ⟨_, rfl⟩
  obtain ⟨E2, hE2⟩ : ∃ E, ba (a2.data.toList ++ 47 :: m2.data.toList) = E := ⟨_, rfl⟩
  have HE1 : Hid (∀ w : World, Calls Tryd.prog 48 #[.agg #[.string a1, .string m1, .slice s1 n1 d1]] w fun e w' => e = .returned (.string E1) ∧ Below w.heap.size w w') := fun w => by
    rw [← hE1]; exact essence_any a1 m1 _ w z1 z2 ⟨_, _, _, rfl⟩
  have HE2 : Hid (∀ w : World, Calls Tryd.prog 48 #[.agg #[.string a2, .string m2, .slice s2 p2.length d2]] w fun e w' => e = .returned (.string E2) ∧ Below w.heap.size w w') := fun w => by
    rw [← hE2]; exact essence_any a2 m2 _ w z3 z4 ⟨_, _, _, rfl⟩
  have HEe := hid (show (E1 = E2) ↔ essV ⟨a1.data.toList, m1.data.toList, p1⟩ = essV ⟨a2.data.toList, m2.data.toList, p2⟩ by
    rw [← hE1, ← hE2]
    constructor
    · intro e; exact congrArg (fun x => x.data.toList) e
    · intro e; exact congrArg ba e)
  have HT1 := hid t1
  have HT2 := hid t2
  have HT3 := hid t3
  have HbW := hid hbW
  have HWs := hid hWs
  have HWe := hid hW
  obtain ⟨x0, x1, x2⟩ := t1.cells
  obtain ⟨y0, y1, y2⟩ := t2.cells
  clear t1 t2 t3 hbW hWs hE1 hE2
  rw [hW] at x0 x1 x2 y0 y1 y2
  clear hW
  unfold knVal
  go_enter Tryd.func49, Tryd.ntmps49
  go_wp2_with fail
  rw [← HWe.out] at *
  refine (HC1.out _ HbW.out).mono ?_
  rintro e w1 ⟨N1, V1, rfl, hN1, hb1⟩
  rw [ho1]
  have HT1a := hid (HT1.out.kept hb1)
  have HT2a := hid (HT2.out.kept hb1)
  have HT3a := hid (HT3.out.kept hb1)
  have Hb1 := hid (HbW.out.trans (hb1.mono (by rw [HWs.out]; omega)))
  have hw1 := hb1.size
  rw [HWs.out] at hw1
  clear x0 x1 x2 y0 y1 y2 hN1 hb1
  have HY : Hid (∀ Y, Below w1.heap.size w1 Y → Tri Y w.heap.size a1 m1 (.slice s1 n1 d1) ∧ Tri Y (w.heap.size + 1) a2 m2 (.slice s2 p2.length d2) ∧ Tri Y (w.heap.size + 1 + 1) ⟨#[]⟩ ⟨#[]⟩ (.slice none 0 0) ∧ Below w.heap.size w Y ∧ w.heap.size + 3 ≤ Y.heap.size) := hid (fun Y hY =>
    ⟨HT1a.out.kept hY, HT2a.out.kept hY, HT3a.out.kept hY, Hb1.out.trans (hY.mono (by omega)), by have := hY.size; omega⟩)
  have HX := hid (show Below w1.heap.size w1 (w1.alloc (.cells #[.string N1, .string V1] 60)) from (Below.refl _ w1).alloc (Nat.le_refl _) _)
  obtain ⟨X, hX⟩ : ∃ X, X = w1.alloc (.cells #[.string N1, .string V1] 60) := ⟨_, rfl⟩
  have HXe := hid hX.symm
  rw [← hX] at HX
  clear hX
  cases o1 with
  | true =>
    have HR := hid (withC_own ⟨a1.data.toList, m1.data.toList, p1⟩ ⟨a2.data.toList, m2.data.toList, p2⟩ ho1)
    have HXD := hid (HY.out X.drew HX.out.drew)
    go_wp2
    rw [HXe.out]
    go_region
    generalize X.drew = X2 at *
    obtain ⟨u1, u2, u3, hbX, hsX⟩ := HXD.out
    obtain ⟨x0, x1, x2⟩ := u1.cells
    obtain ⟨y0, y1, y2⟩ := u3.cells
    have f0 := u3.frozen 0
    have f1 := u3.frozen 1
    have f2 := u3.frozen 2
    have HU := hid u3
    have HOX := hid (own_same HO.out hbX)
    have HBX := hid hbX
    clear u1 u2 u3 hbX HXD
    go_wp2
    refine bodyPost_ret (results_k1 rfl _ _ (w.heap.size + 1 + 1) a1 m1 (.slice s1 n1 d1) rfl HU.out.set.range) rfl ⟨.slice s1 n1 d1, rfl, ?_, ?_⟩
    · rw [HR.out]
      exact ((((But.refl (w.heap.size + 1 + 1) X2).set 0 _).set 1 _).set 2 _).own HOX.out (own_far (j := 2) HO.out)
    · exact (((HBX.out.mono hB).setCell (p := ⟨w.heap.size + 1 + 1, 0, none⟩) (by show B ≤ w.heap.size + 1 + 1; omega) _).setCell (p := ⟨w.heap.size + 1 + 1, 1, none⟩) (by show B ≤ w.heap.size + 1 + 1; omega) _).setCell (p := ⟨w.heap.size + 1 + 1, 2, none⟩) (by show B ≤ w.heap.size + 1 + 1; omega) _
  | false =>
    have HK : Hid (∀ Y Z : World, Below w1.heap.size w1 Y → Below Y.heap.size Y Z → Below w1.heap.size w1 Z) := hid (fun Y Z h1 h2 => h1.trans (h2.mono h1.size))
    have HXD := hid HX.out.drew
    have HS := hid (fun Y (hY : Below w1.heap.size w1 Y) => (show Below w1.heap.size w1 Y ∧ Y.cell? ⟨w.heap.size, 0, none⟩ = some (.string a1) ∧ Y.cell? ⟨w.heap.size, 1, none⟩ = some (.string m1) ∧ Y.cell? ⟨w.heap.size, 2, none⟩ = some (.slice s1 n1 d1) ∧ Y.cell? ⟨w.heap.size + 1, 0, none⟩ = some (.string a2) ∧ Y.cell? ⟨w.heap.size + 1, 1, none⟩ = some (.string m2) ∧ Y.cell? ⟨w.heap.size + 1, 2, none⟩ = some (.slice s2 p2.length d2) from
      ⟨hY, (HY.out Y hY).1.cells.1, (HY.out Y hY).1.cells.2.1, (HY.out Y hY).1.cells.2.2, (HY.out Y hY).2.1.cells.1, (HY.out Y hY).2.1.cells.2.1, (HY.out Y hY).2.1.cells.2.2⟩))
    go_wp2
    rw [HXe.out]
    go_region_held (fun wx => Below w1.heap.size w1 wx ∧ wx.cell? ⟨w.heap.size, 0, none⟩ = some (.string a1) ∧ wx.cell? ⟨w.heap.size, 1, none⟩ = some (.string m1) ∧ wx.cell? ⟨w.heap.size, 2, none⟩ = some (.slice s1 n1 d1) ∧ wx.cell? ⟨w.heap.size + 1, 0, none⟩ = some (.string a2) ∧ wx.cell? ⟨w.heap.size + 1, 1, none⟩ = some (.string m2) ∧ wx.cell? ⟨w.heap.size + 1, 2, none⟩ = some (.slice s2 p2.length d2))
      (first | exact HS.out _ HXD.out | exact HS.out _ (HK.out _ _ HXD.out (by assumption)) | (go_split_ands; exact HS.out _ (HK.out _ _ (by assumption) (by assumption))) | (go_split_ands; exact HS.out _ (by assumption)))
      (first
        | (go_at_call 48; refine (HE1.out _).mono ?_; rintro e wa ⟨rfl, hba⟩)
        | (go_at_call 48; refine (HE2.out _).mono ?_; rintro e wb ⟨rfl, hbb⟩))
    all_goals
      rename_i hHeld
      have hWB := hHeld.1
      obtain ⟨u1, u2, u3, hbX, hsX⟩ := HY.out wb hWB
      have HU1 := hid u1
      have HU2 := hid u2
      have HU := hid u3
      have HOX := hid (own_same HO.out hbX)
      have HBX := hid hbX
      obtain ⟨x0, x1, x2⟩ := u1.cells
      obtain ⟨y0, y1, y2⟩ := u3.cells
      have f0 := u3.frozen 0
      have f1 := u3.frozen 1
      have f2 := u3.frozen 2
      clear u1 u2 u3 hbX hHeld hba hbb hWB HXD HX HXe HK HS HY
      obtain ⟨q, hq⟩ : ∃ q, (E1.toList == E2.toList) = q := ⟨_, rfl⟩
      rw [hq]
      cases q with
      | true =>
        have HEq := hid (HEe.out.1 (xba (by rw [← Lib.toList_data, ← Lib.toList_data]; simpa using hq)))
        clear hq
        obtain ⟨z0, z1', z2'⟩ := HU2.out.cells
        go_wp2_with fail
        refine (HC2.out _ HBX.out).mono ?_
        rintro e w3 ⟨N2, V2, rfl, hN2, hb3⟩
        rw [ho2]
        have HU1a := hid (HU1.out.kept hb3)
        have HUa := hid (HU.out.kept hb3)
        have HOa := hid (own_same HOX.out hb3)
        have HBa := hid (HBX.out.trans (hb3.mono HBX.out.size))
        have hw3 : w.heap.size + 3 ≤ w3.heap.size := by have := hb3.size; omega
        have HU1x := hid (HU1a.out.kept ((Below.refl _ w3).alloc (Nat.le_refl _) (.cells #[.string N2, .string V2] 60)))
        have HUx := hid (HUa.out.kept ((Below.refl _ w3).alloc (Nat.le_refl _) (.cells #[.string N2, .string V2] 60)))
        have HOx := hid (HOa.out.alloc (.cells #[.string N2, .string V2] 60))
        have HBx := hid (HBa.out.alloc HBa.out.size (.cells #[.string N2, .string V2] 60))
        have HN2 := hid hN2
        clear hb3 hN2 x0 x1 x2 y0 y1 y2 f0 f1 f2 z0 z1' z2'
        obtain ⟨x0, x1, x2⟩ := HU1x.out.cells
        obtain ⟨y0, y1, y2⟩ := HUx.out.cells
        have f0 := HUx.out.frozen 0
        have f1 := HUx.out.frozen 1
        have f2 := HUx.out.frozen 2
        cases o2 with
        | false =>
          have HR := hid (withC_none ⟨a1.data.toList, m1.data.toList, p1⟩ ⟨a2.data.toList, m2.data.toList, p2⟩ ho2)
          go_wp2
          refine bodyPost_ret (results_k1 rfl _ _ (w.heap.size + 1 + 1) a1 m1 (.slice s1 n1 d1) rfl HUx.out.set.range) rfl ⟨.slice s1 n1 d1, rfl, ?_, ?_⟩
          · rw [HR.out]
            exact ((((But.refl (w.heap.size + 1 + 1) _).set 0 _).set 1 _).set 2 _).own HOx.out (own_far (j := 2) HO.out)
          · exact (((HBx.out.mono hB).setCell (p := ⟨w.heap.size + 1 + 1, 0, none⟩) (by show B ≤ w.heap.size + 1 + 1; omega) _).setCell (p := ⟨w.heap.size + 1 + 1, 1, none⟩) (by show B ≤ w.heap.size + 1 + 1; omega) _).setCell (p := ⟨w.heap.size + 1 + 1, 2, none⟩) (by show B ≤ w.heap.size + 1 + 1; omega) _
        | true =>
          obtain ⟨p, hp⟩ := Option.isSome_iff_exists.1 ho2
          have HR := hid (withC_some ⟨a1.data.toList, m1.data.toList, p1⟩ ⟨a2.data.toList, m2.data.toList, p2⟩ p ho1 HEq.out hp)
          have HPn := hid (HN2.out p hp)
          clear hp y0 y1 y2 f0 f1 f2
          go_wp2_with (at_builtin; go_must (refine wpList_append_own _ rfl _ _ 51 rfl B 60 i0 _ 2 32 Tryd.underlying51 hi hz0 hz1 hz2 rfl (by decide) _ _ _ rfl (HOx.out.alloc _) ⟨w3.heap.size + 1, 0, none⟩ 1 1 [.string N2, .string V2] rfl rfl ?c1 ?c2 ?c3 ?c4 ?c5 ?_))
          case c1 =>
            intro q u hq
            match q, hq with
            | 0, hq => simp at hq; subst hq; simp [Addr.add, World.cell?_alloc_at]
            | 1, hq => simp at hq; subst hq; simp [Addr.add, World.cell?_alloc_at]
          case c2 => intro u hu; simp at hu; rcases hu with rfl | rfl <;> rfl
          case c3 => unfold maxLen; omega
          case c4 => omega
          case c5 => simp; omega
          intro v' w5 hown' hgrow hnil
          obtain ⟨s5, n5, d5, rfl⟩ := own_slice hown'
          have HU1z := hid (show Tri w5 w.heap.size a1 m1 (.slice s1 n1 d1) from (hgrow.block _ (HU1x.out.kept ((Below.refl _ _).alloc (Nat.le_refl _) (.cells #[.string N2, .string V2] 60))).lt (fun e => own_far (j := 0) HO.out e.symm)).trans (HU1x.out.kept ((Below.refl _ _).alloc (Nat.le_refl _) _)))
          have HUz := hid (show Tri w5 (w.heap.size + 1 + 1) ⟨#[]⟩ ⟨#[]⟩ (.slice none 0 0) from (hgrow.block _ (HUx.out.kept ((Below.refl _ _).alloc (Nat.le_refl _) (.cells #[.string N2, .string V2] 60))).lt (fun e => own_far (j := 2) HO.out e.symm)).trans (HUx.out.kept ((Below.refl _ _).alloc (Nat.le_refl _) _)))
          have HBz := hid (show Below B w w5 from ((HBx.out.alloc HBx.out.size (.cells #[.string N2, .string V2] 60)).mono hB).grown hgrow (by simp; omega) (fun g hg => (HO.out.lt g hg).1))
          have HOz := hid hown'
          have HUw := hid (HUz.out.but ((But.refl w.heap.size w5).set 2 (.slice s5 n5 d5)) (show w.heap.size + 1 + 1 ≠ w.heap.size by omega))
          clear hown' hgrow hnil x0 x1 x2
          obtain ⟨x0, x1, x2⟩ := HU1z.out.cells
          obtain ⟨y0, y1, y2⟩ := HUz.out.cells
          have g2 := HU1z.out.frozen 2
          have f0 := HUz.out.frozen 0
          have f1 := HUz.out.frozen 1
          have f2 := HUz.out.frozen 2
          go_wp2
          refine bodyPost_ret (results_k1 rfl _ _ (w.heap.size + 1 + 1) a1 m1 (.slice s5 n5 d5) rfl HUw.out.set.range) rfl ⟨.slice s5 n5 d5, rfl, ?_, ?_⟩
          · rw [HR.out]
            have e1 : (⟨p.name.toArray⟩ : ByteArray) = N2 := xba HPn.out.1.symm
            have e2 : (⟨p.value.toArray⟩ : ByteArray) = V2 := xba HPn.out.2.symm
            show World.ownsRow _ B 60 2 (.slice s5 n5 d5) (p1 ++ [p]).length (cellsH (p1 ++ [p]))
            rw [List.length_append, cellsH_app, cellsH_one, e1, e2]
            exact ((((But.refl (w.heap.size + 1 + 1) _).set 0 _).set 1 _).set 2 _).own (((But.refl w.heap.size w5).set 2 _).own HOz.out (own_tri HOz.out HU1z.out)) (own_tri HOz.out HUz.out)
          · exact ((((HBz.out).setCell (p := ⟨w.heap.size, 2, none⟩) (by show B ≤ w.heap.size; omega) _).setCell (p := ⟨w.heap.size + 1 + 1, 0, none⟩) (by show B ≤ w.heap.size + 1 + 1; omega) _).setCell (p := ⟨w.heap.size + 1 + 1, 1, none⟩) (by show B ≤ w.heap.size + 1 + 1; omega) _).setCell (p := ⟨w.heap.size + 1 + 1, 2, none⟩) (by show B ≤ w.heap.size + 1 + 1; omega) _
      | false =>
        have HR := hid (withC_other ⟨a1.data.toList, m1.data.toList, p1⟩ ⟨a2.data.toList, m2.data.toList, p2⟩ (fun e => by
          rw [HEe.out.2 e] at hq
          simp at hq))
        clear hq
        go_wp2
        refine bodyPost_ret (results_k1 rfl _ _ (w.heap.size + 1 + 1) a1 m1 (.slice s1 n1 d1) rfl HU.out.set.range) rfl ⟨.slice s1 n1 d1, rfl, ?_, ?_⟩
        · rw [HR.out]
          exact ((((But.refl (w.heap.size + 1 + 1) wb).set 0 _).set 1 _).set 2 _).own HOX.out (own_far (j := 2) HO.out)
        · exact (((HBX.out.mono hB).setCell (p := ⟨w.heap.size + 1 + 1, 0, none⟩) (by show B ≤ w.heap.size + 1 + 1; omega) _).setCell (p := ⟨w.heap.size + 1 + 1, 1, none⟩) (by show B ≤ w.heap.size + 1 + 1; omega) _).setCell (p := ⟨w.heap.size + 1 + 1, 2, none⟩) (by show B ≤ w.heap.size + 1 + 1; omega) _

end Go.Proofs.YtplabofdcnpcpaaDoor
