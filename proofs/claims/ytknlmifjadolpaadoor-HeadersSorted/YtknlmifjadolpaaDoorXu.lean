/-
  The walks of headers' header and Add.
-/
import Derived.Test.YtknlmifjadolpaaDoorXt
import Derived.Test.YtknlmifjadolpaaDoorWh
set_option linter.unusedSimpArgs false
set_option linter.unusedVariables false
namespace Go.Proofs.YtknlmifjadolpaaDoor
open Go.RowKit

theorem results_h2 {fn : Func} {p q : Tmp} (h : fn.results = #[.cell p 28, .tmp q]) (tmps : Array Value) (w : World) (b : Nat) (n v : ByteArray) (hp : tmps.getD p undef = .pointer (some ⟨b, 0, none⟩)) (hc : w.rangeAt b 0 [.string n, .string v]) : (results fn tmps).run Tryd.prog w = .ok (.tuple #[hdVal n v, tmps.getD q undef]) w := by
  rw [Array.getD_eq_getD_getElem?] at hp
  simp only [results, h]
  simp [Sem.run_bind, Result.andThen, hp, asAddr, run_loadVar_mid w b 0 28 [.string n, .string v] _ hc Tryd.underlying28 rfl (by kernel_rfl), hdVal]

/-- Why a header may not be. -/
def hdE (n v : List UInt8) : Nat := if valB v = false ∨ tokL n = false then 1 else if 4096 < n.length ∨ 4096 < (valT v).length then 3 else 0

/-- The block b holds the header n: v. -/
def Two (w : World) (b : Nat) (n v : ByteArray) : Prop := w.heap[b]? = some (.cells #[.string n, .string v] 28 (0, 0))

theorem Two.range {w : World} {b : Nat} {n v : ByteArray} (h : Two w b n v) : w.rangeAt b 0 [.string n, .string v] := fun j u hu => by
  rw [Nat.zero_add, Lib.cell_of_heap h]
  match j, hu with
  | 0, hu => simpa using hu
  | 1, hu => simpa using hu
  | j + 2, hu => simp at hu

theorem Two.cells {w : World} {b : Nat} {n v : ByteArray} (h : Two w b n v) : w.cell? ⟨b, 0, none⟩ = some (.string n) ∧ w.cell? ⟨b, 1, none⟩ = some (.string v) ∧ w.frozen? ⟨b, 0, none⟩ = false ∧ w.frozen? ⟨b, 1, none⟩ = false :=
  ⟨by rw [Lib.cell_of_heap h]; rfl, by rw [Lib.cell_of_heap h]; rfl, Lib.frozen_of_heap h 0, Lib.frozen_of_heap h 1⟩

theorem Two.set {w : World} {b : Nat} {n v n' v' : ByteArray} (h : Two w b n v) : Two ((w.setCell ⟨b, 0, none⟩ (.string n')).setCell ⟨b, 1, none⟩ (.string v')) b n' v' := by
  have h1 := Lib.heap_setCell_same h (i := 0) (.string n')
  have h2 := Lib.heap_setCell_same h1 (i := 1) (.string v')
  exact h2

set_option maxHeartbeats 1000000 in
theorem header_any (n v : ByteArray) (w : World) (hn : n.size ≤ 140737488351232) (hv : v.size ≤ 9223372036854775807) :
    Calls Tryd.prog 42 #[.string n, .string v] w fun e w' => ∃ N V : ByteArray, e = .returned (.tuple #[hdVal N V, .int .i64 (hdE n.data.toList v.data.toList : Int)]) ∧ Below w.heap.size w w' ∧ (hdE n.data.toList v.data.toList = 0 → N = n ∧ V.data.toList = valT v.data.toList) := by
  obtain ⟨T, hT⟩ : ∃ x : ByteArray, x = ⟨(valA v.data.toList).toArray⟩ := ⟨_, rfl⟩
  obtain ⟨ok, hok⟩ : ∃ x, x = valB v.data.toList := ⟨_, rfl⟩
  obtain ⟨tk, htk⟩ : ∃ x, x = tokL n.data.toList := ⟨_, rfl⟩
  have HV : Hid (∀ w : World, Calls Tryd.prog 29 #[.string v] w fun e w' => e = .returned (.tuple #[.string T, .bool ok]) ∧ Below w.heap.size w w') := fun w => by
    have := value_any v w hv
    rw [← hT, ← hok] at this
    exact this
  have HTk : Hid (∀ w : World, Calls Tryd.prog 67 #[.string n] w fun e w' => e = .returned (.bool tk) ∧ w = w') := fun w => by
    have := token_any n w hn
    rw [← htk] at this
    exact this
  have HE := hid (show hdE n.data.toList v.data.toList = if ok = false ∨ tk = false then 1 else if 4096 < n.size ∨ 4096 < (valT v.data.toList).length then 3 else 0 by unfold hdE; rw [hok, htk]; simp)
  have HT := hid (show ok = true → T.data.toList = valT v.data.toList by intro h; rw [hT]; show valA _ = _; unfold valA; rw [← hok, if_pos h])
  have hTs : T.size ≤ 9223372036854775807 := by
    rw [hT, xsize]; unfold valA
    split
    · have := trimS_le v.data.toList [9, 10, 13, 32]; unfold valT; simp at this; omega
    · simp
  clear hT hok htk
  have h0 : Two (w.alloc (.cells #[.string ByteArray.empty, .string ByteArray.empty] 28)) w.heap.size ByteArray.empty ByteArray.empty := heap_alloc_new _ _
  have H0 := hid h0
  clear h0
  cases ok with
  | false =>
    have HEk := hid (show hdE n.data.toList v.data.toList = 1 by rw [HE.out, if_pos (.inl rfl)])
    go_enter Tryd.func42, Tryd.ntmps42
    go_wp2_with fail
    refine (HV.out _).mono ?_
    rintro e w1 ⟨rfl, hb1⟩
    have hh1 : Two w1 w.heap.size ByteArray.empty ByteArray.empty := (hb1.block _ (by simp)).trans H0.out
    obtain ⟨c0, c1, f0, f1⟩ := hh1.cells
    have hbw : Below w.heap.size w w1 := (belowA (Below.refl _ w) _).trans (hb1.mono (by simp))
    have HH := hid hh1
    clear hh1
    go_wp2
    refine bodyPost_ret (results_h2 rfl _ _ w.heap.size ⟨#[]⟩ ⟨#[]⟩ rfl HH.out.set.range) rfl ⟨⟨#[]⟩, ⟨#[]⟩, ?_, ((hbw.setCell (p := ⟨w.heap.size, 0, none⟩) (Nat.le_refl _) _).setCell (p := ⟨w.heap.size, 1, none⟩) (Nat.le_refl _) _), ?_⟩
    · rw [HEk.out]; rfl
    · intro h; rw [HEk.out] at h; cases h
  | true =>
    cases tk with
    | false =>
      have HEk := hid (show hdE n.data.toList v.data.toList = 1 by rw [HE.out, if_pos (.inr rfl)])
      go_enter Tryd.func42, Tryd.ntmps42
      go_wp2_with fail
      refine (HV.out _).mono ?_
      rintro e w1 ⟨rfl, hb1⟩
      have hh1 : Two w1 w.heap.size ByteArray.empty ByteArray.empty := (hb1.block _ (by simp)).trans H0.out
      obtain ⟨c0, c1, f0, f1⟩ := hh1.cells
      have hbw : Below w.heap.size w w1 := (belowA (Below.refl _ w) _).trans (hb1.mono (by simp))
      have HH := hid hh1
      clear hh1
      go_wp2_with (go_at_call 67; refine (HTk.out _).mono ?_; rintro e w' ⟨rfl, rfl⟩)
      refine bodyPost_ret (results_h2 rfl _ _ w.heap.size ⟨#[]⟩ ⟨#[]⟩ rfl HH.out.set.range) rfl ⟨⟨#[]⟩, ⟨#[]⟩, ?_, ((hbw.setCell (p := ⟨w.heap.size, 0, none⟩) (Nat.le_refl _) _).setCell (p := ⟨w.heap.size, 1, none⟩) (Nat.le_refl _) _), ?_⟩
      · rw [HEk.out]; rfl
      · intro h; rw [HEk.out] at h; cases h
    | true =>
      have hTl : T.data.toList = valT v.data.toList := HT.out rfl
      have hTz : T.size = (valT v.data.toList).length := by rw [← hTl]; simp
      have hE2 : hdE n.data.toList v.data.toList = if 4096 < n.size ∨ 4096 < T.size then 3 else 0 := by rw [HE.out, if_neg (by simp), hTz]
      have HTl := hid hTl
      clear hTl hTz
      by_cases h1 : 4096 < n.size
      · have HEk := hid (show hdE n.data.toList v.data.toList = 3 by rw [hE2, if_pos (.inl h1)])
        have h1' : (4096 : Int) < (n.size : Int) := by omega
        clear hE2
        go_enter Tryd.func42, Tryd.ntmps42
        go_wp2_with fail
        refine (HV.out _).mono ?_
        rintro e w1 ⟨rfl, hb1⟩
        have hh1 : Two w1 w.heap.size ByteArray.empty ByteArray.empty := (hb1.block _ (by simp)).trans H0.out
        obtain ⟨c0, c1, f0, f1⟩ := hh1.cells
        have hbw : Below w.heap.size w w1 := (belowA (Below.refl _ w) _).trans (hb1.mono (by simp))
        have HH := hid hh1
        clear hh1
        go_wp2_with (go_at_call 67; refine (HTk.out _).mono ?_; rintro e w' ⟨rfl, rfl⟩)
        refine bodyPost_ret (results_h2 rfl _ _ w.heap.size ⟨#[]⟩ ⟨#[]⟩ rfl HH.out.set.range) rfl ⟨⟨#[]⟩, ⟨#[]⟩, ?_, ((hbw.setCell (p := ⟨w.heap.size, 0, none⟩) (Nat.le_refl _) _).setCell (p := ⟨w.heap.size, 1, none⟩) (Nat.le_refl _) _), ?_⟩
        · rw [HEk.out]; rfl
        · intro h; rw [HEk.out] at h; cases h
      · have h1' : decide ((4096 : Int) < (n.size : Int)) = false := by rw [decide_eq_false_iff_not]; omega
        by_cases h2 : 4096 < T.size
        · have HEk := hid (show hdE n.data.toList v.data.toList = 3 by rw [hE2, if_pos (.inr h2)])
          have h2' : (4096 : Int) < (T.size : Int) := by omega
          clear hE2
          go_enter Tryd.func42, Tryd.ntmps42
          go_wp2_with fail
          refine (HV.out _).mono ?_
          rintro e w1 ⟨rfl, hb1⟩
          have hh1 : Two w1 w.heap.size ByteArray.empty ByteArray.empty := (hb1.block _ (by simp)).trans H0.out
          obtain ⟨c0, c1, f0, f1⟩ := hh1.cells
          have hbw : Below w.heap.size w w1 := (belowA (Below.refl _ w) _).trans (hb1.mono (by simp))
          have HH := hid hh1
          clear hh1
          go_wp2_with (go_at_call 67; refine (HTk.out _).mono ?_; rintro e w' ⟨rfl, rfl⟩)
          refine bodyPost_ret (results_h2 rfl _ _ w.heap.size ⟨#[]⟩ ⟨#[]⟩ rfl HH.out.set.range) rfl ⟨⟨#[]⟩, ⟨#[]⟩, ?_, ((hbw.setCell (p := ⟨w.heap.size, 0, none⟩) (Nat.le_refl _) _).setCell (p := ⟨w.heap.size, 1, none⟩) (Nat.le_refl _) _), ?_⟩
          · rw [HEk.out]; rfl
          · intro h; rw [HEk.out] at h; cases h
        · have HEk := hid (show hdE n.data.toList v.data.toList = 0 by rw [hE2, if_neg (by omega)])
          have h2' : ¬ (4096 : Int) < (T.size : Int) := by omega
          clear hE2
          go_enter Tryd.func42, Tryd.ntmps42
          go_wp2_with fail
          refine (HV.out _).mono ?_
          rintro e w1 ⟨rfl, hb1⟩
          have hh1 : Two w1 w.heap.size ByteArray.empty ByteArray.empty := (hb1.block _ (by simp)).trans H0.out
          obtain ⟨c0, c1, f0, f1⟩ := hh1.cells
          have hbw : Below w.heap.size w w1 := (belowA (Below.refl _ w) _).trans (hb1.mono (by simp))
          have HH := hid hh1
          clear hh1
          go_wp2_with (go_at_call 67; refine (HTk.out _).mono ?_; rintro e w' ⟨rfl, rfl⟩)
          refine bodyPost_ret (results_h2 rfl _ _ w.heap.size n T rfl HH.out.set.range) rfl ⟨n, T, ?_, ((hbw.setCell (p := ⟨w.heap.size, 0, none⟩) (Nat.le_refl _) _).setCell (p := ⟨w.heap.size, 1, none⟩) (Nat.le_refl _) _), ?_⟩
          · rw [HEk.out]; rfl
          · exact fun _ => ⟨rfl, HTl.out⟩

def addE (L : List Hd) (n v : List UInt8) : Nat := if hdE n v ≠ 0 then hdE n v else if 64 ≤ L.length then 4 else 0

/-- What Add answers. -/
def AddPost (L : List Hd) (n v : List UInt8) (w : World) (e : Ending) (w' : World) : Prop :=
  Below w.heap.size w w' ∧ ((addE L n v ≠ 0 ∧ e = .returned (.tuple #[.slice none 0 0, .int .i64 (addE L n v : Int)])) ∨
    (addE L n v = 0 ∧ ∃ vv, e = .returned (.tuple #[vv, .int .i64 0]) ∧ w'.ownsRow w.heap.size 28 2 vv (L.length + 1) (cellsH (L ++ [⟨n, valT v⟩]))))

set_option maxHeartbeats 1000000 in
theorem add_any (vv : Value) (L : List Hd) (n v : ByteArray) (w : World) (h : HdAt w vv L) (hl : L.length ≤ 1000000) (hn : n.size ≤ 140737488351232) (hv : v.size ≤ 9223372036854775807) :
    Calls Tryd.prog 11 #[vv, .string n, .string v] w (AddPost L n.data.toList v.data.toList w) := by
  have HL := hid h
  obtain ⟨a1, c1, rfl, hc1, hm1, hv1⟩ := h.view
  clear h hv1
  obtain ⟨k, hk⟩ : ∃ k, k = hdE n.data.toList v.data.toList := ⟨_, rfl⟩
  have hk3 : k = 0 ∨ k = 1 ∨ k = 3 := by rw [hk]; unfold hdE; split; exact .inr (.inl rfl); split; exact .inr (.inr rfl); exact .inl rfl
  have HK := hid hk
  clear hk
  go_enter Tryd.func11, Tryd.ntmps11
  go_wp2_with fail
  refine (header_any n v _ hn hv).mono ?_
  rintro e w1 ⟨N, V, rfl, hb1, hNV⟩
  rw [← HK.out] at hNV
  rw [← HK.out]
  unfold hdVal
  rcases hk3 with rfl | hk3
  · obtain ⟨rfl, hV⟩ := hNV rfl
    have HV := hid hV
    clear hV hNV
    by_cases h64 : 64 ≤ L.length
    · have h64' : (64 : Int) ≤ (L.length : Int) := by omega
      have HA := hid (show addE L N.data.toList v.data.toList = 4 by unfold addE; rw [← HK.out]; simp [h64])
      go_wp2
      go_ret2
      refine ⟨belowA hb1 _, .inl ⟨by rw [HA.out]; decide, by rw [HA.out]; rfl⟩⟩
    · have h64' : ¬ (64 : Int) ≤ (L.length : Int) := by omega
      have HA := hid (show addE L N.data.toList v.data.toList = 0 by unfold addE; rw [← HK.out]; simp [h64])
      have hba := belowA hb1 (.cells #[.string N, .string V] 28)
      have HW := hid (with_any _ L N V _ (HL.out.kept hba) hl)
      unfold hdVal at HW
      go_wp2_with fail
      refine HW.out.mono ?_
      rintro e w2 ⟨v2, rfl, hown2, hb2⟩
      have HO := hid hown2
      clear hown2
      go_wp2
      go_ret2
      refine ⟨belowT hba hb2, .inr ⟨HA.out, _, rfl, ?_⟩⟩
      have := HO.out
      rw [HV.out, List.length_append] at this
      rcases this.2 with ⟨h1, h2⟩ | ⟨g, cap, cur, e1, e2, e3⟩
      · simp at h2
      · exact ⟨this.1, .inr ⟨g, cap, cur, e1, Nat.le_trans hba.size e2, e3⟩⟩
  · have hkz : k ≠ 0 := by omega
    have HA := hid (show addE L n.data.toList v.data.toList = k by unfold addE; rw [← HK.out, if_pos hkz])
    rcases hk3 with rfl | rfl
    · go_wp2
      go_ret2
      refine ⟨belowA hb1 _, .inl ⟨by rw [HA.out]; decide, by rw [HA.out]; rfl⟩⟩
    · go_wp2
      go_ret2
      refine ⟨belowA hb1 _, .inl ⟨by rw [HA.out]; decide, by rw [HA.out]; rfl⟩⟩

end Go.Proofs.YtknlmifjadolpaaDoor
