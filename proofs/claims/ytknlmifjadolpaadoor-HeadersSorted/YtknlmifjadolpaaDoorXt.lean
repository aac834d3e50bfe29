/-
  The walks of strings.IndexAny at the bytes 0, 10 and 13 over long texts, of ContainsAny, and of headers' Value.
-/
import Derived.Test.YtknlmifjadolpaaDoorXs
import Derived.Deep.WholeRow
set_option linter.unusedSimpArgs false
set_option linter.unusedVariables false
namespace Go.Proofs.YtknlmifjadolpaaDoor
open Go.RowKit

set_option maxHeartbeats 2000000 in
set_option maxRecDepth 100000 in
theorem xindexAny3_long (s : ByteArray) (w : World) (h8 : 8 < s.size) (hs : s.size ≤ 9223372036854775807) :
    Calls Tryd.prog 88 #[.string s, .string ⟨#[0, 10, 13]⟩] w fun e w' => e = .returned (.int .i64 (Lib.indexAny s.data.toList [0, 10, 13])) ∧ Below w.heap.size w w' := by
  have hM := Tryd.strings_makeASCIISet xzero87 ⟨#[0, 10, 13]⟩ w (by decide) (ascii_of_all (by decide))
  rw [show (⟨#[0, 10, 13]⟩ : ByteArray).data.toList = [0, 10, 13] from rfl] at hM
  have h8z : decide ((8 : Int) < (s.size : Int)) = true := decide_eq_true (by omega)
  obtain ⟨C, hC⟩ : ∃ C, C = Lib.setCells [0, 10, 13] := ⟨_, rfl⟩
  have hsz : C.size = 256 := by rw [hC]; exact Lib.setCells_size _
  have hat : ∀ x : UInt8, C[x.toNat]? = some (.bool ([(0 : UInt8), 10, 13].contains x)) := fun x => by rw [hC]; exact Lib.setCells_at _ _
  rw [← hC] at hM
  have HA := hid hat
  have hi256 : (Tryd.prog.info? 96).map (·.size) = some 256 := by kernel_rfl
  have hall : C.all (·.oneCell') = true := by
    rw [Array.all_eq_true]
    intro i hi
    have := HA.out (UInt8.ofNat i)
    rw [show (UInt8.ofNat i).toNat = i by simp [UInt8.toNat_ofNat']; omega, Array.getElem?_eq_getElem hi] at this
    rw [Option.some.inj this]; rfl
  have hsc : (storeCells ⟨w.heap.size + 1, 0, none⟩ C.toList 0).run Tryd.prog ((w.alloc (.cells C 96)).alloc (.cells Tryd.zeroCells96 96)) = .ok () ((w.alloc (.cells C 96)).alloc (.cells C 96)) := by
    have := run_storeCells_new (P := Tryd.prog) (w.alloc (.cells C 96)) 96 Tryd.zeroCells96 C (by rw [hsz]; exact hi256) (by rw [hsz]; kernel_rfl) hall
    simpa using this
  clear hat hC hall
  go_enter Tryd.func88, Tryd.ntmps88
  go_wp2_with (first
    | (go_at_call 106; refine (Tryd.strings_shouldUseASCIISet _ _).mono ?_; rintro e w' ⟨rfl, hw⟩; rw [hw, h8z])
    | (go_at_call 71; refine hM.mono ?_; rintro e w' ⟨rfl, hw⟩; rw [hw]))
  clear hM hsc
  obtain ⟨W2, hW2⟩ : ∃ W2, W2 = (w.alloc (.cells C 96)).alloc (.cells C 96) := ⟨_, rfl⟩
  have hb2 : Below w.heap.size w W2 := by rw [hW2]; exact belowA (belowA (Below.refl _ _) _) _
  have hc2 : ∀ x : UInt8, W2.cell? ⟨w.heap.size + 1, x.toNat, none⟩ = some (.bool ([(0 : UInt8), 10, 13].contains x)) := fun x => by
    have hh : W2.heap[w.heap.size + 1]? = some (.cells C 96 (0, 0)) := by
      rw [hW2]
      have := heap_alloc_new (w.alloc (.cells C 96)) (.cells C 96)
      simpa using this
    rw [Lib.cell_of_heap hh]
    exact HA.out x
  rw [← hW2]
  have HC := hid hc2
  have HB := hid hb2
  clear hW2 hc2 hb2
  go_loopg [8] s.size (fun g s8 wx => ∃ i : Nat, i + g = s.size ∧ s8 = .int .i64 i ∧ wx = W2 ∧ Lib.NoAny s.data.toList [0, 10, 13] i)
  case atStart => exact ⟨0, by omega, rfl, rfl, Lib.NoAny.zero _ _⟩
  case round =>
    obtain ⟨i, hig, rfl, rfl, hno⟩ := hrel
    have HN := hid hno
    clear hno
    by_cases hi : i < s.size
    · have hiz : (i : Int) < (s.size : Int) := by omega
      obtain ⟨x, hx⟩ : ∃ x : UInt8, s[i]'hi = x := ⟨_, rfl⟩
      have Hx := hid (show s.data.toList[i]? = some x by rw [← hx]; exact Lib.data_getElem? s i hi)
      have hcx := HC.out x
      cases hin : [(0 : UInt8), 10, 13].contains x <;> rw [hin] at hcx
      · have Hin := hid hin
        clear hin
        go_wp2_with (go_at_call 92; refine (Tryd.asciiSet_contains _ x _ _ hcx).mono ?_; rintro e w' ⟨rfl, hw⟩; rw [hw])
        go_roundg (gk - 1)
        case measure => omega
        case rel => exact ⟨i + 1, by omega, by go_num, rfl, HN.out.succ Hx.out Hin.out⟩
      · have Hin := hid hin
        clear hin
        go_wp2_with (go_at_call 92; refine (Tryd.asciiSet_contains _ x _ _ hcx).mono ?_; rintro e w' ⟨rfl, hw⟩; rw [hw])
        go_ret
        exact ⟨by rw [Lib.indexAny_hit HN.out Hx.out Hin.out]; rfl, HB.out⟩
    · obtain rfl : i = s.size := by omega
      have hiz : ¬ ((s.size : Int) < (s.size : Int)) := by omega
      go_wp2
      go_ret
      exact ⟨by rw [Lib.indexAny_none (by rw [← Lib.size_eq]; exact HN.out)]; rfl, HB.out⟩

theorem xindexAny3_any (s : ByteArray) (w : World) (hs : s.size ≤ 9223372036854775807) :
    Calls Tryd.prog 88 #[.string s, .string ⟨#[0, 10, 13]⟩] w fun e w' => e = .returned (.int .i64 (Lib.indexAny s.data.toList [0, 10, 13])) ∧ Below w.heap.size w w' := by
  by_cases h : s.size ≤ 8
  · exact xindexAny2_short s w h
  · exact xindexAny3_long s w (by omega) hs

def badC (c : UInt8) : Bool := c == 0 || (c == 10 || c == 13)

theorem indexAny_bad (l : List UInt8) : decide ((0 : Int) ≤ Lib.indexAny l [0, 10, 13]) = l.any badC := by
  induction l with
  | nil => rfl
  | cons c l ih =>
    have hge := Lib.indexAny_ge [0, 10, 13] l
    have hc : [(0 : UInt8), 10, 13].contains c = badC c := by
      rw [Bool.eq_iff_iff]; simp [badC]
    have e : Lib.indexAny (c :: l) [0, 10, 13] = if [(0 : UInt8), 10, 13].contains c then 0 else if Lib.indexAny l [0, 10, 13] == -1 then -1 else Lib.indexAny l [0, 10, 13] + 1 := rfl
    rw [List.any_cons, ← ih, ← hc, e]
    generalize Lib.indexAny l [0, 10, 13] = q at hge
    cases [(0 : UInt8), 10, 13].contains c with
    | true => simp
    | false =>
      by_cases h : q = -1
      · subst h; rfl
      · have h' : (q == -1) = false := by simpa using h
        rw [h']
        simp
        omega

set_option maxHeartbeats 1000000 in
theorem containsAny3_any (s : ByteArray) (w : World) (hs : s.size ≤ 9223372036854775807) :
    Calls Tryd.prog 59 #[.string s, .string ⟨#[0, 10, 13]⟩] w fun e w' => e = .returned (.bool (s.data.toList.any badC)) ∧ Below w.heap.size w w' := by
  have hI := hid (indexAny_bad s.data.toList)
  go_enter Tryd.func59, Tryd.ntmps59
  go_wp2_with fail
  refine (xindexAny3_any s _ hs).mono ?_
  rintro e w1 ⟨rfl, hb1⟩
  go_wp2
  go_ret
  exact ⟨ret_bool hI.out, hb1⟩

/-- A value as a header may carry it. -/
def valT (l : List UInt8) : List UInt8 := Lib.trimS l [9, 10, 13, 32]
def valB (l : List UInt8) : Bool := !(valT l).any badC

theorem trimS_le (l c : List UInt8) : (Lib.trimS l c).length ≤ l.length := by
  unfold Lib.trimS Lib.trimLeftS Lib.trimRightS
  have h1 := (List.dropWhile_sublist (l := l.reverse) (c.contains ·)).length_le
  have h2 := (List.dropWhile_sublist (l := (l.reverse.dropWhile (c.contains ·)).reverse) (c.contains ·)).length_le
  simp at h1 h2 ⊢
  omega

/-- What Value answers: the text without blanks at its ends; the empty one, if it may not be. -/
def valA (l : List UInt8) : List UInt8 := if valB l then valT l else []

set_option maxHeartbeats 1000000 in
theorem value_any (s : ByteArray) (w : World) (hs : s.size ≤ 9223372036854775807) :
    Calls Tryd.prog 29 #[.string s] w fun e w' => e = .returned (.tuple #[.string ⟨(valA s.data.toList).toArray⟩, .bool (valB s.data.toList)]) ∧ Below w.heap.size w w' := by
  obtain ⟨T, hT⟩ : ∃ x : ByteArray, x = ⟨(valT s.data.toList).toArray⟩ := ⟨_, rfl⟩
  have hTs : T.size ≤ 9223372036854775807 := by have := trimS_le s.data.toList [9, 10, 13, 32]; rw [hT, xsize]; unfold valT; simp at this; omega
  obtain ⟨bd, hbd⟩ : ∃ x, x = T.data.toList.any badC := ⟨_, rfl⟩
  have HB := hid (show valB s.data.toList = !bd by rw [hbd, hT]; rfl)
  have HA := hid (show valA s.data.toList = if (!bd) = true then T.data.toList else [] by unfold valA; rw [HB.out, hT])
  have HTr : Hid (∀ w : World, Calls Tryd.prog 46 #[.string s, .string ⟨#[9, 10, 13, 32]⟩] w fun e w' => e = .returned (.string T) ∧ Below w.heap.size w w') := fun w => by
    have := trim5_any s ⟨#[9, 10, 13, 32]⟩ w hs (by decide) (by decide)
    rw [show (⟨#[9, 10, 13, 32]⟩ : ByteArray).data.toList = [9, 10, 13, 32] from rfl, show (⟨(Lib.trimS s.data.toList [9, 10, 13, 32]).toArray⟩ : ByteArray) = T from hT.symm] at this
    exact this
  have HCo : Hid (∀ w : World, Calls Tryd.prog 59 #[.string T, .string ⟨#[0, 10, 13]⟩] w fun e w' => e = .returned (.bool bd) ∧ Below w.heap.size w w') := fun w => by
    have := containsAny3_any T w hTs
    rw [← hbd] at this
    exact this
  clear hT hbd
  cases bd with
  | true =>
    go_enter Tryd.func29, Tryd.ntmps29
    go_wp2_with fail
    refine (HTr.out _).mono ?_
    rintro e w1 ⟨rfl, hb1⟩
    go_wp2_with fail
    refine (HCo.out _).mono ?_
    rintro e w2 ⟨rfl, hb2⟩
    go_wp2
    go_ret2
    exact ⟨xret_sb (xext (by rw [HA.out]; rfl)) (by rw [HB.out]; rfl), belowT hb1 hb2⟩
  | false =>
    go_enter Tryd.func29, Tryd.ntmps29
    go_wp2_with fail
    refine (HTr.out _).mono ?_
    rintro e w1 ⟨rfl, hb1⟩
    go_wp2_with fail
    refine (HCo.out _).mono ?_
    rintro e w2 ⟨rfl, hb2⟩
    go_wp2
    go_ret2
    exact ⟨xret_sb (xext (by rw [HA.out]; rfl)) (by rw [HB.out]; rfl), belowT hb1 hb2⟩

end Go.Proofs.YtknlmifjadolpaaDoor
